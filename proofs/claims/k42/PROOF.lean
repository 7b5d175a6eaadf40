import PyProof.Rows.All
import Wide.All
import OpenK.AllK
import Wide.FinOn
import Lean
import PyProof.EqAt
import PyProof.EqKinds
import PyProof.TupleCall
import PySem.Challenge.RW_pointpurse_k42_great_spans
set_option Elab.async false
set_option linter.all false
set_option autoImplicit true
set_option maxRecDepth 100000
set_option maxHeartbeats 4000000
set_option bootstrap.genMatcherCode false
set_option genSizeOf false
set_option genInjectivity false
set_option compiler.extract_closed false
abbrev j0a:=@Bool.and_eq_true
abbrev j0b:=@PySem.Heap.get?_push_of_some
abbrev j0c:=@List.map_cons
abbrev j0d:=@List.length_map
abbrev j0e:=@Bool.false_ne_true
abbrev j0f:=@PySem.Heap.get?_push_size
abbrev j0g:=@List.getElem?_eq_some_iff
abbrev j0h:=@List.size_toArray
abbrev j0i:=@PySem.Heap.lt_size
abbrev j0j:=@List.length_cons
abbrev j0k:=@Nat.ne_of_lt
abbrev j0l:=@Nat.le_refl
abbrev j0m:=@Nat.lt_of_lt_of_le
abbrev j0n:=@List.append_assoc
abbrev j0o:=@List.length_append
abbrev j0p:=@List.mem_cons_of_mem
abbrev j0q:=@List.mem_cons
abbrev j0r:=@List.mem_append_right
abbrev j0s:=@List.mem_map
abbrev j0t:=@List.filter_cons_of_pos
abbrev j0u:=@List.mem_filter
abbrev j0v:=@List.mem_cons_self
abbrev j0w:=@Option.some.injEq
abbrev j0x:=@List.append_nil
abbrev j0y:=@List.map_append
abbrev j0z:=@List.filter_cons_of_neg
abbrev j0A:=@Nat.le_trans
abbrev j0B:=@List.map_nil
abbrev j0C:=@List.mem_of_getElem?
abbrev j0D:=@List.pairwise_map
abbrev j0E:=@Option.some.inj
abbrev j0F:=@Array.length_toList
abbrev j0G:=@List.getD_eq_getElem?_getD
abbrev j0H:=@Bool.false_eq_true
abbrev j0I:=@List.mem_append
abbrev j0J:=@Nat.zero_le
abbrev j0K:=@List.getElem?_cons_zero
abbrev j0L:=@List.filter_eq_self
abbrev j0M:=@PySem.W.kia_one
abbrev j0N:=@List.getElem?_eq_getElem
abbrev j0O:=@List.find?_cons
abbrev j0P:=@List.length_filter_le
abbrev j0Q:=@List.length_take
abbrev j0R:=@List.getElem?_map
abbrev j0S:=@List.all_cons
abbrev j0T:=@List.pairwise_append
abbrev j0U:=@List.set_cons_zero
abbrev j0V:=@List.set_cons_succ
abbrev j0W:=@List.length_eq_one_iff
abbrev j0X:=@List.getElem?_append_left
abbrev j0Y:=@Nat.lt_succ_self
abbrev j0Z:=@PySem.Heap.get?_update_ne
abbrev j00:=@Bool.not_eq_true'
abbrev j01:=@List.nodup_cons
abbrev j02:=@List.foldl_cons
abbrev j03:=@Array.getD_eq_getD_getElem?
abbrev j04:=@PySem.Around.under_plainId
abbrev j05:=@List.all_eq_true
abbrev j06:=@List.getElem?_append_right
abbrev j07:=@PySem.mem_of_lookup
abbrev j08:=@PyProof.Rows.slot_tuple_getitem
abbrev j09:=@PySem.Heap.size_push
abbrev j1a:=@Bool.eq_iff_iff
abbrev j1b:=@List.length_nil
abbrev j1c:=@List.mem_filterMap
abbrev j1d:=@PySem.F.slot_dict_keyiterator_next
abbrev j1e:=@PySem.W.mg_of
abbrev j1f:=@Nat.le_of_eq
abbrev j1g:=@PyProof.Rows.F.plain_set_update_loop
abbrev j1h:=@PyProof.Rows.callWith_type1
abbrev j1i:=@PySem.F.slot_zip_next
abbrev j1j:=@PySem.Calls.callWith_builtin
abbrev j1k:=@PySem.F.slot_tuple_iterator_next
abbrev j1l:=@PySem.F.slot_dict_get
abbrev j1m:=@List.map_map
abbrev j1n:=@List.zip_cons_cons
abbrev j1o:=@List.mem_range
abbrev j1p:=@List.foldl_nil
abbrev j1q:=@List.mem_append_left
abbrev j1r:=@Bool.or_eq_true
abbrev j1s:=@List.nodup_append
abbrev j1t:=@Int.toNat_natCast
abbrev j1u:=@List.length_zip
abbrev j1v:=@List.nil_append
abbrev j1w:=@Option.map_some
abbrev j1x:=@List.filterMap_cons
abbrev j1y:=@List.any_cons
abbrev j1z:=@PySem.F.plainAttrs_dict
abbrev j1A:=@List.not_mem_nil
abbrev j1B:=@PySem.Calls.spliced_cons
abbrev j1C:=@List.mem_singleton
abbrev j1D:=@PySem.W.kia_tup
namespace _L2
open PySem PySem.Spec PyProof.Rows
noncomputable abbrev Key:=Sum Int Str
noncomputable def jpo:Key->Value->Bool
 |.inl k,v=>Value.isInt k v
 |.inr x,v=>Value.isStrOf x v
noncomputable def jFf (w:World):Key->Int
 |.inl k=>hashInt k
 |.inr x=>hashStr w x
theorem jaD:∀{k:Key} {v:Value},jpo k v=true->(∃i t,k=Sum.inl i/\v=Value.int i t)∨(∃x t,k=Sum.inr x/\v=Value.str x t)
 |.inl i,v,h=>by
  obtain⟨t,e⟩:=Value.isInt_shape (k:=i) (v:=v) h;exact .inl ⟨i,t,rfl,e⟩
 |.inr x,v,h=>by
  obtain⟨t,e⟩:=Value.isStrOf_shape (x:=x) (v:=v) h;exact .inr ⟨x,t,rfl,e⟩
theorem jqk (i:Int)(t:Tok):jpo (.inl i) (.int i t)=true:=by simp[jpo,Value.isInt]
theorem jrp (x:Str)(t:Tok):jpo (.inr x) (.str x t)=true:=by simp[jpo,Value.isStrOf]
theorem jCe (a b:Int):decide ((Sum.inl a:Key)=Sum.inl b)=(a==b):=by
 by_cases e:a=b
 ·subst e;simp
 ·have h:¬ (Sum.inl a:Key)=Sum.inl b:=fun q=>e (Sum.inl.inj q);rw[decide_eq_false h];exact(beq_eq_false_iff_ne.mpr e).symm
theorem jzP (a b:Str):decide ((Sum.inr a:Key)=Sum.inr b)=decide (a=b):=by
 by_cases e:a=b
 ·subst e;simp
 ·have h:¬ (Sum.inr a:Key)=Sum.inr b:=fun q=>e (Sum.inr.inj q);rw[decide_eq_false h,decide_eq_false e]
theorem jBZ (a:Int)(b:Str):decide ((Sum.inl a:Key)=Sum.inr b)=false:=decide_eq_false (fun q=>nomatch q)
theorem jBb (a:Str)(b:Int):decide ((Sum.inr a:Key)=Sum.inl b)=false:=decide_eq_false (fun q=>nomatch q)
noncomputable def jal (prog:Program)(w:World):PySem.KeyKind prog w Key where
 is:=jpo
 hash:=jFf w
 inj:=fun v a b ha hb=>by
  rcases jaD ha with⟨i,t,rfl,rfl⟩|⟨x,t,rfl,rfl⟩
  ·rcases jaD hb with⟨j,u,rfl,e⟩|⟨y,u,rfl,e⟩
   ·injection e with e1 _;rw[e1]
   ·exact nomatch e
  ·rcases jaD hb with⟨j,u,rfl,e⟩|⟨y,u,rfl,e⟩
   ·exact nomatch e
   ·injection e with e1 _;rw[e1]
 byValue:=fun k v h=>by
  rcases jaD h with⟨i,t,rfl,rfl⟩|⟨x,t,rfl,rfl⟩<;>rfl
 pyHash:=fun hv h=>by
  rcases jaD hv with⟨i,t,rfl,rfl⟩|⟨x,t,rfl,rfl⟩
  ·exact wpAny_pyHash_int h
  ·exact wpAny_pyHash_str h
 eqBool:=fun hu hv h=>by
  rcases jaD hu with⟨i,t,rfl,rfl⟩|⟨x,t,rfl,rfl⟩
  ·rcases jaD hv with⟨j,u,rfl,rfl⟩|⟨y,u,rfl,rfl⟩
   ·rw[jCe]at h;exact wpAny_eqBool_int h
   ·rw[jBZ]at h;exact SeqAt.EqAt.int_str i t y u _ _ _ _ h
  ·rcases jaD hv with⟨j,u,rfl,rfl⟩|⟨y,u,rfl,rfl⟩
   ·rw[jBb]at h;exact SeqAt.EqAt.str_int x t j u _ _ _ _ h
   ·rw[jzP]at h;exact wpAny_eqBool_str h
 «strs»:=fun k x t v h=>by
  rcases jaD h with⟨i,u,rfl,e⟩|⟨y,u,rfl,e⟩
  ·exact nomatch e
  ·injection e with e1 _;subst e1;cases v<;>rfl
theorem jm1 (prog:Program)(w:World)(i:Int)(t:Tok):(jal prog w).is (.inl i) (.int i t)=true:=jqk i t
theorem jiJ (prog:Program)(w:World)(x:Str)(t:Tok):(jal prog w).is (.inr x) (.str x t)=true:=jrp x t
set_option genInjectivity true in
inductive V where
 |non|bl (b:Bool)|int (i:Int)|str (x:Str)|byt (b:Array UInt8)|flt (b:UInt64)|ref (a:Addr)|ty (n:String)
 deriving DecidableEq
noncomputable def jaB:V->Value->Prop
 |.non,u=>u=Value.none
 |.bl b,u=>u=Value.bool b
 |.int i,u=>∃t,u=Value.int i t
 |.str x,u=>∃t,u=Value.str x t
 |.byt b,u=>∃t,u=Value.bytes b t
 |.flt b,u=>∃t,u=Value.float b t
 |.ref a,u=>u=Value.ref a
 |.ty n,u=>u=Value.type n
noncomputable abbrev jaI:List V->List Value->Prop:=Paired jaB
theorem jaI.length (r:jaI xs us):xs.length=us.length:=Paired.length r
theorem jaI.get:∀{xs:List V} {us:List Value} {i:Nat} {x:V},jaI xs us->xs[i]?=some x->∃u,us[i]?=some u/\jaB x u
 |_,_,_,_,.nil,e=>by simp at e
 |_,_,0,_,.cons r _,e=>by simp at e;subst e;exact⟨_,rfl,r⟩
 |_,_,i+1,x,.cons _ t,e=>by
  obtain⟨u,h1,h2⟩:=jaI.get (i:=i) (x:=x) t (by simpa using e);exact⟨u,by simpa using h1,h2⟩
theorem jaI.set (r:jaB x u):∀{xs:List V} {us:List Value} (i:Nat),jaI xs us->jaI (xs.set i x) (us.set i u)
 |_,_,_,.nil=>.nil
 |_,_,0,.cons _ t=>.cons r t
 |_,_,i+1,.cons q t=>.cons q (jaI.set r i t)
theorem jaI.append:∀{xs ys:List V} {us ws:List Value},jaI xs us->jaI ys ws->jaI (xs++ys) (us++ws)
 |_,_,_,_,.nil,s=>s
 |_,_,_,_,.cons r t,s=>.cons r (jaI.append t s)
theorem jaI.take:∀{xs:List V} {us:List Value} (n:Nat),jaI xs us->jaI (xs.take n) (us.take n)
 |_,_,0,_=>.nil
 |_,_,_+1,.nil=>.nil
 |_,_,n+1,.cons r t=>.cons r (jaI.take n t)
theorem jaI.drop:∀{xs:List V} {us:List Value} (n:Nat),jaI xs us->jaI (xs.drop n) (us.drop n)
 |_,_,0,r=>r
 |_,_,_+1,.nil=>.nil
 |_,_,n+1,.cons _ t=>jaI.drop n t
noncomputable def jlB:Option V->Option Value->Prop
 |some v,some u=>jaB v u
 |none,none=>True
 |_,_=>False
noncomputable def KV {κ:Type}:List (κ×V)->List (κ×Value)->Prop:=Paired fun(p:κ×V) (q:κ×Value)=>p.1=q.1/\jaB p.2 q.2
noncomputable def kV:Key->V
 |.inl i=>.int i
 |.inr x=>.str x
set_option genInjectivity true in
inductive HO where
 |lst (xs:List V)
 |tup (xs:List V)
 |dK (kvs:List (Key×V))|dT (kvs:List (List Key×V))
 |set (S:Int->Bool) (n:Nat)
 |ins (C dx:Addr) (fs:List (Str×V))
 |own (x:Addr)
 |xd (fs:List (Str×V))
 |met (f x:Addr)
 |rng (lo hi:Int)
 |frz (o:Obj) (u:HO)
 |tbl (ps:Array Value)
 |ext (φ:Heap->Prop)
noncomputable abbrev Hp:=Addr->Option HO
noncomputable def upd (H:Hp)(a:Addr)(o:HO):Hp:=fun b=>if b=a then some o else H b
theorem jag:upd H a o a=some o:=by unfold upd;rw[if_pos rfl]
theorem jae (h:b≠a):upd H a o b=H b:=by unfold upd;rw[if_neg h]
theorem jEw {H:Hp}{a b:Addr}{o u:HO}(h:H a=some o)(h':H b=some u)(d:o≠u):a≠b:=by
 intro e;subst e;rw[h]at h';exact d (j0E h')
theorem jar {H:Hp}{a b:Addr}{o:HO}(h:H a=some o)(h':H b=none):a≠b:=by
 intro e;subst e;rw[h]at h';cases h'
section
variable (P:Program) (w:World)
noncomputable def jaS (H:Hp)(h:Heap)(a:Addr):HO->Prop
 |.lst xs=>xs.length<=sizeLine/\∃(its:List Value) (n:Nat),jaI xs its/\h.get? a=some {cls:=.type "list",data:=.seq its.toArray n}
 |.tup xs=>xs.length<=sizeLine/\∃(its:List Value) (n:Nat),jaI xs its/\h.get? a=some {cls:=.type "tuple",data:=.seq its.toArray n}
 |.dK kvs=>kvs.length<=sizeLine/\(a==sysModules)=false/\∃vs,KV kvs vs/\h.DictOf (jal P w) a vs
 |.dT kvs=>kvs.length<=sizeLine/\(a==sysModules)=false/\∃xs:List (List Key×Addr×Value),
   Paired (fun(p:List Key×V) (q:List Key×Addr×Value)=>p.1=q.1/\H q.2.1=some (.tup (p.1.map kV))/\jaB p.2 q.2.2) kvs xs /\
   ∃o es ep,h.get? a=some o/\o.ExactDict/\o.data=.dict es ep/\es.toList=xs.map (entryOfKey (tupleKind (jal P w)))/\(xs.map (·.1)).Nodup
 |.set S n=>h.SetOf (intKind P w) a S n
 |.ins C dx fs=>H dx=some (.own a)/\fs.length<=1000/\dx≠a/\h.get? a=some (PySem.W.instObj C dx) /\
   ∃mA,h.Ns1 dx mA/\(∀f,jlB (fs.lookup f) (mA f))/\PySem.Within mA (fs.map (·.1))
 |.own _=>∃o,h.get? a=some o
 |.xd fs=>∃mA,h.Ns1 a mA/\∀f,jlB (fs.lookup f) (mA f)
 |.rng lo hi=>∃t u v,h.get? a=some {cls:=.type "range",data:=.fields #[.int lo t,.int hi u,.int 1 v]}
 |.frz o u=>h.get? a=some o/\jaS H h a u
 |.tbl ps=>h.get? a=some {cls:=.none,data:=.fields ps}
 |.met f x=>h.get? a=some (PySem.W.methodObj (.ref f) (.ref x))
 |.ext φ=>φ h/\(∃o,h.get? a=some o)/\∀h1 h2:Heap,φ h1->(∀o,h1.get? a=some o->h2.get? a=some o)->φ h2
def HOk (H:Hp)(h:Heap):Prop:=∀a o,H a=some o->jaS P w H h a o
end
section
variable {P:Program} {w:World} {H H':Hp} {h h':Heap} {a:Addr} {o:HO}
theorem jaS.lt (x:jaS P w H h a o):a<h.objs.size:=by
 cases o with
 |lst xs=>obtain⟨_,_,_,_,e⟩:=x;exact j0i e
 |tup xs=>obtain⟨_,_,_,_,e⟩:=x;exact j0i e
 |dK kvs=>obtain⟨_,_,_,_,o,_,_,e,_⟩:=x;exact j0i e
 |dT kvs=>obtain⟨_,_,_,_,o,_,_,e,_⟩:=x;exact j0i e
 |set S n=>obtain⟨o,_,_,_,e,_⟩:=x;exact j0i e
 |ins C dx fs=>obtain⟨_,_,_,e,_⟩:=x;exact j0i e
 |own y=>obtain⟨_,e⟩:=x;exact j0i e
 |xd fs=>obtain⟨_,⟨_,_,_,e,_⟩,_⟩:=x;exact j0i e
 |rng lo hi=>obtain⟨_,_,_,e⟩:=x;exact j0i e
 |frz ob u=>obtain⟨e,_⟩:=x;exact j0i e
 |tbl ps=>exact j0i (show h.get? a=some _ from x)
 |met f y=>exact j0i (show h.get? a=some _ from x)
 |ext φ=>obtain⟨_,⟨_,e⟩,_⟩:=x;exact j0i e
theorem Paired.mapP:∀{l₁:List α} {l₂:List β},Paired F l₁ l₂->(∀a b,F a b->G a b)->Paired G l₁ l₂
 |_,_,.nil,_=>.nil
 |_,_,.cons r t,f=>.cons (f _ _ r) (Paired.mapP t f)
theorem Paired.imp' {α β:Type}{F G:α->β->Prop}(f:∀a b,F a b->G a b){l₁:List α}{l₂:List β}(r:Paired F l₁ l₂):Paired G l₁ l₂:=Paired.mapP r f
theorem jaS.stay (x:jaS P w H h a o)(k:∀b u,(b=a∨H b=some (.own a))->h.get? b=some u->h'.get? b=some u)
  (ho:∀b,H b=some (.own a)->H' b=some (.own a)) (ht:∀b xs,H b=some (.tup xs)->H' b=some (.tup xs)):jaS P w H' h' a o:=by
 induction o with
 |lst xs=>obtain⟨z,its,n,r,e⟩:=x;exact⟨z,its,n,r,k _ _ (.inl rfl) e⟩
 |tup xs=>obtain⟨z,its,n,r,e⟩:=x;exact⟨z,its,n,r,k _ _ (.inl rfl) e⟩
 |dK kvs=>obtain⟨z,y,vs,r,ob,es,ep,e,c⟩:=x;exact⟨z,y,vs,r,ob,es,ep,k _ _ (.inl rfl) e,c⟩
 |dT kvs=>
  obtain⟨z,y,xs,r,ob,es,ep,e,c⟩:=x;exact⟨z,y,xs,Paired.mapP r fun p q z=>⟨z.1,ht _ _ z.2.1,z.2.2⟩,ob,es,ep,k _ _ (.inl rfl) e,c⟩
 |set S n=>obtain⟨ob,es,ep,t,e,c⟩:=x;exact⟨ob,es,ep,t,k _ _ (.inl rfl) e,c⟩
 |ins C dx fs=>
  obtain⟨d,z,ne,e,mA,⟨od,es,ep,e2,c⟩,r⟩:=x;exact⟨ho _ d,z,ne,k _ _ (.inl rfl) e,mA,⟨od,es,ep,k _ _ (.inr d) e2,c⟩,r⟩
 |own y=>obtain⟨ob,e⟩:=x;exact⟨ob,k _ _ (.inl rfl) e⟩
 |xd fs=>obtain⟨mA,⟨od,es,ep,e,c⟩,r⟩:=x;exact⟨mA,⟨od,es,ep,k _ _ (.inl rfl) e,c⟩,r⟩
 |rng lo hi=>obtain⟨t,u,v,e⟩:=x;exact⟨t,u,v,k _ _ (.inl rfl) e⟩
 |frz ob u ih=>obtain⟨e,q⟩:=x;exact⟨k _ _ (.inl rfl) e,ih q⟩
 |tbl ps=>
  have e:h.get? a=some {cls:=.none,data:=.fields ps}:=x;show h'.get? a=some {cls:=.none,data:=.fields ps};exact k a _ (.inl rfl) e
 |met f y=>
  have e:h.get? a=some (PySem.W.methodObj (.ref f) (.ref y)):=x;show h'.get? a=some (PySem.W.methodObj (.ref f) (.ref y));exact k a _ (.inl rfl) e
 |ext φ=>obtain⟨p,⟨o,e⟩,st⟩:=x;exact⟨st _ _ p fun o q=>k _ _ (.inl rfl) q,⟨o,k _ _ (.inl rfl) e⟩,st⟩
theorem HOk.lt (x:HOk P w H h)(e:H a=some o):a<h.objs.size:=(x a o e).lt
theorem HOk.fresh (x:HOk P w H h)(e:h.objs.size<=a):H a=none:=by
 cases q:H a with
 |none=>rfl
 |some u=>exact absurd (j0m (x.lt q) e) (Nat.lt_irrefl _)
theorem HOk.kept (x:HOk P w H h)(k:∀b u,h.get? b=some u->h'.get? b=some u):HOk P w H h':=fun a o e=>
 (x a o e).stay (fun b u _ q=>k b u q) (fun _ q=>q) fun _ _ q=>q
theorem HOk.laid (x:HOk P w H h)(k:∀b u,h.get? b=some u->h'.get? b=some u)(hp:h.objs.size<=a)(new:jaS P w (upd H a o) h' a o):HOk P w (upd H a o) h':=fun b u e=>by
 have hn:=x.fresh hp;by_cases hb:b=a
 ·subst hb;rw[jag]at e;cases e;exact new
 ·rw[jae hb]at e;exact(x b u e).stay (fun c v _ q=>k c v q) (fun c q=>by rw[jae (jar q hn)];exact q) fun c xs q=>by rw[jae (jar q hn)];exact q
end
def Rd (H:Hp)(a:Addr)(u:HO):Prop:=H a=some u∨∃o,H a=some (.frz o u)
theorem Rd.of (h:H a=some u):Rd H a u:=.inl h
theorem Rd.ok (r:Rd H a u)(x:HOk P w H h):jaS P w H h a u:=by
 rcases r with r|⟨o,r⟩
 ·exact x a u r
 ·obtain⟨_,q⟩:=x a _ r;exact q
noncomputable def Mut:Option HO->Prop
 |some (.lst _)=>True
 |some (.dK _)=>True
 |some (.dT _)=>True
 |some (.set _ _)=>True
 |some (.ins _ _ _)=>True
 |some (.ext _)=>True
 |_=>False
section
variable {P:Program} {w:World} {H:Hp} {h h':Heap} {x e:Addr} {o':HO}
theorem HOk.write (ok:HOk P w H h)(mu:Mut (H x))(he:e=x∨H e=some (.own x))(k:∀b u,b≠e->h.get? b=some u->h'.get? b=some u)(heo:∃u,h'.get? e=some u)
  (new:jaS P w (upd H x o') h' x o'):HOk P w (upd H x o') h':=fun b u q=>by
 have nown:∀c y,H c=some (.own y)->c≠x:=fun c y r z=>by subst z;rw[r]at mu;exact mu
 have ntup:∀c xs,H c=some (.tup xs)->c≠x:=fun c xs r z=>by subst z;rw[r]at mu;exact mu
 by_cases hb:b=x
 ·subst hb;rw[jag]at q;cases q;exact new
 ·rw[jae hb]at q;by_cases hbe:b=e
  ·have q':H b=some (.own x):=by
    rcases he with z|z
    ·exact absurd (hbe.trans z) hb
    ·rw[hbe];exact z
   rw[q]at q';cases q';obtain⟨v,hv⟩:=heo;exact⟨v,by rw[hbe];exact hv⟩
  ·refine(ok b u q).stay (fun c v hc r=>k c v ?_ r) (fun c r=>by rw[jae (nown c b r)];exact r) fun c xs r=>by rw[jae (ntup c xs r)];exact r
   rcases hc with rfl|hc
   ·exact hbe
   ·rintro rfl;rcases he with z|z
    ·exact nown c b hc z
    ·rw[hc]at z;cases z;exact hb rfl
end
structure Un (fs ex:List Addr) (H H':Hp) (h h':Heap):Prop where
 keep:∀b o,h.get? b=some o->H b=none->b∉fs->b∉ex->h'.get? b=some o
 slot:∀b o,h.get? b=some o->H b=none->b∈fs->b∉ex->∃sl,h'.get? b=some {o with slots:=sl}
 free:∀b o,h.get? b=some o->H b=none->b∉ex->H' b=none
 there:∀b o,h.get? b=some o->b∉ex->∃o',h'.get? b=some o'
 tups:∀b xs,H b=some (.tup xs)->H' b=some (.tup xs)
 frzs:∀b o u,H b=some (.frz o u)->H' b=some (.frz o u)
 tbls:∀b ps,H b=some (.tbl ps)->∃more,H' b=some (.tbl (ps++more))
section
variable {fs fs' ex ex':List Addr} {H H1 H2:Hp} {h h1 h2 h':Heap} {a x e:Addr} {o:HO}
theorem Un.any (u:Un fs ex H H1 h h1){b:Addr}{ob:Obj}(q:h.get? b=some ob)(n:H b=none)(hx:b∉ex):∃sl,h1.get? b=some {ob with slots:=sl}:=by
 by_cases hb:b∈fs
 ·exact u.slot b ob q n hb hx
 ·exact⟨ob.slots,u.keep b ob q n hb hx⟩
theorem Un.trans (a:Un fs ex H H1 h h1)(b:Un fs ex H1 H2 h1 h2):Un fs ex H H2 h h2 where
 keep:=fun c ob q n hc hx=>b.keep c ob (a.keep c ob q n hc hx) (a.free c ob q n hx) hc hx
 slot:=fun c ob q n hc hx=>by
  obtain⟨sl,e1⟩:=a.slot c ob q n hc hx;obtain⟨sl',e2⟩:=b.slot c _ e1 (a.free c ob q n hx) hc hx;exact⟨sl',e2⟩
 free:=fun c ob q n hx=>by
  obtain⟨o',e1⟩:=a.there c ob q hx;exact b.free c o' e1 (a.free c ob q n hx) hx
 there:=fun c ob q hx=>by
  obtain⟨o',e1⟩:=a.there c ob q hx;exact b.there c o' e1 hx
 tups:=fun c xs q=>b.tups c xs (a.tups c xs q)
 frzs:=fun c ob xs q=>b.frzs c ob xs (a.frzs c ob xs q)
 tbls:=fun c ps q=>by
  obtain⟨m1,e1⟩:=a.tbls c ps q;obtain⟨m2,e2⟩:=b.tbls c _ e1;exact⟨m1++m2,by rw[e2,Array.append_assoc]⟩
theorem Un.kept (k:∀b u,h.get? b=some u->h'.get? b=some u):Un fs ex H H h h':=
 ⟨fun b ob q _ _ _=>k b ob q,fun b ob q _ _ _=>⟨ob.slots,k b ob q⟩,fun _ _ _ n _=>n,fun b ob q _=>⟨ob,k b ob q⟩,fun _ _ q=>q,fun _ _ _ q=>q,fun _ ps q=>⟨#[],by rw[q];simp⟩⟩
theorem Un.refl:Un fs ex H H h h:=Un.kept fun _ _ q=>q
theorem Un.laid (k:∀b u,h.get? b=some u->h'.get? b=some u)(hp:h.objs.size<=a)(hn:H a=none):Un fs ex H (upd H a o) h h' where
 keep:=fun b u q _ _ _=>k b u q
 slot:=fun b u q _ _ _=>⟨u.slots,k b u q⟩
 free:=fun b u q n _=>by rw[jae (j0k (j0m (j0i q) hp))];exact n
 there:=fun b u q _=>⟨u,k b u q⟩
 tups:=fun b xs q=>by rw[jae (jar q hn)];exact q
 frzs:=fun b u xs q=>by rw[jae (jar q hn)];exact q
 tbls:=fun b ps q=>⟨#[],by rw[jae (jar q hn),q];simp⟩
theorem Un.write (mu:Mut (H x))(he:e=x∨H e=some (.own x))(k:∀b u,b≠e->h.get? b=some u->h'.get? b=some u)(heo:∃u,h'.get? e=some u):Un fs ex H (upd H x o) h h':=by
 have hx:∀b,H b=none->b≠x:=fun b n z=>by subst z;rw[n]at mu;exact mu
 have hb:∀b,H b=none->b≠e:=fun b n z=>by
  subst z;rcases he with r|r
  ·exact hx b n r
  ·rw[n]at r;cases r
 have hm:∀b u,H b=some u->¬ Mut (some u)->b≠x:=fun b u q nm z=>by subst z;rw[q]at mu;exact nm mu
 refine⟨fun b u q n _ _=>k b u (hb b n) q,fun b u q n _ _=>⟨u.slots,k b u (hb b n) q⟩,fun b u q n _=>by rw[jae (hx b n)];exact n,fun b u q _=>?_,
  fun b xs q=>by rw[jae (hm b _ q fun z=>z)];exact q,fun b u xs q=>by rw[jae (hm b _ q fun z=>z)];exact q,fun b ps q=>⟨#[],by rw[jae (hm b _ q fun z=>z),q];simp⟩⟩
 by_cases hbe:b=e
 ·subst hbe;exact heo
 ·exact⟨u,k b u hbe q⟩
end
noncomputable def trk (h:Heap)(H:Hp):List Addr:=(List.range h.objs.size).filter fun a=>(H a).isSome
noncomputable def jtG (h:Heap)(H:Hp):Heap:=PySem.W.hideAll h (trk h H)
theorem jsU (h:Heap)(H:Hp):(jtG h H).objs.size=h.objs.size:=PySem.W.hideAll_size _ _
theorem jtR (e:h.get? b=some o)(n:H b=none):(jtG h H).get? b=some o:=
 PySem.W.hideAll_get _ e fun hm=>by
  have q:(H b).isSome=true:=(j0u.mp hm).2;rw[n]at q;simp at q
theorem jwr (e:(jtG h H).get? b=some o):h.get? b=some o/\H b=none:=by
 have e':h.get? b=some o:=PySem.W.of_hideAll (trk h H) e;refine⟨e',?_⟩
 cases q:H b with
 |none=>rfl
 |some x=>
  have hm:b∈trk h H:=j0u.mpr ⟨j1o.mpr (j0i e'),by simp[q]⟩;have z:(jtG h H).get? b=none:=PySem.W.hideAll_none (trk h H) hm;rw[z]at e;cases e
noncomputable def jx3 (g h:Heap)(L:Addr):List (Addr×Obj):=(List.range h.objs.size).filterMap fun a=>if a=L∨(g.get? a).isSome=true then none else(h.get? a).map fun o=>(a,o)
noncomputable def rest (g h:Heap)(L d:Addr):List (Addr×Obj):=(jx3 g h L).filter fun p=>decide (p.1≠d)
structure Mod (K:PySem.W.Frag) (mg:Str->Option Value) (base:Heap):Prop where
 kin:K.In base
 glob:base.Ns mainGlobals mg
 blt:∃mb,base.Ns builtinsNs mb/\∀x:Str,x≠"__name__"->mb x=bootBuiltins x
 nolimit:base.NoLimit
structure Cx where
 prog:Program
 w:World
 K:PySem.W.Frag
 mg:Str->Option Value
 base:Heap
 A:Around
 N:List Str
 s₀:Shared
 H₀:Hp
 env:Env
 outer:List Env
 stack:List Env
 ex:List Addr
 fn:Str->Bool
 calm:Bool
 pn:List (Addr×Obj)
 xe:Value->Shared->Prop
noncomputable def frs (l:List Env):List Addr:=l.filterMap (·.frame)
noncomputable abbrev Cx.fs (X:Cx):List Addr:=frs X.outer
def Vis (sc:Scope)(x:Str):Prop:=sc.names.lookup x=some .local∨sc.names.lookup x=some .cell∨sc.names.lookup x=some .free
def Loc (sc:Scope)(x:Str):Prop:=sc.names.lookup x=some .local∨sc.names.lookup x=some .cell
def jFa (env:Env)(h:Heap)(m:Str->Option Value)(x:Str)(u:Value):Prop:=
 (env.kindOf x=some .local/\m x=some u)∨((env.kindOf x=some .cell∨env.kindOf x=some .free)/\∃c,env.cells.lookup x=some c/\h.IsCell c (some u))
structure Cx.Ok (X:Cx):Prop where
 mod:Mod X.K X.mg X.base
 kind:X.env.scope.kind=.function
 glob:X.env.globals=mainGlobals
 blt:X.env.builtins=builtinsNs
 above:X.s₀.heap.objs.size<=X.env.locals
 inj:∀x y c,X.env.cells.lookup x=some c->X.env.cells.lookup y=some c->x=y
 has:∀x,(X.env.kindOf x=some .cell∨X.env.kindOf x=some .free)->∃c,X.env.cells.lookup x=some c
 cab:∀x c,X.fn x=true->X.env.cells.lookup x=some c->X.s₀.heap.objs.size<=c
 hd:X.calm=true->X.A.handled=none
 frames:X.A.frames=some X.stack
 stk:X.stack=X.outer∨(X.stack=X.env::X.outer/\X.env.frame=some X.env.locals)
 exf:∀b∈X.ex,b≠X.env.locals/\∀x c,X.env.cells.lookup x=some c->c≠b
 bs:∀b o,X.base.get? b=some o->X.s₀.heap.get? b=some o/\X.H₀ b=none
 bsz:X.base.objs.size<=X.s₀.heap.objs.size
 noex:∀b o,X.base.get? b=some o->b∉X.ex
 exfs:∀b∈X.ex,b∉X.fs
 funs:X.s₀.heap.FunFrames X.base X.outer
 frf:∀b∈X.fs,X.H₀ b=none
structure Inv (X:Cx) (pins:List (Addr×Obj)) (σ:List (Option V)) (H:Hp) (s:Shared):Prop where
 ok:X.Ok
 os:s.os=X.s₀.os
 bare:AllBare s.gens
 base:Un X.fs X.ex X.H₀ H X.s₀.heap s.heap
 loc:∃m,s.heap.Ns X.env.locals m/\∀(i:Nat) (x:Str) (v:V),X.N[i]?=some x->σ[i]?=some (some v)->Vis X.env.scope x->∃u,jaB v u/\jFa X.env s.heap m x u
 cell:∀x c,X.env.cells.lookup x=some c->∃v,s.heap.IsCell c v
 free:H X.env.locals=none
 freeC:∀x c,X.env.cells.lookup x=some c->H c=none
 pin:∀p∈X.pn++pins,s.heap.get? p.1=some p.2/\H p.1=none/\p.1≠X.env.locals/\p.1∉X.fs/\∀v,p.2.data≠.cell v
 hok:HOk X.prog X.w H s.heap
 len:σ.length=X.N.length
section
variable {X:Cx} {pins:List (Addr×Obj)} {σ:List (Option V)} {H H':Hp} {s:Shared} {h':Heap}
theorem Cx.Ok.nofr (ok:X.Ok){b:Addr}{o:Obj}(e:X.base.get? b=some o):b∉X.fs:=fun hb=>by
 have:=(ok.funs.mem hb).1;rw[e]at this;cases this
theorem Inv.bs (I:Inv X pins σ H s):∀b o,X.base.get? b=some o->s.heap.get? b=some o/\H b=none:=fun b o e=>
 ⟨I.base.keep b o (I.ok.bs b o e).1 (I.ok.bs b o e).2 (I.ok.nofr e) (I.ok.noex b o e),I.base.free b o (I.ok.bs b o e).1 (I.ok.bs b o e).2 (I.ok.noex b o e)⟩
theorem Inv.bk (I:Inv X pins σ H s):∀b o,X.base.get? b=some o->s.heap.get? b=some o:=fun b o e=>(I.bs b o e).1
theorem Inv.mod (I:Inv X pins σ H s):Mod X.K X.mg X.base:=I.ok.mod
theorem Inv.kIn (I:Inv X pins σ H s):X.K.In s.heap:=I.ok.mod.kin.keeps I.bk
theorem Inv.nolimit (I:Inv X pins σ H s):s.heap.NoLimit:=I.ok.mod.nolimit.keeps I.bk
theorem Inv.lt (I:Inv X pins σ H s):X.env.locals<s.heap.objs.size:=let⟨_,hn,_⟩:=I.loc;hn.lt
theorem Inv.sz (I:Inv X pins σ H s):X.s₀.heap.objs.size<=s.heap.objs.size:=j0A I.ok.above (Nat.le_of_lt I.lt)
theorem Inv.nofs (I:Inv X pins σ H s){a:Addr}(h:s.heap.objs.size<=a):a∉X.fs:=fun hb=>by
 obtain⟨_,o,ho,_⟩:=I.ok.funs.mem hb;exact absurd (j0m (j0i ho) (j0A I.sz h)) (Nat.lt_irrefl _)
theorem Inv.cne (I:Inv X pins σ H s):∀x c,X.env.cells.lookup x=some c->c≠X.env.locals:=fun x c e z=>by
 obtain⟨v,o,ho,hd⟩:=I.cell x c e;obtain⟨m,⟨o',es,ep,ho',hd',_⟩,_⟩:=I.loc;rw[z,ho']at ho;cases ho;rw[hd']at hd;cases hd
theorem Inv.funs (I:Inv X pins σ H s):s.heap.FunFrames X.base X.outer:=by
 have all:∀(l:List Env),(∀b∈frs l,b∈X.fs)->X.s₀.heap.FunFrames X.base l->s.heap.FunFrames X.base l:=by
  intro l
  induction l with
  |nil=>intro _ _;trivial
  |cons env r ih=>
   intro hs hl;obtain⟨hk,⟨L,o,hf,hn,ho,hd⟩,hr⟩:=hl;have hL:L∈X.fs:=hs L (by unfold frs;rw[j1x,hf];exact j0v);obtain⟨sl,e⟩:=I.base.slot L o ho (I.ok.frf L hL) hL fun z=>I.ok.exfs L z hL;exact⟨hk,⟨L,_,hf,hn,e,hd⟩,ih (fun b hb=>hs b (by unfold frs;rw[j1x,hf];exact j0p _ hb)) hr⟩
 exact all X.outer (fun _ hb=>hb) I.ok.funs
theorem Inv.stack (I:Inv X pins σ H s):s.heap.FunFrames X.base X.stack:=by
 rcases I.ok.stk with e|⟨e,hf⟩
 ·rw[e];exact I.funs
 ·rw[e];obtain⟨m,hn,_⟩:=I.loc;refine .cons (by rw[I.ok.kind];decide) hf hn ?_ I.funs;exact Heap.get?_none_of_le (j0A I.ok.bsz I.ok.above)
theorem Inv.stkSub (I:Inv X pins σ H s):∀b∈frs X.stack,b∈X.env.locals::X.fs:=fun b hb=>by
 rcases I.ok.stk with e|⟨e,hf⟩
 ·rw[e]at hb;exact j0p _ hb
 ·rw[e]at hb;unfold frs at hb;rw[j1x,hf]at hb;exact hb
theorem Inv.stkFree (I:Inv X pins σ H s):∀b∈frs X.stack,H b=none:=fun b hb=>by
 rcases j0q.mp (I.stkSub b hb)with e|hb
 ·rw[e];exact I.free
 ·obtain⟨_,o,ho,_⟩:=I.ok.funs.mem hb;exact I.base.free b o ho (I.ok.frf b hb) fun z=>I.ok.exfs b z hb
theorem Inv.step {g':Array GenState}{t':Nat}{d':Drawn}{ch:List Addr}(I:Inv X pins σ H s)
  (hch:∀b∈ch,(b∈X.ex∨X.s₀.heap.objs.size<=b)/\b≠X.env.locals/\(∀x c,X.env.cells.lookup x=some c->c≠b)/\∀p∈X.pn++pins,p.1≠b)
  (keep:∀b o,b≠X.env.locals->b∉X.fs->b∉ch->s.heap.get? b=some o->H b=none->h'.get? b=some o)
  (slot:∀b o,b≠X.env.locals->b∈X.fs->b∉ch->s.heap.get? b=some o->H b=none->∃sl,h'.get? b=some {o with slots:=sl}) (free:∀b o,b∉ch->s.heap.get? b=some o->H b=none->H' b=none)
  (there:∀b o,b∉ch->s.heap.get? b=some o->∃o',h'.get? b=some o')
  (tups:∀b xs,H b=some (.tup xs)->H' b=some (.tup xs)) (frzs:∀b o u,H b=some (.frz o u)->H' b=some (.frz o u)) (tbls:∀b ps,H b=some (.tbl ps)->∃more,H' b=some (.tbl (ps++more)))
  (ns:∀m,s.heap.Ns X.env.locals m->h'.Ns X.env.locals m) (hok:HOk X.prog X.w H' h') (hg:AllBare g') :
  Inv X pins σ H' {s with heap:=h',gens:=g',drawn:=d',toks:=t'}:=by
 have neL:∀b o,X.s₀.heap.get? b=some o->b≠X.env.locals:=fun b o e=>j0k (j0m (j0i e) I.ok.above);have neC:∀b o,X.s₀.heap.get? b=some o->b∉X.ex->b∉ch:=fun b o e hx hb=>by
  rcases(hch b hb).1 with z|z
  ·exact hx z
  ·exact absurd (j0m (j0i e) z) (Nat.lt_irrefl _)
 have cellK:∀x c,X.env.cells.lookup x=some c->∀v,s.heap.IsCell c v->h'.IsCell c v:=fun x c e v ⟨o,ho,hd⟩=>by
  have nch:c∉ch:=fun z=>(hch c z).2.2.1 x c e rfl;by_cases hc:c∈X.fs
  ·obtain⟨sl,q⟩:=slot c o (I.cne x c e) hc nch ho (I.freeC x c e);exact⟨_,q,hd⟩
  ·exact⟨o,keep c o (I.cne x c e) hc nch ho (I.freeC x c e),hd⟩
 refine⟨I.ok,I.os,hg,⟨fun b o e n hb hx=>?_,fun b o e n hb hx=>?_,fun b o e n hx=>?_,fun b o e hx=>?_,fun b xs e=>tups b xs (I.base.tups b xs e),fun b o xs e=>frzs b o xs (I.base.frzs b o xs e),fun b ps e=>?_⟩,?_,fun x c e=>?_,?_,fun x c e=>?_,fun p hp=>?_,hok,I.len⟩
 ·exact keep b o (neL b o e) hb (neC b o e hx) (I.base.keep b o e n hb hx) (I.base.free b o e n hx)
 ·obtain⟨sl,e1⟩:=I.base.slot b o e n hb hx;obtain⟨sl',e2⟩:=slot b _ (neL b o e) hb (neC b o e hx) e1 (I.base.free b o e n hx);exact⟨sl',e2⟩
 ·obtain⟨o',e1⟩:=I.base.there b o e hx;exact free b o' (neC b o e hx) e1 (I.base.free b o e n hx)
 ·obtain⟨o',e1⟩:=I.base.there b o e hx;exact there b o' (neC b o e hx) e1
 ·obtain⟨m1,e1⟩:=I.base.tbls b ps e;obtain⟨m2,e2⟩:=tbls b _ e1;exact⟨m1++m2,by rw[e2,Array.append_assoc]⟩
 ·obtain⟨m,hn,hl⟩:=I.loc;refine⟨m,ns m hn,fun i x v e1 e2 e3=>?_⟩;obtain⟨u,r,l⟩:=hl i x v e1 e2 e3;refine⟨u,r,?_⟩;rcases l with l|⟨k,c,e,z⟩
  ·exact .inl l
  ·exact .inr ⟨k,c,e,cellK x c e _ z⟩
 ·obtain⟨v,z⟩:=I.cell x c e;exact⟨v,cellK x c e v z⟩
 ·obtain⟨m,⟨o,_,_,ho,_⟩,_⟩:=I.loc;exact free _ o (fun z=>(hch _ z).2.1 rfl) ho I.free
 ·obtain⟨v,o,ho,hd⟩:=I.cell x c e;exact free c o (fun z=>(hch c z).2.2.1 x c e rfl) ho (I.freeC x c e)
 ·obtain⟨e,n,ne,nf,d⟩:=I.pin p hp;have nch:p.1∉ch:=fun z=>(hch p.1 z).2.2.2 p hp rfl;exact⟨keep p.1 p.2 ne nf nch e n,free p.1 p.2 nch e n,ne,nf,d⟩
theorem Inv.un {t':Nat}(I:Inv X pins σ H s)(u:Un X.fs [] H H' s.heap h')(hok:HOk X.prog X.w H' h'):Inv X pins σ H' {s with heap:=h',toks:=t'}:=by
 obtain⟨m,⟨o,es,ep,ho,r⟩,_⟩:=id I.loc;obtain⟨sl,hL⟩:=u.any ho I.free (by simp);exact I.step (g':=s.gens) (d':=s.drawn) (ch:=[]) (fun _ z=>nomatch z) (fun b o _ hb _ e n=>u.keep b o e n hb (by simp)) (fun b o _ hb _ e n=>u.slot b o e n hb (by simp)) (fun b o _ e n=>u.free b o e n (by simp)) (fun b o _ e=>u.there b o e (by simp)) u.tups u.frzs u.tbls (fun m' hm=>by
  obtain⟨o',es',ep',ho',r'⟩:=hm;rw[ho]at ho';cases ho';exact⟨_,es',ep',hL,r'⟩) hok I.bare
theorem Inv.call {g':Array GenState}{t':Nat}{d':Drawn}{ch:List Addr}(I:Inv X pins σ H s)(u:Un (frs X.stack) ch H H' s.heap h')(hok:HOk X.prog X.w H' h')(hg:AllBare g')
  (hch:∀b∈ch,(b∈X.ex∨X.s₀.heap.objs.size<=b)/\b≠X.env.locals/\(∀x c,X.env.cells.lookup x=some c->c≠b)/\∀p∈X.pn++pins,p.1≠b) :
  Inv X pins σ H' {s with heap:=h',gens:=g',drawn:=d',toks:=t'}:=by
 obtain⟨m,⟨o,es,ep,ho,r⟩,_⟩:=id I.loc;obtain⟨sl,hL⟩:=u.any ho I.free fun z=>(hch _ z).2.1 rfl;exact I.step (ch:=ch) hch (fun b o hL hb hc e n=>u.keep b o e n (fun z=>(j0q.mp (I.stkSub b z)).elim hL hb) hc) (fun b o _ _ hc e n=>u.any e n hc) (fun b o hc e n=>u.free b o e n hc) (fun b o hc e=>u.there b o e hc) u.tups u.frzs u.tbls (fun m' hm=>by
  obtain⟨o',es',ep',ho',r'⟩:=hm;rw[ho]at ho';cases ho';exact⟨_,es',ep',hL,r'⟩) hok hg
theorem Inv.turned {t':Nat}{it:Addr}(I:Inv X pins σ H s)(k:∀b o,b≠it->s.heap.get? b=some o->h'.get? b=some o)(hn:H it=none)(hL:it≠X.env.locals)
  (h1:it∈X.ex∨X.s₀.heap.objs.size<=it) (h2:∀x c,X.env.cells.lookup x=some c->c≠it) (h3:∀p∈X.pn++pins,p.1≠it):Inv X pins σ H {s with heap:=h',toks:=t'}:=by
 have nit:∀b u,H b=some u->b≠it:=fun b u e z=>by rw[z,hn]at e;cases e
 refine I.step (g':=s.gens) (d':=s.drawn) (ch:=[it]) (fun b hb=>?_) (fun b o _ _ hc e _=>k b o (fun z=>hc (by simp[z])) e) (fun b o _ _ hc e _=>⟨o.slots,k b o (fun z=>hc (by simp[z])) e⟩) (fun _ _ _ _ n=>n)
  (fun b o hc e=>⟨o,k b o (fun z=>hc (by simp[z])) e⟩) (fun _ _ e=>e) (fun _ _ _ e=>e) (fun b ps e=>⟨#[],by rw[e];simp⟩) (fun m hm=>?_) (fun b u e=>?_) I.bare
 ·have e:b=it:=by simpa using hb
  subst e;exact⟨h1,hL,h2,h3⟩
 ·obtain⟨o,es,ep,ho,r⟩:=hm;exact⟨o,es,ep,k _ o (Ne.symm hL) ho,r⟩
 ·refine(I.hok b u e).stay (fun c v hc q=>k c v ?_ q) (fun _ q=>q) fun _ _ q=>q;rcases hc with z|z
  ·rw[z];exact nit b u e
  ·exact nit c _ z
theorem Inv.tok (I:Inv X pins σ H s)(t:Nat):Inv X pins σ H {s with toks:=t}:=I.un (h':=s.heap) (t':=t) Un.refl I.hok
theorem Inv.kept (I:Inv X pins σ H s)(k:∀b u,s.heap.get? b=some u->h'.get? b=some u):Inv X pins σ H {s with heap:=h',toks:=t'}:=I.un (Un.kept k) (I.hok.kept k)
theorem Inv.laid (I:Inv X pins σ H s)(k:∀b u,s.heap.get? b=some u->h'.get? b=some u)(hp:s.heap.objs.size<=a)(new:jaS X.prog X.w (upd H a o) h' a o) :
  Inv X pins σ (upd H a o) {s with heap:=h',toks:=t'}:=I.un (Un.laid k hp (I.hok.fresh hp)) (I.hok.laid k hp new)
theorem Inv.write (I:Inv X pins σ H s)(mu:Mut (H x))(he:e=x∨H e=some (.own x))(k:∀b u,b≠e->s.heap.get? b=some u->h'.get? b=some u)(heo:∃u,h'.get? e=some u)
  (new:jaS X.prog X.w (upd H x o) h' x o):Inv X pins σ (upd H x o) {s with heap:=h',toks:=t'}:=I.un (Un.write mu he k heo) (I.hok.write mu he k heo new)
theorem Inv.pins_of (I:Inv X pins σ H s)(h:∀p∈pins',s.heap.get? p.1=some p.2/\H p.1=none/\p.1≠X.env.locals/\p.1∉X.fs/\∀v,p.2.data≠.cell v):Inv X pins' σ H s:=
 ⟨I.ok,I.os,I.bare,I.base,I.loc,I.cell,I.free,I.freeC,fun p hp=>(j0I.mp hp).elim (fun z=>I.pin p (j1q _ z)) (h p),I.hok,I.len⟩
theorem joM {N:List Str}(hN:N.Nodup){i j:Nat}{x:Str}(a:N[i]?=some x)(b:N[j]?=some x):i=j:=by
 obtain⟨h1,e1⟩:=j0g.mp a;obtain⟨h2,e2⟩:=j0g.mp b;exact(List.getElem_inj hN).mp (e1.trans e2.symm)
theorem jlU {M:Model}{A:Around}{E:Value->Shared->Prop}{i:Nat}{x:Str}{v:V}{u:Value}{Q:Unit->Shared->Prop}(I:Inv X pins σ H s)(hN:X.N.Nodup)(hi:X.N[i]?=some x)(hx:Loc X.env.scope x)(r:jaB v u)
  (h:∀s',Inv X pins (σ.set i (some v)) H s'->(∃a,Heap.SameBut a s.heap s'.heap/\(a=X.env.locals∨X.env.cells.lookup x=some a))->Q () s') (hf:X.fn x=true∨X.env.scope.names.lookup x=some .local:=by first|exact .inl rfl|exact .inr rfl|assumption):wpAny M A (storeName X.env x u) Q E s:=by
 obtain⟨m,hn,hl⟩:=id I.loc;have hcls:(X.env.scope.kind==.class||(X.env.scope.kind==.module&&X.env.locals !=X.env.globals))=false:=by rw[I.ok.kind];rfl
 have hiσ:i<σ.length:=by rw[I.len];exact(j0g.mp hi).1
 have cne:=I.cne;have tracked:∀{a:Addr} {h':Heap},(∃o,s.heap.get? a=some o/\H a=none)->Heap.SameBut a s.heap h'->HOk X.prog X.w H h':=fun {a h'} ha hs b ob e=>by
  obtain⟨_,_,hfree⟩:=ha;refine(I.hok b ob e).stay (fun c w' hc q=>(hs.2 c ?_).trans q) (fun _ q=>q) fun _ _ q=>q;rintro rfl;rcases hc with rfl|hc
  ·rw[hfree]at e;cases e
  ·rw[hfree]at hc;cases hc
 rcases hx with hk|hk
 ·refine wpAny_storeName_local hk hn (fun h' hn' hs=>?_) hcls;obtain⟨oL,_,_,hoL,_⟩:=id hn;refine h _ ⟨I.ok,I.os,I.bare,⟨fun b o e n hb hx=>?_,fun b o e n hb hx=>?_,I.base.free,fun b o e hx=>?_,I.base.tups,I.base.frzs,I.base.tbls⟩,⟨_,hn',fun j y v' e1 e2 e3=>?_⟩,fun y c e=>?_,I.free,I.freeC,fun p hp=>?_,tracked ⟨oL,hoL,I.free⟩ hs,by simpa using I.len⟩ ⟨_,hs,.inl rfl⟩
  ·exact(hs.2 b (j0k (j0m (j0i e) I.ok.above))).trans (I.base.keep b o e n hb hx)
  ·obtain⟨sl,e1⟩:=I.base.slot b o e n hb hx;exact⟨sl,(hs.2 b (j0k (j0m (j0i e) I.ok.above))).trans e1⟩
  ·obtain⟨o',e1⟩:=I.base.there b o e hx;exact⟨o',(hs.2 b (j0k (j0m (j0i e) I.ok.above))).trans e1⟩
  ·by_cases hj:j=i
   ·subst hj;rw[hi]at e1;cases e1;rw[List.getElem?_set_self hiσ]at e2;cases e2;exact⟨u,r,.inl ⟨hk,by simp⟩⟩
   ·rw[List.getElem?_set_ne (Ne.symm hj)]at e2;obtain⟨u',r',q⟩:=hl j y v' e1 e2 e3;refine⟨u',r',?_⟩;rcases q with⟨k,e⟩|⟨k,c,e,z⟩
    ·refine .inl ⟨k,?_⟩;have:y≠x:=fun e=>hj (joM hN e1 (e▸hi));simp[this,e]
    ·exact .inr ⟨k,c,e,z.sameBut hs (cne y c e)⟩
  ·obtain⟨w',z⟩:=I.cell y c e;exact⟨w',z.sameBut hs (cne y c e)⟩
  ·obtain⟨e,n,ne,nf,d⟩:=I.pin p hp;exact⟨(hs.2 p.1 ne).trans e,n,ne,nf,d⟩
 ·have hfn:X.fn x=true:=by
   rcases hf with z|z
   ·exact z
   ·rw[z]at hk;cases hk
  obtain⟨c,hc⟩:=I.ok.has x (.inl hk);obtain⟨w',z⟩:=I.cell x c hc;refine wpAny_storeName_cell I.ok.kind hk hc z (fun h' hc' hs=>?_);obtain⟨oc,hoc,hocd⟩:=id z;refine h {s with heap:=h'} ⟨I.ok,I.os,I.bare,⟨fun b o e n hb hx=>?_,fun b o e n hb hx=>?_,I.base.free,fun b o e hx=>?_,I.base.tups,I.base.frzs,I.base.tbls⟩,⟨m,hn.sameBut hs (Ne.symm (cne x c hc)),fun j y v' e1 e2 e3=>?_⟩,fun y c' e=>?_,I.free,I.freeC,fun p hp=>?_,tracked ⟨oc,hoc,I.freeC x c hc⟩ hs,by simpa using I.len⟩ ⟨c,hs,.inr hc⟩
  ·exact(hs.2 b (j0k (j0m (j0i e) (I.ok.cab x c hfn hc)))).trans (I.base.keep b o e n hb hx)
  ·obtain⟨sl,e1⟩:=I.base.slot b o e n hb hx;exact⟨sl,(hs.2 b (j0k (j0m (j0i e) (I.ok.cab x c hfn hc)))).trans e1⟩
  ·obtain⟨o',e1⟩:=I.base.there b o e hx;exact⟨o',(hs.2 b (j0k (j0m (j0i e) (I.ok.cab x c hfn hc)))).trans e1⟩
  ·by_cases hj:j=i
   ·subst hj;rw[hi]at e1;cases e1;rw[List.getElem?_set_self hiσ]at e2;cases e2;exact⟨u,r,.inr ⟨.inl hk,c,hc,hc'⟩⟩
   ·rw[List.getElem?_set_ne (Ne.symm hj)]at e2;obtain⟨u',r',q⟩:=hl j y v' e1 e2 e3;refine⟨u',r',?_⟩;rcases q with q|⟨k,c',e,z'⟩
    ·exact .inl q
    ·refine .inr ⟨k,c',e,z'.sameBut hs ?_⟩;rintro rfl;exact hj (joM hN e1 (I.ok.inj _ _ _ e hc▸hi))
  ·by_cases hcc:c'=c
   ·subst hcc;exact⟨_,hc'⟩
   ·obtain⟨w2,z2⟩:=I.cell y c' e;exact⟨w2,z2.sameBut hs hcc⟩
  ·obtain⟨e,n,ne,nf,d⟩:=I.pin p hp;refine⟨(hs.2 p.1 ?_).trans e,n,ne,nf,d⟩;intro q;rw[q,hoc]at e;have q':oc=p.2:=j0E e;exact d w' (by rw[<- q'];exact hocd)
theorem joo (I:Inv X pins σ H s)(hN:X.N.Nodup)(hi:X.N[i]?=some x)(hx:Loc X.env.scope x)(r:jaB v u)
  (h:∀s',Inv X pins (σ.set i (some v)) H s'->Q () s') (hf:X.fn x=true∨X.env.scope.names.lookup x=some .local:=by first|exact .inl rfl|exact .inr rfl|assumption):wpAny M A (storeName X.env x u) Q E s:=
 jlU I hN hi hx r (fun s' I' _=>h s' I') hf
theorem Inv.call' (I:Inv X pins σ H s)(ho:s'.os=s.os)(u:Un (frs X.stack) ch H H' s.heap s'.heap)(hok:HOk X.prog X.w H' s'.heap)(hg:AllBare s'.gens)
  (hch:∀b∈ch,(b∈X.ex∨X.s₀.heap.objs.size<=b)/\b≠X.env.locals/\(∀x c,X.env.cells.lookup x=some c->c≠b)/\∀p∈X.pn++pins,p.1≠b):Inv X pins σ H' s':=by
 obtain⟨h',g',d',t',o'⟩:=s';have e:o'=s.os:=ho;subst e;exact I.call (g':=g') (t':=t') (d':=d') u hok hg hch
end
noncomputable abbrev XK:=Value->Option Addr->Hp->Prop
noncomputable abbrev St:=List (Option V)
noncomputable abbrev VK:=V->Hp->Prop
noncomputable abbrev TE:=St->Hp->VK->Prop
noncomputable abbrev TT:=St->Hp->(Bool->Hp->Prop)->Prop
noncomputable abbrev TA:=St->Hp->(List V->Hp->Prop)->Prop
structure Ends where
 nx:St->Hp->Prop
 rt:VK
 bk:St->Hp->Prop:=fun _ _=>False
 ct:St->Hp->Prop:=fun _ _=>False
noncomputable abbrev TS:=Ends->St->Hp->Prop
def EP (X:Cx)(pins:List (Addr×Obj))(σ:St)(Q:VK)(u:Value)(s':Shared):Prop:=∃v H',Inv X pins σ H' s'/\jaB v u/\Q v H'
def TP (X:Cx)(pins:List (Addr×Obj))(σ:St)(Q:Bool->Hp->Prop)(b:Bool)(s':Shared):Prop:=∃H',Inv X pins σ H' s'/\Q b H'
def AP (X:Cx)(pins:List (Addr×Obj))(σ:St)(Q:List V->Hp->Prop)(us:List Value)(s':Shared):Prop:=∃vs H',Inv X pins σ H' s'/\jaI vs us/\Q vs H'
def SP (X:Cx)(pins:List (Addr×Obj))(D:Ends)(f:Flow)(s':Shared):Prop:=
 match f with
 |.next=>∃σ' H',Inv X pins σ' H' s'/\D.nx σ' H'
 |.brk=>∃σ' H',Inv X pins σ' H' s'/\D.bk σ' H'
 |.cont=>∃σ' H',Inv X pins σ' H' s'/\D.ct σ' H'
 |.ret u=>∃v σ' H',Inv X pins σ' H' s'/\jaB v u/\D.rt v H'
def PE (X:Cx)(e:Expr)(t:TE):Prop:=
 ∀(pins:List (Addr×Obj)) (s:Shared) (σ:St) (H:Hp) (Q:VK),Inv X pins σ H s->t σ H Q->wpAny (model X.prog X.w) X.A (eval e X.env) (EP X pins σ Q) X.xe s
def PT (X:Cx)(e:Expr)(t:TT):Prop:=
 ∀(pins:List (Addr×Obj)) (s:Shared) (σ:St) (H:Hp) (Q:Bool->Hp->Prop),Inv X pins σ H s->t σ H Q->wpAny (model X.prog X.w) X.A (isTrue e X.env (eval e X.env)) (TP X pins σ Q) X.xe s
def PW (X:Cx)(e:Expr)(t:TT):Prop:=
 ∀(whole:Sem Value) (pins:List (Addr×Obj)) (s:Shared) (σ:St) (H:Hp) (Q:Bool->Hp->Prop),Inv X pins σ H s->t σ H Q->wpAny (model X.prog X.w) X.A (isTrue e X.env whole) (TP X pins σ Q) X.xe s
theorem PW.pt (h:PW X e t):PT X e t:=h _
def PA (X:Cx)(es:List Expr)(t:TA):Prop:=
 ∀(pos:Pos) (pins:List (Addr×Obj)) (s:Shared) (σ:St) (H:Hp) (Q:List V->Hp->Prop),Inv X pins σ H s->t σ H Q->wpAny (model X.prog X.w) X.A (spliced (backTo pos (starEach es X.env))) (AP X pins σ Q) X.xe s
def PS (X:Cx)(st:Stmt)(t:TS):Prop:=
 ∀(pins:List (Addr×Obj)) (s:Shared) (σ:St) (H:Hp) (D:Ends),Inv X pins σ H s->t D σ H->wpAny (model X.prog X.w) X.A (exec st X.env) (SP X pins D) X.xe s
def PSs (X:Cx)(st:List Stmt)(t:TS):Prop:=
 ∀(pins:List (Addr×Obj)) (s:Shared) (σ:St) (H:Hp) (D:Ends),Inv X pins σ H s->t D σ H->wpAny (model X.prog X.w) X.A (execs st X.env) (SP X pins D) X.xe s
theorem thn (h:wpAny M A t Q E s)(hQ:∀a s,Q a s->Q' a s):wpAny M A t Q' E s:=wpAny_mono h hQ fun _ _ x=>x
section
variable {X:Cx}
theorem bin (ha:PE X a ta)(hb:PE X b tb){pins:List (Addr×Obj)}{s:Shared}{σ:St}{H:Hp}{R:V->V->Hp->Prop}(I:Inv X pins σ H s)(h:ta σ H fun x H1=>tb σ H1 fun y H2=>R x y H2)
  {α:Type} {Q:α->Shared->Prop} {f:Value->Value->Sem α}
  (hf:∀v u s2 x y H2,Inv X pins σ H2 s2->jaB x v->jaB y u->R x y H2->wpAny (model X.prog X.w) X.A (f v u) Q X.xe s2) :
  wpAny (model X.prog X.w) X.A (eval a X.env) (fun v s₁=>wpAny (model X.prog X.w) X.A (eval b X.env) (fun u s₂=>wpAny (model X.prog X.w) X.A (f v u) Q X.xe s₂) X.xe s₁) X.xe s:=by
 refine thn (ha pins s σ H _ I h) fun v s1 ⟨x,H1,I1,r1,q1⟩=>?_;refine thn (hb pins s1 σ H1 _ I1 q1) fun u s2 ⟨y,H2,I2,r2,q2⟩=>?_;exact hf v u s2 x y H2 I2 r1 r2 q2
def jEC (i:Nat):TE:=fun σ H Q=>∃v,σ[i]?=some (some v)/\Q v H
def tC (v:V):TE:=fun _ H Q=>Q v H
theorem jBf (hN:X.N[i]?=some x) (hv:Vis X.env.scope x) (hd:(x==("__debug__" : Str))=false:=by decide) (hcd:(x==("__classdict__" : Str))=false:=by decide):PE X (.Name x pos) (jEC i):=by
 intro pins s σ H Q I h;obtain⟨v,e,h⟩:=h;obtain⟨m,hn,hl⟩:=I.loc;obtain⟨u,r,l⟩:=hl i x v hN e hv;have fin:EP X pins σ Q u s:=⟨v,H,I,r,h⟩;rcases l with⟨hk,hm⟩|⟨hk,c,hc,hcell⟩
 ·exact wpAny_Name (wpAny_loadName_local I.ok.kind hk hn hm fin) hd
 ·rcases hk with hk|hk
  ·exact wpAny_Name (wpAny_loadName_cell I.ok.kind hk hc hcell fin) hd
  ·exact wpAny_Name (wpAny_loadName_free I.ok.kind hk hc hcell fin hcd) hd
theorem jAJ:PE X (.Constant (.int i) j pos) (tC (.int i)):=fun _ _ _ H _ I h=>wpAny_Constant_int ⟨.int i,H,I.tok _,⟨_,rfl⟩,h⟩
theorem jDv:PE X (.Constant (.bool b) j pos) (tC (.bl b)):=fun _ _ _ H _ I h=>Constant_bool ⟨.bl b,H,I,rfl,h⟩
theorem jAz:PE X (.Constant .none j pos) (tC .non):=fun _ _ _ H _ I h=>Constant_none ⟨.non,H,I,rfl,h⟩
theorem jCC:PE X (.Constant (.str x) j pos) (tC (.str x)):=fun _ _ _ H _ I h=>Calls.Constant_str ⟨.str x,H,I.tok _,⟨_,rfl⟩,h⟩
def Gl (X:Cx)(x:Str):Prop:=X.env.kindOf x=some .globalImplicit
theorem jnX (I:Inv X pins σ H s)(hg:Gl X x)(hm:X.mg x=some u)(h:Q u s)
  (hd:(x==("__debug__" : Str))=false:=by decide):wpAny (model X.prog X.w) X.A (eval (.Name x pos) X.env) Q E s:=
 Calls.Name_function_global I.ok.kind hg (Calls.loadGlobal_global (by rw[I.ok.glob];exact I.mod.glob.keeps I.bk) hm h) hd
theorem jgn (I:Inv X pins σ H s)(hg:Gl X x)(hm:X.mg x=none)(hv:bootBuiltins x=some u)(h:Q u s)
  (hn:x≠"__name__":=by decide) (hd:(x==("__debug__" : Str))=false:=by decide):wpAny (model X.prog X.w) X.A (eval (.Name x pos) X.env) Q E s:=by
 obtain⟨mb,h1,h2⟩:=I.mod.blt;exact Calls.Name_function_global I.ok.kind hg (Calls.loadGlobal_builtin (by rw[I.ok.glob];exact I.mod.glob.keeps I.bk) hm (by rw[I.ok.blt];exact h1.keeps I.bk) ((h2 x hn).trans hv) h) hd
theorem jqy (hg:Gl X x) (hm:X.mg x=some u) (r:jaB v u) (hd:(x==("__debug__" : Str))=false:=by decide):PE X (.Name x pos) (tC v):=
 fun _ _ _ H _ I h=>jnX I hg hm ⟨v,H,I,r,h⟩ hd
theorem jy1 (hg:Gl X x) (hm:X.mg x=none) (hv:bootBuiltins x=some u) (r:jaB v u) (hn:x≠"__name__":=by decide) (hd:(x==("__debug__" : Str))=false:=by decide):PE X (.Name x pos) (tC v):=
 fun _ _ _ H _ I h=>jgn I hg hm hv ⟨v,H,I,r,h⟩ hn hd
variable {a b:Expr} {ta tb:TE} {pos:Pos}
def PC (X:Cx)(op:CmpOp)(a b:Expr)(t:TE):Prop:=
 ∀(pins:List (Addr×Obj)) (s:Shared) (σ:St) (H:Hp) (Q:VK),Inv X pins σ H s->t σ H Q ->
  wpAny (model X.prog X.w) X.A (eval a X.env) (fun v s₁=>wpAny (model X.prog X.w) X.A (eval b X.env) (fun u s₂=>wpAny (model X.prog X.w) X.A (compareOp op v u) (EP X pins σ Q) X.xe s₂) X.xe s₁) X.xe s
theorem joA (b:Expr){op:CmpOp}(h:op≠.In)(h2:op≠.NotIn):behindInMarks op b=false:=by
 have e1:(op==CmpOp.In)=false:=by cases op<;>first|rfl|exact absurd rfl h
 have e2:(op==CmpOp.NotIn)=false:=by cases op<;>first|rfl|exact absurd rfl h2
 cases b<;>simp[behindInMarks,e1,e2]
def jDg (ta:TE):TE:=fun σ H Q=>ta σ H fun x H1=>Q (.bl (decide (x=.non))) H1
def ju2 (ta:TE):TE:=fun σ H Q=>ta σ H fun x H1=>Q (.bl (!decide (x=.non))) H1
theorem jaB.none_iff (r:jaB x v):(v==Value.none)=decide (x=.non):=by
 cases x with
 |non=>cases r;rfl
 |bl _=>cases r;rfl
 |int _=>obtain⟨t,rfl⟩:=r;rfl
 |str _=>obtain⟨t,rfl⟩:=r;rfl
 |byt _=>obtain⟨t,rfl⟩:=r;rfl
 |flt _=>obtain⟨t,rfl⟩:=r;rfl
 |ref _=>cases r;rfl
 |ty _=>cases r;rfl
theorem jvM (ha:PE X a ta):PC X .Is a (.Constant .none j pos') (jDg ta):=by
 intro pins s σ H Q I h;refine thn (ha pins s σ H _ I h) fun v s1 ⟨x,H1,I1,r1,q1⟩=>?_;exact Constant_none (is_none_gen ⟨.bl _,H1,I1,by rw[r1.none_iff];rfl,q1⟩)
theorem jrk (ha:PE X a ta):PC X .IsNot a (.Constant .none j pos') (ju2 ta):=by
 intro pins s σ H Q I h;refine thn (ha pins s σ H _ I h) fun v s1 ⟨x,H1,I1,r1,q1⟩=>?_;exact Constant_none (isnot_none_gen ⟨.bl _,H1,I1,by rw[r1.none_iff];rfl,q1⟩)
def tB (t:TE):TT:=fun σ H Q=>t σ H fun x H1=>∃c,x=.bl c/\Q c H1
theorem jvY (h:PC X op a b t)(h1:behindInMarks op b=false:=by first|exact joA _ (by decide) (by decide)|rfl):PE X (.Compare a [op] [b] pos) t:=fun pins s σ H Q I hw=>wpAny_Compare1 (h pins s σ H Q I hw) h1
theorem jvI (h:PC X op a b t)(h1:behindInMarks op b=false:=by first|exact joA _ (by decide) (by decide)|rfl):PT X (.Compare a [op] [b] pos) (tB t):=by
 intro pins s σ H Q I hw;refine wpAny_isTrue_Compare1 (thn (h pins s σ H _ I hw) fun v s1 h1=>thn h1 fun u s2 h2=>thn h2 fun c s3 ⟨x,H1,I1,r1,q1⟩=>?_) h1;obtain⟨d,rfl,q⟩:=q1;cases r1;exact wpAny_truthy_bool ⟨H1,I1,q⟩
variable {tA tB':TT} {rest:List Expr}
def jDx (t u:TT):TT:=fun σ H Q=>t σ H fun c H1=>if c=true then u σ H1 Q else Q false H1
def tOr (t u:TT):TT:=fun σ H Q=>t σ H fun c H1=>if c=true then Q true H1 else u σ H1 Q
def jEA (t:TT):TT:=fun σ H Q=>t σ H fun c H1=>Q (!c) H1
theorem jv9 (ha:PT X a tA):PW X (.BoolOp .And [a] pos) tA:=by
 intro wh pins s σ H Q I h;refine isTrue_and (thn (ha pins s σ H Q I h) fun c s1 e=>?_)
 cases c with
 |true=>exact isTrue_and_nil e
 |false=>exact e
theorem jB7 (ha:PT X a tA):PW X (.BoolOp .Or [a] pos) tA:=by
 intro wh pins s σ H Q I h;refine isTrue_or (thn (ha pins s σ H Q I h) fun c s1 e=>?_)
 cases c with
 |false=>exact isTrue_or_nil e
 |true=>exact e
theorem jAv (ha:PT X a tA)(hb:PW X (.BoolOp .And (b::rest) pos) tB'):PW X (.BoolOp .And (a::b::rest) pos) (jDx tA tB'):=by
 intro wh pins s σ H Q I h;refine isTrue_and (thn (ha pins s σ H _ I h) fun c s1 ⟨H1,I1,q1⟩=>?_)
 cases c with
 |true=>exact hb wh pins s1 σ H1 Q I1 q1
 |false=>exact⟨H1,I1,q1⟩
theorem jDR (ha:PT X a tA)(hb:PW X (.BoolOp .Or (b::rest) pos) tB'):PW X (.BoolOp .Or (a::b::rest) pos) (tOr tA tB'):=by
 intro wh pins s σ H Q I h;refine isTrue_or (thn (ha pins s σ H _ I h) fun c s1 ⟨H1,I1,q1⟩=>?_)
 cases c with
 |true=>exact⟨H1,I1,q1⟩
 |false=>exact hb wh pins s1 σ H1 Q I1 q1
theorem jAV (ha:PT X a tA):PT X (.UnaryOp .Not a pos) (jEA tA):=by
 intro pins s σ H Q I h;exact isTrue_not (ha pins s σ H (fun c H1=>Q (!c) H1) I h)
def jw7 (ta tb:TE):TE:=fun σ H Q=>ta σ H fun x H1=>∃c,x=.bl c/\if c=true then tb σ H1 Q else Q (.bl false) H1
def jDH (ta tb:TE):TE:=fun σ H Q=>ta σ H fun x H1=>∃c,x=.bl c/\if c=true then Q (.bl true) H1 else tb σ H1 Q
def jA1 (ta:TE):TE:=fun σ H Q=>ta σ H fun x H1=>∃c,x=.bl c/\Q (.bl (!c)) H1
theorem jCQ (h:PE X a t):PE X (.BoolOp op [a] pos) t:=fun pins s σ H Q I hw=>BoolOp_one (h pins s σ H Q I hw)
theorem jCL (ha:PE X a ta)(hb:PE X (.BoolOp .And (b::rest) pos) tb):PE X (.BoolOp .And (a::b::rest) pos) (jw7 ta tb):=by
 intro pins s σ H Q I h;refine BoolOp_and (thn (ha pins s σ H _ I h) fun v s1 ⟨x,H1,I1,r1,q1⟩=>?_);obtain⟨c,rfl,q1⟩:=q1;cases r1;refine wpAny_truthy_bool ?_
 cases c with
 |true=>exact hb pins s1 σ H1 Q I1 q1
 |false=>exact⟨.bl false,H1,I1,rfl,q1⟩
theorem jEe (ha:PE X a ta)(hb:PE X (.BoolOp .Or (b::rest) pos) tb):PE X (.BoolOp .Or (a::b::rest) pos) (jDH ta tb):=by
 intro pins s σ H Q I h;refine BoolOp_or (thn (ha pins s σ H _ I h) fun v s1 ⟨x,H1,I1,r1,q1⟩=>?_);obtain⟨c,rfl,q1⟩:=q1;cases r1;refine wpAny_truthy_bool ?_
 cases c with
 |false=>exact hb pins s1 σ H1 Q I1 q1
 |true=>exact⟨.bl true,H1,I1,rfl,q1⟩
theorem jAy (ha:PE X a ta):PE X (.UnaryOp .Not a pos) (jA1 ta):=by
 intro pins s σ H Q I h;refine UnaryOp_ (thn (ha pins s σ H _ I h) fun v s1 ⟨x,H1,I1,r1,q1⟩=>?_);obtain⟨c,rfl,q1⟩:=q1;cases r1;exact not_of (wpAny_truthy_bool ⟨.bl (!c),H1,I1,rfl,q1⟩)
def tIf (t:TT)(ta tb:TE):TE:=fun σ H Q=>t σ H fun c H1=>if c=true then ta σ H1 Q else tb σ H1 Q
theorem juU (hc:PT X c tA)(ha:PE X a ta)(hb:PE X b tb):PE X (.IfExp c a b pos) (tIf tA ta tb):=by
 intro pins s σ H Q I h;refine wpAny_IfExp (thn (hc pins s σ H _ I h) fun d s1 ⟨H1,I1,q1⟩=>?_)
 cases d with
 |true=>exact ha pins s1 σ H1 Q I1 q1
 |false=>exact hb pins s1 σ H1 Q I1 q1
end
def SqL (K:PySem.W.Frag)(H:Hp)(a:Addr)(xs:List V):Prop:=
 Rd H a (.lst xs) ∨
  ∃(o:Obj) (its:Array Value) (n:Nat),K.lookup a=some o/\o.cls=.type "list"/\o.dict=none/\o.data=.seq its n/\its.size<=sizeLine/\jaI xs its.toList
def SqT (K:PySem.W.Frag)(H:Hp)(a:Addr)(xs:List V):Prop:=
 Rd H a (.tup xs) ∨
  ∃(o:Obj) (its:Array Value) (n:Nat),K.lookup a=some o/\o.cls=.type "tuple"/\o.data=.seq its n/\its.size<=sizeLine/\jaI xs its.toList
noncomputable def jFg:Value->Option V
 |.none=>some .non
 |.bool b=>some (.bl b)
 |.int i _=>some (.int i)
 |.str x _=>some (.str x)
 |.bytes b _=>some (.byt b)
 |.float b _=>some (.flt b)
 |.ref a=>some (.ref a)
 |.type n=>some (.ty n)
 |_=>none
theorem jaB.abs (r:jaB x u):jFg u=some x:=by
 cases x with
 |non=>cases r;rfl
 |bl _=>cases r;rfl
 |int _=>obtain⟨t,rfl⟩:=r;rfl
 |str _=>obtain⟨t,rfl⟩:=r;rfl
 |byt _=>obtain⟨t,rfl⟩:=r;rfl
 |flt _=>obtain⟨t,rfl⟩:=r;rfl
 |ref _=>cases r;rfl
 |ty _=>cases r;rfl
theorem jaB.inj (r:jaB x u)(q:jaB y u):x=y:=j0E (r.abs.symm.trans q.abs)
theorem jaI.inj (h:jaI xs us)(k:jaI ys us):xs=ys:=by
 induction h generalizing ys with
 |nil=>cases k;rfl
 |cons r t ih=>
  cases k with
  |cons r' t'=>rw[r.inj r',ih t']
section
variable {X:Cx} {pins:List (Addr×Obj)} {σ:St} {H:Hp} {s:Shared} {a:Addr} {xs ys:List V}
theorem SqL.of {K:PySem.W.Frag}(h:H a=some (.lst xs)):SqL K H a xs:=.inl (.inl h)
theorem SqT.of {K:PySem.W.Frag}(h:H a=some (.tup xs)):SqT K H a xs:=.inl (.inl h)
theorem Inv.list (I:Inv X pins σ H s)(h:SqL X.K H a xs):∃its:List Value,jaI xs its/\PlainL s.heap a its.toArray/\xs.length<=sizeLine:=by
 rcases h with h|⟨o,its,n,hk,hc,hd,hs,hz,r⟩
 ·obtain⟨z,its,n,r,e⟩:=h.ok I.hok;exact⟨its,r,⟨_,n,e,rfl,rfl,rfl⟩,z⟩
 ·refine⟨its.toList,r,⟨o,n,I.kIn a o hk,hc,hd,by simpa using hs⟩,?_⟩;have e:=r.length;simp only[j0F]at e;omega
theorem Inv.tuple (I:Inv X pins σ H s)(h:SqT X.K H a xs):∃its:List Value,jaI xs its/\IsTup s.heap a its.toArray/\xs.length<=sizeLine:=by
 rcases h with h|⟨o,its,n,hk,hc,hs,hz,r⟩
 ·obtain⟨z,its,n,r,p⟩:=h.ok I.hok;exact⟨its,r,⟨_,p,rfl,n,rfl⟩,z⟩
 ·refine⟨its.toList,r,⟨o,I.kIn a o hk,hc,n,by simpa using hs⟩,?_⟩;have e:=r.length;simp only[j0F]at e;omega
theorem Inv.list_inj (I:Inv X pins σ H s)(h:SqL X.K H a xs)(h':SqL X.K H a ys):xs=ys:=by
 obtain⟨its,r,⟨o,n,e,_,_,d⟩,_⟩:=I.list h;obtain⟨its',r',⟨o',n',e',_,_,d'⟩,_⟩:=I.list h';rw[e]at e';cases e';rw[d]at d';injection d' with d1 _;have:its=its':=by simpa using congrArg Array.toList d1
 subst this;exact r.inj r'
theorem Inv.tuple_inj (I:Inv X pins σ H s)(h:SqT X.K H a xs)(h':SqT X.K H a ys):xs=ys:=by
 obtain⟨its,r,⟨o,e,_,n,d⟩,_⟩:=I.tuple h;obtain⟨its',r',⟨o',e',_,n',d'⟩,_⟩:=I.tuple h';rw[e]at e';cases e';rw[d]at d';injection d' with d1 _;have:its=its':=by simpa using congrArg Array.toList d1
 subst this;exact r.inj r'
end
noncomputable abbrev Cx.wish (X:Cx) (E:Value->Shared->Prop):Cx:={X with xe:=E}
noncomputable abbrev Cx.nox (X:Cx):Cx:=X.wish fun _ _=>False
theorem Cx.Ok.wish {X:Cx}(ok:X.Ok)(E:Value->Shared->Prop):(X.wish E).Ok:=
 ⟨ok.mod,ok.kind,ok.glob,ok.blt,ok.above,ok.inj,ok.has,ok.cab,ok.hd,ok.frames,ok.stk,ok.exf,ok.bs,ok.bsz,ok.noex,ok.exfs,ok.funs,ok.frf⟩
theorem Cx.Ok.unwish {X:Cx}{E:Value->Shared->Prop}(ok:(X.wish E).Ok):X.Ok:=
 ⟨ok.mod,ok.kind,ok.glob,ok.blt,ok.above,ok.inj,ok.has,ok.cab,ok.hd,ok.frames,ok.stk,ok.exf,ok.bs,ok.bsz,ok.noex,ok.exfs,ok.funs,ok.frf⟩
section
variable {X:Cx} {pins:List (Addr×Obj)} {σ:St} {H:Hp} {s:Shared} {E:Value->Shared->Prop}
theorem Inv.wish (I:Inv X pins σ H s)(E:Value->Shared->Prop):Inv (X.wish E) pins σ H s:=⟨I.ok.wish E,I.os,I.bare,I.base,I.loc,I.cell,I.free,I.freeC,I.pin,I.hok,I.len⟩
theorem Inv.unwish (I:Inv (X.wish E) pins σ H s):Inv X pins σ H s:=⟨I.ok.unwish,I.os,I.bare,I.base,I.loc,I.cell,I.free,I.freeC,I.pin,I.hok,I.len⟩
theorem SP.unwish (h:SP (X.wish E) pins D f s'):SP X pins D f s':=by
 cases f with
 |next=>obtain⟨σ',H',I,q⟩:=h;exact⟨σ',H',I.unwish,q⟩
 |brk=>obtain⟨σ',H',I,q⟩:=h;exact⟨σ',H',I.unwish,q⟩
 |cont=>obtain⟨σ',H',I,q⟩:=h;exact⟨σ',H',I.unwish,q⟩
 |ret u=>obtain⟨v,σ',H',I,r,q⟩:=h;exact⟨v,σ',H',I.unwish,r,q⟩
theorem PSs.nox {st:List Stmt}{t:TS}(h:PSs X.nox st t):PSs X st t:=fun pins s σ H D I hw=>
 wpAny_mono (h pins s σ H D (I.wish _) hw) (fun _ _ q=>q.unwish) fun _ _ z=>False.elim z
end
section
variable {X:Cx} {st:Stmt} {rest:List Stmt} {t u:TS} {e:Expr} {te:TE} {pos:Pos}
def jz6:TS:=fun D σ H=>D.nx σ H
def jFm (t u:TS):TS:=fun D σ H=>t {D with nx:=u D} σ H
theorem jwi:PSs X [] jz6:=fun _ _ σ H _ I h=>wpAny_execs_nil ⟨σ,H,I,h⟩
theorem jum (h1:PS X st t)(h2:PSs X rest u):PSs X (st::rest) (jFm t u):=by
 intro pins s σ H D I h;refine wpAny_execs_cons (thn (h1 pins s σ H {D with nx:=u D} I h) fun f s1 q=>?_)
 cases f with
 |next=>
  obtain⟨σ',H',I',q⟩:=q;exact h2 pins s1 σ' H' D I' q
 |ret v=>exact q
 |brk=>exact q
 |cont=>exact q
theorem jxb:PS X (.Pass pos) jz6:=fun _ _ σ H _ I h=>wpAny_Pass ⟨σ,H,I,h⟩
theorem Inv.quiet (I:Inv X pins σ H s):interactive X.env=false:=by simp[interactive,I.ok.kind]
def jEb (te:TE):TS:=fun D σ H=>te σ H fun _ H1=>D.nx σ H1
theorem jyy (he:PE X e te)(hs:swapsWith e none pos.line X.env=pure false:=by rfl):PS X (.Expr e pos) (jEb te):=by
 intro pins s σ H D I h;exact wpAny_Expr_any (thn (he pins s σ H _ I h) fun v s1 ⟨x,H1,I1,r1,q1⟩=>⟨σ,H1,I1,q1⟩) I.quiet hs
def jFi (te:TE):TS:=fun D σ H=>te σ H D.rt
theorem jAX (he:PE X e te):PS X (.Return (some e) pos) (jFi te):=by
 intro pins s σ H D I h;exact wpAny_Return_some (thn (he pins s σ H _ I h) fun v s1 ⟨x,H1,I1,r1,q1⟩=>⟨x,σ,H1,I1,r1,q1⟩)
def jD4:TS:=fun D _ H=>D.rt .non H
theorem jxO:PS X (.Return none pos) jD4:=fun _ _ σ H _ I h=>wpAny_Return_none ⟨.non,σ,H,I,rfl,h⟩
def jFl (c:TT)(t u:TS):TS:=fun D σ H=>c σ H fun b H1=>if b=true then t D σ H1 else u D σ H1
theorem jDr (hc:PT X c tc)(ha:PSs X a t)(hb:PSs X b u):PS X (.If c a b pos) (jFl tc t u):=by
 intro pins s σ H D I h;refine wpAny_If (thn (hc pins s σ H _ I h) fun d s1 ⟨H1,I1,q1⟩=>?_)
 cases d with
 |true=>exact ha pins s1 σ H1 D I1 q1
 |false=>exact hb pins s1 σ H1 D I1 q1
def jBt:TS:=fun _ _ _=>False
theorem jvl:PS X st jBt:=fun _ _ _ _ _ _ h=>h.elim
end
noncomputable abbrev TG:=V->St->Hp->(St->Hp->Prop)->Prop
noncomputable abbrev TGs:=List V->St->Hp->(St->Hp->Prop)->Prop
def PG (X:Cx)(target:Expr)(t:TG):Prop:=
 ∀(pins:List (Addr×Obj)) (s:Shared) (σ:St) (H:Hp) (v:V) (u:Value) (Q:St->Hp->Prop),Inv X pins σ H s->jaB v u->t v σ H Q ->
  wpAny (model X.prog X.w) X.A (assign target X.env u) (fun _ s'=>∃σ' H',Inv X pins σ' H' s'/\Q σ' H') X.xe s
def PGs (X:Cx)(ts:List Expr)(t:TGs):Prop:=
 ∀(pins:List (Addr×Obj)) (s:Shared) (σ:St) (H:Hp) (vs:List V) (us:List Value) (Q:St->Hp->Prop),Inv X pins σ H s->jaI vs us->t vs σ H Q ->
  wpAny (model X.prog X.w) X.A (assignInOrder ((assignEach ts X.env).map (·.2)) us) (fun _ s'=>∃σ' H',Inv X pins σ' H' s'/\Q σ' H') X.xe s
section
variable {X:Cx} {pos:Pos}
noncomputable def jeW (i:Nat):TG:=fun v σ H Q=>Q (σ.set i (some v)) H
theorem jsi (hN:X.N.Nodup)(hi:X.N[i]?=some x)(hx:Loc X.env.scope x)(hf:X.fn x=true∨X.env.scope.names.lookup x=some .local:=by first|exact .inl rfl|exact .inr rfl|assumption):PG X (.Name x pos) (jeW i):=by
 intro pins s σ H v u Q I r h;exact wpAny_assign_Name (joo I hN hi hx r (fun s' I'=>⟨_,H,I',h⟩) hf)
noncomputable def jER:TGs:=fun vs σ H Q=>vs=[]/\Q σ H
noncomputable def jBo (t:TG)(u:TGs):TGs:=fun vs σ H Q=>∃v r,vs=v::r/\t v σ H fun σ' H'=>u r σ' H' Q
theorem jwZ:PGs X [] jER:=by
 intro pins s σ H vs us Q I r h;obtain⟨e,h⟩:=h;subst e;cases r;exact assignInOrder_nil ⟨σ,H,I,h⟩
theorem jvf (h1:PG X e t)(h2:PGs X es u)
  (hs:(assignEach (e::es) X.env).map (·.2)=assign e X.env::(assignEach es X.env).map (·.2):=by rfl):PGs X (e::es) (jBo t u):=by
 intro pins s σ H vs us Q I r h;obtain⟨v,vr,e1,h⟩:=h;subst e1
 cases r with
 |cons r rr=>
  rw[hs];refine assignInOrder_cons (thn (h1 pins s σ H _ _ _ I r h) fun _ s1 ⟨σ1,H1,I1,q1⟩=>?_);exact h2 pins s1 σ1 H1 _ _ Q I1 rr q1
noncomputable def jEF (K:PySem.W.Frag)(n:Nat)(t:TGs):TG:=fun v σ H Q=>∃a xs,v=.ref a/\SqT K H a xs/\xs.length=n/\t xs σ H Q
theorem jzT (hc:X.calm=true)(h:PGs X es t)
  (hn:(assignEach es X.env).length=n:=by rfl) (hst:(assignEach es X.env).findIdx? (·.1)=none:=by rfl):PG X (.Tuple es k pos) (jEF X.K n t):=by
 intro pins s σ H v u Q I r hw;obtain⟨a,xs,e1,hq,hl,hw⟩:=hw;subst e1;cases r;obtain⟨its,rv,ht,hz⟩:=I.tuple hq;refine assign_Tuple_tuple (I.ok.hd hc) ht (by simp[hn,<- hl,rv.length]) hst fun h' hx=>?_;have I1:Inv X pins σ H {s with heap:=h'}:=I.kept (t':=s.toks) fun b o e=>hx b o (j0k (j0i e)) e;exact h pins _ σ H xs _ Q I1 (by simpa using rv) hw
def jzK (te:TE)(g:TG):TS:=fun D σ H=>te σ H fun x H1=>g x σ H1 D.nx
theorem jA5 (he:PE X e te)(hg:PG X tg g)(hs:swapsWithSole [tg] e pos.line X.env=pure false:=by rfl)(hw:swappedStores [tg] e X.env=pure none:=by rfl)
  (h1:(assignEach [tg] X.env).map (·.2)=[assign tg X.env]:=by rfl):PS X (.Assign [tg] e pos) (jzK te g):=by
 intro pins s σ H D I h;refine wpAny_Assign_stores (thn (he pins s σ H _ I h) fun v s1 ⟨x,H1,I1,r1,q1⟩=>?_) hs hw;rw[h1];exact thn (hg pins s1 σ H1 x v _ I1 r1 q1) fun _ s2 q=>q
theorem jsJ (hN:X.N.Nodup)(hi:X.N[i]?=some x)(hx:Loc X.env.scope x)(he:PE X e te)(hs:swapsWith e (some (.Name x pos')) pos.line X.env=pure false:=by rfl)(hf:X.fn x=true∨X.env.scope.names.lookup x=some .local:=by first|exact .inl rfl|exact .inr rfl|assumption) :
  PS X (.Assign [.Name x pos'] e pos) (jzK te (jeW i)):=by
 intro pins s σ H D I h;refine wpAny_Assign_Name (thn (he pins s σ H _ I h) fun v s1 ⟨y,H1,I1,r1,q1⟩=>?_) hs;exact joo I1 hN hi hx r1 (fun s2 I2=>⟨_,H1,I2,q1⟩) hf
end
section
variable {X:Cx} {pos:Pos}
def jB2 (c:TT)(tb:TS):TS:=fun D σ H=>∃W:Nat->St->Hp->Prop,(∃m,W m σ H)/\∀m σ H,W m σ H ->
 c σ H fun b H1=>if b=true then ∃N:St->Hp->Prop,(∀σ' H',N σ' H'->∃m',m'<m/\W m' σ' H')/\tb {D with nx:=N,ct:=N,bk:=D.nx} σ H1 else D.nx σ H1
theorem jto (hp:PassesOwn (model X.prog X.w) X.A X.env X.xe)(hc:PT X c tc)(hb:PSs X body tb):PS X (.While c body [] pos) (jB2 tc tb):=by
 intro pins s σ H D I h;obtain⟨W,⟨m0,w0⟩,turn⟩:=h;refine wpAny_While (codeAny_whileLoop (fun n s'=>∃σ' H',Inv X pins σ' H' s'/\W n σ' H') ?_ m0 ⟨σ,H,I,w0⟩);rintro n s1 ⟨σ1,H1,I1,w1⟩;refine wpAny_passesOwn hp (thn (hc pins s1 σ1 H1 _ I1 (turn n σ1 H1 w1)) fun b s2 ⟨H2,I2,q2⟩=>?_)
 cases b with
 |true=>
  obtain⟨N,hN,q2⟩:=q2;rw[if_pos rfl];refine wpAny_passesOwn hp (thn (hb pins s2 σ1 H2 _ I2 q2) fun f s3 q3=>?_)
  cases f with
  |next=>
   obtain⟨σ3,H3,I3,n3⟩:=q3;obtain⟨m',hm,w3⟩:=hN σ3 H3 n3;exact⟨m',hm,σ3,H3,I3,w3⟩
  |cont=>
   obtain⟨σ3,H3,I3,n3⟩:=q3;obtain⟨m',hm,w3⟩:=hN σ3 H3 n3;exact⟨m',hm,σ3,H3,I3,w3⟩
  |brk=>exact q3
  |ret v=>exact q3
 |false=>
  rw[if_neg j0e];exact wpAny_execs_nil ⟨σ1,H2,I2,q2⟩
end
structure It where
 go:Nat->Hp->Prop
 yld:Nat->Hp->V->Hp->Prop
 stop:Nat->Hp->Prop
def jnz (X:Cx)(pins:List (Addr×Obj))(H:Hp)(b:Addr):Prop:=
 H b=none/\b≠X.env.locals/\b∉X.fs/\(b∈X.ex∨X.s₀.heap.objs.size<=b)/\(∀x c,X.env.cells.lookup x=some c->c≠b)/\∀p∈X.pn++pins,p.1≠b
theorem Inv.fpOk (I:Inv X pins σ H s)(hb:s.heap.objs.size<=b)(hn:H' b=none):jnz X pins H' b:=by
 refine⟨hn,Nat.ne_of_gt (j0m I.lt hb),I.nofs hb,.inr (j0A I.sz hb),fun x c e z=>?_,fun p hp z=>?_⟩
 ·obtain⟨v,q⟩:=I.cell x c e;exact absurd (j0m q.lt (by rw[z];exact hb)) (Nat.lt_irrefl _)
 ·exact absurd (j0m (j0i (I.pin p hp).1) (by rw[z];exact hb)) (Nat.lt_irrefl _)
structure Turn (P:Program) (w:World) (K:PySem.W.Frag) (tg:Expr) (J:It) (fp:List Addr) (it:Addr) (tn:Nat->Heap->Prop):Prop where
 mem:it∈fp
 obj:∀i h,tn i h->∀b∈fp,∃o,h.get? b=some o/\∀v,o.data≠.cell v
 keep:∀i h h',tn i h->(∀b∈fp,∀o,h.get? b=some o->h'.get? b=some o)->tn i h'
 item:∀(X:Cx),X.prog=P->X.w=w->X.K=K->X.calm=true->∀(i:Nat) (pins:List (Addr×Obj)) (s:Shared) (σ:St) (H:Hp) (E:Value->Shared->Prop),Inv X pins σ H s->(∀b∈fp,jnz X pins H b)->tn i s.heap->J.go i H ->
  wpAny (model P w) X.A (pyNext (.ref it)) (fun r s1=>∃u,r=some u /\
   wpAny (model P w) X.A (letOwnedTupleGo tg (.ref it) u) (fun _ s2=>∃x H',Inv X pins σ H' s2/\jaB x u/\J.yld i H x H'/\tn (i+1) s2.heap/\∀b∈fp,H' b=none) E s1) E s
 done:∀(X:Cx),X.prog=P->X.w=w->X.K=K->X.calm=true->∀(i:Nat) (pins:List (Addr×Obj)) (s:Shared) (σ:St) (H:Hp) (E:Value->Shared->Prop),Inv X pins σ H s->(∀b∈fp,jnz X pins H b)->tn i s.heap->J.stop i H ->
  wpAny (model P w) X.A (pyNext (.ref it)) (fun r s1=>r=none/\Inv X pins σ H s1) E s
 self:∀(A:Around) (i:Nat) (s:Shared) (Q:Value->Shared->Prop) (E:Value->Shared->Prop),tn i s.heap->Q (.ref it) s->wpAny (model P w) A (pyIter (.ref it)) Q E s
noncomputable abbrev TI:=St->Hp->(It->Hp->Prop)->Prop
def PIE (X:Cx)(pins:List (Addr×Obj))(σ:St)(tg:Expr)(R:It->Hp->Prop)(itv:Value)(s2:Shared):Prop:=
 ∃(it:Addr) (fp:List Addr) (tn:Nat->Heap->Prop) (J:It) (H':Hp),itv=.ref it/\Inv X pins σ H' s2/\Turn X.prog X.w X.K tg J fp it tn/\tn 0 s2.heap/\(∀b∈fp,jnz X pins H' b)/\R J H'
def PI (X:Cx)(tg iter:Expr)(wi:TI):Prop:=
 ∀(pins:List (Addr×Obj)) (s:Shared) (σ:St) (H:Hp) (R:It->Hp->Prop),Inv X pins σ H s->wi σ H R ->
  wpAny (model X.prog X.w) X.A (eval iter X.env) (fun v s1=>wpAny (model X.prog X.w) X.A (pyIter v) (PIE X pins σ tg R) X.xe s1) X.xe s
theorem juN (ho:s.heap.get? it=some o)(hc:o.cls=.type n)(hd:o.data=.fields vs)
  (hn:["enumerate","zip","dict_itemiterator","dict_reverseitemiterator","odict_iterator","itertools.zip_longest","itertools.pairwise"].contains n=false) (hQ:Q () s):wpAny M A (letOwnedTupleGo tg (.ref it) u) Q E s:=by
 unfold letOwnedTupleGo;cases tg<;>first
  |exact wpAny_pure hQ
  |(cases u<;>first
    |exact wpAny_pure hQ
    |(refine wpAny_bind (wpAny_load ho ?_)
      rw[hc,hd];show wpAny M A (if(["enumerate","zip","dict_itemiterator","dict_reverseitemiterator","odict_iterator","itertools.zip_longest","itertools.pairwise"].contains n&&vs[0]?==some (rawInt _))=true then _ else _) Q E s;rw[if_neg (by intro h;rw[hn,Bool.false_and]at h;cases h)];exact wpAny_pure hQ))
noncomputable def Itl (K:PySem.W.Frag)(a:Addr):It:=
 ⟨fun i H=>∃xs x,SqL K H a xs/\xs[i]?=some x,fun i H x H'=>H'=H/\∀xs,SqL K H a xs->xs[i]?=some x,fun i H=>∃xs,SqL K H a xs/\xs.length<=i⟩
noncomputable def Itt (K:PySem.W.Frag)(a:Addr):It:=
 ⟨fun i H=>∃xs x,SqT K H a xs/\xs[i]?=some x,fun i H x H'=>H'=H/\∀xs,SqT K H a xs->xs[i]?=some x,fun i H=>∃xs,SqT K H a xs/\xs.length<=i⟩
noncomputable def Itr (lo:Int)(n:Nat):It:=⟨fun i _=>i<n,fun i H x H'=>H'=H/\x=.int (lo+i),fun i _=>n<=i⟩
theorem jr8 {P:Program}{w:World}{K:PySem.W.Frag}{tg:Expr}(a it:Addr):Turn P w K tg (Itl K a) [it] it (fun i h=>h.IsListIter it a i) where
 mem:=by simp
 obj:=fun i h st b hb=>by
  have e:b=it:=by simpa using hb
  subst e;obtain⟨o,e,c,d⟩:=st;exact⟨o,e,fun v z=>by rw[d]at z;cases z⟩
 keep:=fun i h h' st k=>st.at fun o e=>k it (by simp) o e
 item:=by
  intro X hP hw hK hc i pins s σ H E I hf st hg;subst hP hw hK;obtain⟨xs,x,hq,hx⟩:=hg;obtain⟨its,rv,p,hz⟩:=I.list hq;obtain⟨u,hu,ru⟩:=rv.get hx;obtain⟨f0,f1,f2,f3,f4,f5⟩:=hf it (by simp);refine wpAny_pyNext_list_item st p.isList (x:=u) (by simpa using hu) fun h' st' sb=>?_;have I1:Inv X pins σ H {s with heap:=h'}:=I.turned (t':=s.toks) (fun b o hb e=>(sb.2 b hb).trans e) f0 f1 f3 f4 f5;obtain⟨o,e,c,d⟩:=id st';exact⟨u,rfl,juN (s:={s with heap:=h'}) e c d (by decide) ⟨x,H,I1,ru,⟨rfl,fun ys hy=>by rw[I.list_inj hy hq];exact hx⟩,st',fun b hb=>(hf b hb).1⟩⟩
 done:=by
  intro X hP hw hK hc i pins s σ H E I hf st hg;subst hP hw hK;obtain⟨xs,hq,hx⟩:=hg;obtain⟨its,rv,p,hz⟩:=I.list hq;obtain⟨f0,f1,f2,f3,f4,f5⟩:=hf it (by simp);have hl:=rv.length;exact wpAny_pyNext_list_end (I.ok.hd hc) st p.isList (by simp;omega) fun h' eb=>⟨rfl,I.turned (t':=s.toks) (fun b o hb e=>eb b o hb e) f0 f1 f3 f4 f5⟩
 self:=fun _ _ _ _ _ st h=>wpAny_pyIter_listiter st h
theorem jps {P:Program}{w:World}{K:PySem.W.Frag}{tg:Expr}(a it:Addr):Turn P w K tg (Itt K a) [it] it (fun i h=>h.IsTupleIter it a i) where
 mem:=by simp
 obj:=fun i h st b hb=>by
  have e:b=it:=by simpa using hb
  subst e;obtain⟨o,e,c,d⟩:=st;exact⟨o,e,fun v z=>by rw[d]at z;cases z⟩
 keep:=fun i h h' st k=>st.at fun o e=>k it (by simp) o e
 item:=by
  intro X hP hw hK hc i pins s σ H E I hf st hg;subst hP hw hK;obtain⟨xs,x,hq,hx⟩:=hg;obtain⟨its,rv,p,hz⟩:=I.tuple hq;obtain⟨u,hu,ru⟩:=rv.get hx;obtain⟨f0,f1,f2,f3,f4,f5⟩:=hf it (by simp);refine wpAny_pyNext_tuple_item st (show s.heap.IsTuple a its.toArray from p) (x:=u) (by simpa using hu) fun h' st' sb=>?_;have I1:Inv X pins σ H {s with heap:=h'}:=I.turned (t':=s.toks) (fun b o hb e=>(sb.2 b hb).trans e) f0 f1 f3 f4 f5;obtain⟨o,e,c,d⟩:=id st';exact⟨u,rfl,juN (s:={s with heap:=h'}) e c d (by decide) ⟨x,H,I1,ru,⟨rfl,fun ys hy=>by rw[I.tuple_inj hy hq];exact hx⟩,st',fun b hb=>(hf b hb).1⟩⟩
 done:=by
  intro X hP hw hK hc i pins s σ H E I hf st hg;subst hP hw hK;obtain⟨xs,hq,hx⟩:=hg;obtain⟨its,rv,p,hz⟩:=I.tuple hq;obtain⟨f0,f1,f2,f3,f4,f5⟩:=hf it (by simp);have hl:=rv.length;exact wpAny_pyNext_tuple_end (I.ok.hd hc) st (show s.heap.IsTuple a its.toArray from p) (by simp;omega) fun h' eb=>⟨rfl,I.turned (t':=s.toks) (fun b o hb e=>eb b o hb e) f0 f1 f3 f4 f5⟩
 self:=fun _ _ _ _ _ st h=>wpAny_pyIter_tupleiter st h
theorem jpV {P:Program}{w:World}{K:PySem.W.Frag}{tg:Expr}(it:Addr)(lo:Int)(n:Nat):Turn P w K tg (Itr lo n) [it] it (fun i h=>IsRangeIter h it (lo+(i:Nat)*1) ((n:Int) - (i:Nat)) 1) where
 mem:=by simp
 obj:=fun i h st b hb=>by
  have e:b=it:=by simpa using hb
  subst e;exact⟨_,st,fun v z=>by
   have z':Data.fields _=Data.cell v:=z;cases z'⟩
 keep:=fun i h h' st k=>k it (by simp) _ st
 item:=by
  intro X hP hw hK hc i pins s σ H E I hf st hg;subst hP hw hK;obtain⟨f0,f1,f2,f3,f4,f5⟩:=hf it (by simp);have W:=Walks.range (prog:=X.prog) (w:=X.w) (I.ok.hd hc) it lo 1 n;refine W.item i s _ _ hg st fun v h' tk hv st' kk=>?_;obtain⟨t,rfl⟩:=hv;have I1:Inv X pins σ H {s with heap:=h',toks:=tk}:=I.turned (fun b o hb e=>kk b o (by simpa using hb) e) f0 f1 f3 f4 f5;refine⟨_,rfl,juN (s:={s with heap:=h',toks:=tk}) (n:="range_iterator") st' rfl rfl (by decide) ⟨.int (lo+i),H,I1,⟨t,?_⟩,⟨rfl,rfl⟩,st',fun b hb=>(hf b hb).1⟩⟩;rw[Int.mul_one]
 done:=by
  intro X hP hw hK hc i pins s σ H E I hf st hg;subst hP hw hK;obtain⟨f0,f1,f2,f3,f4,f5⟩:=hf it (by simp);exact wpAny_pyNext_range_end (I.ok.hd hc) st (by have:n<=i:=hg;omega) fun h' eb=>⟨rfl,I.turned (t':=s.toks) (fun b o hb e=>eb b o hb e) f0 f1 f3 f4 f5⟩
 self:=fun _ _ _ _ _ st h=>wpAny_pyIter_rangeiter st h
section
variable {X:Cx} {tg:Expr}
theorem joE {pins:List (Addr×Obj)}{σ:St}{H:Hp}{s:Shared}{R:It->Hp->Prop}{E:Value->Shared->Prop}{lo hi:Int}{t u v:Tok}{tk:Nat}(I:Inv X pins σ H s)(h1 : -(2 ^ 62)<=lo)(h2:lo<2 ^ 62)(h3 : -(2 ^ 62)<=hi)(h4:hi<2 ^ 62)
  (q:R (Itr lo (hi - lo).toNat) H):wpAny (model X.prog X.w) X.A (pyIter (.ref s.heap.objs.size)) (PIE X pins σ tg R) E {s with heap:=s.heap.push {cls:=.type "range",data:=.fields #[.int lo t,.int hi u,.int 1 v]},toks:=tk}:=by
 refine wpAny_pyIter_range (IsRange.new ..) (small_one h1 h2 h3 h4) ?_;have I1:Inv X pins σ H {s with heap:=s.heap.push {cls:=.type "range",data:=.fields #[.int lo t,.int hi u,.int 1 v]},toks:=tk}:=I.kept fun b o e=>j0b _ e;refine⟨(s.heap.push {cls:=.type "range",data:=.fields #[.int lo t,.int hi u,.int 1 v]}).objs.size,[(s.heap.push {cls:=.type "range",data:=.fields #[.int lo t,.int hi u,.int 1 v]}).objs.size],_,_,H,rfl,
  I1.kept (t':=tk) fun b o e=>j0b _ e,jpV _ lo (hi - lo).toNat,?_,fun b hb=>?_,q⟩
 ·have e1:lo+((0:Nat):Int)*1=lo:=by simp
  have e2:(((hi - lo).toNat:Nat):Int) - ((0:Nat):Int)=Builtin.Range.rangeSize lo hi 1:=by rw[rangeSize_one];split<;>omega
  show IsRangeIter _ _ (lo+((0:Nat):Int)*1) ((((hi - lo).toNat:Nat):Int) - ((0:Nat):Int)) 1;rw[e1,e2];exact j0f _ rfl
 ·have e:b=(s.heap.push {cls:=.type "range",data:=.fields #[.int lo t,.int hi u,.int 1 v]}).objs.size:=by simpa using hb
  subst e;exact I1.fpOk (j0l _) (I1.hok.fresh (j0l _))
def jzR (ta:TA):TI:=fun σ H R=>ta σ H fun vs H1=>∃j:Int,vs=[.int j]/\-(2 ^ 62)<=j/\j<2 ^ 62/\R (Itr 0 j.toNat) H1
def jBH (ta:TA):TI:=fun σ H R=>ta σ H fun vs H1=>∃i j:Int,vs=[.int i,.int j]/\(-(2 ^ 62)<=i/\i<2 ^ 62/\-(2 ^ 62)<=j/\j<2 ^ 62)/\R (Itr i (j - i).toNat) H1
theorem jqZ {a:Expr} {ta:TA} {p pos:Pos} (hg:Gl X "range") (hm:X.mg "range" =none) (ha:PA X [a] ta) (hs:starEach [a] X.env=[(false,eval a X.env)]:=by rfl):PI X tg (.Call (.Name "range" p) [a] [] pos) (jzR ta):=by
 intro pins s σ H R I h;refine Call_ (jgn I hg hm boot_range (j1h (thn (ha pos pins s σ H _ I h) fun us s1 ⟨vs,H1,I1,r1,q1⟩=>?_) hs rfl));obtain⟨j,e,q1,q2,q⟩:=q1;subst e
 cases r1 with
 |cons r rr=>
  cases rr;obtain⟨t,rfl⟩:=r;exact call_range_1 (joE I1 (by omega) (by omega) q1 q2 (by simpa using q))
theorem jru (hg:Gl X "range") (hm:X.mg "range" =none) (ha:PA X [a,b] ta) (hs:starEach [a,b] X.env=[(false,eval a X.env),(false,eval b X.env)]:=by rfl) (hs2:starEach [b] X.env=[(false,eval b X.env)]:=by rfl) :
  PI X tg (.Call (.Name "range" p) [a,b] [] pos) (jBH ta):=by
 intro pins s σ H R I h;refine Call_ (jgn I hg hm boot_range (j1h (thn (ha pos pins s σ H _ I h) fun us s1 ⟨vs,H1,I1,r1,q1⟩=>?_) (by rw[hs,hs2]) (by rw[hs2];rfl)));obtain⟨i,j,e,⟨q1,q2,q3,q4⟩,q⟩:=q1;subst e
 cases r1 with
 |cons r rr=>
  cases rr with
  |cons r' rr=>
   cases rr;obtain⟨t,rfl⟩:=r;obtain⟨t',rfl⟩:=r';exact call_range_2 (joE I1 q1 q2 q3 q4 q)
def jFr (wi:TI)(g:TG)(tb:TS):TS:=fun D σ H=>wi σ H fun J H1=>∃W:Nat->Nat->St->Hp->Prop,(∃m,W 0 m σ H1)/\∀i m σ H,W i m σ H ->
 (J.stop i H/\D.nx σ H)∨(J.go i H/\∃N:St->Hp->Prop,(∀σ' H',N σ' H'->∃m',m'<m/\W (i+1) m' σ' H')/\∀x H',J.yld i H x H'->g x σ H' fun σ2 H2=>tb {D with nx:=N,ct:=N,bk:=D.nx} σ2 H2)
noncomputable def jmj (fp:List Addr)(h:Heap):List (Addr×Obj):=fp.filterMap fun b=>(h.get? b).map fun o=>(b,o)
theorem jeO (hb:b∈fp)(e:h.get? b=some o):(b,o)∈jmj fp h:=j1c.mpr ⟨b,hb,by rw[e];rfl⟩
theorem jsM (hp:p∈jmj fp h):p.1∈fp/\h.get? p.1=some p.2:=by
 obtain⟨b,hb,e⟩:=j1c.mp hp
 cases q:h.get? b with
 |none=>rw[q]at e;cases e
 |some o=>
  rw[q]at e;have e':(b,o)=p:=j0E e;subst e';exact⟨hb,q⟩
theorem Inv.pinned (I:Inv X pins σ H s)(hf:∀b∈fp,jnz X pins H b)(ho:∀b∈fp,∃o,s.heap.get? b=some o/\∀v,o.data≠.cell v):Inv X (pins++jmj fp s.heap) σ H s:=
 I.pins_of fun p hp=>(j0I.mp hp).elim (fun z=>I.pin p (j0r _ z)) fun z=>by
  obtain⟨hb,e⟩:=jsM z;obtain⟨f0,f1,f2,_⟩:=hf p.1 hb;obtain⟨o,e',d⟩:=ho p.1 hb;rw[e]at e';cases e';exact⟨e,f0,f1,f2,d⟩
theorem Inv.unpinned (I:Inv X (pins++pl) σ H s):Inv X pins σ H s:=I.pins_of fun p hp=>I.pin p (j0r _ (j1q _ hp))
theorem jCS (hp:PassesOwn (model X.prog X.w) X.A X.env X.xe)(hc:X.calm=true)(hi:PI X tg iter wi)(hg:PG X tg g)(hb:PSs X body tb)
  (hs:∀x,foldedSetIterable iter X.env x=pure x:=by intro _;rfl):PS X (.For tg iter body [] pos) (jFr wi g tb):=by
 intro pins s σ H D I h;refine wpAny_For (thn (hi pins s σ H _ I h) fun v s1 h1=>thn h1 fun itv s2 h2=>?_) hs;obtain⟨it,fp,tn,J,H2,e,I2,T,st2,f2,W,⟨m0,w0⟩,turn⟩:=h2;subst e;have stat:∀{H':Hp},(∀b∈fp,H' b=none)->∀b∈fp,jnz X pins H' b:=fun hn b hb=>⟨hn b hb,(f2 b hb).2⟩;refine codeAny_forLoop_any (fun n s'=>∃i σ' H',Inv X pins σ' H' s'/\tn i s'.heap/\(∀b∈fp,H' b=none)/\W i n σ' H') ?_ m0 ⟨0,σ,H2,I2,st2,fun b hb=>(f2 b hb).1,w0⟩;rintro n s3 ⟨i,σ3,H3,I3,st3,fr3,w3⟩;rcases turn i n σ3 H3 w3 with⟨stop,qn⟩|⟨go,N,hN,step⟩
 ·refine wpAny_passesOwn hp (thn (T.done X rfl rfl rfl hc i pins s3 σ3 H3 X.xe I3 (stat fr3) st3 stop) fun r s4 ⟨hr,I4⟩=>?_);subst hr;exact wpAny_execs_nil ⟨σ3,H3,I4,qn⟩
 ·refine wpAny_passesOwn hp (thn (T.item X rfl rfl rfl hc i pins s3 σ3 H3 X.xe I3 (stat fr3) st3 go) fun r s4 ⟨u,hr,h4⟩=>?_);subst hr;refine wpAny_passesOwn hp (thn h4 fun _ s5 ⟨x,H5,I5,r5,y5,st5,fr5⟩=>?_);have I5':=I5.pinned (stat fr5) (T.obj _ _ st5);refine wpAny_passesOwn hp (thn (hg _ s5 σ3 H5 x u _ I5' r5 (step x H5 y5)) fun _ s6 ⟨σ6,H6,I6,q6⟩=>?_);refine wpAny_passesOwn hp (thn (hb _ s6 σ6 H6 _ I6 q6) fun f s7 q7=>?_);have again:∀{σ7:St} {H7:Hp},Inv X (pins++jmj fp s5.heap) σ7 H7 s7->N σ7 H7->∃m,m<n/\∃i σ' H',Inv X pins σ' H' s7/\tn i s7.heap/\(∀b∈fp,H' b=none)/\W i m σ' H':=fun {σ7 H7} I7 n7=>by
   obtain⟨m',hm,w7⟩:=hN σ7 H7 n7;refine⟨m',hm,i+1,σ7,H7,I7.unpinned,T.keep _ _ _ st5 fun b hb o e=>(I7.pin (b,o) (j0r _ (j0r _ (jeO hb e)))).1,fun b hb=>?_,w7⟩;obtain⟨o,e,d⟩:=T.obj _ _ st5 b hb;exact(I7.pin (b,o) (j0r _ (j0r _ (jeO hb e)))).2.1
  cases f with
  |next=>obtain⟨σ7,H7,I7,n7⟩:=q7;exact again I7 n7
  |cont=>obtain⟨σ7,H7,I7,n7⟩:=q7;exact again I7 n7
  |brk=>obtain⟨σ7,H7,I7,q7⟩:=q7;exact⟨σ7,H7,I7.unpinned,q7⟩
  |ret v=>obtain⟨x7,σ7,H7,I7,r7,q7⟩:=q7;exact⟨x7,σ7,H7,I7.unpinned,r7,q7⟩
end
noncomputable abbrev R2:=V->V->Hp->VK->Prop
def OpR (X:Cx)(f:Value->Value->Sem Value)(r:R2):Prop:=
 ∀(pins:List (Addr×Obj)) (s:Shared) (σ:St) (H:Hp) (x y:V) (v u:Value) (Q:VK),Inv X pins σ H s->jaB x v->jaB y u->r x y H Q ->
  wpAny (model X.prog X.w) X.A (f v u) (EP X pins σ Q) X.xe s
def UnR (X:Cx)(f:Value->Sem Value)(r:V->Hp->VK->Prop):Prop:=
 ∀(pins:List (Addr×Obj)) (s:Shared) (σ:St) (H:Hp) (x:V) (v:Value) (Q:VK),Inv X pins σ H s->jaB x v->r x H Q ->
  wpAny (model X.prog X.w) X.A (f v) (EP X pins σ Q) X.xe s
def jbe (X:Cx)(f:Value)(r:List V->Hp->VK->Prop):Prop:=
 ∀(pins:List (Addr×Obj)) (s:Shared) (σ:St) (H:Hp) (xs:List V) (us:List Value) (Q:VK),Inv X pins σ H s->jaI xs us->r xs H Q ->
  wpAny (model X.prog X.w) X.A (call f us) (EP X pins σ Q) X.xe s
def jE7 (X:Cx)(r:V->Hp->(Bool->Hp->Prop)->Prop):Prop:=
 ∀(pins:List (Addr×Obj)) (s:Shared) (σ:St) (H:Hp) (x:V) (v:Value) (Q:Bool->Hp->Prop),Inv X pins σ H s->jaB x v->r x H Q ->
  wpAny (model X.prog X.w) X.A (truthy v) (TP X pins σ Q) X.xe s
def tOp (r:R2)(ta tb:TE):TE:=fun σ H Q=>ta σ H fun x H1=>tb σ H1 fun y H2=>r x y H2 Q
def tUn (r:V->Hp->VK->Prop)(ta:TE):TE:=fun σ H Q=>ta σ H fun x H1=>r x H1 Q
def rI (C:Int->Int->Prop)(g:Int->Int->V):R2:=fun x y H Q=>∃i j,x=.int i/\y=.int j/\C i j/\Q (g i j) H
def rI0 (g:Int->Int->V):R2:=fun x y H Q=>∃i j,x=.int i/\y=.int j/\Q (g i j) H
noncomputable def rU (g:Int->V):V->Hp->VK->Prop:=fun x H Q=>∃i,x=.int i/\Q (g i) H
section
variable {X:Cx} {a b c:Expr} {ta tb tc:TE} {pos:Pos}
theorem jD7 (ha:PE X a ta)(hb:PE X b tb){pins:List (Addr×Obj)}{s:Shared}{σ:St}{H:Hp}{R:V->V->Hp->Prop}(I:Inv X pins σ H s)
  (h:ta σ H fun x H1=>tb σ H1 fun y H2=>R x y H2) {Q:Value->Shared->Prop} {f:Value->Value->Sem Value}
  (hf:∀v u s2 x y H2,Inv X pins σ H2 s2->jaB x v->jaB y u->R x y H2->wpAny (model X.prog X.w) X.A (f v u) Q X.xe s2) :
  wpAny (model X.prog X.w) X.A (eval a X.env) (fun v s₁=>wpAny (model X.prog X.w) X.A (eval b X.env) (fun u s₂=>wpAny (model X.prog X.w) X.A (f v u) Q X.xe s₂) X.xe s₁) X.xe s:=by
 refine thn (ha pins s σ H _ I h) fun v s1 ⟨x,H1,I1,r1,q1⟩=>?_;refine thn (hb pins s1 σ H1 _ I1 q1) fun u s2 ⟨y,H2,I2,r2,q2⟩=>?_;exact hf v u s2 x y H2 I2 r1 r2 q2
theorem jDP (ho:OpR X (binaryOp op) r)(ha:PE X a ta)(hb:PE X b tb):PE X (.BinOp a op b pos) (tOp r ta tb):=by
 intro pins s σ H Q I h;exact wpAny_BinOp (jD7 ha hb I h fun v u s2 x y H2 I2 rx ry q=>ho pins s2 σ H2 x y v u Q I2 rx ry q)
theorem jEc (ho:UnR X (unaryOp op) r)(ha:PE X a ta):PE X (.UnaryOp op a pos) (tUn r ta):=by
 intro pins s σ H Q I h;exact UnaryOp_ (thn (ha pins s σ H _ I h) fun v s1 ⟨x,H1,I1,r1,q1⟩=>ho pins s1 σ H1 x v Q I1 r1 q1)
theorem opI {f:Value->Value->Sem Value}{C:Int->Int->Prop}{g:Int->Int->Int}
  (rule:∀(i j:Int) (t u:Tok) (s:Shared) (Q:Value->Shared->Prop) (E:Value->Shared->Prop),C i j->Q (.int (g i j) s.toks) {s with toks:=s.toks+1}->wpAny (model X.prog X.w) X.A (f (.int i t) (.int j u)) Q E s) :
  OpR X f (rI C fun i j=>.int (g i j)):=by
 intro pins s σ H x y v u Q I rx ry h;obtain⟨i,j,rfl,rfl,hc,q⟩:=h;obtain⟨t,rfl⟩:=rx;obtain⟨t',rfl⟩:=ry;exact rule i j t t' s _ _ hc ⟨.int (g i j),H,I.tok _,⟨_,rfl⟩,q⟩
theorem jES {f:Value->Value->Sem Value}{g:Int->Int->Int}
  (rule:∀(i j:Int) (t u:Tok) (s:Shared) (Q:Value->Shared->Prop) (E:Value->Shared->Prop),Q (.int (g i j) s.toks) {s with toks:=s.toks+1}->wpAny (model X.prog X.w) X.A (f (.int i t) (.int j u)) Q E s) :
  OpR X f (rI0 fun i j=>.int (g i j)):=by
 intro pins s σ H x y v u Q I rx ry h;obtain⟨i,j,rfl,rfl,q⟩:=h;obtain⟨t,rfl⟩:=rx;obtain⟨t',rfl⟩:=ry;exact rule i j t t' s _ _ ⟨.int (g i j),H,I.tok _,⟨_,rfl⟩,q⟩
theorem jC5 {f:Value->Value->Sem Value}{g:Int->Int->Bool}
  (rule:∀(i j:Int) (t u:Tok) (s:Shared) (Q:Value->Shared->Prop) (E:Value->Shared->Prop),Q (.bool (g i j)) s->wpAny (model X.prog X.w) X.A (f (.int i t) (.int j u)) Q E s) :
  OpR X f (rI0 fun i j=>.bl (g i j)):=by
 intro pins s σ H x y v u Q I rx ry h;obtain⟨i,j,rfl,rfl,q⟩:=h;obtain⟨t,rfl⟩:=rx;obtain⟨t',rfl⟩:=ry;exact rule i j t t' s _ _ ⟨.bl (g i j),H,I,rfl,q⟩
def jFp (i j:Int):Prop:=0<=j/\j<=1000000/\i.natAbs<2 ^ 64
def jC8 (i j:Int):Prop:=(-(2 ^ 64)<i/\i<2 ^ 64)∨(-(2 ^ 64)<j/\j<2 ^ 64)
theorem jC8.ok (h:jC8 i j):IntMulOk i j:=by
 rcases h with⟨h1,h2⟩|⟨h1,h2⟩
 ·exact .of_left (intBits_le_64 h1 h2)
 ·exact .of_right (intBits_le_64 h1 h2)
theorem jCg:OpR X (binaryOp .Add) (rI0 fun i j=>.int (i+j)):=jES fun _ _ _ _ _ _ _ q=>add_int q
theorem jCV:OpR X (binaryOp .Sub) (rI0 fun i j=>.int (i - j)):=jES fun _ _ _ _ _ _ _ q=>sub_int q
theorem jBO:OpR X (binaryOp .Mult) (rI jC8 fun i j=>.int (i*j)):=opI fun _ _ _ _ _ _ _ hc q=>mul_int q hc.ok
theorem jCf:OpR X (binaryOp .Mod) (rI (fun _ j=>0<j) fun i j=>.int (i % j)):=opI fun i j _ _ _ _ _ hc q=>by
 have h1:(0:Int)<j:=hc;exact mod_int' (by omega) (by rw[Int.fmod_eq_emod_of_nonneg i (by omega)];exact q)
theorem jCO:OpR X (binaryOp .Pow) (rI jFp fun i j=>.int (i ^ j.toNat)):=opI fun _ _ _ _ _ _ _ hc q=>pow_int_small hc.1 hc.2.1 hc.2.2 q
theorem unI {f:Value->Sem Value}{g:Int->Int}
  (rule:∀(i:Int) (t:Tok) (s:Shared) (Q:Value->Shared->Prop) (E:Value->Shared->Prop),Q (.int (g i) s.toks) {s with toks:=s.toks+1}->wpAny (model X.prog X.w) X.A (f (.int i t)) Q E s) :
  UnR X f (rU fun i=>.int (g i)):=by
 intro pins s σ H x v Q I rx h;obtain⟨i,rfl,q⟩:=h;obtain⟨t,rfl⟩:=rx;exact rule i t s _ _ ⟨.int (g i),H,I.tok _,⟨_,rfl⟩,q⟩
theorem jAY:UnR X (unaryOp .USub) (rU fun i=>.int (-i)):=unI fun _ _ _ _ _ q=>neg_int q
end
noncomputable def jDi:V->V->Bool
 |.non,.non=>true|.non,.int _=>true|.int _,.non=>true|.non,.bl _=>true|.bl _,.non=>true|.non,.str _=>true|.str _,.non=>true
 |.int _,.int _=>true|.bl _,.bl _=>true|.str _,.str _=>true|.byt _,.byt _=>true
 |.int _,.str _=>true|.str _,.int _=>true|.bl _,.str _=>true|.str _,.bl _=>true
 |_,_=>false
def rEq:R2:=fun x y H Q=>jDi x y=true/\Q (.bl (decide (x=y))) H
def rNe:R2:=fun x y H Q=>jDi x y=true/\Q (.bl (!decide (x=y))) H
theorem jqr:decide (V.int i=V.int j)=(i==j):=by
 rw[j1a];simp
theorem jvN:decide (V.bl i=V.bl j)=(i==j):=by
 rw[j1a];simp
theorem jsO:decide (V.str i=V.str j)=(i==j):=by
 rw[j1a];simp
theorem jqW:decide (V.byt i=V.byt j)=(i.toList==j.toList):=by
 rw[j1a];cases i;cases j;simp
section
variable {X:Cx} {a b c:Expr} {ta tb tc:TE} {pos:Pos}
theorem jaA (I:Inv X pins σ H s)(q:Q (.bl k) H)(e:k=k'):EP X pins σ Q (.bool k') s:=by
 subst e;exact⟨.bl k,H,I,rfl,q⟩
theorem jDI:OpR X (compareOp .Eq) rEq:=by
 intro pins s σ H x y v u Q I rx ry h;obtain⟨hs,q⟩:=h
 cases x with
 |non=>
  cases rx
  cases y with
  |non=>cases ry;exact PySem.EqNone.eq_none_none (jaA I q (by simp))
  |bl j=>cases ry;exact PySem.EqNone.eq_none_bool (jaA I q (by simp))
  |int j=>obtain⟨t',rfl⟩:=ry;exact PySem.EqNone.eq_none_int (jaA I q (by simp))
  |str j=>obtain⟨t',rfl⟩:=ry;exact PySem.EqNone.eq_none_str (jaA I q (by simp))
  |_=>exact absurd (show false=true from hs) j0e
 |bl i=>
  cases rx
  cases y with
  |non=>cases ry;exact PySem.EqNone.eq_bool_none (jaA I q (by simp))
  |bl j=>cases ry;exact eq_bool (jaA I q jvN)
  |str j=>obtain⟨t',rfl⟩:=ry;exact PySem.EqMixed.eq_bool_str (jaA I q (by simp))
  |_=>exact absurd (show false=true from hs) j0e
 |int i=>
  obtain⟨t,rfl⟩:=rx
  cases y with
  |non=>cases ry;exact PySem.EqNone.eq_int_none (jaA I q (by simp))
  |int j=>obtain⟨t',rfl⟩:=ry;exact eq_int (jaA I q jqr)
  |str j=>obtain⟨t',rfl⟩:=ry;exact PySem.EqMixed.eq_int_str (jaA I q (by simp))
  |_=>exact absurd (show false=true from hs) j0e
 |str i=>
  obtain⟨t,rfl⟩:=rx
  cases y with
  |non=>cases ry;exact PySem.EqNone.eq_str_none (jaA I q (by simp))
  |bl j=>cases ry;exact PySem.EqMixed.eq_str_bool (jaA I q (by simp))
  |int j=>obtain⟨t',rfl⟩:=ry;exact PySem.EqMixed.eq_str_int (jaA I q (by simp))
  |str j=>obtain⟨t',rfl⟩:=ry;exact eq_str (jaA I q jsO)
  |_=>exact absurd (show false=true from hs) j0e
 |byt i=>
  obtain⟨t,rfl⟩:=rx
  cases y with
  |byt j=>obtain⟨t',rfl⟩:=ry;exact PySem.W.eq_bytes (jaA I q jqW)
  |_=>exact absurd (show false=true from hs) j0e
 |_=>cases y<;>exact absurd (show false=true from hs) j0e
theorem jEj:OpR X (compareOp .NotEq) rNe:=by
 intro pins s σ H x y v u Q I rx ry h;obtain⟨hs,q⟩:=h
 cases x with
 |non=>
  cases rx
  cases y with
  |non=>cases ry;exact PySem.EqNone.ne_none_none (jaA I q (by simp))
  |bl j=>cases ry;exact PySem.EqNone.ne_none_bool (jaA I q (by simp))
  |int j=>obtain⟨t',rfl⟩:=ry;exact PySem.EqNone.ne_none_int (jaA I q (by simp))
  |str j=>obtain⟨t',rfl⟩:=ry;exact PySem.EqNone.ne_none_str (jaA I q (by simp))
  |_=>exact absurd (show false=true from hs) j0e
 |bl i=>
  cases rx
  cases y with
  |non=>cases ry;exact PySem.EqNone.ne_bool_none (jaA I q (by simp))
  |bl j=>cases ry;exact ne_bool (jaA I q (congrArg not jvN))
  |str j=>obtain⟨t',rfl⟩:=ry;exact PySem.EqMixed.ne_bool_str (jaA I q (by simp))
  |_=>exact absurd (show false=true from hs) j0e
 |int i=>
  obtain⟨t,rfl⟩:=rx
  cases y with
  |non=>cases ry;exact PySem.EqNone.ne_int_none (jaA I q (by simp))
  |int j=>obtain⟨t',rfl⟩:=ry;exact ne_int (jaA I q (congrArg not jqr))
  |str j=>obtain⟨t',rfl⟩:=ry;exact PySem.EqMixed.ne_int_str (jaA I q (by simp))
  |_=>exact absurd (show false=true from hs) j0e
 |str i=>
  obtain⟨t,rfl⟩:=rx
  cases y with
  |non=>cases ry;exact PySem.EqNone.ne_str_none (jaA I q (by simp))
  |bl j=>cases ry;exact PySem.EqMixed.ne_str_bool (jaA I q (by simp))
  |int j=>obtain⟨t',rfl⟩:=ry;exact PySem.EqMixed.ne_str_int (jaA I q (by simp))
  |str j=>obtain⟨t',rfl⟩:=ry;exact ne_str (jaA I q (congrArg not jsO))
  |_=>exact absurd (show false=true from hs) j0e
 |byt i=>
  obtain⟨t,rfl⟩:=rx
  cases y with
  |byt j=>obtain⟨t',rfl⟩:=ry;exact PySem.W.ne_bytes (jaA I q (congrArg not jqW))
  |_=>exact absurd (show false=true from hs) j0e
 |_=>cases y<;>exact absurd (show false=true from hs) j0e
theorem jDq:OpR X (compareOp .Lt) (rI0 fun i j=>.bl (decide (i<j))):=jC5 fun _ _ _ _ _ _ _ q=>lt_int q
theorem jDn:OpR X (compareOp .LtE) (rI0 fun i j=>.bl (decide (i<=j))):=jC5 fun _ _ _ _ _ _ _ q=>le_int q
theorem jD5:OpR X (compareOp .Gt) (rI0 fun i j=>.bl (decide (j<i))):=jC5 fun _ _ _ _ _ _ _ q=>gt_int q
theorem jD3:OpR X (compareOp .GtE) (rI0 fun i j=>.bl (decide (j<=i))):=jC5 fun _ _ _ _ _ _ _ q=>ge_int q
theorem OpR.or (h:OpR X f r)(h':OpR X f r'):OpR X f (fun x y H Q=>r x y H Q∨r' x y H Q):=by
 intro pins s σ H x y v u Q I rx ry q;rcases q with q|q
 ·exact h pins s σ H x y v u Q I rx ry q
 ·exact h' pins s σ H x y v u Q I rx ry q
theorem jzt (ho:OpR X (compareOp op) r)(ha:PE X a ta)(hb:PE X b tb)(hm:behindInMarks op b=false):PE X (.Compare a [op] [b] pos) (tOp r ta tb):=by
 intro pins s σ H Q I h;exact wpAny_Compare1 (jD7 ha hb I h fun v u s2 x y H2 I2 rx ry q=>ho pins s2 σ H2 x y v u Q I2 rx ry q) hm
def jug (t:TE):TT:=fun σ H Q=>t σ H fun x H'=>∃k,x=.bl k/\Q k H'
theorem jxy (ho:OpR X (compareOp op) r)(ha:PE X a ta)(hb:PE X b tb)(hm:behindInMarks op b=false):PT X (.Compare a [op] [b] pos) (jug (tOp r ta tb)):=by
 intro pins s σ H Q I h;refine wpAny_isTrue_Compare1 (thn (ha pins s σ H _ I h) fun v s1 ⟨x,H1,I1,r1,q1⟩=>thn (hb pins s1 σ H1 _ I1 q1) fun u s2 ⟨y,H2,I2,r2,q2⟩=>
  thn (ho pins s2 σ H2 x y v u _ I2 r1 r2 q2) fun c s3 ⟨z,H3,I3,r3,k,e,q3⟩=>?_) hm
 subst e;cases r3;exact wpAny_truthy_bool ⟨H3,I3,q3⟩
def jlR (r r':R2)(ta tb tc:TE):TE:=fun σ H Q=>ta σ H fun x H1=>tb σ H1 fun y H2=>r x y H2 fun z H3=>∃k,z=.bl k /\
 (if k=true then tc σ H3 fun w' H4=>r' y w' H4 Q else Q (.bl false) H3)
theorem juE (ho:OpR X (compareOp op) r)(ho':OpR X (compareOp op') r')(ha:PE X a ta)(hb:PE X b tb)(hc:PE X c tc)
  (hm:lastMarks [op,op'] [b,c]=false:=by with_unfolding_all rfl):PE X (.Compare a [op,op'] [b,c] pos) (jlR r r' ta tb tc):=by
 intro pins s σ H Q I h;refine Compare_chain (thn (ha pins s σ H _ I h) fun v s1 ⟨x,H1,I1,r1,q1⟩=>chain_link (thn (hb pins s1 σ H1 _ I1 q1) fun u s2 ⟨y,H2,I2,r2,q2⟩=>
  thn (ho pins s2 σ H2 x y v u _ I2 r1 r2 q2) fun d s3 ⟨z,H3,I3,r3,k,e,q3⟩=>?_)) hm
 subst e;cases r3;refine wpAny_truthy_bool ?_
 cases k with
 |false=>exact ite_ff ⟨.bl false,H3,I3,rfl,q3⟩
 |true=>exact ite_tt (chain_last (thn (hc pins s3 σ H3 _ I3 q3) fun w' s4 ⟨z',H4,I4,r4,q4⟩=>ho' pins s4 σ H4 y z' u w' Q I4 r2 r4 q4))
theorem ju0 (ho:OpR X (compareOp op) r)(ho':OpR X (compareOp op') r')(ha:PE X a ta)(hb:PE X b tb)(hc:PE X c tc)
  (hm:lastMarks [op,op'] [b,c]=false:=by with_unfolding_all rfl):PT X (.Compare a [op,op'] [b,c] pos) (jug (jlR r r' ta tb tc)):=by
 intro pins s σ H Q I h;refine isTrue_chain (thn (ha pins s σ H _ I h) fun v s1 ⟨x,H1,I1,r1,q1⟩=>test_link (thn (hb pins s1 σ H1 _ I1 q1) fun u s2 ⟨y,H2,I2,r2,q2⟩=>
  thn (ho pins s2 σ H2 x y v u _ I2 r1 r2 q2) fun d s3 ⟨z,H3,I3,r3,k,e,q3⟩=>?_)) hm
 subst e;cases r3;refine wpAny_truthy_bool ?_
 cases k with
 |false=>
  obtain⟨k',e',q'⟩:=q3;cases e';exact ite_ff ⟨H3,I3,q'⟩
 |true=>
  refine ite_tt (test_last (thn (hc pins s3 σ H3 _ I3 q3) fun w' s4 ⟨z',H4,I4,r4,q4⟩=>thn (ho' pins s4 σ H4 y z' u w' _ I4 r2 r4 q4) fun d' s5 ⟨z2,H5,I5,r5,k2,e2,q5⟩=>?_));subst e2;cases r5;exact wpAny_truthy_bool ⟨H5,I5,q5⟩
def jAx (K:PySem.W.Frag)(x:V)(H:Hp)(k:Bool):Prop:=
 match x with
 |.non=>k=false
 |.bl b=>k=b
 |.int i=>k=(i !=0)
 |.str y=>y.length<=sizeLine/\k=((y.length:Int) !=0)
 |.byt y=>y.size<=sizeLine/\k=((y.size:Int) !=0)
 |.ref p=>(∃xs,SqL K H p xs/\k =!xs.isEmpty)∨(∃xs,SqT K H p xs/\k =!xs.isEmpty)∨∃kvs,H p=some (.dK kvs)/\k =!kvs.isEmpty
 |_=>False
theorem jpe (r:KV kvs vs):(!vs.isEmpty) =!kvs.isEmpty:=by
 cases r<;>rfl
theorem jk (r:jaI xs its):(!its.toArray.isEmpty) =!xs.isEmpty:=by
 cases r<;>simp
theorem jjU:(sizeLine:Nat)<2 ^ 63:=by rw[sizeLine_eq];decide
theorem jzO:jE7 X (fun x H Q=>∃k,jAx X.K x H k/\Q k H):=by
 intro pins s σ H x v Q I rx h;obtain⟨k,e,q⟩:=h;have hl:=jjU;have hs:sizeLine=16777216:=sizeLine_eq
 cases x with
 |non=>
  cases rx;have e':k=false:=e;subst e';exact truthy_none ⟨H,I,q⟩
 |bl b=>
  cases rx;have e':k=b:=e;subst e';exact wpAny_truthy_bool ⟨H,I,q⟩
 |int i=>
  obtain⟨t,rfl⟩:=rx;have e':k=(i !=0):=e;subst e';exact PySem.P.truthy_int ⟨H,I,q⟩
 |str y=>
  obtain⟨t,rfl⟩:=rx;obtain⟨hy,e'⟩:y.length<=sizeLine/\k=((y.length:Int) !=0):=e;subst e';exact PySem.P.truthy_str (by omega) ⟨H,I.tok _,q⟩
 |byt y=>
  obtain⟨t,rfl⟩:=rx;obtain⟨hy,e'⟩:y.size<=sizeLine/\k=((y.size:Int) !=0):=e;subst e';exact PySem.W.truthy_bytes (by omega) ⟨H,I.tok _,q⟩
 |ref p=>
  cases rx;have e':(∃xs,SqL X.K H p xs/\k =!xs.isEmpty)∨(∃xs,SqT X.K H p xs/\k =!xs.isEmpty)∨∃kvs,H p=some (.dK kvs)/\k =!kvs.isEmpty:=e;rcases e' with⟨xs,hx,e'⟩|⟨xs,hx,e'⟩|⟨kvs,hx,e'⟩
  ·subst e';obtain⟨its,r,pl,hz⟩:=I.list hx;have hlen:=r.length;exact wpAny_truthy_list pl.isList (by simp only[j0h];omega) ⟨H,I.tok _,by rw[jk r];exact q⟩
  ·subst e';obtain⟨its,r,pl,hz⟩:=I.tuple hx;have hlen:=r.length;exact truthy_tuple pl (by simp only[j0h];omega) ⟨H,I.tok _,by rw[jk r];exact q⟩
  ·subst e';obtain⟨hz,hS,vs,r,m⟩:kvs.length<=sizeLine/\(p==sysModules)=false/\∃vs,KV kvs vs/\s.heap.DictOf (jal X.prog X.w) p vs:=I.hok p _ hx;have hlen:kvs.length=vs.length:=Paired.length r;exact wpAny_truthy_dict hS m (by omega) ⟨H,I.tok _,by rw[jpe r];exact q⟩
 |_=>exact(show False from e).elim
theorem juG (ha:PE X a ta)(he:∀whole,isTrue a X.env whole=(do let v <- whole;standAt a.pos;holding [v] (truthy v))) :
  PT X a (fun σ H Q=>ta σ H fun x H'=>∃k,jAx X.K x H' k/\Q k H'):=by
 intro pins s σ H Q I h;exact isTrue_plain (thn (ha pins s σ H _ I h) fun v s1 ⟨x,H1,I1,r1,q1⟩=>jzO pins s1 σ H1 x v Q I1 r1 q1) (he _)
theorem jpS:OpR X (binaryOp .Add) (fun x y H Q=>∃i j,x=.str i/\y=.str j/\i.length+j.length<=sizeLine/\Q (.str (i++j)) H):=by
 intro pins s σ H x y v u Q I rx ry h;obtain⟨i,j,rfl,rfl,hz,q⟩:=h;obtain⟨t,rfl⟩:=rx;obtain⟨t',rfl⟩:=ry;exact add_str (fun t' tk=>⟨.str (i++j),H,I.tok _,⟨_,rfl⟩,q⟩) hz
theorem jiZ (r:jaI [x] us):∃u,us=[u]/\jaB x u:=by
 cases r with
 |cons r1 r2=>cases r2;exact⟨_,rfl,r1⟩
theorem jAE (r:jaI [x,y] us):∃u w',us=[u,w']/\jaB x u/\jaB y w':=by
 cases r with
 |cons r1 r2=>
  cases r2 with
  |cons r3 r4=>cases r4;exact⟨_,_,rfl,r1,r3⟩
theorem jqv (hc:X.calm=true):jbe X (.builtin "max") (fun xs H Q=>∃i j,xs=[.int i,.int j]/\Q (.int (if j > i then j else i)) H):=by
 intro pins s σ H xs us Q I r h;obtain⟨i,j,rfl,q⟩:=h;obtain⟨u,w',rfl,⟨t,rfl⟩,⟨t',rfl⟩⟩:=jAE r;refine max_two_ints (I.ok.hd hc) fun h' tk k=>⟨_,H,I.kept k,?_,q⟩;by_cases hj:j > i
 ·rw[if_pos hj,if_pos hj];exact⟨_,rfl⟩
 ·rw[if_neg hj,if_neg hj];exact⟨_,rfl⟩
theorem jrx (hc:X.calm=true):jbe X (.builtin "min") (fun xs H Q=>∃i j,xs=[.int i,.int j]/\Q (.int (if j<i then j else i)) H):=by
 intro pins s σ H xs us Q I r h;obtain⟨i,j,rfl,q⟩:=h;obtain⟨u,w',rfl,⟨t,rfl⟩,⟨t',rfl⟩⟩:=jAE r;refine min_two_ints (I.ok.hd hc) fun h' tk k=>⟨_,H,I.kept k,?_,q⟩;by_cases hj:j<i
 ·rw[if_pos hj,if_pos hj];exact⟨_,rfl⟩
 ·rw[if_neg hj,if_neg hj];exact⟨_,rfl⟩
end
structure ObjM (h:Heap) (x dx C:Addr) (mA:Str->Option Value):Prop where
 obj:h.get? x=some (PySem.W.instObj C dx)
 ns:h.Ns1 dx mA
 ne:dx≠x
theorem jqo {h:Heap}{dx:Addr}{mA:Str->Option Value}(n:h.Ns1 dx mA):∃od,h.get? dx=some od/\∀name,PySem.W.lookIn name od=some (mA name):=by
 obtain⟨o,es,ep,ho,hd,hk,_,hm⟩:=n;refine⟨o,ho,fun name=>?_⟩;have e:=hm name;unfold nsFind findBy at e;rw[<- Array.find?_toList]at e;unfold PySem.W.lookIn;rw[hd];dsimp only;split
 ·rename_i y q;rw[q]at e;exact congrArg some e
 ·rename_i q;rw[q]at e;have a:es.toList.any (·.refKey)=false:=by
   rw[List.any_eq_false];intro y hy;obtain⟨z,t,hkey⟩:=hk y (Array.mem_toList_iff.mp hy);simp[DictEntry.refKey,hkey]
  have a':¬ es.toList.any (·.refKey)=true:=by rw[a];exact j0e
  rw[if_neg a'];exact congrArg some e
theorem ObjM.look (I:ObjM h x dx C mA):∃od,PySem.W.InstAt h x (PySem.W.instObj C dx) C (some od)/\∀name,PySem.W.lookIn name od=some (mA name):=
 let⟨od,ho,hl⟩:=jqo I.ns
 ⟨od,⟨I.obj,rfl,rfl,ho⟩,hl⟩
section
variable {prog:Program} {w:World} {A:Around} {E:Value->Shared->Prop} {s:Shared} {K:PySem.W.Frag} {x dx C f:Addr} {mA:Str->Option Value} {name:Str} {v:Value}
theorem jxp (X:K.In s.heap)(I:ObjM s.heap x dx C mA)(hg:PySem.W.plainGet K C name=true)(hh:PySem.W.hasDictIn K C=true)
  (ha:PySem.W.findIn K (.ref C) name=some none) (hv:mA name=some v) (hv':PySem.W.handedIn v=true) (h:Q v {s with toks:=s.toks+1}) :
  wpAny (model prog w) A (getAttr (.ref x) name expr) Q E s:=by
 obtain⟨od,J,hl⟩:=I.look;exact PySem.W.get_value X J (PySem.W.plainGet_of hg).1 (PySem.W.findObj_own hh ha rfl (by rw[hl,hv])) hv' h
theorem jyf (X:K.In s.heap)(I:ObjM s.heap x dx C mA)
  (hs:PySem.W.findIn K (.ref C) "__setattr__" =some (some (.builtin "object.__setattr__"))) (hp:PySem.W.plainOver K C=true) (ht:PySem.W.takerIn K C name=some none) (hh:PySem.W.hasDictIn K C=true)
  (hw:PySem.Within mA ns) (hsz:ns.length<=sizeLine)
  (h:∀h',ObjM h' x dx C (fun y=>if y=name then some v else mA y)->Heap.SameBut dx s.heap h'->Q () {s with heap:=h',toks:=s.toks+2}) :
  wpAny (model prog w) A (setAttr (.ref x) name v) Q E s:=by
 obtain⟨od,J,hl⟩:=I.look;refine PySem.W.set_plain X J hs (PySem.W.osa_open (s:={s with toks:=s.toks+1}) (r:=none) X J hp ht fun b=>?_);obtain⟨cd,hc,hd'⟩:=PySem.W.any_some hh;have hx:s.heap.get? x=some ⟨.ref C,some dx,.plain,#[]⟩:=I.obj;refine wpAny_bind (wpAny_pure (wpAny_bind (wpAny_bind (wpAny_loadPart hx (wpAny_bind (PySem.W.Looks.here (s:={s with toks:=s.toks+1}) (PySem.W.looks_clsIn X hc) ?_))))));rw[hd'];refine wpAny_pure (a:=some dx) (wpAny_bind (wpAny_pure (wpAny_bind ?_)));refine wpAny_nsSet1 (s:={s with toks:=s.toks+1}) I.ns fun h' hn2 hs2=>?_;obtain⟨oD,esD,epD,hoD,hdD,hcD⟩:=hn2.count (PySem.Within.cons name v hw);refine wpAny_bind (wpAny_lookBehind hoD (by rw[hdD];exact pastItsLine_dict (j0A hcD (by rw[j0j];omega))) ?_);exact wpAny_pure (h _ ⟨(hs2.2 _ (Ne.symm I.ne)).trans I.obj,hn2,I.ne⟩ hs2)
theorem jtC (X:K.In s.heap)(hm:PySem.W.makesIn K C=true)
  (hi:PySem.W.findIn K (.ref C) "__init__" =some (some (.ref f))) (hf:PySem.W.typeIn K (.ref f)=some (.type "function"))
  (h:codeAny (model prog w) (A.under (.builtin "type.__call__" ⟨.ref C::vs,kw⟩)) (.call (.ref f) ⟨.ref (s.heap.objs.size+1)::vs,kw⟩) (PySem.W.InitBack (s.heap.objs.size+1) R)
   {s with heap:=(s.heap.push PySem.W.emptyDict).push (PySem.W.instObj C s.heap.objs.size)}) :
  codeAny (model prog w) A (.call (.ref C) ⟨vs,kw⟩) R s:=by
 obtain⟨hh,g,d,t,os⟩:=s;exact PySem.W.make_core (PySem.W.makes_of X hm) (PySem.W.looks_findIn X hi) (fun self=>PySem.W.bind_fn X self hf) (.inl rfl) h
end
noncomputable def jk0 (f:Str)(v:V):List (Str×V)->List (Str×V)
 |[]=>[(f,v)]
 |(g,x)::r=>if g=f then(g,v)::r else(g,x)::jk0 f v r
theorem jin (f g:Str)(v:V):∀fs:List (Str×V),(jk0 f v fs).lookup g=if g=f then some v else fs.lookup g
 |[]=>by
  show List.lookup g [(f,v)]=_;by_cases h:g=f
  ·have hb:(g==f)=true:=beq_iff_eq.mpr h;simp only[List.lookup,hb,if_pos h]
  ·have hb:(g==f)=false:=beq_eq_false_iff_ne.mpr h;simp only[List.lookup,hb,if_neg h]
 |(k,x)::r=>by
  have ih:=jin f g v r;rw[show jk0 f v ((k,x)::r)=(if k=f then(k,v)::r else(k,x)::jk0 f v r)from rfl];by_cases hk:k=f
  ·rw[if_pos hk];by_cases h:g=k
   ·have hb:(g==k)=true:=beq_iff_eq.mpr h;simp only[List.lookup,hb,if_pos (h.trans hk)]
   ·have hb:(g==k)=false:=beq_eq_false_iff_ne.mpr h;simp only[List.lookup,hb,if_neg (fun e:g=f=>h (e.trans hk.symm))]
  ·rw[if_neg hk];by_cases h:g=k
   ·have hb:(g==k)=true:=beq_iff_eq.mpr h;simp only[List.lookup,hb,if_neg (fun e:g=f=>hk (h.symm.trans e))]
   ·have hb:(g==k)=false:=beq_eq_false_iff_ne.mpr h;simp only[List.lookup,hb];exact ih
theorem ji3 (f:Str)(v:V):∀fs:List (Str×V),f∈(jk0 f v fs).map (·.1)/\∀g,g∈fs.map (·.1)->g∈(jk0 f v fs).map (·.1)
 |[]=>⟨by simp[jk0],fun g h=>by simp at h⟩
 |(k,x)::r=>by
  obtain⟨i1,i2⟩:=ji3 f v r;rw[show jk0 f v ((k,x)::r)=(if k=f then(k,v)::r else(k,x)::jk0 f v r)from rfl];by_cases hk:k=f
  ·rw[if_pos hk];subst hk;exact⟨by simp,fun g h=>by simpa using h⟩
  ·rw[if_neg hk];refine⟨?_,fun g h=>?_⟩
   ·rw[j0c];exact j0p _ i1
   ·rw[j0c]at h ⊢;rcases j0q.mp h with e|e
    ·exact j0q.mpr (.inl e)
    ·exact j0p _ (i2 g e)
theorem jh2 (f:Str)(v:V):∀fs:List (Str×V),(jk0 f v fs).length<=fs.length+1
 |[]=>by simp[jk0]
 |(k,x)::r=>by
  have ih:=jh2 f v r;rw[show jk0 f v ((k,x)::r)=(if k=f then(k,v)::r else(k,x)::jk0 f v r)from rfl];by_cases hk:k=f
  ·rw[if_pos hk,j0j,j0j];omega
  ·rw[if_neg hk,j0j,j0j];omega
theorem jlB.some_of (r:jlB (some v) o):∃u,o=some u/\jaB v u:=by
 cases o with
 |none=>exact(show False from r).elim
 |some u=>exact⟨u,rfl,r⟩
theorem jrY (r:jaB v u):PySem.W.handedIn u=true:=by
 cases v with
 |non=>cases(show u=Value.none from r);rfl
 |bl b=>cases(show u=Value.bool b from r);rfl
 |int i=>obtain⟨t,e⟩:=(show ∃t,u=Value.int i t from r);cases e;rfl
 |str x=>obtain⟨t,e⟩:=(show ∃t,u=Value.str x t from r);cases e;rfl
 |byt b=>obtain⟨t,e⟩:=(show ∃t,u=Value.bytes b t from r);cases e;rfl
 |flt b=>obtain⟨t,e⟩:=(show ∃t,u=Value.float b t from r);cases e;rfl
 |ref a=>cases(show u=Value.ref a from r);rfl
 |ty n=>cases(show u=Value.type n from r);rfl
section
variable {P:Program} {w:World} {H H':Hp} {h h':Heap} {a C dx:Addr} {fs fs':List (Str×V)}
theorem jnx (hok:HOk P w H h)(e:H a=some (.ins C dx fs)):∃mA,ObjM h a dx C mA/\(∀f,jlB (fs.lookup f) (mA f))/\PySem.Within mA (fs.map (·.1))/\fs.length<=1000/\H dx=some (.own a):=by
 obtain⟨d,z,ne,ob,mA,n,r,q⟩:=(show jaS P w H h a (.ins C dx fs)from hok a _ e);exact⟨mA,⟨ob,n,ne⟩,r,q,z,d⟩
end
structure Cls (K:PySem.W.Frag) (C:Addr):Prop where
 pg:PySem.W.plainGet K C Str.empty=true
 hd:PySem.W.hasDictIn K C=true
 po:PySem.W.plainOver K C=true
 sa:PySem.W.findIn K (.ref C) "__setattr__" =some (some (.builtin "object.__setattr__"))
theorem Cls.get {K:PySem.W.Frag}{C:Addr}(c:Cls K C)(f:Str):PySem.W.plainGet K C f=true:=c.pg
def jhb (K:PySem.W.Frag)(C:Addr)(f:Str):Prop:=PySem.W.findIn K (.ref C) f=some none
theorem jhb.taker {K:PySem.W.Frag}{C:Addr}{f:Str}(n:jhb K C f):PySem.W.takerIn K C f=some none:=by
 unfold PySem.W.takerIn;rw[show PySem.W.findIn K (.ref C) f=some none from n];rfl
structure Con (K:PySem.W.Frag) (C:Addr) (f:Str) (v:V) (u:Value):Prop where
 at_:PySem.W.findIn K (.ref C) f=some (some u)
 rel:jaB v u
 get:PySem.W.specialIn K u "__get__" =some none
 cp:PySem.W.copiedNames.contains f=false
structure Meth (K:PySem.W.Frag) (C:Addr) (m:Str) (f:Addr):Prop where
 at_:PySem.W.findIn K (.ref C) m=some (some (.ref f))
 fn:PySem.W.isFn K (.ref f)=true
 kp:PySem.W.keepIn K (.ref f)=true
section
variable {X:Cx} {pins:List (Addr×Obj)} {σ:St} {H:Hp} {s:Shared} {a C dx:Addr} {fs:List (Str×V)} {f:Str} {v:V} {A:Around} {E:Value->Shared->Prop}
theorem jp4 (I:Inv X pins σ H s)(e:H a=some (.ins C dx fs))(c:Cls X.K C)(n:jhb X.K C f)(l:fs.lookup f=some v)
  (h:∀u s',Inv X pins σ H s'->jaB v u->Q u s'):wpAny (model X.prog X.w) A (getAttr (.ref a) f b) Q E s:=by
 obtain⟨mA,O,r,_,_,_⟩:=jnx I.hok e;obtain⟨u,hu,ru⟩:=jlB.some_of (v:=v) (o:=mA f) (by rw[<- l];exact r f);exact jxp I.kIn O (c.get f) c.hd n hu (jrY ru) (h u _ (I.tok _) ru)
theorem jpW (I:Inv X pins σ H s)(e:H a=some (.ins C dx fs))(c:Cls X.K C)(n:jhb X.K C f)(hl:fs.length<1000)(ry:jaB y u)
  (h:∀s',Inv X pins σ (upd H a (.ins C dx (jk0 f y fs))) s'->Q () s'):wpAny (model X.prog X.w) A (setAttr (.ref a) f u) Q E s:=by
 obtain⟨mA,O,r,wi,_,ho⟩:=jnx I.hok e;have hz:(fs.map (·.1)).length<=sizeLine:=by rw[j0d,sizeLine_eq];omega
 refine jyf I.kIn O c.sa c.po n.taker c.hd wi hz fun h' O' sb=>h _ ?_;have hd:∃o,h'.get? dx=some o:=let⟨o,_,_,e',_⟩:=O'.ns;⟨o,e'⟩;refine I.write (x:=a) (e:=dx) (by rw[e];exact True.intro) (.inr ho) (fun b q hb z=>(sb.2 b hb).trans z) hd ?_;refine⟨by rw[jae O.ne];exact ho,?_,O.ne,O'.obj,_,O'.ns,fun g=>?_,fun g hg=>?_⟩
 ·have:=jh2 f y fs;omega
 ·show jlB ((jk0 f y fs).lookup g) (if g=f then some u else mA g);rw[jin];by_cases q:g=f
  ·rw[if_pos q,if_pos q];exact ry
  ·rw[if_neg q,if_neg q];exact r g
 ·by_cases q:g=f
  ·rw[q];exact(ji3 f y fs).1
  ·refine(ji3 f y fs).2 g (wi g fun z=>hg ?_);show(if g=f then some u else mA g)=none;rw[if_neg q];exact z
theorem Inv.made (I:Inv X pins σ H s):Inv X pins σ (upd (upd H s.heap.objs.size (.own (s.heap.objs.size+1))) (s.heap.objs.size+1) (.ins C s.heap.objs.size []))
  {s with heap:=(s.heap.push PySem.W.emptyDict).push (PySem.W.instObj C s.heap.objs.size)}:=by
 have e1:(s.heap.push PySem.W.emptyDict).get? s.heap.objs.size=some PySem.W.emptyDict:=j0f s.heap rfl;have e2:((s.heap.push PySem.W.emptyDict).push (PySem.W.instObj C s.heap.objs.size)).get? (s.heap.objs.size+1)=some (PySem.W.instObj C s.heap.objs.size):=by
  have:=j0f (s.heap.push PySem.W.emptyDict) (o:=PySem.W.instObj C s.heap.objs.size) rfl;rwa [j09]at this
 have e3:(s.heap.push PySem.W.emptyDict).Ns s.heap.objs.size (fun _=>none):=⟨PySem.W.emptyDict,#[],_,e1,rfl,(fun e he=>absurd he (by simp)),fun _=>rfl⟩;have I1:=I.laid (a:=s.heap.objs.size) (o:=.own (s.heap.objs.size+1)) (h':=s.heap.push PySem.W.emptyDict) (t':=s.toks) (fun b u q=>j0b _ q) (j0l _) ⟨_,e1⟩;refine I1.laid (a:=s.heap.objs.size+1) (o:=.ins C s.heap.objs.size []) (t':=s.toks) (fun b u q=>j0b _ q) (j1f (j09 _ _)) ?_;have ne:s.heap.objs.size≠s.heap.objs.size+1:=j0k (j0Y _);refine⟨by rw[jae ne,jag],j0J _,ne,e2,fun _=>none,(Heap.Ns1.of_empty e3).at fun o q=>j0b _ q,fun _=>True.intro,fun y hy=>absurd rfl hy⟩
theorem jv3 (hb:attributeBase e f env (eval e env)=eval e env)
  (h:wpAny (model prog w) A (eval e env) (fun o s₁=>wpAny (model prog w) A (getAttr o f true) Q E s₁) E s):wpAny (model prog w) A (eval (.Attribute e f pos) env) Q E s:=
 Attribute_any_ h (by rw[arm_eval_Attribute,hb])
end
def jE3 (K:PySem.W.Frag)(ta:TE)(f:Str):TE:=fun σ H Q=>ta σ H fun x H1=>∃a C dx fs v,x=.ref a/\H1 a=some (.ins C dx fs)/\Cls K C/\jhb K C f/\fs.lookup f=some v/\Q v H1
def jE5 (K:PySem.W.Frag)(ta tv:TE)(f:Str):TS:=fun D σ H=>tv σ H fun y H1=>ta σ H1 fun x H2=>∃a C dx fs,x=.ref a/\H2 a=some (.ins C dx fs)/\Cls K C/\jhb K C f/\fs.length<1000 /\
 D.nx σ (upd H2 a (.ins C dx (jk0 f y fs)))
section
variable {X:Cx} {o e value:Expr} {f:Str} {pos pos' tpos:Pos} {ta tv:TE}
theorem jBP (he:PE X e ta)(hb:attributeBase e f X.env (eval e X.env)=eval e X.env):PE X (.Attribute e f pos) (jE3 X.K ta f):=by
 intro pins s σ H Q I h;refine jv3 hb (thn (he pins s σ H _ I h) fun u s1 ⟨x,H1,I1,rx,a,C,dx,fs,v,ex,ea,c,n,l,q⟩=>?_);subst ex;obtain rfl:u=Value.ref a:=rx;exact jp4 I1 ea c n l fun u' s2 I2 ru=>⟨v,H1,I2,ru,q⟩
theorem jCZ (ha:PE X o ta)(hv:PE X value tv)(hs:swapsWith value (some (.Attribute o f pos')) pos.line X.env=pure false):PS X (.Assign [.Attribute o f pos'] value pos) (jE5 X.K ta tv f):=by
 intro pins s σ H D I h;refine plainObj_wpAny_Assign_Attribute (thn (hv pins s σ H _ I h) fun u s1 ⟨y,H1,I1,ry,q⟩=>thn (ha pins s1 σ H1 _ I1 q) fun ov s2 ⟨x,H2,I2,rx,a,C,dx,fs,ex,ea,c,n,l,q2⟩=>?_) hs;subst ex;obtain rfl:ov=Value.ref a:=rx;exact jpW I2 ea c n l ry fun s3 I3=>⟨σ,_,I3,q2⟩
end
section
variable {X:Cx} {pins:List (Addr×Obj)} {σ:St} {H:Hp} {s:Shared} {A:Around} {E:Value->Shared->Prop} {Q:Value->Shared->Prop} {c:Value} {b:Bool}
inductive TyOf (K:PySem.W.Frag) (H:Hp):V->Value->Prop where
 |non:TyOf K H .non (.type "NoneType")
 |bl (x:Bool):TyOf K H (.bl x) (.type "bool")
 |int (i:Int):TyOf K H (.int i) (.type "int")
 |str (x:Str):TyOf K H (.str x) (.type "str")
 |flt (x:UInt64):TyOf K H (.flt x) (.type "float")
 |lst {a:Addr} {xs:List V} (e:H a=some (.lst xs)):TyOf K H (.ref a) (.type "list")
 |frz {a:Addr} {o:Obj} {xs:List V} (e:H a=some (.frz o (.lst xs))):TyOf K H (.ref a) (.type "list")
 |tup {a:Addr} {xs:List V} (e:H a=some (.tup xs)):TyOf K H (.ref a) (.type "tuple")
 |dK {a:Addr} {kvs:List (Key×V)} (e:H a=some (.dK kvs)):TyOf K H (.ref a) (.type "dict")
 |dT {a:Addr} {kvs:List (List Key×V)} (e:H a=some (.dT kvs)):TyOf K H (.ref a) (.type "dict")
 |ins {a C dx:Addr} {fs:List (Str×V)} (e:H a=some (.ins C dx fs)) (cl:Cls K C) (ha:PySem.W.findIn K (.ref C) "__class__" =some (some (.builtin "object.__class__")))
   (hn:PySem.W.specialIn K (.builtin "object.__class__") "__get__" =some (some (.builtin "getset_descriptor.__get__"))) (htk:PySem.W.takesIn K (.builtin "object.__class__")=some true)
   (hm:PySem.W.mroIn K C (.type "object")=some true):TyOf K H (.ref a) (.ref C)
theorem jgq (I:Inv X pins σ H s)(rx:jaB x u)(ty:TyOf X.K H x t)(e:PySem.W.kitOne X.K t c=some b)(h:∀tk,Q (.bool b) {s with toks:=tk}) :
  wpAny (model X.prog X.w) A (call (.builtin "isinstance") [u,c]) Q E s:=by
 cases ty with
 |non=>cases(show u=Value.none from rx);exact j0M PySem.W.kitx_none I.kIn True.intro e (fun z=>nomatch z) h
 |bl y=>cases(show u=Value.bool y from rx);exact j0M PySem.W.kitx_bool I.kIn True.intro e (fun z=>nomatch z) h
 |int i=>obtain⟨t,q⟩:=(show ∃t,u=Value.int i t from rx);cases q;exact j0M PySem.W.kitx_int I.kIn True.intro e (fun z=>nomatch z) h
 |str y=>obtain⟨t,q⟩:=(show ∃t,u=Value.str y t from rx);cases q;exact j0M PySem.W.kitx_str I.kIn True.intro e (fun z=>nomatch z) h
 |flt y=>obtain⟨t,q⟩:=(show ∃t,u=Value.float y t from rx);cases q;exact j0M PySem.W.kitx_float I.kIn True.intro e (fun z=>nomatch z) h
 | @lst a xs ea=>
  cases(show u=Value.ref a from rx);obtain⟨_,_,n,_,h1⟩:=(show jaS X.prog X.w H s.heap a (.lst xs)from I.hok a _ ea);exact j0M PySem.W.kitx_list I.kIn ⟨_,h1,rfl⟩ e (fun z=>nomatch z) h
 | @frz a ob xs ea=>
  cases(show u=Value.ref a from rx);obtain⟨_,_,_,n,_,h1⟩:=(show jaS X.prog X.w H s.heap a (.frz ob (.lst xs))from I.hok a _ ea);exact j0M PySem.W.kitx_list I.kIn ⟨_,h1,rfl⟩ e (fun z=>nomatch z) h
 | @tup a xs ea=>
  cases(show u=Value.ref a from rx);obtain⟨_,_,n,_,h1⟩:=(show jaS X.prog X.w H s.heap a (.tup xs)from I.hok a _ ea);exact j0M PySem.W.kitx_tuple I.kIn ⟨_,h1,rfl⟩ e (fun z=>nomatch z) h
 | @dK a kvs ea=>
  cases(show u=Value.ref a from rx);obtain⟨_,_,vs,_,p⟩:=(show jaS X.prog X.w H s.heap a (.dK kvs)from I.hok a _ ea);obtain⟨o,es,ep,h1,h2,_⟩:=p;exact j0M PySem.W.kitx_dict I.kIn ⟨o,h1,h2.1⟩ e (fun z=>nomatch z) h
 | @dT a kvs ea=>
  cases(show u=Value.ref a from rx);obtain⟨_,_,xs,_,o,es,ep,h1,h2,_⟩:=(show jaS X.prog X.w H s.heap a (.dT kvs)from I.hok a _ ea);exact j0M PySem.W.kitx_dict I.kIn ⟨o,h1,h2.1⟩ e (fun z=>nomatch z) h
 | @ins a C dx fs ea cl ha hn htk hm=>
  cases(show u=Value.ref a from rx);obtain⟨mA,O,_⟩:=jnx I.hok ea;obtain⟨od,J,_⟩:=O.look;exact j0M (PySem.W.kitx_own (cl.get _) cl.hd ha hn htk hm) I.kIn J e (fun z=>nomatch z) h
end
structure Room (k:Nat) (A:Around):Prop where
 hd:A.handled=none
 dp:A.depth+3*k+5<recursionLimit
 un:A.units+16*k+200<cLine
theorem Room.mono (r:Room k A)(h:j<=k):Room j A:=⟨r.hd,by have:=r.dp;omega,by have:=r.un;omega⟩
theorem Room.deeper (r:Room (k+1) A)(env:Env):Room k (A.deeper env):=
 ⟨r.hd,by have:=r.dp;show A.depth+1+3*k+5<_;omega,by have:=r.un;show A.units+3+16*k+200<_;omega⟩
theorem Room.in1 (r:Room (k+1) A):Room k A.in1:=
 ⟨r.hd,by have:=r.dp;show A.depth+3*k+5<_;omega,by have:=r.un;show A.units+1+16*k+200<_;omega⟩
theorem jpn {A:Around}{C:Addr}{us:List Value}{kw:List (Str×Value)}:(A.under (.builtin "type.__call__" ⟨.ref C::us,kw⟩)).depth=A.depth+1:=by
 first|rfl|simp[Around.under,Code.weight,Code.isCreation,Code.isGuard,Code.isCaller,Code.frames,Code.isFrame,guardIds]
theorem jp3 {A:Around}{C:Addr}{us:List Value}{kw:List (Str×Value)}:(A.under (.builtin "type.__call__" ⟨.ref C::us,kw⟩)).units=A.units+1:=by
 first|rfl|simp[Around.under,Code.cUnits,Code.frames,Code.isFrame]
theorem Room.make (r:Room (k+1) A)(C:Addr)(us:List Value)(kw:List (Str×Value)):Room k (A.under (.builtin "type.__call__" ⟨.ref C::us,kw⟩)):=
 ⟨r.hd,by have:=r.dp;rw[jpn];omega,by have:=r.un;rw[jp3];omega⟩
theorem Room.depth (r:Room k A):A.depth<recursionLimit:=by have:=r.dp;omega
theorem Room.units (r:Room k A):A.units+64<cLine:=by have:=r.un;omega
def jDV:TA:=fun _ H Q=>Q [] H
def jp5 (ta:TE)(tr:TA):TA:=fun σ H Q=>ta σ H fun x H1=>tr σ H1 fun xs H2=>Q (x::xs) H2
section
variable {X:Cx} {e:Expr} {es:List Expr} {te:TE} {t:TA} {pos:Pos}
theorem ji7:PA X [] jDV:=fun _ _ _ _ H Q I h=>Calls.spliced_nil ⟨[],H,I,.nil,h⟩
theorem jm0 (ha:PE X e te)(hr:PA X es t)(hs:starEach (e::es) X.env=(false,eval e X.env)::starEach es X.env:=by rfl):PA X (e::es) (jp5 te t):=by
 intro pos pins s σ H Q I h;rw[hs];show wpAny _ _ (spliced ((false,eval e X.env)::backTo pos (starEach es X.env))) _ _ s;refine j1B (thn (ha pins s σ H _ I h) fun u s1 ⟨x,H1,I1,r1,q1⟩=>?_);exact thn (hr pos pins s1 σ H1 _ I1 q1) fun us s2 ⟨xs,H2,I2,r2,q2⟩=>⟨x::xs,H2,I2,.cons r1 r2,q2⟩
def jFn (t:TA):TE:=fun σ H Q=>t σ H fun xs H1=>xs.length<=sizeLine/\∀p,H1 p=none->Q (.ref p) (upd H1 p (.tup xs))
def jFe (t:TA):TE:=fun σ H Q=>t σ H fun xs H1=>xs.length<=sizeLine/\∀p,H1 p=none->Q (.ref p) (upd H1 p (.lst xs))
theorem jvw (h:PA X es t):PE X (.Tuple es x1 pos) (jFn t):=by
 intro pins s σ H Q I hq;refine wpAny_Tuple_spliced (thn (h pos pins s σ H _ I hq) fun us s1 ⟨xs,H1,I1,r,z,q⟩=>⟨by rw[<- r.length];exact z,?_⟩);have hf:H1 s1.heap.objs.size=none:=I1.hok.fresh (j0l _);refine⟨.ref s1.heap.objs.size,upd H1 s1.heap.objs.size (.tup xs),I1.laid (t':=s1.toks) (fun b u e=>j0b _ e) (j0l _) ?_,rfl,q _ hf⟩;exact⟨z,us,0,r,j0f _ rfl⟩
theorem jAu (h:PA X es t):PE X (.List es pos) (jFe t):=by
 intro pins s σ H Q I hq;refine wpAny_List_spliced (thn (h pos pins s σ H _ I hq) fun us s1 ⟨xs,H1,I1,r,z,q⟩=>⟨by rw[<- r.length];exact z,?_⟩);have hf:H1 s1.heap.objs.size=none:=I1.hok.fresh (j0l _);refine⟨.ref s1.heap.objs.size,upd H1 s1.heap.objs.size (.lst xs),I1.laid (t':=s1.toks) (fun b u e=>j0b _ e) (j0l _) ?_,rfl,q _ hf⟩;exact⟨z,us,0,r,j0f _ rfl⟩
end
noncomputable abbrev Sp:=List V->Hp->VK->XK->Prop
noncomputable abbrev CXT:=List Env->Hp->Shared->XK->Value->Shared->Prop
structure Env0 (P:Program) (w:World) (K:PySem.W.Frag) (mg:Str->Option Value) (base:Heap) (A:Around) (outer:List Env) (s:Shared) (H:Hp):Prop where
 frames:A.frames=some outer
 mod:Mod K mg base
 bs:∀b o,base.get? b=some o->s.heap.get? b=some o/\H b=none
 bsz:base.objs.size<=s.heap.objs.size
 funs:s.heap.FunFrames base outer
 frf:∀b∈frs outer,H b=none
 hok:HOk P w H s.heap
 bare:AllBare s.gens
def CE (outer:List Env)(P:Program)(w:World)(H:Hp)(s:Shared)(Q:VK)(u:Value)(s':Shared):Prop:=
 ∃v H',s'.os=s.os/\AllBare s'.gens/\Un (frs outer) [] H H' s.heap s'.heap/\HOk P w H' s'.heap/\jaB v u/\Q v H'
def CR (CX:CXT)(outer:List Env)(P:Program)(w:World)(H:Hp)(s:Shared)(Q:VK)(E:XK)(r:Result)(s':Shared):Prop:=
 match r with
 |.ok (.ret u)=>CE outer P w H s Q u s'
 |.ok _=>False
 |.error e=>CX outer H s E e s'
structure FnOk (P:Program) (w:World) (K:PySem.W.Frag) (mg:Str->Option Value) (base:Heap) (CX:CXT) (k:Nat) (f:Addr) (fd:FuncData) (ps:List Str) (sp:Sp):Prop where
 len:∀vs H Q E,sp vs H Q E->vs.length=ps.length
 run:∀(A:Around) (outer:List Env) (s:Shared) (H:Hp) (args:Args) (us:List Value) (vs:List V) (Q:VK) (E:XK),Room k A->Env0 P w K mg base A outer s H->BindsTo s fd args (ps.zip us)->jaI vs us->sp vs H Q E ->
  codeAny (model P w) A (.call (.ref f) args) (CR CX outer P w H s Q E) s
theorem FnOk.imp {P:Program}{w:World}{K:PySem.W.Frag}{mg:Str->Option Value}{base:Heap}{CX:CXT}{k:Nat}{f:Addr}{fd:FuncData}{ps:List Str}{sp sp':Sp}(F:FnOk P w K mg base CX k f fd ps sp)
  (h:∀vs H Q E,sp' vs H Q E->sp vs H Q E):FnOk P w K mg base CX k f fd ps sp':=
 ⟨fun vs H Q E q=>F.len vs H Q E (h _ _ _ _ q),fun A outer s H args us vs Q E hr he hb hv hs=>F.run A outer s H args us vs Q E hr he hb hv (h _ _ _ _ hs)⟩
theorem Env0.make {P:Program}{w:World}{K:PySem.W.Frag}{mg:Str->Option Value}{base:Heap}{A:Around}{outer:List Env}{s:Shared}{H:Hp}(e:Env0 P w K mg base A outer s H)(C:Addr)(us:List Value)(kw:List (Str×Value)) :
  Env0 P w K mg base (A.under (.builtin "type.__call__" ⟨.ref C::us,kw⟩)) outer s H:=⟨by first|exact e.frames|(simpa[Around.under,Code.envs,Code.isFrame,pushEnvs]using e.frames),e.mod,e.bs,e.bsz,e.funs,e.frf,e.hok,e.bare⟩
theorem Env0.in1 {P:Program}{w:World}{K:PySem.W.Frag}{mg:Str->Option Value}{base:Heap}{A:Around}{outer:List Env}{s:Shared}{H:Hp}(e:Env0 P w K mg base A outer s H) :
  Env0 P w K mg base A.in1 outer s H:=⟨e.frames,e.mod,e.bs,e.bsz,e.funs,e.frf,e.hok,e.bare⟩
section
variable {X:Cx} {pins:List (Addr×Obj)} {σ:St} {H:Hp} {s s':Shared}
theorem Inv.env0 (I:Inv X pins σ H s):Env0 X.prog X.w X.K X.mg X.base X.A X.stack s H:=
 ⟨I.ok.frames,I.ok.mod,I.bs,j0A I.ok.bsz I.sz,I.stack,I.stkFree,I.hok,I.bare⟩
theorem Inv.after (I:Inv X pins σ H s)(h:CE X.stack X.prog X.w H s Q u s'):EP X pins σ Q u s':=by
 obtain⟨v,H',os,bare,un,hok,r,q⟩:=h;obtain⟨hh,g,d,t,os'⟩:=s';obtain rfl:os'=s.os:=os;exact⟨v,H',I.call (h':=hh) (g':=g) (d':=d) (t':=t) (ch:=[]) un hok bare (fun b z=>absurd z (by simp)),r,q⟩
end
def jAG (sp:Sp)(dvs:List V)(E:XK)(t:TA):TE:=fun σ H Q=>t σ H fun vs H1=>sp (vs++dvs) H1 Q E
def jDG (C:Addr)(sp:Sp)(dvs:List V)(E:XK)(t:TA):TE:=fun σ H Q=>t σ H fun vs H1=>∀x dx,H1 x=none->H1 dx=none->dx≠x ->
 sp (.ref x::(vs++dvs)) (upd (upd H1 dx (.own x)) x (.ins C dx [])) (fun v H2=>v=.non/\Q (.ref x) H2) E
def jdF (K:PySem.W.Frag)(fd:FuncData)(ps:List Str)(ds:List Value):Prop:=
 ∀(s:Shared) (us:List Value),K.In s.heap->(us++ds).length=ps.length->BindsTo s fd ⟨us,[]⟩ (ps.zip (us++ds))
theorem jdF.all {K:PySem.W.Frag}{fd:FuncData}{ps:List Str}(h:∀us:List Value,us.length=ps.length->bindArgs fd ⟨us,[]⟩=pure (ps.zip us)):jdF K fd ps []:=fun s us _ hl=>by
 rw[j0x]at hl ⊢;exact .of_eq (h us hl)
def jjT (CX:CXT)(X:Cx)(E:XK):Prop:=∀(pins:List (Addr×Obj)) (σ:St) (H:Hp) (s:Shared) (e:Value) (s':Shared),Inv X pins σ H s->CX X.stack H s E e s'->X.xe e s'
section
variable {X:Cx} {CX:CXT} {k:Nat} {f C:Addr} {fd:FuncData} {ps:List Str} {sp:Sp} {dvs:List V} {ds:List Value} {E:XK} {x m:Str} {p pos apos:Pos} {e o:Expr} {es:List Expr} {ta:TE} {t:TA}
theorem jzV (F:FnOk X.prog X.w X.K X.mg X.base CX k f fd ps sp)(hr:Room k X.A)(hb:jdF X.K fd ps ds)(hd:jaI dvs ds)(hx:jjT CX X E)
  (I:Inv X pins σ H s) (r:jaI vs us) (h:sp (vs++dvs) H Q E):wpAny (model X.prog X.w) X.A (call (.ref f) us) (EP X pins σ Q) X.xe s:=by
 have r2:jaI (vs++dvs) (us++ds):=r.append hd;have hl:(us++ds).length=ps.length:=by rw[<- r2.length];exact F.len _ _ _ _ h
 refine wpAny_call (codeAny_mono (F.run X.A X.stack s H ⟨us,[]⟩ (us++ds) (vs++dvs) Q E hr I.env0 (hb s us I.kIn hl) r2 h) fun r s' hq=>?_)
 cases r with
 |error e=>exact hx pins σ H s e s' I hq
 |ok fl=>
  cases fl with
  |ret u=>exact I.after hq
  |next=>exact False.elim hq
  |brk=>exact False.elim hq
  |cont=>exact False.elim hq
theorem jws (F:FnOk X.prog X.w X.K X.mg X.base CX k f fd ps sp)(hr:Room k X.A)(hg:Gl X x)(hm:X.mg x=some (.ref f))(hk:PySem.W.keepIn X.K (.ref f)=true)(hb:jdF X.K fd ps ds)(hd:jaI dvs ds)(hx:jjT CX X E)
  (ha:PA X (e::es) t) (hdb:(x==("__debug__" : Str))=false:=by decide) (he:starEach (e::es) X.env=(false,eval e X.env)::starEach es X.env:=by rfl) (hpl:(backTo pos (starEach es X.env)).any (·.1)=false:=by rfl) :
  PE X (.Call (.Name x p) (e::es) [] pos) (jAG sp dvs E t):=by
 intro pins s σ H Q I h;refine wpAny_Call_Name_kw (jnX I hg hm ?_ hdb);refine PySem.W.callWith_K (h₀:=X.base) I.ok.mod.kin hk (thn (ha pos pins s σ H _ I h) fun us s1 ⟨vs,H1,I1,r,q⟩=>⟨I1.kIn,?_⟩) he hpl;exact jzV F hr hb hd hx I1 r q
structure Mk (K:PySem.W.Frag) (C f:Addr):Prop where
 makes:PySem.W.makesIn K C=true
 init:PySem.W.findIn K (.ref C) "__init__" =some (some (.ref f))
 fn:PySem.W.isFn K (.ref f)=true
 kp:PySem.W.keepIn K (.ref C)=true
theorem juS (M:Mk X.K C f)(F:FnOk X.prog X.w X.K X.mg X.base CX k f fd ps sp)(hr:Room (k+1) X.A)(hb:jdF X.K fd ps ds)(hd:jaI dvs ds)
  (hx:jjT CX X E) (I:Inv X pins σ H s) (r:jaI vs us)
  (h:∀x dx,H x=none->H dx=none->dx≠x->sp (.ref x::(vs++dvs)) (upd (upd H dx (.own x)) x (.ins C dx [])) (fun v H2=>v=.non/\Q (.ref x) H2) E) :
  wpAny (model X.prog X.w) X.A (call (.ref C) us) (EP X pins σ Q) X.xe s:=by
 have hq:=h (s.heap.objs.size+1) s.heap.objs.size (I.hok.fresh (Nat.le_succ _)) (I.hok.fresh (j0l _)) (j0k (j0Y _));have I2:=Inv.made (C:=C) I;have r2:jaI (V.ref (s.heap.objs.size+1)::(vs++dvs)) (Value.ref (s.heap.objs.size+1)::(us++ds)):=.cons rfl (r.append hd);have hl:(Value.ref (s.heap.objs.size+1)::us++ds).length=ps.length:=by
  have e:=r2.length;rw[F.len _ _ _ _ hq]at e;exact e.symm
 refine wpAny_call (jtC (f:=f) I.kIn M.makes M.init (beq_iff_eq.mp M.fn) (codeAny_mono (F.run _ X.stack _ _ ⟨Value.ref (s.heap.objs.size+1)::us,[]⟩ (Value.ref (s.heap.objs.size+1)::(us++ds)) _ _ E (hr.make C us [])
  (I2.env0.make C us []) (hb _ (Value.ref (s.heap.objs.size+1)::us) I2.kIn hl) r2 hq) fun r s' hq'=>?_))
 cases r with
 |error e=>exact hx pins σ _ _ e s' I2 hq'
 |ok fl=>
  cases fl with
  |ret u=>
   obtain⟨v,H',I3,rv,ev,q3⟩:=I2.after hq';subst ev;exact⟨rv,⟨V.ref (s.heap.objs.size+1),H',I3,rfl,q3⟩⟩
  |next=>exact False.elim hq'
  |brk=>exact False.elim hq'
  |cont=>exact False.elim hq'
theorem jyo (M:Mk X.K C f)(F:FnOk X.prog X.w X.K X.mg X.base CX k f fd ps sp)(hr:Room (k+1) X.A)(hg:Gl X x)(hm:X.mg x=some (.ref C))(hb:jdF X.K fd ps ds)(hd:jaI dvs ds)(hx:jjT CX X E)
  (ha:PA X (e::es) t) (hdb:(x==("__debug__" : Str))=false:=by decide) (he:starEach (e::es) X.env=(false,eval e X.env)::starEach es X.env:=by rfl) (hpl:(backTo pos (starEach es X.env)).any (·.1)=false:=by rfl) :
  PE X (.Call (.Name x p) (e::es) [] pos) (jDG C sp dvs E t):=by
 intro pins s σ H Q I h;refine wpAny_Call_Name_kw (jnX I hg hm ?_ hdb);refine PySem.W.callWith_K (h₀:=X.base) I.ok.mod.kin M.kp (thn (ha pos pins s σ H _ I h) fun us s1 ⟨vs,H1,I1,r,q⟩=>⟨I1.kIn,?_⟩) he hpl;exact juS M F hr hb hd hx I1 r q
end
def PK (X:Cx)(kws:List Keyword)(t:TA):Prop:=
 ∀(pos:Pos) (pins:List (Addr×Obj)) (s:Shared) (σ:St) (H:Hp) (Q:List V->Hp->Prop),Inv X pins σ H s->t σ H Q->wpAny (model X.prog X.w) X.A (evalAll ((backToKw pos (keywordEach kws X.env)).map (·.2))) (AP X pins σ Q) X.xe s
section
variable {X:Cx} {CX:CXT} {k:Nat} {f C:Addr} {fd:FuncData} {ps ks:List Str} {sp:Sp} {E:XK} {x m:Str} {p pos apos kpos:Pos} {e o:Expr} {es:List Expr} {kws:List Keyword} {te ta:TE} {t tk:TA} {nm:Option Str}
theorem jvx:PK X [] jDV:=fun _ _ _ _ H Q I h=>wpAny_evalAll_nil ⟨[],H,I,.nil,h⟩
theorem jqU (ha:PE X e te)(hr:PK X kws t):PK X (⟨nm,e,kpos⟩::kws) (jp5 te t):=by
 intro pos pins s σ H Q I h;show wpAny _ _ (evalAll ((do let v <- eval e X.env;standAt pos;pure v)::(backToKw pos (keywordEach kws X.env)).map (·.2))) _ _ s;refine wpAny_evalAll_cons (wpAny_bind (thn (ha pins s σ H _ I h) fun u s1 ⟨x,H1,I1,r1,q1⟩=>wpAny_bind (wpAny_standAt (wpAny_pure ?_))));exact thn (hr pos pins s1 σ H1 _ I1 q1) fun us s2 ⟨xs,H2,I2,r2,q2⟩=>⟨x::xs,H2,I2,.cons r1 r2,q2⟩
structure KBinds (K:PySem.W.Frag) (fd:FuncData) (ps ks:List Str) (g:List Value->List Value->List Value) (gV:List V->List V->List V):Prop where
 to:∀(s:Shared) (us ws:List Value),K.In s.heap->(g us ws).length=ps.length->BindsTo s fd ⟨us,ks.zip ws⟩ (ps.zip (g us ws))
 rel:∀{vs:List V} {us:List Value} {zs:List V} {ws:List Value},jaI vs us->jaI zs ws->jaI (gV vs zs) (g us ws)
variable {g:List Value->List Value->List Value} {gV:List V->List V->List V}
end
structure FnScope (N P:List Str) (sc:Scope):Prop where
 kind:sc.kind=.function
 co:sc.isCoroutine=false
 gen:sc.isGenerator=false
 nd:N.Nodup
 pre:N.take P.length=P
 par:∀x∈P,sc.names.lookup x=some .local∨sc.names.lookup x=some .cell
 nofree:∀y∈sc.names,y.2≠.free
theorem jl6 {kindOf:Str->Option NameKind}{x:Str}:∀{binds:List (Str×Value)} {m:Str->Option Value},(∀v,(x,v)∉binds)->bindL kindOf binds m x=m x
 |[],_,_=>rfl
 |(n,v)::r,m,h=>by
  unfold bindL;rw[jl6 fun w hw=>h w (j0p _ hw)];split
  ·have:x≠n:=by rintro rfl;exact h v j0v
   simp[this]
  ·rfl
theorem jmn {kindOf:Str->Option NameKind}{x:Str}:∀{binds:List (Str×Value)} {m:Str->Option Value},(∀v,(x,v)∉binds)->bindC kindOf binds m x=m x
 |[],_,_=>rfl
 |(n,v)::r,m,h=>by
  unfold bindC;rw[jmn fun w hw=>h w (j0p _ hw)];split
  ·rfl
  ·have:x≠n:=by rintro rfl;exact h v j0v
   simp[this]
theorem jmC {kindOf:Str->Option NameKind}{x:Str}{v:Value}:∀{P:List Str} {vs:List Value} {i:Nat} {m:Str->Option Value},P.Nodup->P[i]?=some x->vs[i]?=some v->kindOf x=some .local ->
  bindL kindOf (P.zip vs) m x=some v
 |[],_,_,_,_,h,_,_=>by simp at h
 |_::_,[],_,_,_,_,h,_=>by simp at h
 |p::P,w::vs,0,m,nd,h1,h2,hk=>by
  simp at h1 h2;subst h1;subst h2;show bindL kindOf ((p,w)::P.zip vs) m p=_;unfold bindL;rw[jl6 fun v hv=>(j01.mp nd).1 (List.of_mem_zip hv).1,if_pos hk];simp
 |p::P,w::vs,i+1,m,nd,h1,h2,hk=>by
  show bindL kindOf ((p,w)::P.zip vs) m x=_;unfold bindL;exact jmC (i:=i) (j01.mp nd).2 (by simpa using h1) (by simpa using h2) hk
theorem jmB {kindOf:Str->Option NameKind}{x:Str}{v:Value}:∀{P:List Str} {vs:List Value} {i:Nat} {m:Str->Option Value},P.Nodup->P[i]?=some x->vs[i]?=some v->kindOf x≠some .local ->
  bindC kindOf (P.zip vs) m x=some v
 |[],_,_,_,_,h,_,_=>by simp at h
 |_::_,[],_,_,_,_,h,_=>by simp at h
 |p::P,w::vs,0,m,nd,h1,h2,hk=>by
  simp at h1 h2;subst h1;subst h2;show bindC kindOf ((p,w)::P.zip vs) m p=_;unfold bindC;rw[jmn fun v hv=>(j01.mp nd).1 (List.of_mem_zip hv).1,if_neg hk];simp
 |p::P,w::vs,i+1,m,nd,h1,h2,hk=>by
  show bindC kindOf ((p,w)::P.zip vs) m x=_;unfold bindC;exact jmB (i:=i) (j01.mp nd).2 (by simpa using h1) (by simpa using h2) hk
noncomputable def start (N:List Str)(vs:List V):St:=vs.map some++List.replicate (N.length - vs.length) none
noncomputable def jwx (CX:CXT)(P:Program)(w:World)(K:PySem.W.Frag)(mg:Str->Option Value)(base:Heap)(N:List Str)(qual:Str)(scope:Scope)(f:Addr)(cd:Value)(A:Around)(outer:List Env)(s:Shared)(H:Hp)(E:XK):Cx where
 prog:=P
 w:=w
 K:=K
 mg:=mg
 base:=base
 A:=A.deeper (envOfC qual scope s.heap.objs.size f cd)
 N:=N
 s₀:=s
 H₀:=H
 env:=envOfC qual scope s.heap.objs.size f cd
 outer:=outer
 stack:=envOfC qual scope s.heap.objs.size f cd::outer
 ex:=[]
 calm:=true
 fn:=fun _=>true
 pn:=[]
 xe:=fun e s'=>wpAny (model P w) (A.deeper (envOfC qual scope s.heap.objs.size f cd)) (leaving (envOfC qual scope s.heap.objs.size f cd) e) (fun _ s''=>CX outer H s E e s'') (fun e' s''=>CX outer H s E e' s'') s'
theorem jn5 {sc:Scope}{n:Nat}{x:Str}(h:sc.names.lookup x=some .cell):∃c,(cellsFrom n sc.names []).lookup x=some c:=by
 have q:=PySem.W.cellsFrom_some sc.names n [] (.inl h);exact Option.isSome_iff_exists.mp q
theorem jq7 {CX:CXT}{P:Program}{w:World}{K:PySem.W.Frag}{mg:Str->Option Value}{base:Heap}{N ps:List Str}{qual:Str}{scope:Scope}{f:Addr}{cd:Value}{A:Around}{outer:List Env}{s s1:Shared}{H:Hp}{E:XK}{us:List Value}{vs:List V}
  (S:FnScope N ps scope) (hd:A.handled=none) (e0:Env0 P w K mg base A outer s H) (hl:vs.length=ps.length) (r:jaI vs us)
  (x:InCallC s s.heap.objs.size (bindL (envOfC qual scope s.heap.objs.size f cd).kindOf (ps.zip us) fun _=>none) (cellsFrom (s.heap.objs.size+1) scope.names []) (bindC (envOfC qual scope s.heap.objs.size f cd).kindOf (ps.zip us) fun _=>none) s1) :
  Inv (jwx CX P w K mg base N qual scope f cd A outer s H E) [] (start N vs) H s1:=by
 have hpl:ps.length<=N.length:=by have:=congrArg List.length S.pre;rw[j0Q]at this;omega
 obtain⟨h1,tk,rfl,hk⟩:=x.done;have noA:∀b:Addr,b∉(jwx CX P w K mg base N qual scope f cd A outer s H E).ex:=fun b z=>absurd (show b∈([]:List Addr)from z) (by simp);refine⟨⟨e0.mod,S.kind,rfl,rfl,j0l _,fun y z c h1 h2=>?_,fun y hy=>?_,fun y c _ h=>?_,fun _=>hd,Around.frames_deeper e0.frames,.inr ⟨rfl,rfl⟩,fun b z=>absurd z (noA b),e0.bs,e0.bsz,fun b _ _=>noA b,fun b z=>absurd z (noA b),e0.funs,e0.frf⟩,
  rfl,e0.bare,Un.kept hk,⟨_,x.toInCall.ns,fun i y v h1 h2 h3=>?_⟩,fun y c h=>⟨_,x.cell y c h⟩,e0.hok.fresh (j0l _),fun y c h=>?_,fun p hp=>absurd (show p∈([]:List (Addr×Obj))from hp) (by simp),e0.hok.kept hk,?_⟩
 ·exact name_of_addr x.apart (j07 h1) (j07 h2)
 ·have hy:scope.names.lookup y=some .cell∨scope.names.lookup y=some .free:=hy;rcases hy with hy|hy
  ·exact jn5 hy
  ·exact absurd rfl (S.nofree _ (j07 hy))
 ·exact Nat.le_of_lt (x.above y c (j07 h))
 ·have hi:i<vs.length:=by
   unfold start at h2;by_cases hi:i<vs.length
   ·exact hi
   ·rw[j06 (by simpa using hi)]at h2;rw[List.getElem?_replicate]at h2;split at h2<;>cases h2
  have ha:vs[i]?=some v:=by
   unfold start at h2;rw[j0X (by simpa using hi),j0R]at h2
   cases e:vs[i]? with
   |none=>rw[e]at h2;cases h2
   |some a=>rw[e]at h2;cases h2;rfl
  obtain⟨u,hu,rv⟩:=r.get ha;have hp:ps[i]?=some y:=by
   rw[<- S.pre,List.getElem?_take_of_lt (by omega)];exact h1
  have ndP:ps.Nodup:=by rw[<- S.pre];exact S.nd.sublist (List.take_sublist _ _)
  refine⟨u,rv,?_⟩;rcases S.par y (j0C hp)with k|k
  ·exact .inl ⟨k,jmC ndP hp hu k⟩
  ·obtain⟨c,e⟩:=jn5 (n:=s.heap.objs.size+1) k;refine .inr ⟨.inl k,c,e,?_⟩;have q:=x.cell y c e;rw[jmB ndP hp hu (by show scope.names.lookup y≠_;rw[k];decide)]at q;exact q
 ·exact e0.hok.fresh (Nat.le_of_lt (x.above y c (j07 h)))
 ·unfold start;show _=N.length;rw[j0o,j0d,List.length_replicate];omega
theorem jEq {CX:CXT}{P:Program}{w:World}{K:PySem.W.Frag}{mg:Str->Option Value}{base:Heap}{k:Nat}{f:Addr}{name qual:Str}{params:Arguments}{body:List Stmt}{scope:Scope}{dV kV doc pm cdv ct oc:Value}{an od:Option Addr}
  {osl:Array (Option Value)} {N ps:List Str} {sp:Sp} (lk:K.lookup f=some ⟨oc,od,.func (PySem.W.fnOf name qual params body scope dV kV doc pm an cdv ct),osl⟩) (hcd:PySem.W.codeIn K cdv qual=true) (S:FnScope N ps scope)
  (len:∀vs H Q E,sp vs H Q E->vs.length=ps.length)
  (hbody:∀(A:Around) (outer:List Env) (s:Shared) (H:Hp) (vs:List V) (Q:VK) (E:XK),Room k (A.deeper (envOfC qual scope s.heap.objs.size f cdv))->sp vs H Q E ->
   ∃t,PSs (jwx CX P w K mg base N qual scope f cdv A outer s H E) body t/\t {nx:=fun _ H'=>Q .non H',rt:=Q} (start N vs) H) :
  FnOk P w K mg base CX (k+1) f (PySem.W.fnOf name qual params body scope dV kV doc pm an cdv ct) ps sp:=by
 refine⟨len,fun A outer s H args us vs Q E hr e0 hb r hsp=>?_⟩;have hl:=len _ _ _ _ hsp;have KX:K.In s.heap:=e0.mod.kin.keeps fun b o e=>(e0.bs b o e).1;have lim:s.heap.NoLimit:=e0.mod.nolimit.keeps fun b o e=>(e0.bs b o e).1;have hkind:∀y∈ps.zip us,scope.names.lookup y.1=some .local∨(scope.names.lookup y.1=some .cell/\((cellsFrom (s.heap.objs.size+1) scope.names []).lookup y.1).isSome=true):=fun⟨n,v⟩ hy=>by
  rcases S.par n (List.of_mem_zip hy).1 with q|q
  ·exact .inl q
  ·exact .inr ⟨q,PySem.W.cellsFrom_some _ _ _ (.inl q)⟩
 refine codeAny_call_function hr.depth (KX _ _ lk) rfl S.co S.gen rfl (PySem.W.codeRec_of KX hcd) (hb _ _ _ _ ?_);refine wpAny_newFunctionEnv_cells S.kind hkind fun env he s1 x=>?_;subst he;refine⟨lim.keeps x.toInCall.keep,codeAny_func ?_⟩;obtain⟨t,ht,hq⟩:=hbody A outer s H vs Q E (hr.deeper _) hsp;have I:Inv (jwx CX P w K mg base N qual scope f cdv A outer s H E) [] (start N vs) H s1:=jq7 S hr.hd e0 hl r x;refine wpAny_mono (ht [] s1 (start N vs) H _ I hq) (fun fl s' hs=>?_) fun e s' hs=>hs;have fin:∀{σ':St} {H':Hp} {v:V} {u:Value},Inv (jwx CX P w K mg base N qual scope f cdv A outer s H E) [] σ' H' s'->jaB v u->Q v H'->CE outer P w H s Q u s':=
  fun {σ' H' v u} J rv q=>⟨v,H',J.os,J.bare,J.base,J.hok,rv,q⟩
 cases fl with
 |ret u=>
  obtain⟨v,σ',H',J,rv,q⟩:=hs;exact fin J rv q
 |next=>
  obtain⟨σ',H',J,q⟩:=hs;exact fin (v:=V.non) (u:=Value.none) J rfl q
 |brk=>
  obtain⟨_,_,_,q⟩:=hs;exact False.elim q
 |cont=>
  obtain⟨_,_,_,q⟩:=hs;exact False.elim q
section
variable {X:Cx} {x:Str} {p pos:Pos} {e:Expr} {es:List Expr} {t:TA} {id T:String} {r:List V->Hp->VK->Prop}
def tCB (r:List V->Hp->VK->Prop)(t:TA):TE:=fun σ H Q=>t σ H fun vs H1=>r vs H1 Q
theorem jti (hc:jbe X (.builtin id) r) (hg:Gl X x) (hm:X.mg x=none) (hv:bootBuiltins x=some (.builtin id)) (ha:PA X (e::es) t) (hn:x≠"__name__":=by decide) (hdb:(x==("__debug__" : Str))=false:=by decide)
  (he:starEach (e::es) X.env=(false,eval e X.env)::starEach es X.env:=by rfl) (hpl:(backTo pos (starEach es X.env)).any (·.1)=false:=by rfl):PE X (.Call (.Name x p) (e::es) [] pos) (tCB r t):=by
 intro pins s σ H Q I h;refine wpAny_Call_Name_kw (jgn I hg hm hv ?_ hn hdb);exact PyProof.Rows.callWith_builtin1 (thn (ha pos pins s σ H _ I h) fun us s1 ⟨vs,H1,I1,r1,q1⟩=>hc pins s1 σ H1 vs us Q I1 r1 q1) he hpl
theorem jsw (hc:jbe X (.type T) r) (hg:Gl X x) (hm:X.mg x=none) (hv:bootBuiltins x=some (.type T)) (ha:PA X (e::es) t) (hn:x≠"__name__":=by decide) (hdb:(x==("__debug__" : Str))=false:=by decide)
  (he:starEach (e::es) X.env=(false,eval e X.env)::starEach es X.env:=by rfl) (hpl:(backTo pos (starEach es X.env)).any (·.1)=false:=by rfl):PE X (.Call (.Name x p) (e::es) [] pos) (tCB r t):=by
 intro pins s σ H Q I h;refine wpAny_Call_Name_kw (jgn I hg hm hv ?_ hn hdb);exact j1h (thn (ha pos pins s σ H _ I h) fun us s1 ⟨vs,H1,I1,r1,q1⟩=>hc pins s1 σ H1 vs us Q I1 r1 q1) he hpl
end
end _L2
namespace HT
open PySem PyProof.Rows
section
open PySem.SeqAt
open PySem.AutoSeq1 (wpAny_loadPart')
open PySem.MeetsSeq PySem.MeetsSeq2 PySem.MeetsSeq3
end
section
variable {prog:Program} {w:World} {A:Around} {E:Value->Shared->Prop} {s:Shared}
noncomputable def sIx (n d:Nat):Option Int->Nat
 |none=>d
 |some v=>if v<0 then(v+(n:Int)).toNat else min v.toNat n
theorem jAp (n d:Nat)(hd:d<=n)(o:Option Int):sIx n d o<=n:=by
 cases o with
 |none=>exact hd
 |some v=>
  show(if v<0 then(v+(n:Int)).toNat else min v.toNat n)<=n;by_cases hv:v<0
  ·rw[if_pos hv];omega
  ·rw[if_neg hv];exact Nat.min_le_right _ _
theorem jsu (v:Int)(n d:Nat):(if v<0 then max (v+(n:Int)) 0 else min v (n:Int))=((sIx n d (some v):Nat):Int):=by
 show(if v<0 then max (v+(n:Int)) 0 else min v (n:Int))=(((if v<0 then(v+(n:Int)).toNat else min v.toNat n):Nat):Int);by_cases hv:v<0
 ·simp only[if_pos hv];omega
 ·simp only[if_neg hv];omega
theorem jpm (lo hi:Option Int)(n:Nat):Builtin.Slice.sliceAdjust lo hi 1 (n:Int)=(((sIx n 0 lo:Nat):Int),((sIx n n hi:Nat):Int)):=by
 have h1:¬ ((1:Int)<0):=by omega
 unfold Builtin.Slice.sliceAdjust;simp only[h1,if_false];refine Prod.ext ?_ ?_
 ·cases lo with
  |none=>rfl
  |some v=>exact jsu v n 0
 ·cases hi with
  |none=>rfl
  |some v=>exact jsu v n n
theorem jpZ (i j:Nat):Builtin.Slice.slicePlaces (i:Int) (j:Int) 1=j - i:=by
 unfold Builtin.Slice.slicePlaces;have h1:(1:Int) > 0:=by omega
 simp only[h1,if_true,Int.ediv_one];split<;>omega
theorem jj6 (p:IsPart v o)(h:Q o s):wpAny (model prog w) A (Builtin.Slice.slicePartIndex v) Q E s:=by
 cases p with
 |none=>exact slicePart_none h
 |int i t=>exact slicePart_int h
theorem jdC {sl:Addr}{vl vu:Value}{lo hi:Option Int}{n:Nat}{Q:Int×Int×Nat->Shared->Prop}(hs:s.heap.IsSliceOf sl vl vu .none)(pl:IsPart vl lo)(pu:IsPart vu hi)
  (h:Q (((sIx n 0 lo:Nat):Int),1,sIx n n hi - sIx n 0 lo) s):wpAny (model prog w) A (Builtin.Slice.sliceApplied (.ref sl) (pure (n:Int))) Q E s:=by
 obtain⟨os,hos,hcs,hds⟩:=id hs;unfold Builtin.Slice.sliceApplied Builtin.Slice.sliceFields;refine wpAny_bind (wpAny_bind (wpAny_field hos hds (x:=vl) rfl (wpAny_bind (wpAny_field hos hds (x:=vu) rfl (wpAny_bind (wpAny_field hos hds (x:=.none) rfl (wpAny_pure ?_)))))));refine wpAny_bind (slicePart_none ?_);show wpAny _ _ (if((1:Int)==0)=true then _ else _) _ _ s;rw[if_neg (by decide)];refine wpAny_bind (jj6 pl (wpAny_bind (jj6 pu (wpAny_bind (wpAny_pure ?_)))));show wpAny _ _ (match Builtin.Slice.sliceAdjust lo hi 1 (n:Int)with|(lo,hi)=>pure (lo,(1:Int),Builtin.Slice.slicePlaces lo hi 1)) _ _ s;rw[jpm lo hi n];show wpAny _ _ (pure (((sIx n 0 lo:Nat):Int),(1:Int),Builtin.Slice.slicePlaces ((sIx n 0 lo:Nat):Int) ((sIx n n hi:Nat):Int) 1)) _ _ s;rw[jpZ];exact wpAny_pure h
theorem jve (xs:Array Value)(i k:Nat):((List.range k).filterMap fun(m:Nat)=>xs[((i:Int)+(m:Int)*1).toNat]?).toArray=((xs.toList.drop i).take k).toArray:=by
 have e:(fun(m:Nat)=>xs[((i:Int)+(m:Int)*1).toNat]?)=fun m=>xs[i+m]?:=by
  funext m
  have:((i:Int)+(m:Int)*1).toNat=i+m:=by omega
  rw[this]
 rw[e];have:=pick_run xs i k;rw[List.filterMap_map]at this;have e2:((fun x=>xs[x]?) ∘ fun x=>i+x)=fun m=>xs[i+m]?:=rfl;rw[e2]at this;rw[this]
theorem getItem_tuple_cut {t sl:Addr}{items:Array Value}{vl vu:Value}{lo hi:Option Int}{Q:Value->Shared->Prop}(ht:IsTup s.heap t items)(hs:s.heap.IsSliceOf sl vl vu .none)(pl:IsPart vl lo)(pu:IsPart vu hi)
  (hw:¬ (sIx items.size 0 lo=0/\sIx items.size items.size hi=items.size))
  (h:Q (.ref s.heap.objs.size) {s with heap:=s.heap.push {cls:=.type "tuple",data:=.seq ((items.toList.drop (sIx items.size 0 lo)).take (sIx items.size items.size hi - sIx items.size 0 lo)).toArray}})
  (hsz:items.size<=sizeLine):wpAny (model prog w) A (getItem (.ref t) (.ref sl)) Q E s:=by
 have htake:sizeOk (.seq ((items.toList.drop (sIx items.size 0 lo)).take (sIx items.size items.size hi - sIx items.size 0 lo)).toArray):=by
  show((items.toList.drop (sIx items.size 0 lo)).take (sIx items.size items.size hi - sIx items.size 0 lo)).toArray.size<=sizeLine;rw[j0h,j0Q,List.length_drop,j0F];omega
 have hj:sIx items.size items.size hi<=items.size:=jAp _ _ (j0l _) hi;obtain⟨os,hos,hcs,hds⟩:=id hs;have hTs:s.TypeIs (.ref sl) "slice":=⟨os,hos,hcs⟩;unfold getItem
 try with_reducible refine wpAny_holding ?_
 first|refine wpAny_bind (wpAny_pure ?_)|skip
 refine wpAny_bind (wpAny_sequenceKey ht.typeIs (by decide) ?_);refine wpAny_bind (wpAny_callSpecial?_slot (name:=Str.ofString "__getitem__") ht.typeIs j08
  (wpAny_call_entry j08 ht.typeIs entry_tuple_getitem ?_ (args_tuple_getitem _ _)))
 show wpAny _ _ (Builtin.Tuple.tupleItemsOf (.ref t) >>=_) _ _ s;refine wpAny_bind (tupleItemsOf_ ht ?_);refine wpAny_bind (wpAny_typeOf hTs ?_);rw[if_pos (by decide)];refine wpAny_bind (jdC hs pl pu ?_);have hno:¬ ((((sIx items.size 0 lo:Nat):Int)==0&&(1:Int)==1&&(sIx items.size items.size hi - sIx items.size 0 lo)==items.size)=true):=by
  intro q;rw[j0a,j0a]at q;have q1:((sIx items.size 0 lo:Nat):Int)=0:=eq_of_beq q.1.1;have q2:sIx items.size items.size hi - sIx items.size 0 lo=items.size:=eq_of_beq q.2;exact hw ⟨by omega,by omega⟩
 show wpAny _ _ (if(((sIx items.size 0 lo:Nat):Int)==0&&(1:Int)==1&&(sIx items.size items.size hi - sIx items.size 0 lo)==items.size)=true then _ else _) _ _ s;rw[if_neg hno,jve]
 first
  |exact wpAny_bind (m:=Builtin.Tuple.tupleExact _) (wpAny_newObj_type (wpAny_pure ⟨_,rfl,wpAny_pure h⟩) htake)
  |exact wpAny_bind (m:=Builtin.Tuple.tupleExact _) (wpAny_newObj_type (wpAny_bind (wpAny_pure (wpAny_pure ⟨_,rfl,wpAny_pure h⟩))) htake)
  |exact wpAny_bind (wpAny_bind (m:=Builtin.Tuple.tupleExact _) (wpAny_newObj_type (wpAny_pure (wpAny_pure ⟨_,rfl,wpAny_pure h⟩)) htake))
  |exact wpAny_bind (wpAny_bind (m:=Builtin.Tuple.tupleExact _) (wpAny_newObj_type (wpAny_pure ⟨_,rfl,wpAny_pure h⟩) htake))
end
end HT
namespace _L2
open PySem PySem.Spec PyProof.Rows
noncomputable abbrev TO:=St->Hp->(Option Int->Hp->Prop)->Prop
def PO (X:Cx)(e:Option Expr)(t:TO):Prop:=
 ∀(pins:List (Addr×Obj)) (s:Shared) (σ:St) (H:Hp) (Q:Option Int->Hp->Prop),Inv X pins σ H s->t σ H Q ->
  wpAny (model X.prog X.w) X.A (evalPart e X.env) (fun u s'=>∃o H',Inv X pins σ H' s'/\IsPart u o/\Q o H') X.xe s
noncomputable def jxS:TO:=fun _ H Q=>Q none H
noncomputable def jDO (t:TE):TO:=fun σ H Q=>t σ H fun x H1=>∃i,x=.int i/\Q (some i) H1
theorem jj1:∀{us:List Value},jaI (ns.map V.int) us->IntsAre us ns:=by
 induction ns with
 |nil=>intro us r;rw[j0B]at r;cases r;exact .nil
 |cons n ns ih=>
  intro us r;rw[j0c]at r
  cases r with
  |cons r1 r2=>
   obtain⟨t,e⟩:=r1;subst e;exact .cons n t (ih r2)
section
variable {X:Cx} {e:Expr} {te:TE} {lo hi:Option Expr} {tl th:TO} {pos p2:Pos}
theorem jwX:PO X none jxS:=by
 intro pins s σ H Q I h;rw[evalPart_none];exact wpAny_pure ⟨none,H,I,.none,h⟩
theorem jwj (h:PE X e te):PO X (some e) (jDO te):=by
 intro pins s σ H Q I hw;rw[evalPart_some];refine thn (h pins s σ H _ I hw) fun u s1 ⟨x,H1,I1,r1,q1⟩=>?_;obtain⟨i,rfl,q⟩:=q1;obtain⟨t,rfl⟩:=r1;exact⟨some i,H1,I1,.int i t,q⟩
def SlR (X:Cx)(r:V->Option Int->Option Int->Hp->VK->Prop):Prop:=
 ∀(pins:List (Addr×Obj)) (s:Shared) (σ:St) (H:Hp) (x:V) (v vl vu:Value) (lo hi:Option Int) (sl:Addr) (Q:VK),Inv X pins σ H s->jaB x v->s.heap.IsSliceOf sl vl vu .none->IsPart vl lo->IsPart vu hi->r x lo hi H Q ->
  ∃T id,typeLookup (.type T) "__getitem__" =pure (some (.builtin id))/\s.TypeIs v T/\wpAny (model X.prog X.w) X.A (getItem v (.ref sl)) (EP X pins σ Q) X.xe s
theorem SlR.or (h:SlR X r)(h':SlR X r'):SlR X (fun x lo hi H Q=>r x lo hi H Q∨r' x lo hi H Q):=by
 intro pins s σ H x v vl vu lo hi sl Q I rx hs pl pu q;rcases q with q|q
 ·exact h pins s σ H x v vl vu lo hi sl Q I rx hs pl pu q
 ·exact h' pins s σ H x v vl vu lo hi sl Q I rx hs pl pu q
def tSl (r:V->Option Int->Option Int->Hp->VK->Prop)(te:TE)(tl th:TO):TE:=fun σ H Q=>te σ H fun x H1=>tl σ H1 fun l H2=>th σ H2 fun u H3=>r x l u H3 Q
theorem juw (hr:SlR X r)(he:PE X e te)(hl:PO X lo tl)(hu:PO X hi th):PE X (.Subscript e (.Slice lo hi none p2) pos) (tSl r te tl th):=by
 intro pins s σ H Q I h;refine Subscript_ (thn (he pins s σ H _ I h) fun v s1 ⟨x,H1,I1,r1,q1⟩=>?_);refine wpAny_Slice (thn (hl pins s1 σ H1 _ I1 q1) fun vl s2 ⟨l,H2,I2,pl,q2⟩=>thn (hu pins s2 σ H2 _ I2 q2) fun vu s3 ⟨u,H3,I3,pu,q3⟩=>?_);rw[evalPart_none];refine wpAny_pure ?_;have I4:Inv X pins σ H3 {s3 with heap:=s3.heap.push {cls:=.type "slice",data:=.fields #[vl,vu,.none]}}:=I3.kept (t':=s3.toks) fun b ob q=>j0b _ q;obtain⟨T,id,hT,ht,hg⟩:=hr pins {s3 with heap:=s3.heap.push {cls:=.type "slice",data:=.fields #[vl,vu,.none]}} σ H3 x v vl vu l u s3.heap.objs.size Q I4 r1 (Heap.IsSliceOf.new ..) pl pu q3;show wpAny (model X.prog X.w) X.A (subscriptTail e (.Slice lo hi none p2) v (.ref s3.heap.objs.size)) (EP X pins σ Q) X.xe {s3 with heap:=s3.heap.push {cls:=.type "slice",data:=.fields #[vl,vu,.none]}};exact tail_any (ops:=[.ref s3.heap.objs.size,v]) ht hT hg (by with_unfolding_all rfl)
noncomputable def jzG (xs:List V)(lo hi:Option Int):List V:=(xs.drop (HT.sIx xs.length 0 lo)).take (HT.sIx xs.length xs.length hi - HT.sIx xs.length 0 lo)
theorem jnn (xs:List V)(lo hi:Option Int):(jzG xs lo hi).length<=xs.length:=by
 unfold jzG;rw[j0Q,List.length_drop];omega
noncomputable def jEK (K:PySem.W.Frag):V->Option Int->Option Int->Hp->VK->Prop:=fun x lo hi H Q=>∃a xs,x=.ref a/\SqT K H a xs /\
 ¬ (HT.sIx xs.length 0 lo=0/\HT.sIx xs.length xs.length hi=xs.length)/\∀p,H p=none->Q (.ref p) (upd H p (.tup (jzG xs lo hi)))
theorem jCJ:SlR X (jEK X.K):=by
 intro pins s σ H x v vl vu lo hi sl Q I rx hs pl pu h;obtain⟨a,xs,rfl,hx,hw,q⟩:=h;cases rx;obtain⟨its,r,ht,hz⟩:=I.tuple hx;have hlen:its.toArray.size=xs.length:=by rw[j0h];exact r.length.symm
 refine⟨"tuple",_,PyProof.Rows.slot_tuple_getitem.lookup,ht.typeIs,?_⟩;refine HT.getItem_tuple_cut ht hs pl pu (by rw[hlen];exact hw) ?_ (by rw[hlen];exact hz);rw[hlen];refine⟨.ref s.heap.objs.size,_,I.laid (t':=s.toks) (o:=.tup (jzG xs lo hi)) (fun b ob q=>j0b _ q) (j0l _) ?_,rfl,q _ (I.hok.fresh (j0l _))⟩;exact⟨j0A (jnn xs lo hi) hz,_,0,(r.drop (HT.sIx xs.length 0 lo)).take (HT.sIx xs.length xs.length hi - HT.sIx xs.length 0 lo),j0f _ rfl⟩
end
noncomputable def ixN (n:Nat)(i:Int):Option Nat:=if 0<=i then(if i<n then some i.toNat else none)else if -(n:Int)<=i then some (i+n).toNat else none
noncomputable def atI {α:Type}(xs:List α)(i:Int):Option α:=(ixN xs.length i).bind fun j=>xs[j]?
theorem jyi (h:ixN n i=some j):seqIndex? i n=some j/\j<n/\-(n:Int)<=i/\i<n:=by
 unfold ixN at h;by_cases h0:0<=i
 ·rw[if_pos h0]at h;by_cases h1:i<n
  ·rw[if_pos h1]at h;have e:i.toNat=j:=j0E h;exact⟨by rw[seqIndex_of h0 h1,e],by omega,by omega,h1⟩
  ·rw[if_neg h1]at h;cases h
 ·rw[if_neg h0]at h;by_cases h1 : -(n:Int)<=i
  ·rw[if_pos h1]at h;have e:(i+n).toNat=j:=j0E h;exact⟨by rw[seqIndex_neg (by omega) h1,e],by omega,h1,by omega⟩
  ·rw[if_neg h1]at h;cases h
theorem jnW (h:atI xs i=some v):∃j,seqIndex? i xs.length=some j/\xs[j]?=some v/\j<xs.length/\-(xs.length:Int)<=i/\i<xs.length:=by
 unfold atI at h
 cases e:ixN xs.length i with
 |none=>rw[e]at h;cases h
 |some j=>
  rw[e]at h;obtain⟨h1,h2,h3,h4⟩:=jyi e;exact⟨j,h1,h,h2,h3,h4⟩
theorem jnK {α:Type}{xs:List α}{j:Nat}{v:α}(h:xs[j]?=some v):atI xs (j:Int)=some v:=by
 have hj:j<xs.length:=(j0g.mp h).1;have e:ixN xs.length (j:Int)=some j:=by
  unfold ixN;rw[if_pos (by omega),if_pos (by omega)];simp
 unfold atI;rw[e];exact h
def jsG (b:Expr):Prop:=∀o i,subscripted b false o i=operate [o,i] (getItem o i)
def IxR (X:Cx)(r:R2):Prop:=
 ∀(value slice:Expr) (pins:List (Addr×Obj)) (s:Shared) (σ:St) (H:Hp) (x y:V) (v u:Value) (Q:VK),Inv X pins σ H s->jaB x v->jaB y u->r x y H Q ->
  subscripted slice false v u=operate [v,u] (getItem v u)->wpAny (model X.prog X.w) X.A (subscriptTail value slice v u) (EP X pins σ Q) X.xe s
def MtR (X:Cx)(id:String)(r:V->List V->Hp->VK->Prop):Prop:=
 ∀(pins:List (Addr×Obj)) (s:Shared) (σ:St) (H:Hp) (x:V) (xs:List V) (v:Value) (us:List Value) (Q:VK),Inv X pins σ H s->jaB x v->jaI xs us->r x xs H Q ->
  wpAny (model X.prog X.w) X.A (call (.builtin id) (v::us)) (EP X pins σ Q) X.xe s
section
variable {X:Cx} {a b:Expr} {ta tb:TE} {pos:Pos}
theorem IxR.or (h:IxR X r)(h':IxR X r'):IxR X (fun x y H Q=>r x y H Q∨r' x y H Q):=by
 intro value slice pins s σ H x y v u Q I rx ry q hs;rcases q with q|q
 ·exact h value slice pins s σ H x y v u Q I rx ry q hs
 ·exact h' value slice pins s σ H x y v u Q I rx ry q hs
theorem jD9 (hr:IxR X r)(ha:PE X a ta)(hb:PE X b tb)(hs:jsG b):PE X (.Subscript a b pos) (tOp r ta tb):=by
 intro pins s σ H Q I h;exact Subscript_ (jD7 ha hb I h fun v u s2 x y H2 I2 rx ry q=>hr a b pins s2 σ H2 x y v u Q I2 rx ry q (hs _ _))
def jEz (K:PySem.W.Frag):R2:=fun x y H Q=>∃p xs i v,x=.ref p/\y=.int i/\SqL K H p xs/\atI xs i=some v/\Q v H
def jEN (K:PySem.W.Frag):R2:=fun x y H Q=>∃p xs i v,x=.ref p/\y=.int i/\SqT K H p xs/\atI xs i=some v/\Q v H
def jEW:R2:=fun x y H Q=>∃z i c,x=.str z/\y=.int i/\z.length<=sizeLine/\atI z.cps.toList i=some c/\Q (.str ⟨#[c]⟩) H
theorem jyh:IxR X (jEz X.K):=by
 intro value slice pins s σ H x y v u Q I rx ry h hs;obtain⟨p,xs,i,z,rfl,rfl,hq,he,q⟩:=h;cases rx;obtain⟨t,rfl⟩:=ry;obtain⟨its,r,pl,hz⟩:=I.list hq;obtain⟨j,h1,h2,h3,h4,h5⟩:=jnW he;obtain⟨w,ew,rw'⟩:=r.get h2;have hl:=r.length;have hn:=jjU;have fin:EP X pins σ Q w s:=⟨z,H,I,rw',q⟩;by_cases h0:0<=i
 ·have hj:i.toNat=j:=by
   rw[seqIndex_of h0 h5]at h1;exact j0E h1
  exact item_listR pl.isList h0 (by omega) (by rw[hj];simpa using ew) fin hs
 ·have hj:(i+(its.toArray.size:Int)).toNat=j:=by
   rw[seqIndex_neg (by omega) h4]at h1;rw[j0h,<- hl];exact j0E h1
  exact subscriptTail_builtinR (x:=w) pl.isList.typeIs slot_list_getitem.lookup
   (wpAny_getItem_list_neg (Q:=fun r s'=>r=w/\EP X pins σ Q r s') pl.isList (by omega) (by rw[j0h]<;>omega) (by omega) (by rw[hj];simpa using ew) ⟨rfl,fin⟩) hs
theorem jCo:IxR X (jEN X.K):=by
 intro value slice pins s σ H x y v u Q I rx ry h hs;obtain⟨p,xs,i,z,rfl,rfl,hq,he,q⟩:=h;cases rx;obtain⟨t,rfl⟩:=ry;obtain⟨its,r,pl,hz⟩:=I.tuple hq;obtain⟨j,h1,h2,h3,h4,h5⟩:=jnW he;obtain⟨w,ew,rw'⟩:=r.get h2;have hl:=r.length;have hn:=jjU;have fin:EP X pins σ Q w s:=⟨z,H,I,rw',q⟩;exact subscriptTail_builtinR (x:=w) pl.typeIs slot_tuple_getitem.lookup
  (getItem_tuple (j:=j) (Q:=fun r s'=>r=w/\EP X pins σ Q r s') pl (by omega) (by omega) (by rw[j0h,<- hl];exact h1) (by simpa using ew) ⟨rfl,fin⟩) hs
theorem jz2:IxR X jEW:=by
 intro value slice pins s σ H x y v u Q I rx ry h hs;obtain⟨z,i,c,rfl,rfl,hz,he,q⟩:=h;obtain⟨t,rfl⟩:=rx;obtain⟨t',rfl⟩:=ry;obtain⟨j,h1,h2,h3,h4,h5⟩:=jnW he;have hl:z.cps.toList.length=z.length:=by simp[Str.length]
 rw[hl]at h1 h4 h5;have hn:=jjU;exact tail_any (typeIs_str s z t) slot_str_getitem.lookup (getItem_str (c:=c) (by
  have e1:decide (i < -(2 ^ 63:Int))=false:=decide_eq_false (by omega);have e2:decide (i ≥ 2 ^ 63)=false:=decide_eq_false (by omega);rw[e1,e2,Bool.or_false]) (by rw[h1];simpa using h2) ⟨.str ⟨#[c]⟩,H,I.tok _,⟨_,rfl⟩,q⟩) hs
def rIx (K:PySem.W.Frag):R2:=fun x y H Q=>jEz K x y H Q∨jEN K x y H Q∨jEW x y H Q
theorem jzQ:IxR X (rIx X.K):=jyh.or (jCo.or jz2)
theorem Inv.lst (I:Inv X pins σ H s)(h:H p=some (.lst xs)) :
  ∃(its:List Value) (n:Nat),jaI xs its/\s.heap.get? p=some {cls:=.type "list",data:=.seq its.toArray n}/\xs.length<=sizeLine:=by
 obtain⟨z,its,n,r,e⟩:=I.hok p _ h;exact⟨its,n,r,e,z⟩
noncomputable def jg6:V->Bool
 |.non=>true
 |.bl _=>true
 |.int _=>true
 |.str _=>true
 |_=>false
noncomputable def eqV:V->V->Bool
 |.non,.non=>true
 |.bl a,.bl b=>a==b
 |.bl a,.int b=>(if a then 1 else 0)==b
 |.int a,.bl b=>a==(if b then 1 else 0)
 |.int a,.int b=>a==b
 |.str a,.str b=>a==b
 |_,_=>false
theorem jiF (ry:jaB y u)(rx:jaB x v)(fy:jg6 y=true)(fx:jg6 x=true):SeqAt.EqAt A s u v (eqV y x):=by
 cases y with
 |non=>
  cases ry
  cases x with
  |non=>cases rx;exact SeqAt.EqAt.same _
  |bl b=>cases rx;exact SeqAt.EqAt.none_bool b
  |int b=>obtain⟨t,rfl⟩:=rx;exact SeqAt.EqAt.none_int b t
  |str b=>obtain⟨t,rfl⟩:=rx;exact SeqAt.EqAt.none_str b t
  |_=>exact absurd (show false=true from fx) j0e
 |bl a=>
  cases ry
  cases x with
  |non=>cases rx;exact SeqAt.EqAt.bool_none a
  |bl b=>cases rx;exact SeqAt.EqAt.bool_bool a b
  |int b=>obtain⟨t,rfl⟩:=rx;exact SeqAt.EqAt.bool_int a b t
  |str b=>obtain⟨t,rfl⟩:=rx;exact SeqAt.EqAt.bool_str a b t
  |_=>exact absurd (show false=true from fx) j0e
 |int a=>
  obtain⟨t',rfl⟩:=ry
  cases x with
  |non=>cases rx;exact SeqAt.EqAt.int_none a t'
  |bl b=>cases rx;exact SeqAt.EqAt.int_bool a t' b
  |int b=>obtain⟨t,rfl⟩:=rx;exact SeqAt.EqAt.int_int a t' b t
  |str b=>obtain⟨t,rfl⟩:=rx;exact SeqAt.EqAt.int_str a t' b t
  |_=>exact absurd (show false=true from fx) j0e
 |str a=>
  obtain⟨t',rfl⟩:=ry
  cases x with
  |non=>cases rx;exact SeqAt.EqAt.str_none a t'
  |bl b=>cases rx;exact SeqAt.EqAt.str_bool a t' b
  |int b=>obtain⟨t,rfl⟩:=rx;exact SeqAt.EqAt.str_int a t' b t
  |str b=>obtain⟨t,rfl⟩:=rx;exact SeqAt.EqAt.str_str a t' b t
  |_=>exact absurd (show false=true from fx) j0e
 |_=>exact absurd (show false=true from fy) j0e
noncomputable def eqU (x:V)(u:Value):Bool:=match u with
 |.none=>eqV .non x
 |.bool b=>eqV (.bl b) x
 |.int i _=>eqV (.int i) x
 |.str z _=>eqV (.str z) x
 |_=>false
theorem jvv (r:jaB y u)(f:jg6 y=true):eqU x u=eqV y x:=by
 cases y with
 |non=>cases r;rfl
 |bl b=>cases r;rfl
 |int i=>obtain⟨t,rfl⟩:=r;rfl
 |str z=>obtain⟨t,rfl⟩:=r;rfl
 |_=>exact absurd (show false=true from f) j0e
theorem jiN:∀{xs:List V} {us:List Value},jaI xs us->xs.all jg6=true->us.any (eqU x)=xs.any fun y=>eqV y x
 |_,_,.nil,_=>rfl
 |y::xs,u::us,.cons r t,f=>by
  rw[j0S,j0a]at f;rw[j1y,j1y,jvv r f.1,jiN t f.2]
theorem jgg (rx:jaB x v)(fx:jg6 x=true):∀{xs:List V} {us:List Value},jaI xs us->xs.all jg6=true->∀u∈us,SeqAt.EqAt A s u v (eqU x u)
 |_,_,.nil,_=>fun u hu=>by cases hu
 |y::xs,u::us,.cons r t,f=>fun u' hu=>by
  rw[j0S,j0a]at f;rcases j0q.mp hu with rfl|hu
  ·rw[jvv r f.1];exact jiF r rx f.1 fx
  ·exact jgg rx fx t f.2 u' hu
noncomputable def inV (x:V)(xs:List V):Bool:=xs.any fun y=>eqV y x
def rIn (K:PySem.W.Frag)(neg:Bool):R2:=fun x y H Q=>∃p xs,y=.ref p/\(SqL K H p xs∨SqT K H p xs)/\jg6 x=true/\xs.all jg6=true/\Q (.bl (if neg then !inV x xs else inV x xs)) H
theorem jsq:OpR X (compareOp .In) (rIn X.K false):=by
 intro pins s σ H x y v u Q I rx ry h;obtain⟨p,xs,rfl,hq,fx,fs,q⟩:=h;cases ry;rcases hq with hq|hq
 ·obtain⟨its,r,pl,hz⟩:=I.list hq;refine SeqAt.in_listAt (eqU x) pl.isList (fun w hw=>jgg rx fx r fs w (by simpa using hw)) ⟨.bl _,H,I,rfl,?_⟩;rw[show its.toArray.any (eqU x)=its.any (eqU x)by simp,jiN r fs];exact q
 ·obtain⟨its,r,pl,hz⟩:=I.tuple hq;refine SeqAt.in_tupleAt (eqU x) pl (fun w hw=>jgg rx fx r fs w (by simpa using hw)) ⟨.bl _,H,I,rfl,?_⟩;rw[show its.toArray.any (eqU x)=its.any (eqU x)by simp,jiN r fs];exact q
theorem jlW:OpR X (compareOp .NotIn) (rIn X.K true):=by
 intro pins s σ H x y v u Q I rx ry h;obtain⟨p,xs,rfl,hq,fx,fs,q⟩:=h;cases ry;rcases hq with hq|hq
 ·obtain⟨its,r,pl,hz⟩:=I.list hq;refine SeqAt.notIn_listAt (eqU x) pl.isList (fun w hw=>jgg rx fx r fs w (by simpa using hw)) ⟨.bl _,H,I,rfl,?_⟩;rw[show its.toArray.any (eqU x)=its.any (eqU x)by simp,jiN r fs];exact q
 ·obtain⟨its,r,pl,hz⟩:=I.tuple hq;refine SeqAt.notIn_tupleAt (eqU x) pl (fun w hw=>jgg rx fx r fs w (by simpa using hw)) ⟨.bl _,H,I,rfl,?_⟩;rw[show its.toArray.any (eqU x)=its.any (eqU x)by simp,jiN r fs];exact q
theorem jmI:jbe X (.builtin "len") (fun xs H Q=>∃p ys,xs=[.ref p]/\(SqL X.K H p ys∨SqT X.K H p ys)/\Q (.int ys.length) H):=by
 intro pins s σ H xs us Q I r h;obtain⟨p,ys,rfl,hq,q⟩:=h;obtain⟨u,rfl,rx⟩:=jiZ r;cases rx;have hn:=jjU;rcases hq with hq|hq
 ·obtain⟨its,r',pl,hz⟩:=I.list hq;have hlen:=r'.length;exact Calls.call_len_list pl.isList (by simp only[j0h]<;>omega) ⟨.int ys.length,H,I.tok _,⟨s.toks+1,by rw[j0h,hlen]⟩,q⟩
 ·obtain⟨its,r',pl,hz⟩:=I.tuple hq;have hlen:=r'.length;exact len_tuple pl (by simp only[j0h]<;>omega) ⟨.int ys.length,H,I.tok _,⟨s.toks+1,by rw[j0h,hlen]⟩,q⟩
theorem jlH:jbe X (.builtin "len") (fun xs H Q=>∃z,xs=[.str z]/\z.length<=sizeLine/\Q (.int z.length) H):=by
 intro pins s σ H xs us Q I r h;obtain⟨z,rfl,hz,q⟩:=h;obtain⟨u,rfl,t,rfl⟩:=jiZ r;have hn:=jjU;exact len_str (by omega) ⟨.int z.length,H,I.tok _,⟨_,rfl⟩,q⟩
theorem jbe.or (h:jbe X f r)(h':jbe X f r'):jbe X f (fun xs H Q=>r xs H Q∨r' xs H Q):=by
 intro pins s σ H xs us Q I rs q;rcases q with q|q
 ·exact h pins s σ H xs us Q I rs q
 ·exact h' pins s σ H xs us Q I rs q
theorem jlZ:jbe X (.type "list") (fun xs H Q=>∃p ys,xs=[.ref p]/\(SqL X.K H p ys∨SqT X.K H p ys)/\∀l,H l=none->Q (.ref l) (upd H l (.lst ys))):=by
 intro pins s σ H xs us Q I r h;obtain⟨p,ys,rfl,hq,q⟩:=h;obtain⟨u,rfl,rx⟩:=jiZ r;cases rx
 have fin:∀(its:List Value),jaI ys its->ys.length<=sizeLine->∀(h':Heap) (c':Nat),(∀b o',s.heap.get? b=some o'->h'.get? b=some o') ->
   h'.get? s.heap.objs.size=some {cls:=.type "list",dict:=none,data:=.seq its.toArray c',slots:=#[]}->EP X pins σ Q (.ref s.heap.objs.size) {s with heap:=h'}:=fun its r' hz h' c' kp e=>
  ⟨.ref s.heap.objs.size,_,I.laid (t':=s.toks) kp (j0l _) (show jaS X.prog X.w _ h' _ (.lst ys)from⟨hz,its,c',r',e⟩),rfl,q _ (I.hok.fresh (j0l _))⟩
 rcases hq with hq|hq
 ·obtain⟨its,r',pl,hz⟩:=I.list hq;have hlen:=r'.length;obtain⟨o,ho,hc,n,hd⟩:=pl.isList;exact call_list_seq p (.inl rfl) ho hc hd (fun h' c' kp e=>fin its r' hz h' c' kp e) (by simp only[j0h]<;>omega)
 ·obtain⟨its,r',pl,hz⟩:=I.tuple hq;have hlen:=r'.length;obtain⟨o,ho,hc,n,hd⟩:=pl;exact call_list_seq p (.inr rfl) ho hc hd (fun h' c' kp e=>fin its r' hz h' c' kp e) (by simp only[j0h]<;>omega)
theorem jlb:jbe X (.type "tuple") (fun xs H Q=>∃p ys,xs=[.ref p]/\((SqL X.K H p ys/\∀l,H l=none->Q (.ref l) (upd H l (.tup ys)))∨(SqT X.K H p ys/\Q (.ref p) H))):=by
 intro pins s σ H xs us Q I r h;obtain⟨p,ys,rfl,h⟩:=h;obtain⟨u,rfl,rx⟩:=jiZ r;cases rx;rcases h with⟨hq,q⟩|⟨hq,q⟩
 ·obtain⟨its,r',pl,hz⟩:=I.list hq;have hlen:=r'.length;refine call_tuple_list pl.isList (fun h' kp=>?_) (by simp only[j0h]<;>omega);have I1:Inv X pins σ H {s with heap:=h'}:=I.kept (t':=s.toks) kp;have I2:Inv X pins σ (upd H h'.objs.size (.tup ys)) {s with heap:=h'.push {cls:=.type "tuple",data:=.seq its.toArray}}:=
   I1.laid (t':=s.toks) (fun b o e=>j0b _ e) (j0l _) (show jaS X.prog X.w _ _ _ (.tup ys)from⟨hz,its,0,r',j0f _ rfl⟩)
  exact⟨.ref h'.objs.size,_,I2,rfl,q _ (I1.hok.fresh (j0l _))⟩
 ·obtain⟨its,r',pl,hz⟩:=I.tuple hq;exact call_tuple_same pl ⟨.ref p,H,I,rfl,q⟩
def tyV (K:PySem.W.Frag)(T:String)(x:V)(H:Hp):Prop:=match x with
 |.str _=>T = "str"
 |.int _=>T = "int"
 |.ref p=>(T = "list"/\∃xs,SqL K H p xs)∨(T = "tuple"/\∃o,K.lookup p=some o/\o.cls=.type "tuple"/\o.dict=none) ∨
   (T = "dict"/\((∃kvs,H p=some (.dK kvs))∨∃kvs,H p=some (.dT kvs)))∨(T = "set"/\∃S n,H p=some (.set S n))
 |_=>False
theorem jAr (I:Inv X pins σ H s)(r:jaB x v)(ty:tyV X.K T x H) :
  s.TypeIs v T/\∀a,v=.ref a->∃ob,s.heap.get? a=some ob/\ob.dict=none:=by
 cases x with
 |str z=>
  obtain⟨t,rfl⟩:=r;cases(show T = "str" from ty);exact⟨typeIs_str s z t,fun _ e=>nomatch e⟩
 |int i=>
  obtain⟨t,rfl⟩:=r;cases(show T = "int" from ty);exact⟨typeIs_int s i t,fun _ e=>nomatch e⟩
 |ref p=>
  cases r;rcases ty with⟨rfl,xs,hq⟩|⟨rfl,o,hk,hc,hd⟩|⟨rfl,hk⟩|⟨rfl,S,n,hk⟩
  ·obtain⟨its,_,pl,_⟩:=I.list hq;refine⟨pl.isList.typeIs,fun a e=>?_⟩;cases e;obtain⟨o,n,e,c,hd,_⟩:=pl;exact⟨o,e,hd⟩
  ·refine⟨⟨o,I.kIn p o hk,hc⟩,fun a e=>?_⟩;cases e;exact⟨o,I.kIn _ o hk,hd⟩
  ·have z:∃o,s.heap.get? p=some o/\o.ExactDict:=by
    rcases hk with⟨kvs,hk⟩|⟨kvs,hk⟩
    ·obtain⟨_,_,_,_,o,_,_,e,ex,_⟩:=I.hok p _ hk;exact⟨o,e,ex⟩
    ·obtain⟨_,_,_,_,o,_,_,e,ex,_⟩:=I.hok p _ hk;exact⟨o,e,ex⟩
   obtain⟨o,e,ex⟩:=z;refine⟨⟨o,e,ex.1⟩,fun a e2=>?_⟩;cases e2;exact⟨o,e,ex.2.1⟩
  ·obtain⟨o,_,_,_,e,ex,_⟩:=I.hok p _ hk;refine⟨⟨o,e,ex.1⟩,fun a e2=>?_⟩;cases e2;exact⟨o,e,ex.2.1⟩
 |_=>exact False.elim ty
def tBM (K:PySem.W.Frag)(T:String)(r:V->List V->Hp->VK->Prop)(to:TE)(t:TA):TE:=fun σ H Q=>to σ H fun x H1=>tyV K T x H1/\t σ H1 fun xs H2=>r x xs H2 Q
variable {o e:Expr} {es:List Expr} {to:TE} {t:TA} {name:Str} {apos cpos:Pos} {T id:String} {r:V->List V->Hp->VK->Prop}
theorem jEn (pa:PlainAttrs T) (slot:Slot T name id) (hty:typeOf (.builtin id)=pure (.type "method_descriptor")) (hm:MtR X id r) (ho:PE X o to) (ha:PA X (e::es) t)
  (hbase:attributeBase o name X.env (eval o X.env)=eval o X.env:=by rfl)
  (hfew:((backTo cpos (starEach (e::es) X.env)).all (fun x=>!x.1)&&(backToKw cpos (keywordEach [] X.env)).all (fun x=>x.1.isSome)
   && decide ((e::es).length+([]:List Keyword).length+(if([]:List Keyword).isEmpty then 0 else 1)<30))=true:=by rfl)
  (hline:(apos.endLine==cpos.line)=true:=by rfl) (hs:starEach (e::es) X.env=(false,eval e X.env)::starEach es X.env:=by rfl) (hplain:(backTo cpos (starEach es X.env)).any (·.1)=false:=by rfl) :
  PE X (.Call (.Attribute o name apos) (e::es) [] cpos) (tBM X.K T r to t):=by
 intro pins s σ H Q I h;refine wpAny_Call_method_late hbase hfew hline rfl (thn (ho pins s σ H _ I h) fun v s1 ⟨x,H1,I1,r1,ty,q1⟩=>?_);obtain⟨h1,h2⟩:=jAr I1 r1 ty;refine⟨T,id,pa,slot,hty,h1,h2,?_⟩;have hA:=ha cpos pins s1 σ H1 _ I1 q1;rw[hs]at hA ⊢;refine j1j (by show(false||(backTo cpos (starEach es X.env)).any (·.1))=false;rw[hplain]<;>rfl) (Calls.evalArgs_plain ?_);exact thn hA fun us s2 ⟨vs,H2,I2,r2,q2⟩=>hm pins s2 σ H2 x vs v us Q I2 r1 r2 q2
end
def MtM (X:Cx)(id:String)(r:V->List V->Hp->VK->Prop):Prop:=
 ∀(pins:List (Addr×Obj)) (s:Shared) (σ:St) (H:Hp) (x:V) (xs:List V) (v:Value) (us:List Value) (Q:VK),Inv X pins σ H s->jaB x v->jaI xs us->r x xs H Q ->
  wpAny (model X.prog X.w) X.A (call (.builtin id) (v::us)) (EP X pins σ Q) X.xe s
theorem jaI.one:∀{x:V} {us:List Value},jaI [x] us->∃u,us=[u]/\jaB x u
 |_,_,.cons r .nil=>⟨_,rfl,r⟩
theorem jaI.two (h:jaI [x,y] us):∃u v,us=[u,v]/\jaB x u/\jaB y v:=by
 cases h with
 |cons r t=>
  cases t with
  |cons q s=>
   cases s;exact⟨_,_,rfl,r,q⟩
theorem jaI.zero:∀{us:List Value},jaI [] us->us=[]
 |_,.nil=>rfl
section
variable {X:Cx} {pins:List (Addr×Obj)} {σ:St} {H:Hp} {s:Shared} {l b:Addr} {xs ys zs:List V}
theorem Inv.lset {its its':List Value}{n:Nat}{f:Array Value->Array Value}{t':Nat}(I:Inv X pins σ H s)(hH:H l=some (.lst xs))
  (e:s.heap.get? l=some {cls:=.type "list",data:=.seq its.toArray n}) (hf:f its.toArray=its'.toArray) (hv:jaI ys its') (hz:ys.length<=sizeLine) :
  Inv X pins σ (upd H l (.lst ys)) {s with heap:=s.heap.update l (Obj.mapSeq f),toks:=t'}:=by
 have q:=PySem.IsL.update e f;rw[hf]at q;refine I.write (x:=l) (e:=l) (by rw[hH];exact trivial) (.inl rfl) (fun b' u hb hu=>(Heap.get?_update_other s.heap (Obj.mapSeq f) (Ne.symm hb)).trans hu) ⟨_,q⟩ ?_;exact⟨hz,its',_,hv,q⟩
theorem Inv.lnew (I:Inv X pins σ H s)(hv:jaI ys its)(hz:ys.length<=sizeLine) :
  Inv X pins σ (upd H s.heap.objs.size (.lst ys)) {s with heap:=s.heap.push {cls:=.type "list",data:=.seq its.toArray},toks:=t'}:=
 I.laid (fun _ _ q=>j0b _ q) (j0l _) ⟨hz,its,0,hv,j0f _ rfl⟩
theorem Inv.fresh (I:Inv X pins σ H s):H s.heap.objs.size=none:=I.hok.fresh (j0l _)
theorem Inv.lstM (I:Inv X pins σ H s)(hH:H l=some (.lst xs)):xs.length<=sizeLine/\∃(its:List Value) (n:Nat),jaI xs its/\xs.length=its.length/\s.heap.get? l=some {cls:=.type "list",data:=.seq its.toArray n}:=by
 obtain⟨z,its,n,r,e⟩:=I.hok l _ hH;exact⟨z,its,n,r,r.length,e⟩
theorem juI (h:n<=sizeLine):Builtin.List.listTooLong n=false:=by
 unfold Builtin.List.listTooLong;exact decide_eq_false (by omega)
end
section
variable {X:Cx}
noncomputable def rAppend:V->List V->Hp->VK->Prop:=fun x vs H Q=>∃l xs y,x=.ref l/\vs=[y]/\H l=some (.lst xs)/\xs.length<sizeLine/\Q .non (upd H l (.lst (xs++[y])))
theorem jrM:MtM X "list.append" rAppend:=by
 intro pins s σ H x vs v us Q I rx rv h;obtain⟨l,xs,y,rfl,rfl,hH,hz,q⟩:=h;cases rx;obtain⟨u,rfl,ru⟩:=rv.one;obtain⟨z,its,n,r,hl,e⟩:=I.lstM hH;refine call_meets F.slot_list_append ⟨_,e,rfl⟩ F.entry_list_append (F.args_list_append_2 _ _) (PySem.list_append l its.toArray n u (by rw[j0h];omega)) ⟨e,?_⟩;refine⟨.non,_,I.lset (its':=its++[u]) hH e (by simp) (r.append (.cons ru .nil)) ?_,rfl,q⟩;rw[j0o,List.length_singleton];omega
noncomputable def rExtend:V->List V->Hp->VK->Prop:=fun x vs H Q=>∃l b xs zs,x=.ref l/\vs=[.ref b]/\H l=some (.lst xs)/\H b=some (.lst zs)/\xs.length+zs.length<=sizeLine/\Q .non (upd H l (.lst (xs++zs)))
theorem jqQ:MtM X "list.extend" rExtend:=by
 intro pins s σ H x vs v us Q I rx rv h;obtain⟨l,b,xs,zs,rfl,rfl,hH,hB,hz,q⟩:=h;cases rx;obtain⟨u,rfl,ru⟩:=rv.one;cases ru;obtain⟨z,its,n,r,hl,e⟩:=I.lstM hH;obtain⟨z2,its2,n2,r2,hl2,e2⟩:=I.lstM hB;have hsz:its.toArray.size+its2.toArray.size<=sizeLine:=by rw[j0h,j0h];omega
 have hlong:¬ (!its.toArray.isEmpty&&Builtin.List.listTooLong (its.toArray.size+its2.toArray.size))=true:=by
  rw[juI hsz,Bool.and_false];exact j0e
 refine call_meets F.slot_list_extend ⟨_,e,rfl⟩ F.entry_list_extend (F.args_list_extend_2 _ _)
  (AutoSeq1.list_extend_list_list_0 l its.toArray n b its2.toArray n2 hlong (by rw[j0h];omega) (by omega)) ⟨e,e2,?_⟩
 refine⟨.non,_,I.lset (its':=its++its2) hH e (by simp) (r.append r2) ?_,rfl,q⟩;rw[j0o];omega
end
section
variable {prog:Program} {w:World} {A:Around} {E:Value->Shared->Prop} {s:Shared}
end
section
variable {X:Cx}
end
end _L2
namespace Att
open PySem PySem.W PySem.Calls PyProof.Rows
theorem jjc:∀(ns:List Int) (vs:List Value),WellAll P h vs (ns.map WData.int)->IntsAre vs ns:=by
 intro ns
 induction ns with
 |nil=>
  intro vs w;rw[j0B]at w;cases w;exact .nil
 |cons n ns ih=>
  intro vs w;rw[j0c]at w
  cases w with
  |cons a b=>
   cases a;exact .cons _ _ (ih _ b)
theorem jqe {l:OpenLaw}{n:Nat}(hn:l.most=some n){P:Params}{h:Heap}{args:List WData}{vals:List Value}
  (hpre:l.row.toRowW.claim.pre args=true) (hwl:WellAll P h vals args) :
  ∃a vs ns,vals=[Value.ref a]/\args=[WData.list (ns.map WData.int)]/\h.get? a=some {cls:=.type "list",data:=.seq vs.toArray}/\IntsAre vs ns/\ns.length<=n:=by
 have hsh:WShape.hasAll [] args [.list .int]=true:=(pre_splitW hpre).1;have hc:l.pre.holds [] {args:=args}=true:=(pre_splitW hpre).2;obtain⟨d,r,rfl,h1,h2⟩:=hasAllW_cons hsh;obtain rfl:=hasAllW_nil h2;obtain⟨xs,rfl,h3⟩:=hasW_list h1;obtain⟨ns,rfl⟩:=items_int h3;have hlen:ns.length<=n:=by
  unfold OpenLaw.pre at hc;have h4:(WTm.not (.lt (.lit (.int (n:Int))) (.len (.arg 0)))).holds [] {args:=[.list (ns.map .int)]}=true:=by
   have h4:=(holds_andW hc).1;rw[hn]at h4;exact h4
  have h5:=condW_of h4 (w_not (w_lt w_lit (w_len_list (w_arg rfl))));rw[j0d]at h5;refine Nat.le_of_not_lt fun q=>?_;have q':(n:Int)<((ns.length:Nat):Int):=by omega
  first
   |(rw[decide_eq_true q']at h5;exact absurd h5 (by decide))
   |(simp at h5;omega)
 cases hwl with
 |cons w1 w2=>
  cases w2
  cases w1 with
  |list ho hall=>exact⟨_,_,ns,rfl,rfl,ho,jjc ns _ hall,hlen⟩
theorem jr0 (l:OpenLaw)(args:List WData):l.row.toRowW.claim.post args (.bool true) args=true:=
 postW_of (r:=l.row.toRowW) (X:=(true==true))
  (show WShape.has [] (.bool true) .bool=true by first|rfl|decide|simp[WShape.has,WShape.arms,WShape.armsAll])
  (show(WTm.eq .res (.lit (.bool true))).value [] {args:=args,res:=some (.bool true),after:=args}=some (.bool (true==true))from w_eq_bool (w_res rfl) w_lit) rfl
theorem attach_call {l:OpenLaw}{n:Nat}{q:Program}{loose:List Str}{XP:(Str->Option Value)->Heap->Prop}{YP:World->Heap->Prop}{d:DefRec}
  (hn:l.most=some n) (hdf:d.params.defaults=[])
  (call:∀(w:World) (s₀ s₁:Shared) (mg mb:Str->Option Value) (fa:Addr) (o:Obj) (pm cd doc:Value) (a:Addr) (vs:List Value) (ns:List Int),
   Ground q loose [] XP w s₀ mg mb s₁.heap->YP w s₁.heap ->
   s₁.heap.get? fa=some o->o.data=.func (docDef d.name d.params d.body d.scope pm cd doc)->s₁.heap.CodeRec cd d.name->mg d.name=some (.ref fa) ->
   s₁.heap.get? a=some {cls:=.type "list",data:=.seq vs.toArray}->IntsAre vs ns->ns.length<=n->s₁.gens = #[] ->
   codeAny (model l.prog w) callerA (.call (.ref fa) ⟨[.ref a],[]⟩) (fun r s'=>r=.ok (.ret (.bool true))/\OldK s₁.heap s'.heap/\s'.os=s₁.os/\AllBare s'.gens) s₁) :
  WalkO q loose XP YP l.row.toRowW d [] (fun f vs=>PySem.call f vs):=by
 intro w s₀ s₁ mg mb G Y fa o pm cd doc dV kV ho hd hcd hD hmg hg args vals as hpre hlay hrd hwl hlo;obtain rfl:dV=.none:=Dflts.none hD hdf;obtain rfl:kV=.none:=Dflts.noKw hD;obtain⟨a,vs,ns,rfl,rfl,hobj,hints,hlen⟩:=jqe hn hpre hwl;refine enter_call (codeAny_mono (call w s₀ s₁ mg mb fa o pm cd doc a vs ns G Y ho (fd_plain hd) hcd hmg hobj hints hlen hg) fun r s' hq=>?_);obtain⟨rfl,h2,h3,h4⟩:=hq;exact⟨.inl ⟨.bool true,.bool true,[],rfl,fun _=>rfl,.bool true,jr0 l _,fun _=>⟨List.Pairwise.nil,fun _ hm=>(nomatch hm)⟩⟩,h2,h3,h4⟩
section
variable {prog:Program} {w:World} {A:Around} {E:Value->Shared->Prop} {s:Shared} {K:Frag}
end
end Att
namespace _L2
open PySem PySem.Spec PyProof.Rows
theorem jl4:∀{vs:List Value} {ns:List Int},IntsAre vs ns->jaI (ns.map V.int) vs
 |_,_,.nil=>.nil
 |_,_,.cons n t h=>.cons ⟨t,rfl⟩ (jl4 h)
def jDc (H:Hp):Prop:=∀b,H b=none∨∃o xs,H b=some (.frz o (.lst xs))
theorem jta {P:Program}{w:World}{K:PySem.W.Frag}{mg mb:Str->Option Value}{CX:CXT}{k:Nat}{fa a:Addr}{fd:FuncData}{x:Str}{sp:Sp}{s₁:Shared}{vs:List Value}{ns:List Int}
  (KX:K.In s₁.heap) (hns:s₁.heap.Ns mainGlobals mg) (hb:s₁.heap.Ns builtinsNs mb) (hbb:∀x:Str,x≠"__name__"->mb x=bootBuiltins x) (hlim:s₁.heap.NoLimit) (hg:s₁.gens = #[])
  (ha:s₁.heap.get? a=some {cls:=.type "list",data:=.seq vs.toArray}) (hi:IntsAre vs ns) (hl:ns.length<=sizeLine) (hr:Room k callerA)
  (F:∀base:Heap,K.In base->base.Ns mainGlobals mg->FnOk P w K mg base CX k fa fd [x] sp) (hbind:∀(s:Shared) (u:Value),BindsTo s fd ⟨[u],[]⟩ [(x,u)])
  (hsp:∀H:Hp,jDc H->SqL K H a (ns.map V.int)->sp [.ref a] H (fun v _=>v=.bl true) fun _ _ _=>False)
  (hCX:∀H e s',CX [] H s₁ (fun _ _ _=>False) e s'->False) :
  codeAny (model P w) callerA (.call (.ref fa) ⟨[.ref a],[]⟩) (fun r s'=>r=.ok (.ret (.bool true))/\OldK s₁.heap s'.heap/\s'.os=s₁.os/\AllBare s'.gens) s₁:=by
 have rv:=jl4 hi;have lenV:=hi.length
 have core:∀H:Hp,jDc H->SqL K H a (ns.map V.int)->HOk P w H s₁.heap->(∀b,H b≠none->b=a)->(H a≠none->K.lookup a=none) ->
   codeAny (model P w) callerA (.call (.ref fa) ⟨[.ref a],[]⟩) (fun r s'=>r=.ok (.ret (.bool true))/\OldK s₁.heap s'.heap/\s'.os=s₁.os/\AllBare s'.gens) s₁:=by
  intro H hO hS hok hA hK;have base_of:∀{b:Addr} {o:Obj},s₁.heap.get? b=some o->H b=none->(jtG s₁.heap H).get? b=some o:=fun e n=>jtR e n;have noA:∀{b:Addr} {o:Obj} {es:Array DictEntry} {ep:Nat},s₁.heap.get? b=some o->o.data=.dict es ep->H b=none:=fun {b o es ep} e d=>by
   cases q:H b with
   |none=>rfl
   |some u=>
    have e':b=a:=hA b (by rw[q];simp);subst e';rw[ha]at e;cases e;have d':Data.seq vs.toArray _=Data.dict es ep:=d;cases d'
  have nsK:∀{b:Addr} {m:Str->Option Value},s₁.heap.Ns b m->(jtG s₁.heap H).Ns b m:=fun {b m} ⟨o,es,ep,e,d,r⟩=>⟨o,es,ep,base_of e (noA e d),d,r⟩;have hKb:K.In (jtG s₁.heap H):=fun b o e=>base_of (KX b o e) (by
   cases q:H b with
   |none=>rfl
   |some u=>
    have e':b=a:=hA b (by rw[q];simp);subst e';rw[hK (by rw[q];simp)]at e;cases e)
  have hM:Mod K mg (jtG s₁.heap H):=⟨hKb,nsK hns,⟨mb,nsK hb,hbb⟩,let⟨mc,h1,h2⟩:=hlim;⟨mc,nsK h1,h2⟩⟩;have e0:Env0 P w K mg (jtG s₁.heap H) callerA [] s₁ H:=⟨rfl,hM,fun b o e=>jwr e,j1f (jsU _ _),trivial,fun b hb=>absurd (show b∈([]:List Addr)from hb) (by simp),hok,.of_eq hg⟩;refine codeAny_mono ((F _ hKb (nsK hns)).run callerA [] s₁ H ⟨[.ref a],[]⟩ [.ref a] [.ref a] _ _ hr e0 (hbind s₁ (.ref a)) (.cons rfl .nil) (hsp H hO hS)) fun r s' h=>?_
  cases r with
  |error e=>exact(hCX H e s' h).elim
  |ok fl=>
   cases fl with
   |next=>exact False.elim h
   |brk=>exact False.elim h
   |cont=>exact False.elim h
   |ret u=>
    obtain⟨v,H',os,bare,un,hok',r',q⟩:=h;have q':v=.bl true:=q;subst q';obtain rfl:u=Value.bool true:=r';refine⟨rfl,OldK.of_keep fun b o e=>?_,os,bare⟩
    cases q:H b with
    |none=>exact un.keep b o e q (by intro z;exact absurd (show b∈([]:List Addr)from z) (by simp)) (by simp)
    |some u=>
     rcases hO b with z|⟨ob,xs,z⟩
     ·rw[q]at z;cases z
     ·have z2:=un.frzs b ob _ z;obtain⟨e1,_⟩:=hok b _ z;obtain⟨e2,_⟩:=hok' b _ z2;rw[e]at e1;cases e1;exact e2
 cases hk:K.lookup a with
 |some o=>
  have e:=KX a o hk;rw[ha]at e;cases e;refine core (fun _=>none) (fun _=>.inl rfl) (.inr ⟨_,vs.toArray,_,hk,rfl,rfl,rfl,by rw[j0h,lenV];exact hl,by simpa using rv⟩) (fun b u z=>by have z':(none:Option HO)=some u:=z;cases z') (fun b z=>absurd rfl z) fun z=>absurd rfl z
 |none=>
  refine core (fun b=>if b=a then some (.frz {cls:=.type "list",data:=.seq vs.toArray} (.lst (ns.map V.int)))else none) (fun b=>?_) (.inl (.inr ⟨{cls:=.type "list",data:=.seq vs.toArray},if_pos rfl⟩)) (fun b u z=>?_) (fun b z=>?_) fun _=>hk
  ·by_cases hb:b=a
   ·exact .inr ⟨_,_,if_pos hb⟩
   ·exact .inl (if_neg hb)
  ·by_cases hb:b=a
   ·have z':=(if_pos hb).symm.trans z;cases z';subst hb;exact⟨ha,by rw[j0d];exact hl,vs,_,rv,ha⟩
   ·have z':=(if_neg hb).symm.trans z;cases z'
  ·by_cases hb:b=a
   ·exact hb
   ·exact absurd (if_neg hb) z
theorem jx {l:PySem.W.OpenLaw}{n k:Nat}{q:Program}{loose:List Str}{XP:(Str->Option Value)->Heap->Prop}{YP:World->Heap->Prop}{d:DefRec}{K:Params->PySem.W.Frag}{CX:World->CXT}{sp:World->Sp}{x:Str}
  (hn:l.most=some n) (hn2:n<=sizeLine) (hdf:d.params.defaults=[]) (hr:Room k callerA)
  (hY:∀(w:World) (h:Heap),YP w h->(K w.params).In h)
  (F:∀(w:World) (mg:Str->Option Value) (fa:Addr) (h:Heap),(K w.params).In h->h.Ns mainGlobals mg->mg d.name=some (.ref fa) ->
   ∃fd:FuncData,(∀(s:Shared) (u:Value),BindsTo s fd ⟨[u],[]⟩ [(x,u)]) /\
    ∀base:Heap,(K w.params).In base->base.Ns mainGlobals mg->FnOk l.prog w (K w.params) mg base (CX w) k fa fd [x] (sp w))
  (hsp:∀(w:World) (H:Hp) (a:Addr) (ns:List Int),ns.length<=n->jDc H->SqL (K w.params) H a (ns.map V.int)->sp w [.ref a] H (fun v _=>v=.bl true) fun _ _ _=>False)
  (hCX:∀(w:World) (H:Hp) (s:Shared) (e:Value) (s':Shared),CX w [] H s (fun _ _ _=>False) e s'->False) :
  PySem.W.WalkO q loose XP YP l.row.toRowW d [] (fun f vs=>PySem.call f vs):=by
 refine Att.attach_call hn hdf fun w s₀ s₁ mg mb fa o pm cd doc a vs ns G Y ho hd hcd hmg hobj hints hlen hg=>?_;have KX:=hY w _ Y;obtain⟨fd,hb,hF⟩:=F w mg fa _ KX G.T.g hmg;exact jta KX G.T.g G.T.b G.T.builtins G.T.nolimit hg hobj hints (j0A hlen hn2) hr hF hb (fun H hO hS=>hsp w H a ns hlen hO hS) fun H e s'=>hCX w H s₁ e s'
theorem walk_ofK {l:PySem.W.OpenLaw}{n k:Nat}{q:Program}{loose:List Str}{XP:(Str->Option Value)->Heap->Prop}{YP:World->Heap->Prop}{d:DefRec}{K:Params->PySem.W.Frag}{CX:CXT}{sp:PySem.W.Frag->Sp}{x:Str}
  (hn:l.most=some n) (hn2:n<=sizeLine) (hdf:d.params.defaults=[]) (hr:Room k callerA)
  (hY:∀(w:World) (h:Heap),YP w h->(K w.params).In h)
  (F:∀(w:World) (mg:Str->Option Value) (fa:Addr) (h:Heap),(K w.params).In h->h.Ns mainGlobals mg->mg d.name=some (.ref fa) ->
   ∃fd:FuncData,(∀(s:Shared) (u:Value),BindsTo s fd ⟨[u],[]⟩ [(x,u)]) /\
    ∀base:Heap,(K w.params).In base->base.Ns mainGlobals mg->FnOk l.prog w (K w.params) mg base CX k fa fd [x] (sp (K w.params)))
  (hsp:∀(K:PySem.W.Frag) (H:Hp) (a:Addr) (ns:List Int),ns.length<=n->jDc H->SqL K H a (ns.map V.int)->sp K [.ref a] H (fun v _=>v=.bl true) fun _ _ _=>False)
  (hCX:∀(H:Hp) (s:Shared) (e:Value) (s':Shared),CX [] H s (fun _ _ _=>False) e s'->False) :
  PySem.W.WalkO q loose XP YP l.row.toRowW d [] (fun f vs=>PySem.call f vs):=
 jx (K:=K) (CX:=fun _=>CX) (sp:=fun w=>sp (K w.params)) hn hn2 hdf hr hY F (fun w H a ns h1 h2 h3=>hsp (K w.params) H a ns h1 h2 h3) fun _ H s e s'=>hCX H s e s'
noncomputable def jnw (s:Stmt)(j:Nat):Stmt:=match s with
 |.ClassDef _ _ _ body _ _ _ _ _ _ _=>body.getD j (.Pass ⟨0,0,0,0⟩)
 |_=>.Pass ⟨0,0,0,0⟩
noncomputable def jfh (s:Stmt):Arguments:=match s with
 |.FunctionDef _ a _ _ _ _ _ _ _ _=>a
 |_=>{posonlyargs:=[],args:=[],vararg:=none,kwonlyargs:=[],kw_defaults:=[],kwarg:=none,defaults:=[]}
noncomputable def jbp (s:Stmt):List Stmt:=match s with
 |.FunctionDef _ _ b _ _ _ _ _ _ _=>b
 |_=>[]
noncomputable def jau (s:Stmt):Scope:=match s with
 |.FunctionDef _ _ _ _ _ _ sc _ _ _=>sc
 |_=>{kind:=.function,names:=[],isGenerator:=false,isCoroutine:=false}
noncomputable abbrev CX0:CXT:=fun _ _ _ _ _ _=>False
noncomputable abbrev E0:XK:=fun _ _ _=>False
theorem jEp:jjT CX0 X E0:=fun _ _ _ _ _ _ _ h=>h.elim
structure Fun (K:PySem.W.Frag) (x qual:Str) (st:Stmt) (f:Addr) (fd:FuncData):Prop where
 ex:∃(oc:Value) (od:Option Addr) (kV doc pm:Value) (an:Option Addr) (cdv ct:Value) (osl:Array (Option Value)),
  fd=PySem.W.fnOf x qual (jfh st) (jbp st) (jau st) .none kV doc pm an cdv ct/\K.lookup f=some ⟨oc,od,.func fd,osl⟩/\PySem.W.codeIn K cdv qual=true
 kp:PySem.W.keepIn K (.ref f)=true
section
variable {P:Program} {w:World} {K:PySem.W.Frag} {mg:Str->Option Value} {base:Heap}
theorem Fun.ok {x qual:Str}{st:Stmt}{f:Addr}{fd:FuncData}{N ps:List Str}{k:Nat}{sp:Sp}(F:Fun K x qual st f fd)(S:FnScope N ps (jau st))(len:∀vs H Q E,sp vs H Q E->vs.length=ps.length)
  (hbody:∀(cdv:Value) (A:Around) (outer:List Env) (s:Shared) (H:Hp) (vs:List V) (Q:VK) (E:XK),Room k (A.deeper (envOfC qual (jau st) s.heap.objs.size f cdv))->sp vs H Q E ->
   ∃t,PSs (jwx CX0 P w K mg base N qual (jau st) f cdv A outer s H E).nox (jbp st) t/\t {nx:=fun _ H'=>Q .non H',rt:=Q} (start N vs) H):FnOk P w K mg base CX0 (k+1) f fd ps sp:=by
 obtain⟨oc,od,kV,doc,pm,an,cdv,ct,osl,rfl,lk,hcd⟩:=F.ex;refine jEq lk hcd S len fun A outer s H vs Q E hr hsp=>?_;obtain⟨t,h,q⟩:=hbody cdv A outer s H vs Q E hr hsp;exact⟨t,h.nox,q⟩
theorem Fun.binds {x qual:Str}{st:Stmt}{f:Addr}{fd:FuncData}{ps:List Str}(F:Fun K x qual st f fd)
  (h:∀(kV doc pm:Value) (an:Option Addr) (cdv ct:Value) (us:List Value),us.length=ps.length->bindArgs (PySem.W.fnOf x qual (jfh st) (jbp st) (jau st) .none kV doc pm an cdv ct) ⟨us,[]⟩=pure (ps.zip us)):jdF K fd ps []:=by
 obtain⟨oc,od,kV,doc,pm,an,cdv,ct,osl,rfl,lk,hcd⟩:=F.ex;exact .all (h kV doc pm an cdv ct)
theorem jvH {x qual:Str}{st:Stmt}{f:Addr}{oc:Value}{od an:Option Addr}{osl:Array (Option Value)}{kV doc pm cdv ct:Value}(l:K.lookup f=some ⟨oc,od,.func (PySem.W.fnOf x qual (jfh st) (jbp st) (jau st) .none kV doc pm an cdv ct),osl⟩)
  (c:PySem.W.codeIn K cdv qual=true) (k:PySem.W.keepIn K (.ref f)=true):Fun K x qual st f (PySem.W.fnOf x qual (jfh st) (jbp st) (jau st) .none kV doc pm an cdv ct):=⟨⟨oc,od,kV,doc,pm,an,cdv,ct,osl,rfl,l,c⟩,k⟩
end
section
variable {X:Cx}
end
def jgH (H H':Hp):Prop:=∀b o,H b=some o->H' b=some o
theorem jgH.refl (H:Hp):jgH H H:=fun _ _ h=>h
theorem jgH.trans (a:jgH H H1)(b:jgH H1 H2):jgH H H2:=fun c o h=>b c o (a c o h)
theorem jgH.free (e:jgH H H'){l:Addr}(h:H' l=Option.none):H l=Option.none:=by
 cases q:H l with
 |none=>rfl
 |some o=>
  rw[e l o q]at h;cases h
theorem jgH.seq {K:PySem.W.Frag}{H H':Hp}{a:Addr}{xs:List V}(e:jgH H H')(h:SqL K H a xs):SqL K H' a xs:=by
 rcases h with(h|⟨o,h⟩)|h
 ·exact .inl (.inl (e _ _ h))
 ·exact .inl (.inr ⟨o,e _ _ h⟩)
 ·exact .inr h
theorem jgN {a b c:Nat}(h:a<b)(k:b<=c):a≠c:=j0k (j0m h k)
theorem jDA {a b:Nat}(h:a<b)(k:b<=a):False:=absurd (j0m h k) (Nat.lt_irrefl _)
noncomputable def jkV (names:List (Str×NameKind))(cells:List (Str×Addr)):List (Str×Addr):=
 (names.filterMap fun p=>if p.2==.free then(cells.lookup p.1).map fun c=>(p.1,c)else none).reverse
theorem jdr (env:Env):∀(names:List (Str×NameKind)) (acc:List (Str×Addr)),(∀p∈names,p.2=.free->∃c,env.cells.lookup p.1=some c) ->
  (forIn names acc fun(x:Str×NameKind) cs=>(match x with
   |(name,kind)=>if(kind==.free)=true then(do let c <- cellOf env name;pure (ForInStep.yield ((name,c)::cs)))else pure (ForInStep.yield cs)):Sem (List (Str×Addr)))
   =pure (jkV names env.cells++acc)
 |[],acc,_=>rfl
 |(n,k)::r,acc,h=>by
  have hr:∀p∈r,p.2=.free->∃c,env.cells.lookup p.1=some c:=fun p hp=>h p (j0p _ hp);rw[List.forIn_cons];by_cases hk:k=.free
  ·subst hk;obtain⟨c,hc⟩:=h (n,.free) j0v rfl;have e1:cellOf env n=pure c:=by
    unfold cellOf;have hc':env.cells.lookup n=some c:=hc;rw[hc']
   have e2:jkV ((n,NameKind.free)::r) env.cells=jkV r env.cells++[(n,c)]:=by
    have hc':env.cells.lookup n=some c:=hc;unfold jkV;rw[j1x];simp[hc']
   simp only[beq_self_eq_true,if_true,e1,pure_bind];rw[jdr env r _ hr,e2,j0n];rfl
  ·have hb:(k==NameKind.free)=false:=by simpa using hk
   have e2:jkV ((n,k)::r) env.cells=jkV r env.cells:=by
    unfold jkV;rw[j1x];simp[hb]
   simp only[hb,j0H,if_false,pure_bind];rw[jdr env r _ hr,e2]
theorem jkC (h:∀p∈scope.names,p.2=.free->∃c,env.cells.lookup p.1=some c):closureFor scope env=pure (jkV scope.names env.cells):=by
 have q:=jdr env scope.names [] h;rw[j0x]at q;unfold closureFor;simp only[bind_pure];exact q
theorem jtS (h:(x,c)∈jkV names cells):(x,NameKind.free)∈names/\cells.lookup x=some c:=by
 unfold jkV at h;rw[List.mem_reverse,j1c]at h;obtain⟨⟨n,k⟩,hm,e⟩:=h;by_cases hk:k=.free
 ·subst hk;simp only[beq_self_eq_true,if_true]at e
  cases q:cells.lookup n with
  |none=>rw[q]at e;cases e
  |some a=>
   rw[q]at e;have e':(n,a)=(x,c):=j0E e;cases e';exact⟨hm,q⟩
 ·have hb:(k==NameKind.free)=false:=by simpa using hk
  simp only[hb,j0H,if_false]at e;cases e
theorem jaz (h:(jkV names cells).lookup x=some c):cells.lookup x=some c:=(jtS (j07 h)).2
theorem jkT {α:Type}{x:Str}{l:List (Str×α)}{a:α}(h:(x,a)∈l):∃b,l.lookup x=some b:=by
 induction l with
 |nil=>cases h
 |cons p r ih=>
  obtain⟨n,b⟩:=p;by_cases e:x=n
  ·subst e;exact⟨b,by simp[List.lookup_cons]⟩
  ·rcases j0q.mp h with z|z
   ·cases z;exact absurd rfl e
   ·obtain⟨b',q⟩:=ih z;exact⟨b',by rw[List.lookup_cons,(by simpa using e:(x==n)=false)];exact q⟩
theorem jn8 {names:List (Str×NameKind)}{cells:List (Str×Addr)}{x:Str}{c:Addr}(h:(x,NameKind.free)∈names)(hc:cells.lookup x=some c):(jkV names cells).lookup x=some c:=by
 have hm:(x,c)∈jkV names cells:=by
  unfold jkV;rw[List.mem_reverse,j1c];exact⟨(x,.free),h,by simp[hc]⟩
 obtain⟨b,q⟩:=jkT hm;have:=jaz q;rw[hc]at this;cases this;exact q
theorem jez (hc:∀y∈scope.names,y.2≠.cell)(h:(relabel scope env).names.lookup x=some .cell∨(relabel scope env).names.lookup x=some .free):(x,NameKind.free)∈scope.names:=by
 have key:∀k,(relabel scope env).names.lookup x=some k->(k=.cell∨k=.free)->(x,NameKind.free)∈scope.names:=fun k q hk=>by
  have m:=j07 q;unfold relabel at m;rw[j0s]at m;obtain⟨⟨n,k'⟩,hm,e⟩:=m;dsimp only at e;by_cases hf:k'=.free
  ·subst hf;split at e<;>cases e<;>exact hm
  ·have hb:(k'==NameKind.free)=false:=by simpa using hf
   simp only[hb,Bool.false_and,j0H,if_false]at e;cases e;rcases hk with rfl|rfl
   ·exact absurd rfl (hc _ hm)
   ·exact absurd rfl hf
 rcases h with h|h
 ·exact key _ h (.inl rfl)
 ·exact key _ h (.inr rfl)
noncomputable def jaR (X:Cx)(N':List Str)(scope:Scope)(C:Addr)(fp:List Addr)(s₂:Shared)(H₂:Hp):Cx where
 prog:=X.prog
 w:=X.w
 K:=X.K
 mg:=X.mg
 base:=X.base
 A:=X.A
 N:=N'
 s₀:=s₂
 H₀:=H₂
 env:=compEnvC scope (jkV scope.names X.env.cells) C X.env
 outer:=X.stack
 stack:=X.stack
 ex:=fp
 fn:=fun _=>false
 calm:=X.calm
 pn:=[]
 xe:=fun _ _=>False
structure CompScope (X:Cx) (own N':List Str) (scope:Scope):Prop where
 kind:scope.kind=.function
 nocell:∀y∈scope.names,y.2≠.cell
 names:∀y∈scope.names,y.2=.local->scope.names.lookup y.1=some .local
 free:∀y∈scope.names,y.2=.free->(X.env.kindOf y.1=some .cell∨X.env.kindOf y.1=some .free)
 len:N'.length=own.length+X.N.length
 outer:∀(i:Nat) (x:Str),(N'.drop own.length)[i]?=some x->(x,NameKind.free)∈scope.names->X.N[i]?=some x
 apart:∀x∈N'.drop own.length,(relabel scope X.env).names.lookup x≠some .local
def Cmp (J:It)(k:Nat)(g:TG)(tt:TT)(te:TE)(σ:St)(Q:VK)(H1:Hp):Prop:=∃W:Nat->Nat->List V->Hp->Prop,(∃m,W 0 m [] H1)/\∀i m ys H,W i m ys H ->
 (J.stop i H/\∀p,H p=none->Q (.ref p) (upd H p (.lst ys))) ∨
 (J.go i H/\ys.length<sizeLine/\∃(N1:V->Hp->Prop) (N0:Hp->Prop),(∀y H',N1 y H'->∃m',m'<m/\W (i+1) m' (ys++[y]) H')/\(∀H',N0 H'->∃m',m'<m/\W (i+1) m' ys H') /\
  ∀x H',J.yld i H x H'->g x (List.replicate k none++σ) H' fun σ2 H2=>tt σ2 H2 fun b H3=>if b=true then te σ2 H3 N1 else N0 H3)
def jxw (k:Nat)(wi:TI)(g:TG)(tt:TT)(te:TE):TE:=fun σ H Q=>wi σ H fun J H1=>Cmp J k g tt te σ Q H1
def PTs (X:Cx)(ifs:List Expr)(t:TT):Prop:=
 ∀(pins:List (Addr×Obj)) (s:Shared) (σ:St) (H:Hp) (Q:Bool->Hp->Prop),Inv X pins σ H s->t σ H Q ->
  wpAny (model X.prog X.w) X.A (forIn ifs true fun c r=>if r=true then do let ok <- isTrue c X.env (eval c X.env);pure (ForInStep.yield ok)else pure (ForInStep.yield r)) (TP X pins σ Q) X.xe s
def jE1:TT:=fun _ H Q=>Q true H
theorem jyX:PTs X [] jE1:=fun _ _ σ H Q I h=>wpAny_tests_nil ⟨H,I,h⟩
theorem jys (h:PT X c t):PTs X [c] t:=fun pins s σ H Q I q=>wpAny_tests_one (h pins s σ H Q I q)
noncomputable abbrev jA6 (cs:List Expr) (en:Env):Sem Bool:=forIn cs true fun c yes=>if yes=true then isTrue c en (eval c en) >>=fun b=>pure (ForInStep.yield b)else pure (ForInStep.yield yes)
noncomputable abbrev jyn (P:Program) (W:World) (B:Around) (elt tgt:Expr) (cs:List Expr) (src lst:Value) (en:Env) (Er:Value->Shared->Prop) (Go:Shared->Prop) (v:Value):Shared->Prop:=wpAny (model P W) B (letOwnedTupleGo tgt src v) (fun _ t2=>
 wpAny (model P W) B (assign tgt en v) (fun _ t3=>wpAny (model P W) B (jA6 cs en) (fun yes t4=>if yes=true then wpAny (model P W) B (eval elt en) (fun x t5=>wpAny (model P W) B (call (.builtin "list.append") [lst,x]) (fun _ t6=>Go t6) Er t5) Er t4 else Go t4) Er t3) Er t2) Er
theorem jlQ (hEr:∀x t,Er x t->notedBy (model P W) B en (fun y t'=>R (.error y) t') x t)(J:Nat->Shared->Prop)
  (turn:∀k t,J k t->wpAny (model P W) B (pyNext src) (fun got t1=>match got with|none=>R (.ok .next) t1|some v=>jyn P W B elt tgt cs src lst en Er (fun t6=>∃j,j<k/\J j t6) v t1) Er t)
  (k:Nat) (start:J k s):codeAny (model P W) B (.compLoop (.ListComp elt [⟨tgt,iter,cs,0⟩] scope pos) 0 src lst en) R s:=by
 refine codeAny_loop rfl J (fun j t hj=>?_) k start;refine(?_:wpAny _ B ((compTurn (.ListComp elt [⟨tgt,iter,cs,0⟩] scope pos) 0 src lst en).onRaise fun x=>do noteFrame x en;theTreesLotGoes x) _ _ t);refine wpAny_noted ?_;rw[compTurn_list];refine wpAny_bind (wpAny_standAt (wpAny_bind (wpAny_mono (turn j t hj) (fun got t1 h1=>?_) hEr)))
 match got,h1 with
 |none,h1=>exact wpAny_pure h1
 |some v,h1=>
  refine wpAny_bind (wpAny_mono h1 (fun _ t2 h2=>wpAny_bind (wpAny_mono h2 (fun _ t3 h3=>wpAny_bind (wpAny_mono h3 (fun yes t4 h4=>?_) hEr)) hEr)) hEr)
  match yes,h4 with
  |true,h4=>exact wpAny_bind (wpAny_bind (wpAny_mono h4 (fun x t5 h5=>wpAny_bind (wpAny_mono h5 (fun _ t6 h6=>wpAny_pure (wpAny_pure ⟨rfl,h6⟩)) hEr)) hEr))
  |false,h4=>exact wpAny_pure ⟨rfl,h4⟩
section
variable {X:Cx}
theorem CompScope.ok {own N':List Str}{scope:Scope}{C:Addr}{fp:List Addr}{s₂:Shared}{H₂:Hp}{pins:List (Addr×Obj)}{σ:St}(S:CompScope X own N' scope)(I:Inv X pins σ H₂ s₂)(hC:s₂.heap.objs.size<=C)
  (hf:∀b∈fp,jnz X pins H₂ b) (hlt:∀b∈fp,b<s₂.heap.objs.size):(jaR X N' scope C fp s₂ H₂).Ok where
 mod:=I.ok.mod
 kind:=S.kind
 glob:=I.ok.glob
 blt:=I.ok.blt
 above:=hC
 inj:=fun x y c h1 h2=>I.ok.inj x y c (jaz h1) (jaz h2)
 has:=fun x h=>by
  have hm:=jez S.nocell h;obtain⟨c,hc⟩:=I.ok.has x (S.free _ hm rfl);exact⟨c,jn8 hm hc⟩
 cab:=fun x c h=>by cases h
 hd:=I.ok.hd
 frames:=I.ok.frames
 stk:=.inl rfl
 exf:=fun b hb=>⟨jgN (hlt b hb) hC,fun x c h=>(hf b hb).2.2.2.2.1 x c (jaz h)⟩
 bs:=I.bs
 bsz:=j0A I.ok.bsz I.sz
 noex:=fun b o e hb=>by
  rcases(hf b hb).2.2.2.1 with z|z
  ·exact I.ok.noex b o e z
  ·exact jDA (j0i e) (j0A I.ok.bsz z)
 exfs:=fun b hb hs=>by
  rcases j0q.mp (I.stkSub b hs)with z|z
  ·exact(hf b hb).2.1 z
  ·exact(hf b hb).2.2.1 z
 funs:=I.stack
 frf:=I.stkFree
theorem CompScope.inv {own N':List Str}{scope:Scope}{C D:Addr}{fp:List Addr}{s₂ s₄:Shared}{H₂:Hp}{pins:List (Addr×Obj)}{σ:St}{oD:Obj}{m:Str->Option Value}(S:CompScope X own N' scope)(I:Inv X pins σ H₂ s₂)(hC:s₂.heap.objs.size<=C)
  (hf:∀b∈fp,jnz X pins H₂ b) (hlt:∀b∈fp,b<s₂.heap.objs.size) (hos:s₄.os=s₂.os) (hg:s₄.gens=s₂.gens) (k:∀b u,s₂.heap.get? b=some u->s₄.heap.get? b=some u) (hn:s₄.heap.Ns C m)
  (hD:s₄.heap.get? D=some oD) (hDs:s₂.heap.objs.size<=D) (hDC:D≠C) (hDd:∀v,oD.data≠.cell v) :
  Inv (jaR X N' scope C fp s₂ H₂) [(D,oD)] (List.replicate own.length none++σ) H₂ s₄ where
 ok:=S.ok I hC hf hlt
 os:=hos
 bare:=by rw[hg];exact I.bare
 base:=Un.kept k
 loc:=⟨m,hn,fun i x v e1 e2 e3=>by
  obtain⟨mX,hnX,hlX⟩:=I.loc;have hge:own.length<=i:=by
   refine Nat.le_of_not_lt fun hi=>?_;rw[j0X (by simpa using hi),List.getElem?_replicate]at e2;split at e2<;>cases e2
  rw[j06 (by simpa using hge),List.length_replicate]at e2;have e1':(N'.drop own.length)[i - own.length]?=some x:=by
   rw[List.getElem?_drop,show own.length+(i - own.length)=i by omega];exact e1
  have nl:=S.apart x (j0C e1');have hfr:(x,NameKind.free)∈scope.names:=by
   rcases e3 with z|z|z
   ·exact absurd z nl
   ·exact jez S.nocell (.inl z)
   ·exact jez S.nocell (.inr z)
  have hk:=S.free _ hfr rfl;obtain⟨u,r,l⟩:=hlX (i - own.length) x v (S.outer _ _ e1' hfr) e2 (by
   rcases hk with z|z
   ·exact .inr (.inl z)
   ·exact .inr (.inr z))
  refine⟨u,r,?_⟩;rcases l with⟨z,_⟩|⟨_,c,hc,o,ho,hd⟩
  ·rcases hk with q|q
   ·rw[q]at z;cases z
   ·rw[q]at z;cases z
  ·refine .inr ⟨?_,c,jn8 hfr hc,o,k _ _ ho,hd⟩;rcases e3 with z|z|z
   ·exact absurd z nl
   ·exact .inl z
   ·exact .inr z⟩
 cell:=fun x c h=>by
  obtain⟨v,o,ho,hd⟩:=I.cell x c (jaz h);exact⟨v,o,k _ _ ho,hd⟩
 free:=I.hok.fresh hC
 freeC:=fun x c h=>I.freeC x c (jaz h)
 pin:=fun p hp=>by
  have e:p=(D,oD):=by
   have hp':p∈[(D,oD)]:=hp;simpa using hp'
  subst e;refine⟨hD,I.hok.fresh hDs,hDC,fun z=>?_,hDd⟩;rcases j0q.mp (I.stkSub D z)with q|q
  ·exact jgN I.lt hDs q.symm
  ·exact I.nofs hDs q
 hok:=I.hok.kept k
 len:=by
  show _=N'.length;rw[S.len,j0o,List.length_replicate,I.len]
theorem jkh {own N':List Str}{scope:Scope}{elt tg iter:Expr}{ifs:List Expr}{pos:Pos}{g:TG}{tt:TT}{te:TE}{it:Addr}{fp:List Addr}{tn:Nat->Heap->Prop}{J:It}{pins:List (Addr×Obj)}{s₂:Shared}{σ:St}{H₂:Hp}{Q:VK}
  {RR:Value->Addr->Result->Shared->Prop} {E:Value->Shared->Prop} {xe:Addr->List Addr->Shared->Hp->Value->Shared->Prop} (hc:X.calm=true) (S:CompScope X own N' scope)
  (hg:∀C s H,PG ((jaR X N' scope C fp s H).wish (xe C fp s H)) tg g) (ht:∀C s H,PTs ((jaR X N' scope C fp s H).wish (xe C fp s H)) ifs tt) (he:∀C s H,PE ((jaR X N' scope C fp s H).wish (xe C fp s H)) elt te)
  (I:Inv X pins σ H₂ s₂) (T:Turn X.prog X.w X.K tg J fp it tn) (st:tn 0 s₂.heap) (hf:∀b∈fp,jnz X pins H₂ b)
  (W:Nat->Nat->List V->Hp->Prop) (m0:Nat) (w0:W 0 m0 [] H₂)
  (turn:∀i m ys H,W i m ys H->(J.stop i H/\∀p,H p=none->Q (.ref p) (upd H p (.lst ys))) ∨
   (J.go i H/\ys.length<sizeLine/\∃(N1:V->Hp->Prop) (N0:Hp->Prop),(∀y H',N1 y H'->∃m',m'<m/\W (i+1) m' (ys++[y]) H')/\(∀H',N0 H'->∃m',m'<m/\W (i+1) m' ys H') /\
    ∀x H',J.yld i H x H'->g x (List.replicate own.length none++σ) H' fun σ2 H2=>tt σ2 H2 fun b H3=>if b=true then te σ2 H3 N1 else N0 H3))
  (hRR:∀(D C:Addr) (s':Shared) (H':Hp) (m':Str->Option Value),Inv X pins σ H' s'->Q (.ref D) H'->s'.heap.Ns C m'->H' C=none->C≠X.env.locals->X.s₀.heap.objs.size<=C->(∀x c,X.env.cells.lookup x=some c->c≠C)->(∀p∈X.pn++pins,p.1≠C) ->
   RR (.ref D) C (.ok .next) s')
  (hX:∀(D C:Addr) (v:Value) (s':Shared),s₂.heap.objs.size<=C->xe C fp s₂ H₂ v s'->notedBy (model X.prog X.w) X.A (compEnvC scope (jkV scope.names X.env.cells) C X.env) (fun x s''=>RR (.ref D) C (.error x) s'') v s') :
  wpAny (model X.prog X.w) X.A (newList []) (fun acc s₃=>wpAny (model X.prog X.w) X.A (newFunctionEnv scope X.env.globals (jkV scope.names X.env.cells) [] X.env.qual none .none (some X.env)) (fun cenv s₄=>
   codeAny (model X.prog X.w) X.A (.compStart (.ListComp elt [⟨tg,iter,ifs,0⟩] scope pos) 0 (.ref it) acc {cenv with scope:=relabel scope X.env}) (RR acc cenv.locals) s₄) E s₃) E s₂:=by
 refine wpAny_newObj_type (wpAny_newFunctionEnv S.nocell (by intro y hy;simp at hy) (fun h₁ hns₁ hsb₁=>?_) S.kind);dsimp only at hns₁ hsb₁ ⊢;generalize hH2:s₂.heap.push {cls:=.type "list",dict:=none,data:=.seq ([]:List Value).toArray}=H2 at hns₁ hsb₁ ⊢;have hC:H2.objs.size=s₂.heap.objs.size+1:=hH2▸j09 ..;have hDC:s₂.heap.objs.size≠H2.objs.size:=j0k (by omega);have hCle:s₂.heap.objs.size<=H2.objs.size:=hC▸Nat.le_add_right _ 1;have below:∀b,b<s₂.heap.objs.size->b≠H2.objs.size/\b≠s₂.heap.objs.size:=fun b hb=>⟨j0k (j0m hb hCle),j0k hb⟩;have old:∀b o,s₂.heap.get? b=some o->h₁.get? b=some o:=fun b o e=>hsb₁.extBut b o (below b (j0i e)).1 (j0b _ (hH2▸j0b _ e));have hacc:h₁.get? s₂.heap.objs.size=some {cls:=.type "list",data:=.seq ([]:List Value).toArray 0}:=hsb₁.extBut _ _ hDC (j0b _ (hH2▸j0f _ rfl));have hflt:∀b∈fp,b<s₂.heap.objs.size:=fun b hb=>by
  obtain⟨o,e,_⟩:=T.obj 0 _ st b hb;exact j0i e
 generalize hCd:H2.objs.size=C at *;generalize hDd:s₂.heap.objs.size=D at *;have hDnf:D∉X.fs:=I.nofs (j1f hDd);have stat:∀{H':Hp} {o:Obj},(∀b∈fp,H' b=none)->∀b∈fp,jnz ((jaR X N' scope C fp s₂ H₂).wish (xe C fp s₂ H₂)) [(D,o)] H' b:=fun {H' o} hn b hb=>
  ⟨hn b hb,(jgN (hflt b hb) hCle),fun z=>((S.ok I (hDd▸hCle) hf (by rw[hDd];exact hflt)).wish (xe C fp s₂ H₂)).exfs b hb z,.inl hb,fun x c h=>(hf b hb).2.2.2.2.1 x c (jaz h),fun p hp=>by
   have e:p=(D,o):=by
    have hp':p∈[(D,o)]:=hp;simpa using hp'
   subst e;exact Ne.symm (j0k (hflt b hb))⟩
 have loop:∀s₃:Shared,s₃={s₂ with heap:=h₁,toks:=s₂.toks+([]:List (Str×Value)).length} ->
   codeAny (model X.prog X.w) X.A (.compLoop (.ListComp elt [⟨tg,iter,ifs,0⟩] scope pos) 0 (.ref it) (.ref D) (compEnvC scope (jkV scope.names X.env.cells) C X.env)) (RR (.ref D) C) s₃:=by
  rintro s₃ rfl;refine jlQ (Er:=xe C fp s₂ H₂) (fun x t h=>hX D C x t hCle h) (fun n s'=>∃i ys us nn H',Inv ((jaR X N' scope C fp s₂ H₂).wish (xe C fp s₂ H₂)) [(D,{cls:=.type "list",data:=.seq (us:List Value).toArray nn})] (List.replicate own.length none++σ) H' s'/\jaI ys us/\ys.length<=sizeLine /\
   tn i s'.heap/\(∀b∈fp,H' b=none)/\W i n ys H') ?_ m0 ⟨0,[],[],0,H₂,(S.inv (m:=fun x=>([]:List (Str×Value)).reverse.lookup x) (s₄:={s₂ with heap:=h₁,toks:=s₂.toks+([]:List (Str×Value)).length}) I (by rw[hDd];exact hCle) hf (by rw[hDd];exact hflt) rfl rfl old hns₁ hacc (j1f hDd) hDC (by intro v z;cases z)).wish _,.nil,j0J _,
    T.keep _ _ _ st fun b hb o e=>old b o e,fun b hb=>(hf b hb).1,w0⟩
  rintro n s3 ⟨i,ys,us,nn,H3,I3,rv,hyz,st3,fr3,w3⟩;rcases turn i n ys H3 w3 with⟨stop,qn⟩|⟨go,hlt,N1,N0,hN1,hN0,step⟩
  ·refine thn (T.done ((jaR X N' scope C fp s₂ H₂).wish (xe C fp s₂ H₂)) rfl rfl rfl hc i _ s3 _ H3 (xe C fp s₂ H₂) I3 (stat fr3) st3 stop) fun r s4 ⟨hr,I4⟩=>?_;subst hr;obtain⟨e4,n4,ne4,nf4,d4⟩:=I4.pin (D,_) (j0r _ (j0v));obtain⟨mC,hmC,_⟩:=I4.loc;have hH4:H3 D=none:=n4;have U:Un (frs X.stack) fp H₂ H3 s₂.heap s4.heap:=I4.base;have U':Un (frs X.stack) fp H₂ (upd H3 D (.lst ys)) s₂.heap s4.heap:=
    {keep:=U.keep,slot:=U.slot,there:=U.there
     free:=fun b o e nb hx=>by
      rw[jae (jgN (j0i e) (j1f hDd))];exact U.free b o e nb hx
     tups:=fun b xs e=>by
      rw[jae (jgN (I.hok.lt e) (j1f hDd))];exact U.tups b xs e
     frzs:=fun b o xs e=>by
      rw[jae (jgN (I.hok.lt e) (j1f hDd))];exact U.frzs b o xs e
     tbls:=fun b ps e=>by
      rw[jae (jgN (I.hok.lt e) (j1f hDd))];exact U.tbls b ps e}
   have hokD:HOk X.prog X.w (upd H3 D (.lst ys)) s4.heap:=fun b u e=>by
    by_cases hb:b=D
    ·subst hb;rw[jag]at e;cases e;exact⟨hyz,us,nn,rv,e4⟩
    ·rw[jae hb]at e;exact(I4.hok b u e).stay (fun _ _ _ q=>q) (fun c q=>by rw[jae (jar q hH4)];exact q) fun c xs q=>by rw[jae (jar q hH4)];exact q
   have IX:Inv X pins σ (upd H3 D (.lst ys)) s4:=I.call' I4.os U' hokD I4.bare fun b hb=>by
    obtain⟨f0,f1,f2,f3,f4,f5⟩:=hf b hb;exact⟨f3,f1,f4,f5⟩
   have hDne:C≠D:=fun z=>hDC z.symm;refine hRR D C s4 _ mC IX (qn D hH4) hmC (by rw[jae hDne];exact I4.free) (fun z=>?_) ?_ (fun x c h z=>?_) fun p hp z=>?_
   ·exact jgN I.lt (hDd▸hCle) z.symm
   ·exact j0A I.sz (hDd▸hCle)
   ·obtain⟨v,o,ho,_⟩:=I.cell x c h;exact jgN (j0i ho) (hDd▸hCle) z
   ·exact jgN (j0i (I.pin p hp).1) (hDd▸hCle) z
  ·refine thn (T.item ((jaR X N' scope C fp s₂ H₂).wish (xe C fp s₂ H₂)) rfl rfl rfl hc i _ s3 _ H3 (xe C fp s₂ H₂) I3 (stat fr3) st3 go) fun r s4 ⟨u,hr,h4⟩=>?_;subst hr;refine thn h4 fun _ s5 ⟨x,H5,I5,r5,y5,st5,fr5⟩=>?_;have I5':=I5.pinned (stat fr5) (T.obj _ _ st5);refine thn (hg C s₂ H₂ _ s5 _ H5 x u _ I5' r5 (step x H5 y5)) fun _ s6 ⟨σ6,H6,I6,q6⟩=>?_;have back:∀{σ7:St} {H7:Hp} {s7:Shared} {pp:List (Addr×Obj)},Inv ((jaR X N' scope C fp s₂ H₂).wish (xe C fp s₂ H₂)) (pp++jmj fp s5.heap) σ7 H7 s7->tn (i+1) s7.heap/\∀b∈fp,H7 b=none:=fun {σ7 H7 s7 pp} I7=>by
    refine⟨T.keep _ _ _ st5 fun b hb o e=>(I7.pin (b,o) (j0r _ (j0r _ (jeO hb e)))).1,fun b hb=>?_⟩;obtain⟨o,e,d⟩:=T.obj _ _ st5 b hb;exact(I7.pin (b,o) (j0r _ (j0r _ (jeO hb e)))).2.1
   refine thn (ht C s₂ H₂ _ s6 σ6 H6 _ I6 q6) fun b s7 ⟨H7,I7,q7⟩=>?_;have weak:∀{H8:Hp} {s8:Shared} {pp:List (Addr×Obj)},Inv ((jaR X N' scope C fp s₂ H₂).wish (xe C fp s₂ H₂)) pp σ6 H8 s8->Inv ((jaR X N' scope C fp s₂ H₂).wish (xe C fp s₂ H₂)) pp (List.replicate own.length none++σ) H8 s8:=fun {H8 s8 pp} J8=>by
    obtain⟨mC,hmC,_⟩:=J8.loc;refine⟨J8.ok,J8.os,J8.bare,J8.base,⟨mC,hmC,fun j y v e1 e2 e3=>?_⟩,J8.cell,J8.free,J8.freeC,J8.pin,J8.hok,I3.len⟩;obtain⟨m3,hm3,hl3⟩:=(S.inv (m:=fun x=>([]:List (Str×Value)).reverse.lookup x) (s₄:={s₂ with heap:=h₁,toks:=s₂.toks+([]:List (Str×Value)).length}) I (by rw[hDd];exact hCle) hf (by rw[hDd];exact hflt) rfl rfl old hns₁ hacc (j1f hDd) hDC (by intro v z;cases z)).loc;obtain⟨u',r',l'⟩:=hl3 j y v e1 e2 e3;refine⟨u',r',?_⟩;rcases l' with⟨k',z'⟩|⟨k',c,hcl,o,ho,hd⟩
    ·have hge:own.length<=j:=by
      refine Nat.le_of_not_lt fun hj=>?_;rw[j0X (by simpa using hj),List.getElem?_replicate]at e2;split at e2<;>cases e2
     have e1':(N'.drop own.length)[j - own.length]?=some y:=by
      rw[List.getElem?_drop,show own.length+(j - own.length)=j by omega];exact e1
     exact absurd k' (S.apart y (j0C e1'))
    ·obtain⟨vc,oc,hoc,hdc⟩:=I.cell y c (jaz hcl);have ec:oc=o:=by
      have:=old c oc hoc;rw[this]at ho;exact j0E ho
     subst ec;obtain⟨sl,hsl⟩:=J8.base.any hoc (I.freeC y c (jaz hcl)) (fun z=>(hf c z).2.2.2.2.1 y c (jaz hcl) rfl);exact .inr ⟨k',c,hcl,_,hsl,hd⟩
   cases b with
   |false=>
    obtain⟨m',hm,w7⟩:=hN0 _ q7;obtain⟨st7,fr7⟩:=back I7;exact⟨m',hm,i+1,ys,us,nn,H7,weak I7.unpinned,rv,hyz,st7,fr7,w7⟩
   |true=>
    refine thn (he C s₂ H₂ _ s7 σ6 H7 _ I7 q7) fun yv s8 ⟨y,H8,I8,r8,q8⟩=>?_;obtain⟨m',hm,w8⟩:=hN1 _ _ q8;obtain⟨st8,fr8⟩:=back I8;obtain⟨e8,n8,ne8,nf8,d8⟩:=I8.pin (D,_) (j0r _ (j1q _ j0v));refine append_at (hsz:=by rw[j0h,<- rv.length];exact hyz) e8 fun h9 hs9 hD9=>?_;have I8':Inv ((jaR X N' scope C fp s₂ H₂).wish (xe C fp s₂ H₂)) [] σ6 H8 s8:=I8.pins_of fun p hp=>nomatch hp;have I9:Inv ((jaR X N' scope C fp s₂ H₂).wish (xe C fp s₂ H₂)) [] σ6 H8 {s8 with heap:=h9}:=I8'.turned (t':=s8.toks) (it:=D) (fun b o hb e=>hs9.extBut b o hb e) n8 ne8 (.inr (j1f hDd)) (fun x c h z=>by
     obtain⟨v,o,ho,_⟩:=I.cell x c (jaz h);exact jgN (j0i ho) (j1f hDd) z) fun p hp=>nomatch (show p∈([]:List (Addr×Obj))from hp)
    have eqD:({cls:=.type "list",data:=.seq (us.toArray.push yv) (nn+1)}:Obj)={cls:=.type "list",data:=.seq (us++[yv]).toArray (nn+1)}:=by rw[List.push_toArray]
    refine⟨m',hm,i+1,ys++[y],us++[yv],nn+1,H8,weak (I9.pins_of fun p hp=>?_),rv.append (.cons r8 .nil),by rw[j0o];exact hlt,T.keep _ _ _ st8 fun b hb o e=>hs9.extBut b o (j0k (hflt b hb)) e,fr8,w8⟩;have e:p=(D,{cls:=.type "list",data:=.seq (us++[yv]).toArray (nn+1)}):=by simpa using hp
    subst e;exact⟨by rw[<- eqD];exact hD9,n8,ne8,nf8,by intro v z;cases z⟩
 exact codeAny_compStart_list (loop _ rfl) (T.self _ 0 _ _ _ (T.keep _ _ _ st fun b hb o e=>old b o e) (loop _ rfl))
end
section
variable {X:Cx}
theorem jjY (S:CompScope X own N' scope){pins:List (Addr×Obj)}{s:Shared}{σ:St}{H:Hp}(I:Inv X pins σ H s) :
  closureFor scope X.env=pure (jkV scope.names X.env.cells):=jkC fun p hp hf=>I.ok.has p.1 (S.free p hp hf)
theorem jrj (hc:X.calm=true)(S:CompScope X own N' scope)(hi:PI X tg iter wi)
  (hg:∀C fp s H,PG (jaR X N' scope C fp s H) tg g) (ht:∀C fp s H,PTs (jaR X N' scope C fp s H) ifs tt) (he:∀C fp s H,PE (jaR X N' scope C fp s H) elt te)
  (hs:∀x,foldedSetIterable iter X.env x=pure x:=by intro _;rfl):PE X (.ListComp elt [⟨tg,iter,ifs,0⟩] scope pos) (jxw own.length wi g tt te):=by
 intro pins s σ H Q I h;rw[eval_ListComp];refine wpAny_comprehension_free (use:=none) rfl hs (jjY S I) S.kind S.names (thn (hi pins s σ H _ I h) fun v s1 h1=>thn h1 fun itv s2 h2=>?_);obtain⟨it,fp,tn,J,H2,e,I2,T,st2,f2,W,⟨m0,w0⟩,turn⟩:=h2;subst e;refine jkh (xe:=fun _ _ _ _ _ _=>False) (RR:=fun acc C=>compPost (model X.prog X.w) X.A X.xe none (EP X pins σ Q) acc C) hc S (fun C s H=>hg C fp s H) (fun C s H=>ht C fp s H) (fun C s H=>he C fp s H) I2 T st2 f2 W m0 w0 turn ?_ fun _ _ _ _ _ h=>h.elim;intro D C s' H' m' I' q' hn hC h1 h2' h3 h4;refine⟨m',hn,fun h' hsb=>?_⟩;exact⟨.ref D,H',I'.turned (t':=s'.toks) (it:=C) (fun b o hb e=>hsb.extBut b o hb e) hC h1 (.inr h2') h3 h4,rfl,q'⟩
theorem jjF (hN:X.N.Nodup)(hy:X.N[i]?=some y)(hx:Loc X.env.scope y)(hc:X.calm=true)(S:CompScope X own N' scope)(hi:PI X tg iter wi)
  (hg:∀C fp s H,PG (jaR X N' scope C fp s H) tg g) (ht:∀C fp s H,PTs (jaR X N' scope C fp s H) ifs tt) (he:∀C fp s H,PE (jaR X N' scope C fp s H) elt te)
  (hsw:swapsWith (.ListComp elt [⟨tg,iter,ifs,0⟩] scope pos) (some (.Name y py)) spos.line X.env=pure true)
  (hs:∀x,foldedSetIterable iter X.env x=pure x:=by intro _;rfl) (hf:X.fn y=true∨X.env.scope.names.lookup y=some .local:=by first|exact .inl rfl|exact .inr rfl|assumption) :
  PS X (.Assign [.Name y py] (.ListComp elt [⟨tg,iter,ifs,0⟩] scope pos) spos) (jzK (jxw own.length wi g tt te) (jeW i)):=by
 intro pins s σ H D I h;rw[exec_Assign_Name_used _ _ _ _ hsw];refine wpAny_bind (wpAny_standAt (wpAny_bind ?_));show wpAny _ X.A (do let _ <- comprehension (.ListComp elt [⟨tg,iter,ifs,0⟩] scope pos) scope X.env _ (newList []) false (eval iter X.env) (some (assign (.Name y py) X.env))) _ _ s;refine wpAny_bind (wpAny_mono (wpAny_comprehension_free (use:=some (assign (.Name y py) X.env)) (Q:=fun _ s'=>SP X pins D .next s') rfl hs (jjY S I) S.kind S.names
  (thn (hi pins s σ H _ I h) fun v s1 h1=>thn h1 fun itv s2 h2=>?_)) (fun _ s' hq=>wpAny_pure (wpAny_pure hq)) fun _ _ e=>e)
 obtain⟨it,fp,tn,J,H2,e,I2,T,st2,f2,W,⟨m0,w0⟩,turn⟩:=h2;subst e;refine jkh (xe:=fun _ _ _ _ _ _=>False) (Q:=fun x H1=>jeW i x σ H1 D.nx) (RR:=fun acc C=>compPost (model X.prog X.w) X.A X.xe (some (assign (.Name y py) X.env)) (fun _ s'=>SP X pins D .next s') acc C) hc S (fun C s H=>hg C fp s H) (fun C s H=>ht C fp s H) (fun C s H=>he C fp s H) I2 T st2 f2 W m0 w0 turn ?_ fun _ _ _ _ _ h=>h.elim;intro D' C s' H' m' I' q' hn hC h1 h2' h3 h4;show wpAny _ X.A (assign (.Name y py) X.env (.ref D')) _ _ _;refine wpAny_assign_Name (jlU (v:=.ref D') I' hN hy hx rfl (fun s'' I'' hch=>?_) hf);obtain⟨a,hsa,ha⟩:=hch;have hCa:C≠a:=by
  rcases ha with z|z
  ·rw[z];exact h1
  ·exact Ne.symm (h3 _ _ z)
 refine⟨m',hn.sameBut hsa hCa,fun h' hsb=>?_⟩;exact⟨_,H',I''.turned (t':=s''.toks) (it:=C) (fun b o hb e=>hsb.extBut b o hb e) hC h1 (.inr h2') h3 h4,q'⟩
noncomputable def Its (z:Str):It:=⟨fun i _=>i<z.cps.size,fun i H x H'=>H'=H/\∃c,z.cps[i]?=some c/\x=.str ⟨#[c]⟩,fun i _=>z.cps.size<=i⟩
theorem juo {P:Program} {w:World} {K:PySem.W.Frag} {tg:Expr} (it:Addr) (z:Str) (t:Tok) (ty:String) (hty:ty = "str_ascii_iterator"∨ty = "str_iterator"):Turn P w K tg (Its z) [it] it (fun i h=>h.IsStrIter it ty z t i) where
 mem:=by simp
 obj:=fun i h st b hb=>by
  have e:b=it:=by simpa using hb
  subst e;obtain⟨o,e,c,d⟩:=st;exact⟨o,e,fun v z=>by rw[d]at z;cases z⟩
 keep:=fun i h h' st k=>by
  obtain⟨o,e,c,d⟩:=st;exact⟨o,k it (by simp) o e,c,d⟩
 item:=by
  intro X hP hw hK hc i pins s σ H E I hf st hg;subst hP hw hK;have hg':i<z.cps.size:=hg;have hx:z.cps[i]?=some z.cps[i]:=by simp[hg']
  obtain⟨f0,f1,f2,f3,f4,f5⟩:=hf it (by simp)
  have fin:∀h',h'.IsStrIter it ty z t (i+1)->Heap.SameBut it s.heap h'->∃u,some (Value.str ⟨#[z.cps[i]]⟩ s.toks)=some u /\
    wpAny (model X.prog X.w) X.A (letOwnedTupleGo tg (.ref it) u) (fun _ s2=>∃x H',Inv X pins σ H' s2/\jaB x u/\(Its z).yld i H x H'/\s2.heap.IsStrIter it ty z t (i+1)/\∀b∈[it],H' b=none) E {s with heap:=h',toks:=s.toks+1}:=fun h' st' sb=>by
   have I1:Inv X pins σ H {s with heap:=h',toks:=s.toks+1}:=I.turned (fun b o hb e=>(sb.2 b hb).trans e) f0 f1 f3 f4 f5;obtain⟨o,e,c,d⟩:=id st';refine⟨_,rfl,juN (s:={s with heap:=h',toks:=s.toks+1}) e c d ?_ ⟨.str ⟨#[z.cps[i]]⟩,H,I1,⟨_,rfl⟩,⟨rfl,_,hx,rfl⟩,st',fun b hb=>(hf b hb).1⟩⟩;rcases hty with q|q<;>rw[q]<;>decide
  rcases hty with q|q
  ·subst q;exact wpAny_pyNext_ascii_item st hx fin
  ·subst q;exact wpAny_pyNext_wide_item st hx fin
 done:=by
  intro X hP hw hK hc i pins s σ H E I hf st hg;subst hP hw hK;have hg':z.cps.size<=i:=hg;have hx:z.cps[i]?=none:=by simp[hg']
  obtain⟨f0,f1,f2,f3,f4,f5⟩:=hf it (by simp);rcases hty with q|q
  ·subst q;exact wpAny_pyNext_ascii_end (I.ok.hd hc) st hx fun h' eb=>⟨rfl,I.turned (t':=s.toks) (fun b o hb e=>eb b o hb e) f0 f1 f3 f4 f5⟩
  ·subst q;exact wpAny_pyNext_wide_end (I.ok.hd hc) st hx fun h' eb=>⟨rfl,I.turned (t':=s.toks) (fun b o hb e=>eb b o hb e) f0 f1 f3 f4 f5⟩
 self:=fun A i s Q E st h=>by
  rcases hty with q|q
  ·subst q;exact wpAny_pyIter_striter_ascii st h
  ·subst q;exact wpAny_pyIter_striter_wide st h
def jF (tl:TE):TI:=fun σ H R=>tl σ H fun x H1=>∃z,x=.str z/\R (Its z) H1
theorem jCI {tg:Expr}{l:Expr}{tl:TE}(hl:PE X l tl):PI X tg l (jF tl):=by
 intro pins s σ H R I h;refine thn (hl pins s σ H _ I h) fun v s1 ⟨x,H1,I1,r1,q1⟩=>?_;obtain⟨z,e,q⟩:=q1;subst e;obtain⟨t,rfl⟩:=r1;have fin:∀ty,(ty = "str_ascii_iterator"∨ty = "str_iterator")->PIE X pins σ tg R (.ref s1.heap.objs.size) {s1 with heap:=s1.heap.push {cls:=.type ty,data:=.fields #[.str z t,.int 0 0]}}:=fun ty hty=>
  ⟨s1.heap.objs.size,[s1.heap.objs.size],_,_,H1,rfl,I1.kept (t':=s1.toks) fun b o e=>j0b _ e,juo _ z t ty hty,⟨_,j0f _ rfl,rfl,rfl⟩,fun b hb=>by
   have e:b=s1.heap.objs.size:=by simpa using hb
   subst e;exact I1.fpOk (j0l _) (I1.hok.fresh (j0l _)),q⟩
 cases ha:z.cps.all (· < 128)
 ·exact wpAny_pyIter_wide ha (fin _ (.inr rfl))
 ·exact wpAny_pyIter_ascii ha (fin _ (.inl rfl))
def jBn (K:PySem.W.Frag):R2:=fun x y H Q=>∃l b xs zs,x=.ref l/\y=.ref b/\SqL K H l xs/\SqL K H b zs/\xs.length+zs.length<=sizeLine/\∀p,H p=none->Q (.ref p) (upd H p (.lst (xs++zs)))
theorem jxQ:OpR X (binaryOp .Add) (jBn X.K):=by
 intro pins s σ H x y v u Q I rx ry h;obtain⟨l,b,xs,zs,rfl,rfl,hH,hB,hz,q⟩:=h;cases rx;cases ry;obtain⟨its,r,pl,z⟩:=I.list hH;obtain⟨its2,r2,pl2,z2⟩:=I.list hB;have hl:=r.length;have hl2:=r2.length;obtain⟨⟨cls,dd,data,sl⟩,n,ho,hc,_,hd⟩:=pl;obtain⟨⟨cls2,dd2,data2,sl2⟩,n2,ho2,hc2,_,hd2⟩:=pl2;simp only at hc hd hc2 hd2;subst hc hd hc2 hd2;have e:its.toArray++its2.toArray=(its++its2).toArray:=by simp
 refine concat_meets ⟨_,ho,rfl⟩ ⟨_,ho2,rfl⟩ noFill_list_add seq_list_add PySem.F.slot_list_add PySem.F.entry_list_add (PySem.F.args_list_add_2 _ _) (list_addW l b its.toArray its2.toArray n n2 dd dd2 sl sl2 (by rw[j0h,j0h];omega)) ⟨ho,ho2,?_⟩;rw[e];exact⟨.ref _,_,I.lnew (t':=s.toks) (r.append r2) (by rw[j0o];omega),rfl,q _ I.fresh⟩
theorem jtb:jbe X (.builtin "all") (fun xs H Q=>X.calm=true/\∃(p:Addr) (bs:List Bool),xs=[.ref p]/\SqL X.K H p (bs.map V.bl)/\Q (.bl (bs.all id)) H):=by
 intro pins s σ H xs us Q I r h;obtain⟨hc,p,bs,rfl,hq,q⟩:=h;obtain⟨u,rfl,rx⟩:=jiZ r;cases rx;obtain⟨its,r',pl,hz⟩:=I.list hq;have hl:=pl.isList;have hlt:p<s.heap.objs.size:=by obtain⟨_,e,_⟩:=hl;exact j0i e
 have hlen:=r'.length;rw[j0d]at hlen;refine call_all_walk (wpAny_pyIter_list hl ?_);refine⟨s.heap.objs.size,_,_,_,_,_,fun i=>bs.getD i true,rfl,Walks.list (A:=X.A.in1) (I.ok.hd hc) s.heap.objs.size p (j0k hlt) its.toArray,⟨⟨_,j0f _ rfl,rfl,rfl⟩,hl.push _⟩,?_,fun h' tk hk=>?_⟩
 ·intro i v s' Q' E' hP hQ';have hP':its[i]?=some v:=by simpa using hP
  have hi:i<bs.length:=by rw[hlen];exact(j0g.mp hP').1
  obtain⟨u',hu,ru⟩:=r'.get (i:=i) (x:=V.bl bs[i]) (by simp[hi]);rw[hP']at hu;cases hu;cases(show v=Value.bool bs[i]from ru);have e:bs.getD i true=bs[i]:=by simp[List.getD,hi]
  exact wpAny_truthy_bool (by rw[<- e];exact hQ')
 ·have e:(List.range its.toArray.size).all (fun i=>bs.getD i true)=bs.all id:=by
   rw[j0h,<- hlen,j1a,j05,j05];constructor
   ·intro a b hb;obtain⟨i,hi,e⟩:=List.mem_iff_getElem.mp hb;have:=a i (by simpa using hi);simpa[List.getD,hi,e]using this
   ·intro a i hi;have hi':i<bs.length:=by simpa using hi
    have:=a bs[i] (List.getElem_mem hi');simpa[List.getD,hi']using this
  rw[e];exact⟨.bl _,H,(I.kept (t':=s.toks) (h':=s.heap.push {cls:=.type "list_iterator",data:=.fields #[.ref p,.int 0 0]}) fun b o e=>j0b _ e).turned (t':=tk) (it:=s.heap.objs.size) (fun b o hb e=>hk b o (by simpa using hb) e) I.fresh
   (Ne.symm (j0k I.lt)) (.inr I.sz) (fun x c h z=>by
    obtain⟨v,o,ho,_⟩:=I.cell x c h;exact jgN (j0i ho) (j0l _) z) fun p hp z=>jgN (j0i (I.pin p hp).1) (j0l _) z,rfl,q⟩
theorem jrs:OpR X (compareOp .LtE) (fun x y H Q=>∃i j,x=.str i/\y=.str j/\Q (.bl (!decide (j.cps.toList<i.cps.toList))) H):=by
 intro pins s σ H x y v u Q I rx ry h;obtain⟨i,j,rfl,rfl,q⟩:=h;obtain⟨t,rfl⟩:=rx;obtain⟨t',rfl⟩:=ry;exact PySem.P.le_str ⟨.bl _,H,I,rfl,q⟩
end
theorem jv2:bootBuiltins "len" =some (.builtin "len"):=by decide +kernel
theorem jCl:bootBuiltins "all" =some (.builtin "all"):=by decide +kernel
theorem jzZ:bootBuiltins "sum" =some (.builtin "sum"):=by decide +kernel
theorem jsE:bootBuiltins "max" =some (.builtin "max"):=by decide +kernel
theorem jCw:bootBuiltins "min" =some (.builtin "min"):=by decide +kernel
theorem jgh:bootBuiltins "isinstance" =some (.builtin "isinstance"):=by decide +kernel
theorem jmz:bootBuiltins "sorted" =some (.builtin "sorted"):=by decide +kernel
theorem jv0:bootBuiltins "int" =some (.type "int"):=by decide +kernel
theorem jvs:bootBuiltins "str" =some (.type "str"):=by decide +kernel
theorem jri:bootBuiltins "bool" =some (.type "bool"):=by decide +kernel
theorem jns:bootBuiltins "list" =some (.type "list"):=by decide +kernel
theorem jkO:bootBuiltins "tuple" =some (.type "tuple"):=by decide +kernel
theorem jzW:bootBuiltins "set" =some (.type "set"):=by decide +kernel
theorem jlc:bootBuiltins "dict" =some (.type "dict"):=by decide +kernel
structure Callee (P:Program) (w:World) (K:PySem.W.Frag) (mg:Str->Option Value) (base:Heap) (k:Nat) (x:Str) (ps:List Str) (sp:Sp):Prop where
 ex:∃(f:Addr) (fd:FuncData),FnOk P w K mg base CX0 k f fd ps sp/\mg x=some (.ref f)/\PySem.W.keepIn K (.ref f)=true/\jdF K fd ps []
section
variable {X:Cx}
noncomputable def csB (N:List Str)(env:Env)(own N':List Str)(scope:Scope):Bool:=
 scope.kind==.function&&scope.names.all (fun y=>y.2 !=.cell)&&scope.names.all (fun y=>y.2 !=.local||scope.names.lookup y.1==some .local) &&
 scope.names.all (fun y=>y.2 !=.free||env.kindOf y.1==some .cell||env.kindOf y.1==some .free)&&N'.length==own.length+N.length &&
 ((N'.drop own.length).zip N).all (fun p=>p.1==p.2||!(scope.names.contains (p.1,NameKind.free)))&&(N'.drop own.length).all (fun x=>(relabel scope env).names.lookup x !=some .local)
theorem cs (h:csB X.N X.env own N' scope=true):CompScope X own N' scope:=by
 unfold csB at h;simp only[j0a]at h;obtain⟨⟨⟨⟨⟨⟨h1,h2⟩,h3⟩,h4⟩,h5⟩,h6⟩,h7⟩:=h;have hlen:N'.length=own.length+X.N.length:=by simpa using h5
 refine⟨by simpa using h1,fun y hy=>?_,fun y hy hl=>?_,fun y hy hf=>?_,hlen,fun i x hx hf=>?_,fun x hx=>?_⟩
 ·have:=j05.mp h2 y hy;simpa using this
 ·have:=j05.mp h3 y hy;simpa[hl]using this
 ·have:=j05.mp h4 y hy;simpa[hf]using this
 ·have hi:i<(N'.drop own.length).length:=(j0g.mp hx).1;have hi':i<X.N.length:=by rw[List.length_drop]at hi;omega
  have hz:((N'.drop own.length).zip X.N)[i]?=some (x,X.N[i]):=by
   rw[List.getElem?_zip_eq_some];exact⟨hx,by simp[hi']⟩
  have:=j05.mp h6 _ (j0C hz);have hc:scope.names.contains (x,NameKind.free)=true:=by simpa using hf
  rw[hc]at this;have e:x=X.N[i]:=by simpa using this
  rw[e];simp[hi']
 ·have:=j05.mp h7 x hx;simpa using this
end
theorem jgH.upd (e:jgH H H')(h:H' p=none):jgH H (upd H' p o):=fun b u q=>by
 have q':=e b u q;rw[jae (jar q' h)];exact q'
theorem jgH.tup {K:PySem.W.Frag}{H H':Hp}{a:Addr}{xs:List V}(e:jgH H H')(h:SqT K H a xs):SqT K H' a xs:=by
 rcases h with(h|⟨o,h⟩)|h
 ·exact .inl (.inl (e _ _ h))
 ·exact .inl (.inr ⟨o,e _ _ h⟩)
 ·exact .inr h
noncomputable def spLaw (K:PySem.W.Frag):Sp:=fun vs H Q _=>∃(a:Addr) (ns:List Int),vs=[.ref a]/\SqL K H a (ns.map V.int)/\ns.length<=63/\∀H',Q (.bl true) H'
section
variable {X:Cx}
structure Maker (P:Program) (w:World) (K:PySem.W.Frag) (mg:Str->Option Value) (base:Heap) (k:Nat) (x:Str) (C:Addr) (ps:List Str) (sp:Sp):Prop where
 ex:∃(f:Addr) (fd:FuncData),Mk K C f/\FnOk P w K mg base CX0 k f fd ps sp/\mg x=some (.ref C)/\jdF K fd ps []
section
variable {α:Type} [DecidableEq α]
noncomputable def jpH (σ:List α)(v:α):List α:=if v∈σ then σ else σ++[v]
noncomputable def ddS (xs:List α):List α:=xs.foldl jpH []
theorem jog (σ:List α)(v:α):(jpH σ v).length=if decide (v∈σ)=true then σ.length else σ.length+1:=by
 unfold jpH;by_cases h:v∈σ<;>simp[h]
theorem jvj (σ:List α)(v k:α):decide (k∈jpH σ v)=(decide (k∈σ)||decide (k=v)):=by
 unfold jpH;by_cases h:v∈σ
 ·rw[if_pos h,j1a];simp only[j1r,decide_eq_true_eq];exact⟨.inl,fun z=>z.elim id fun e=>e▸h⟩
 ·rw[if_neg h,j1a];simp only[j1r,decide_eq_true_eq,j0I,j1C]
theorem jtK (xs:List α)(i:Nat)(v:α)(h:xs[i]?=some v):ddS (xs.take (i+1))=jpH (ddS (xs.take i)) v:=by
 unfold ddS;rw[List.take_add_one,h,Option.toList_some,List.foldl_append];rfl
theorem jy9 (σ:List α)(v:α):(jpH σ v).length<=σ.length+1:=by
 rw[jog];split<;>omega
theorem jsQ:∀(xs σ:List α),(xs.foldl jpH σ).length<=σ.length+xs.length
 |[],σ=>j0l _
 |x::xs,σ=>by
  have h1:=jsQ xs (jpH σ x);have h2:=jy9 σ x;rw[j02,j0j];omega
theorem jvE (xs:List α):(ddS xs).length<=xs.length:=by
 have:=jsQ xs [];simpa[ddS]using this
theorem jjZ:∀(xs σ:List α),(σ++xs).Nodup->xs.foldl jpH σ=σ++xs
 |[],σ,_=>by simp
 |x::xs,σ,h=>by
  have hx:x∉σ:=fun hm=>by
   rw[j1s]at h;exact h.2.2 x hm x j0v rfl
  rw[j02];have e:jpH σ x=σ++[x]:=by
   unfold jpH;rw[if_neg hx]
  rw[e,jjZ xs (σ++[x]) (by simpa using h)];simp
theorem jsL {xs:List α}(h:xs.Nodup):(ddS xs).length=xs.length:=by
 unfold ddS;rw[jjZ xs [] (by simpa using h)];simp
end
theorem jny {P:Program}{W:World}{g g':Heap}{D:Addr}{f:Str->Bool}{n:Nat}(h:g.SetOf (strKind P W) D f n)(k:∀o,g.get? D=some o->g'.get? D=some o):g'.SetOf (strKind P W) D f n:=
 match h with
 |⟨o,es,ep,tb,at_,r⟩=>⟨o,es,ep,tb,k _ at_,r⟩
end
section
variable {X:Cx}
noncomputable def mxD (d:Int):List Int->Int
 |[]=>d
 |x::xs=>xs.foldl (fun a b=>if b > a then b else a) x
theorem joZ (h:xs≠[]):mxD d (xs++[y])=if y > mxD d xs then y else mxD d xs:=by
 cases xs with
 |nil=>exact absurd rfl h
 |cons x xs=>
  show(xs++[y]).foldl _ x=_;rw[List.foldl_append];rfl
theorem jnI (a d:Value):argsOk "max" ⟨[a],[(Str.ofString "default",d)]⟩:=by unfold argsOk;kernel_rfl
section
variable {prog:Program} {w:World} {A:Around} {R:Result->Shared->Prop} {I:Addr} {fp wr:List Addr}
theorem jwO {P:Nat->Value->Prop}{Sx:Nat->Heap->Prop}{d:Int}{td:Tok}{s:Shared}{c:Nat}{D:Addr}(W:Walks prog w A.in1 I fp wr 0 P Sx)(st:Sx 0 s.heap)
  (hS:s.heap.get? D=some {cls:=.type "list",dict:=none,data:=.seq #[] c,slots:=#[]})
  (hR:∀h' tk,(∀b o,b∉wr->s.heap.get? b=some o->h'.get? b=some o)->R (.ok (.ret (.int d td))) {s with heap:=h',toks:=tk}) :
  codeAny (model prog w) A (.builtin "max.loop" ⟨[.ref I,.none,.ref D],[(Str.ofString "default",.int d td)]⟩) R s:=
 codeAny_builtin PySem.F.entry_max_loop (by rw[j04 PySem.F.plain_max_loop _];exact wpAny_bind (wpAny_seqItems hS rfl (wpAny_bind (wpAny_tryCatch (W.done s _ _ st fun h' tk kp=>wpAny_bind (wpAny_rule (wpAny_pure (hR h' tk kp))))))))
end
def jBq (K:PySem.W.Frag)(te td:TE):TE:=fun σ H Q=>te σ H fun x H1=>td σ H1 fun y H2=>∃(p:Addr) (d:Int),x=.ref p/\y=.int d/\SqL K H2 p []/\Q (.int d) H2
theorem jwb (hc:X.calm=true) (hg:Gl X "max") (hm:X.mg "max" =none) (he:PE X e te) (hd:PE X d td)
  (hst:starEach [e] X.env=[(false,eval e X.env)]:=by rfl)
  (hb:backTo pos (starEach [e] X.env)=(false,eval e X.env)::backTo pos (starEach [] X.env):=by rfl) (hpl:(backTo pos (starEach [e] X.env)).any (·.1)=false:=by rfl)
  (hal:(backToKw pos (keywordEach [⟨some "default",d,kpos⟩] X.env)).all (·.1.isSome)=true:=by rfl) (hkw:(backToKw pos (keywordEach [⟨some "default",d,kpos⟩] X.env)).any (·.1.isNone)=false:=by rfl)
  (hks:(backToKw pos (keywordEach [⟨some "default",d,kpos⟩] X.env)).filterMap (·.1)=[Str.ofString "default"]:=by rfl) :
  PE X (.Call (.Name "max" p) [e] [⟨some "default",d,kpos⟩] pos) (jBq X.K te td):=by
 intro pins s σ H Q I h;refine wpAny_Call_Name_kw (jgn I hg hm jsE ?_);refine PyProof.Rows.callWith_kw (thn (jm0 he ji7 hst pos pins s σ H (fun vs H1=>match vs with
  |[x]=>td σ H1 fun y H2=>∃(p:Addr) (d:Int),x=.ref p/\y=.int d/\SqL X.K H2 p []/\Q (.int d) H2
  |_=>False) I h) fun us s1 ⟨vs,H1,I1,r1,q1⟩=>?_) hb hpl hal hkw
 cases r1 with
 |nil=>exact q1.elim
 | @cons x u vr ur rx rr=>
  cases rr with
  |cons _ _=>exact q1.elim
  |nil=>
   refine thn (jqU hd jvx pos pins s1 σ H1 (fun zs H2=>match zs with
    |[y]=>∃(p:Addr) (d:Int),x=.ref p/\y=.int d/\SqL X.K H2 p []/\Q (.int d) H2
    |_=>False) I1 q1) fun ws s2 ⟨zs,H2,I2,r2,q2⟩=>?_
   cases r2 with
   |nil=>exact q2.elim
   | @cons y v yr vr ry rr=>
    cases rr with
    |cons _ _=>exact q2.elim
    |nil=>
     obtain⟨l,dd,rfl,rfl,hq,q⟩:=q2;cases rx;obtain⟨td',rfl⟩:=ry;rw[hks];obtain⟨its,rv,pl,hz⟩:=I2.list hq;cases rv;have hl:s2.heap.IsList l #[]:=pl.isList;have hlt:l<s2.heap.objs.size:=by obtain⟨_,e,_⟩:=hl;exact j0i e
     refine PyProof.Rows.kmb_tree PySem.F.kind_max PySem.F.plain_max PySem.F.entry_max (jnI _ _) ?_;show wpAny _ X.A.in1 (Builtin.Builtins.bindParams "max" ["key","default"] 0 ⟨[],[(Str.ofString "default",.int dd td')]⟩ >>=_) _ _ s2;refine wpAny_bind (wpAny_of_eq (show Builtin.Builtins.bindParams "max" ["key","default"] 0 ⟨[],[(Str.ofString "default",.int dd td')]⟩=pure [none,some (.int dd td')]from rfl) (wpAny_bind (wpAny_pure (wpAny_bind (wpAny_pyIter_list hl (wpAny_bind (wpAny_newObj_type ?_)))))));rw[show(toString "max" ++ toString ".loop" : String) = "max.loop" from by decide];generalize hp1:s2.heap.push {cls:=.type "list_iterator",data:=.fields #[.ref l,.int 0 0]}=h1;have hit:h1.IsListIter s2.heap.objs.size l 0:=by rw[<- hp1];exact⟨_,j0f _ rfl,rfl,rfl⟩
     have hl1:h1.IsList l #[]:=by rw[<- hp1];exact hl.push _
     have old1:∀b o,s2.heap.get? b=some o->h1.get? b=some o:=fun b o e=>by rw[<- hp1];exact j0b _ e
     refine wpAny_pure ⟨plainId_quiet PySem.F.plain_max_loop _,jwO (d:=dd) (td:=td') (Walks.list (prog:=X.prog) (w:=X.w) (A:=X.A.in1) (I2.ok.hd hc) s2.heap.objs.size l (j0k hlt) #[]) ⟨hit.at fun o e=>j0b _ e,hl1.push _⟩ (j0f _ rfl) fun h' tk kp=>⟨.int dd,H2,I2.kept (t':=tk) (fun b o e=>kp b o (by simpa using j0k (j0i e)) (j0b _ (old1 b o e))),⟨td',rfl⟩,q⟩⟩
end
noncomputable def jtm (N:List Str)(sc:Scope)(i:Nat)(x:Str):Bool:=
 N[i]?==some x&&(sc.names.lookup x==some .local||sc.names.lookup x==some .cell||sc.names.lookup x==some .free)&&!(x==("__debug__" : Str))&&!(x==("__classdict__" : Str))
noncomputable def jnB (N:List Str)(sc:Scope)(i:Nat)(x:Str):Bool:=N[i]?==some x&&(sc.names.lookup x==some .local||sc.names.lookup x==some .cell)
noncomputable def jt5 (N:List Str)(sc:Scope)(i:Nat)(x:Str):Bool:=N[i]?==some x&&sc.names.lookup x==some .local
noncomputable def jbl (sc:Scope)(x:Str):Bool:=sc.names.lookup x==some .globalImplicit&&!(x==("__debug__" : Str))&&!(x==("__name__" : Str))
noncomputable def jaw:Expr->Bool
 |.Starred ..=>false
 |_=>true
theorem jam (h:jaw e=true):starEach (e::es) env=(false,eval e env)::starEach es env:=by
 cases e<;>first|rfl|cases h
noncomputable def notComp:Expr->Bool
 |.ListComp ..=>false
 |.SetComp ..=>false
 |.DictComp ..=>false
 |_=>true
theorem jeJ (h:notComp e=true):swapsWith e t l env=pure false:=by
 cases e<;>first|rfl|cases h
section
variable {X:Cx}
theorem pvk (i:Nat){x:Str}{pos:Pos}(h:jtm X.N X.env.scope i x=true):PE X (.Name x pos) (jEC i):=by
 unfold jtm at h;simp only[j0a,j1r,beq_iff_eq,j00]at h;obtain⟨⟨⟨h1,h2⟩,h3⟩,h4⟩:=h;refine jBf h1 ?_ h3 h4;rcases h2 with(h2|h2)|h2
 ·exact .inl h2
 ·exact .inr (.inl h2)
 ·exact .inr (.inr h2)
theorem jaM (h:jnB X.N X.env.scope i x=true):X.N[i]?=some x/\Loc X.env.scope x:=by
 unfold jnB at h;simp only[j0a,j1r,beq_iff_eq]at h;exact h
theorem jio (h:jt5 X.N X.env.scope i x=true):X.N[i]?=some x/\X.env.scope.names.lookup x=some .local:=by
 unfold jt5 at h;simp only[j0a,beq_iff_eq]at h;exact h
theorem jav (h:jbl X.env.scope x=true):Gl X x/\(x==("__debug__" : Str))=false/\x≠"__name__":=by
 unfold jbl at h;simp only[j0a,beq_iff_eq,j00]at h;obtain⟨⟨h1,h2⟩,h3⟩:=h;exact⟨h1,h2,fun z=>by rw[z]at h3;simp at h3⟩
theorem jy7 (hN:X.N.Nodup)(h:jnB X.N X.env.scope i x=true)(he:PE X e te)(hs:notComp e=true:=by rfl)(hf:X.fn x=true:=by rfl) :
  PS X (.Assign [.Name x pos'] e pos) (jzK te (jeW i)):=jsJ hN (jaM h).1 (jaM h).2 he (jeJ hs) (.inl hf)
theorem jtj (hN:X.N.Nodup)(h:jnB X.N X.env.scope i x=true)(hf:X.fn x=true:=by rfl):PG X (.Name x pos) (jeW i):=jsi hN (jaM h).1 (jaM h).2 (.inl hf)
theorem jzr (hN:X.N.Nodup)(h:jt5 X.N X.env.scope i x=true):PG X (.Name x pos) (jeW i):=jsi hN (jio h).1 (.inl (jio h).2) (.inr (jio h).2)
theorem pac (ha:PE X e te)(hr:PA X es t)(h:jaw e=true:=by rfl):PA X (e::es) (jp5 te t):=jm0 ha hr (jam h)
noncomputable def jaf (es:List Expr):Bool:=es.all jaw
theorem jaJ:∀{es:List Expr} {env:Env} {pos:Pos},jaf es=true->(backTo pos (starEach es env)).any (·.1)=false
 |[],_,_,_=>rfl
 |e::es,env,pos,h=>by
  unfold jaf at h;simp only[j0S,j0a]at h;rw[jam h.1];show(false||(backTo pos (starEach es env)).any (·.1))=false;rw[Bool.false_or];exact jaJ h.2
theorem jf0 {x:Str}{id:String}{r:List V->Hp->VK->Prop}{e:Expr}{es:List Expr}{t:TA}{p pos:Pos}(hc:jbe X (.builtin id) r)(hg:jbl X.env.scope x=true)(hm:X.mg x=none)(hv:bootBuiltins x=some (.builtin id))(ha:PA X (e::es) t)(hst:jaf (e::es)=true:=by rfl) :
  PE X (.Call (.Name x p) (e::es) [] pos) (tCB r t):=by
 have h1:=hst;unfold jaf at h1;simp only[j0S,j0a]at h1;exact jti hc (jav hg).1 hm hv ha (jav hg).2.2 (jav hg).2.1 (jam h1.1) (jaJ h1.2)
theorem jjP (hc:jbe X (.type T) r)(hg:jbl X.env.scope x=true)(hm:X.mg x=none)(hv:bootBuiltins x=some (.type T))(ha:PA X (e::es) t)(hst:jaf (e::es)=true:=by rfl) :
  PE X (.Call (.Name x p) (e::es) [] pos) (tCB r t):=by
 have h1:=hst;unfold jaf at h1;simp only[j0S,j0a]at h1;exact jsw hc (jav hg).1 hm hv ha (jav hg).2.2 (jav hg).2.1 (jam h1.1) (jaJ h1.2)
theorem jon (hg:jbl X.env.scope x=true)(hm:X.mg x=some u)(r:jaB v u):PE X (.Name x pos) (tC v):=jqy (jav hg).1 hm r (jav hg).2.1
theorem jtf (hg:jbl X.env.scope x=true)(hm:X.mg x=none)(hv:bootBuiltins x=some u)(r:jaB v u):PE X (.Name x pos) (tC v):=jy1 (jav hg).1 hm hv r (jav hg).2.2 (jav hg).2.1
theorem jpP (hg:jbl X.env.scope "range" =true) (hm:X.mg "range" =none) (ha:PA X [a] ta) (hs:jaw a=true:=by rfl):PI X tg (.Call (.Name "range" p) [a] [] pos) (jzR ta):=jqZ (jav hg).1 hm ha (jam hs)
theorem jpQ (hg:jbl X.env.scope "range" =true) (hm:X.mg "range" =none) (ha:PA X [a,b] ta) (hs:jaf [a,b]=true:=by rfl):PI X tg (.Call (.Name "range" p) [a,b] [] pos) (jBH ta):=by
 have h1:=hs;unfold jaf at h1;simp only[j0S,j0a]at h1;refine jru (jav hg).1 hm ha ?_ (jam h1.2.1);rw[jam h1.1,jam h1.2.1];rfl
end
noncomputable def jhy (scope sc:Scope):Scope:=
 {scope with names:=scope.names.map fun(n,k)=>if(k==.free&&sc.kind==.function&&sc.names.lookup n==some .cell)then(n,.cell)else(n,k)}
theorem jqV (scope:Scope)(env:Env):relabel scope env=jhy scope env.scope:=rfl
noncomputable def jwz (N:List Str)(sc:Scope)(own N':List Str)(scope:Scope):Bool:=
 scope.kind==.function&&scope.names.all (fun y=>y.2 !=.cell)&&scope.names.all (fun y=>y.2 !=.local||scope.names.lookup y.1==some .local) &&
 scope.names.all (fun y=>y.2 !=.free||sc.names.lookup y.1==some .cell||sc.names.lookup y.1==some .free)&&N'.length==own.length+N.length &&
 ((N'.drop own.length).zip N).all (fun p=>p.1==p.2||!(scope.names.contains (p.1,NameKind.free)))&&(N'.drop own.length).all (fun x=>(jhy scope sc).names.lookup x !=some .local)
theorem csk (h:jwz X.N X.env.scope own N' scope=true):CompScope X own N' scope:=cs h
structure QE (X:Cx) (e:Expr) (t:TE):Prop where
 h:PE X e t
structure QT (X:Cx) (e:Expr) (t:TT):Prop where
 h:PT X e t
structure QW (X:Cx) (e:Expr) (t:TT):Prop where
 h:PW X e t
structure QA (X:Cx) (es:List Expr) (t:TA):Prop where
 h:PA X es t
structure QS (X:Cx) (st:Stmt) (t:TS):Prop where
 h:PS X st t
structure QSs (X:Cx) (st:List Stmt) (t:TS):Prop where
 h:PSs X st t
structure QG (X:Cx) (tg:Expr) (t:TG):Prop where
 h:PG X tg t
structure QGs (X:Cx) (ts:List Expr) (t:TGs):Prop where
 h:PGs X ts t
structure QI (X:Cx) (tg iter:Expr) (wi:TI):Prop where
 h:PI X tg iter wi
structure QO (X:Cx) (e:Option Expr) (t:TO):Prop where
 h:PO X e t
structure QTs (X:Cx) (es:List Expr) (t:TT):Prop where
 h:PTs X es t
abbrev jEU:TA:=fun _ H Q=>Q [] H
abbrev jDt (ta:TE) (tr:TA):TA:=fun σ H Q=>ta σ H fun x H1=>tr σ H1 fun xs H2=>Q (x::xs) H2
abbrev nC (v:V):TE:=fun _ H Q=>Q v H
abbrev nCB (r:List V->Hp->VK->Prop) (t:TA):TE:=fun σ H Q=>t σ H fun vs H1=>r vs H1 Q
noncomputable def jry:Expr->Bool
 |.UnaryOp .Not ..=>false
 |.BoolOp ..=>false
 |.IfExp ..=>false
 |.Compare ..=>false
 |_=>true
theorem jtM (h:jry a=true):∀whole,isTrue a env whole=(do let v <- whole;standAt a.pos;holding [v] (truthy v)):=by
 intro whole
 cases a with
 |UnaryOp op x p=>cases op<;>first|rfl|cases h
 |_=>first|rfl|cases h
noncomputable def jhQ:Expr->Bool
 |.Set ..=>false
 |_=>true
theorem jiv (h:jhQ e=true):∀x,foldedSetIterable e env x=pure x:=by
 intro x;cases e<;>first|rfl|cases h
noncomputable def jaN:Expr->Bool
 |.Call ..=>false
 |_=>true
theorem jnP (h:jaN e=true):attributeBase e f env (eval e env)=eval e env:=by
 cases e<;>first|rfl|cases h
theorem jkx (h:jaw e=true):assignEach (e::es) env=(false,assign e env)::assignEach es env:=by
 cases e<;>first|rfl|cases h
theorem jmV:∀{es:List Expr} {env:Env},jaf es=true->(assignEach es env).length=es.length/\(assignEach es env).findIdx? (·.1)=none
 |[],_,_=>⟨rfl,rfl⟩
 |e::es,env,h=>by
  unfold jaf at h;simp only[j0S,j0a]at h;obtain⟨h1,h2⟩:=jmV (es:=es) (env:=env) h.2;rw[jkx h.1,j0j,j0j,h1];exact⟨rfl,by rw[List.findIdx?_cons];simp[h2]⟩
theorem jqX (h:jaf (e::es)=true)(hl:es.length<28):((backTo cpos (starEach (e::es) env)).all (fun x=>!x.1)&&(backToKw cpos (keywordEach [] env)).all (fun x=>x.1.isSome)
   && decide ((e::es).length+([]:List Keyword).length+(if([]:List Keyword).isEmpty then 0 else 1)<30))=true:=by
 have h1:=jaJ (env:=env) (pos:=cpos) h;have h2:(backTo cpos (starEach (e::es) env)).all (fun x=>!x.1)=true:=by
  rw[j05];intro x hx;rw[List.any_eq_false]at h1;have:=h1 x hx;simpa using this
 rw[h2];have h3:(backToKw cpos (keywordEach [] env)).all (fun x=>x.1.isSome)=true:=rfl;rw[h3];simp;omega
section
variable {X:Cx} {a b c e:Expr} {es:List Expr} {ta tb tc te:TE} {tA tB:TT} {t:TA} {pos p:Pos}
theorem jAb:QE X (.Constant (.int i) j pos) (nC (.int i)):=⟨jAJ⟩
theorem jDM {b:Bool}{j:Nat}:QE X (.Constant (.bool b) j pos) (nC (.bl b)):=⟨jDv⟩
theorem jBm:QE X (.Constant .none j pos) (nC .non):=⟨jAz⟩
theorem jBl:QE X (.Constant (.str x) j pos) (nC (.str x)):=⟨jCC⟩
theorem jm7 (hg:jbl X.env.scope x=true)(hm:X.mg x=none)(hv:bootBuiltins x=some u)(r:jaB v u):QE X (.Name x pos) (nC v):=⟨jtf hg hm hv r⟩
theorem jDW (ho:UnR X (unaryOp op) r)(ha:QE X a ta):QE X (.UnaryOp op a pos) (tUn r ta):=⟨jEc ho ha.h⟩
theorem jCE (ho:OpR X (compareOp op) r)(ha:QE X a ta)(hb:QE X b tb)(hm:behindInMarks op b=false:=by first|exact nomark _|with_unfolding_all rfl):QE X (.Compare a [op] [b] pos) (tOp r ta tb):=⟨jzt ho ha.h hb.h hm⟩
theorem jCx (ho:OpR X (compareOp op) r)(ha:QE X a ta)(hb:QE X b tb)(hm:behindInMarks op b=false:=by first|exact nomark _|with_unfolding_all rfl):QT X (.Compare a [op] [b] pos) (jug (tOp r ta tb)):=⟨jxy ho ha.h hb.h hm⟩
theorem jCT (ha:QE X a ta):QE X (.Compare a [.Is] [.Constant .none j pos'] pos) (jDg ta):=⟨jvY (jvM ha.h)⟩
theorem jwS (ha:QE X a ta):QE X (.Compare a [.IsNot] [.Constant .none j pos'] pos) (ju2 ta):=⟨jvY (jrk ha.h)⟩
theorem jAw (ha:QE X a ta):QT X (.Compare a [.Is] [.Constant .none j pos'] pos) (_L2.tB (jDg ta)):=⟨jvI (jvM ha.h)⟩
theorem jxr (ha:QE X a ta):QT X (.Compare a [.IsNot] [.Constant .none j pos'] pos) (_L2.tB (ju2 ta)):=⟨jvI (jrk ha.h)⟩
theorem jvo (ho:OpR X (compareOp op) r)(ho':OpR X (compareOp op') r')(ha:QE X a ta)(hb:QE X b tb)(hc:QE X c tc)(hm:lastMarks [op,op'] [b,c]=false:=by with_unfolding_all rfl):QE X (.Compare a [op,op'] [b,c] pos) (jlR r r' ta tb tc):=⟨juE ho ho' ha.h hb.h hc.h hm⟩
theorem jv (ho:OpR X (compareOp op) r)(ho':OpR X (compareOp op') r')(ha:QE X a ta)(hb:QE X b tb)(hc:QE X c tc)(hm:lastMarks [op,op'] [b,c]=false:=by with_unfolding_all rfl):QT X (.Compare a [op,op'] [b,c] pos) (jug (jlR r r' ta tb tc)):=⟨ju0 ho ho' ha.h hb.h hc.h hm⟩
theorem jvR (h:QE X a ta):QE X (.BoolOp op [a] pos) ta:=⟨jCQ h.h⟩
theorem jvW {rest:List Expr}(ha:QE X a ta)(hb:QE X (.BoolOp .And (b::rest) pos) tb):QE X (.BoolOp .And (a::b::rest) pos) (jw7 ta tb):=⟨jCL ha.h hb.h⟩
theorem jCz {rest:List Expr}(ha:QE X a ta)(hb:QE X (.BoolOp .Or (b::rest) pos) tb):QE X (.BoolOp .Or (a::b::rest) pos) (jDH ta tb):=⟨jEe ha.h hb.h⟩
theorem jCP (ha:QE X a ta):QE X (.UnaryOp .Not a pos) (jA1 ta):=⟨jAy ha.h⟩
theorem jxD (ha:QT X a tA):QW X (.BoolOp .And [a] pos) tA:=⟨jv9 ha.h⟩
theorem jA3 (ha:QT X a tA):QW X (.BoolOp .Or [a] pos) tA:=⟨jB7 ha.h⟩
theorem jvT {rest:List Expr}(ha:QT X a tA)(hb:QW X (.BoolOp .And (b::rest) pos) tB):QW X (.BoolOp .And (a::b::rest) pos) (jDx tA tB):=⟨jAv ha.h hb.h⟩
theorem jAi {rest:List Expr}(ha:QT X a tA)(hb:QW X (.BoolOp .Or (b::rest) pos) tB):QW X (.BoolOp .Or (a::b::rest) pos) (tOr tA tB):=⟨jDR ha.h hb.h⟩
theorem jBF (ha:QT X a tA):QT X (.UnaryOp .Not a pos) (jEA tA):=⟨jAV ha.h⟩
theorem jBj (ha:QE X a ta)(h:jry a=true:=by rfl):QT X a (fun σ H Q=>ta σ H fun x H'=>∃k,jAx X.K x H' k/\Q k H'):=⟨juG ha.h (jtM h)⟩
theorem juA (hc:QT X c tA)(ha:QE X a ta)(hb:QE X b tb):QE X (.IfExp c a b pos) (tIf tA ta tb):=⟨juU hc.h ha.h hb.h⟩
theorem jBw:QA X [] jEU:=⟨ji7⟩
theorem jw0 (ha:QE X e te)(hr:QA X es t)(h:jaw e=true:=by rfl):QA X (e::es) (jDt te t):=⟨pac ha.h hr.h h⟩
theorem juz {x:Str}{id:String}{r:List V->Hp->VK->Prop}(hc:jbe X (.builtin id) r)(hg:jbl X.env.scope x=true)(hm:X.mg x=none)(hv:bootBuiltins x=some (.builtin id))(ha:QA X (e::es) t)(hst:jaf (e::es)=true:=by rfl):QE X (.Call (.Name x p) (e::es) [] pos) (nCB r t):=⟨jf0 hc hg hm hv ha.h hst⟩
theorem jrU (hc:jbe X (.type T) r)(hg:jbl X.env.scope x=true)(hm:X.mg x=none)(hv:bootBuiltins x=some (.type T))(ha:QA X (e::es) t)(hst:jaf (e::es)=true:=by rfl):QE X (.Call (.Name x p) (e::es) [] pos) (nCB r t):=⟨jjP hc hg hm hv ha.h hst⟩
theorem jzX {o:Expr} {to:TE} {name:Str} {apos cpos:Pos} {T id:String} {r:V->List V->Hp->VK->Prop} (pa:PlainAttrs T) (slot:Slot T name id) (hty:typeOf (.builtin id)=pure (.type "method_descriptor")) (hm:MtR X id r) (ho:QE X o to) (ha:QA X (e::es) t)
  (hb:jaN o=true:=by rfl) (hst:jaf (e::es)=true:=by rfl) (hl:es.length<28:=by decide) (hline:(apos.endLine==cpos.line)=true:=by rfl):QE X (.Call (.Attribute o name apos) (e::es) [] cpos) (tBM X.K T r to t):=by
 have h1:=hst;unfold jaf at h1;simp only[j0S,j0a]at h1;exact⟨jEn pa slot hty hm ho.h ha.h (jnP hb) (jqX hst hl) hline (jam h1.1) (jaJ h1.2)⟩
theorem jyr (hc:X.calm=true) (hg:jbl X.env.scope "max" =true) (hm:X.mg "max" =none) (he:QE X e te) (hd:QE X d td) (h1:jaw e=true:=by rfl):QE X (.Call (.Name "max" p) [e] [⟨some "default",d,kpos⟩] pos) (jBq X.K te td):=
 ⟨jwb hc (jav hg).1 hm he.h hd.h (jam h1) (by rw[jam h1];rfl) (jaJ (by unfold jaf;simp[h1]))⟩
end
section
variable {P:Program} {w:World} {K:PySem.W.Frag} {mg:Str->Option Value} {base:Heap}
theorem Fun.okQ {x qual:Str}{st:Stmt}{f:Addr}{fd:FuncData}{N ps:List Str}{k:Nat}{sp:Sp}(F:Fun K x qual st f fd)(S:FnScope N ps (jau st))(len:∀vs H Q E,sp vs H Q E->vs.length=ps.length)
  (hbody:∀(cdv:Value) (A:Around) (outer:List Env) (s:Shared) (H:Hp) (vs:List V) (Q:VK) (E:XK),Room k (A.deeper (envOfC qual (jau st) s.heap.objs.size f cdv))->sp vs H Q E ->
   ∃t,QSs (jwx CX0 P w K mg base N qual (jau st) f cdv A outer s H E).nox (jbp st) t/\t {nx:=fun _ H'=>Q .non H',rt:=Q} (_L2.start N vs) H):FnOk P w K mg base CX0 (k+1) f fd ps sp:=
 F.ok S len fun cdv A outer s H vs Q E hr h=>let⟨t,ht,q⟩:=hbody cdv A outer s H vs Q E hr h;⟨t,ht.h,q⟩
end
def Trk (H:Hp)(a:Addr)(xs:List V):Prop:=H a=some (.lst xs)∨H a=some (.tup xs)
theorem Trk.ty {K:PySem.W.Frag}{H:Hp}{a:Addr}{xs:List V}(h:Trk H a xs):TyOf K H (.ref a) (.type "list")∨TyOf K H (.ref a) (.type "tuple"):=h.elim (fun h=>.inl (.lst h)) fun h=>.inr (.tup h)
section
variable {X:Cx}
end
def Lop (J:It)(g:TG)(tb:TS)(D:Ends)(σ:_L2.St)(H:Hp):Prop:=∃W:Nat->Nat->_L2.St->Hp->Prop,(∃m,W 0 m σ H)/\∀i m σ H,W i m σ H ->
   (J.stop i H/\D.nx σ H)∨(J.go i H/\∃N:_L2.St->Hp->Prop,(∀σ' H',N σ' H'->∃m',m'<m/\W (i+1) m' σ' H')/\∀x H',J.yld i H x H'->g x σ H' fun σ2 H2=>tb {D with nx:=N,ct:=N,bk:=D.nx} σ2 H2)
def jyS {α:Type}(f:α->List V)(H:Hp)(v:V)(x:α):Prop:=∃p,v=.ref p/\H p=some (.tup (f x))
theorem jng (h:Paired F vs xs)(r:F v x):Paired F (vs++[v]) (xs++[x]):=Paired.snoc h r
theorem jh3 {α:Type}{xs:List α}{i:Nat}{x:α}(h:xs[i]?=some x):xs.take (i+1)=xs.take i++[x]:=by
 rw[List.take_add_one,h];rfl
section
variable {X:Cx} {K:PySem.W.Frag} {a b e:Expr} {es:List Expr} {ta tb te:TE} {t:TA} {pos p:Pos}
end
noncomputable def EqS (H:Hp):Nat->V->V->Prop
 |0,x,y=>x=y/\(jg6 x=true∨∃p,x=.ref p)
 |n+1,x,y=>(x=y/\(jg6 x=true∨∃p,x=.ref p))∨∃a b xs ys,x=.ref a/\y=.ref b/\((H a=some (.tup xs)/\H b=some (.tup ys))∨(H a=some (.lst xs)/\H b=some (.lst ys)))/\Paired (EqS H n) xs ys
theorem EqS.ref:EqS H n (.ref p) (.ref p):=by
 cases n with
 |zero=>exact⟨rfl,.inr ⟨p,rfl⟩⟩
 |succ n=>exact .inl ⟨rfl,.inr ⟨p,rfl⟩⟩
theorem jt3 (h:jg6 x=true):eqV x x=true:=by
 cases x with
 |non=>rfl
 |bl b=>simp[eqV]
 |int i=>simp[eqV]
 |str z=>simp[eqV]
 |_=>exact absurd (show false=true from h) j0e
section
variable {X:Cx} {pins:List (Addr×Obj)} {σ:_L2.St} {H:Hp} {s:Shared}
end
section
variable {X:Cx}
end
section
variable {X:Cx}
noncomputable def jEE (K:PySem.W.Frag):List V->Hp->VK->Prop:=fun xs H Q=>∃(p:Addr) (ns:List Int),xs=[.ref p]/\SqL K H p (ns.map V.int)/\Q (.int ns.sum) H
theorem jt7 (hc:X.calm=true):jbe X (.builtin "sum") (jEE X.K):=by
 intro pins s σ H xs us Q I r h;obtain⟨p,ns,rfl,hq,q⟩:=h;obtain⟨u,rfl,rx⟩:=jiZ r;cases rx;obtain⟨its,rv,pl,_⟩:=I.list hq;have hi:=jj1 rv;obtain⟨ys,hys⟩:=hi.allInts.items;have hl:=pl.isList;rw[hys]at hl;have en:ys.toList.map (·.1)=ns:=by
  rw[<- nums_intItems,<- hys];exact hi.numsOf
 refine sum_intListG (I.ok.hd hc) hl fun h' tk t' hk=>?_;have e:preSum (numAt ys) ys.size=ns.sum:=by
  rw[preSum_eq,en,List.take_of_length_le (by rw[<- en];simp)]
 rw[e];exact⟨.int ns.sum,H,I.kept (t':=tk) hk,⟨t',rfl⟩,q⟩
end
theorem jgw (ht:∀p xs,G p=some (.tup xs)->G' p=some (.tup xs)):∀{us:List V} {xs:List α},Paired (jyS f G) us xs->Paired (jyS f G') us xs
 |_,_,.nil=>.nil
 |_,_,.cons ⟨p,e,hp⟩ t=>.cons ⟨p,e,ht _ _ hp⟩ (jgw ht t)
theorem jjS:∀{us ws:List α} {xs ys:List β},Paired F us xs->Paired F ws ys->Paired F (us++ws) (xs++ys)
 |_,_,_,_,.nil,h=>h
 |_,_,_,_,.cons r t,h=>.cons r (jjS t h)
def Lst {α:Type}(f:α->List V)(H:Hp)(a:Addr)(xs:List α):Prop:=∃us,H a=some (.lst us)/\Paired (jyS f H) us xs
theorem jo0 (hl:H l=some (.lst zs)):∀p xs,H p=some (.tup xs)->upd H l o p=some (.tup xs):=fun p xs hp=>by
 have:p≠l:=fun e=>by rw[e,hl]at hp;cases hp
 rw[jae this];exact hp
theorem Lst.more (h:H a=some (.lst us))(h1:Paired (jyS f H) us xs)(h2:Paired (jyS f H) ws ys):Lst f (upd H a (.lst (us++ws))) a (xs++ys):=
 ⟨_,jag,jjS (jgw (jo0 h) h1) (jgw (jo0 h) h2)⟩
section
variable {X:Cx}
theorem jBJ:bootBuiltins "zip" =some (.type "zip"):=by decide +kernel
end
noncomputable def ltV:V->V->Bool
 |.int a,.int b=>decide (a<b)
 |.str a,.str b=>decide (a.cps.toList<b.cps.toList)
 |_,_=>false
noncomputable def jEY:List V->List V->Bool
 |x::xs,y::ys=>if eqV x y=true then jEY xs ys else ltV x y
 |_,_=>false
section
variable {X:Cx}
end
def sAt (b:Bool)(h:Heap)(l:Addr)(xs:Array Value):Prop:=match b with|false=>h.IsList l xs|true=>h.IsTuple l xs
def iAt (b:Bool)(h:Heap)(it l:Addr)(i:Nat):Prop:=match b with|false=>h.IsListIter it l i|true=>h.IsTupleIter it l i
noncomputable def jgT (b:Bool)(l:Addr):Obj:={cls:=.type (match b with|false=>"list_iterator" |true=>"tuple_iterator"),data:=.fields #[.ref l,.int 0 0]}
theorem jhu (g:h.get? it=some (jgT b l)):iAt b h it l 0:=by
 cases b<;>exact⟨_,g,rfl,rfl⟩
theorem iAt.keep (x:iAt b h it l i)(k:∀o,h.get? it=some o->h'.get? it=some o):iAt b h' it l i:=by
 cases b
 ·exact Heap.IsListIter.at x k
 ·exact Heap.IsTupleIter.at x k
theorem iAt.obj (x:iAt b h it l i):∃o,h.get? it=some o/\∀v,o.data≠.cell v:=by
 cases b<;>(obtain⟨o,g,_,d⟩:=x;exact⟨o,g,fun v z=>by rw[d]at z;cases z⟩)
theorem sAt.keep (x:sAt b h l xs)(k:∀o,h.get? l=some o->h'.get? l=some o):sAt b h' l xs:=by
 cases b<;>(obtain⟨o,g,r⟩:=x;exact⟨o,k o g,r⟩)
theorem sAt.obj (x:sAt b h l xs):∃o,h.get? l=some o:=by
 cases b<;>(obtain⟨o,g,_⟩:=x;exact⟨o,g⟩)
section
variable {prog:Program} {w:World} {A:Around} {E:Value->Shared->Prop} {s:Shared} {it l:Addr} {i:Nat} {items:Array Value} {b:Bool}
theorem jqg (ho:s.heap.get? it=some o)(hd:o.data=.fields fs)
  (q:Q () {s with heap:=s.heap.update it (Obj.mapFields (·.setIfInBounds k v))}) (hj:k<fs.size):wpAny M A (setField (.ref it) k v) Q E s:=wpAny_setField ho hd hj q
theorem jx2 {h:Heap} {ob:Obj} (gi:h.get? it=some ob) (ci:ob.cls=.type "tuple_iterator") (di:ob.data=.fields #[.ref l,.int (i:Int) 0]) :
  (h.update it (Obj.mapFields (·.setIfInBounds 1 (rawInt ((i:Int)+1))))).IsTupleIter it l (i+1):=by
 have dn:=Obj.data_mapFields di (·.setIfInBounds 1 (rawInt ((i:Int)+1)));refine⟨_,Heap.get?_update_self (Obj.mapFields (·.setIfInBounds 1 (rawInt ((i:Int)+1)))) gi (Obj.isFreed_of_fields dn),?_,?_⟩
 ·rw[Obj.cls_mapFields,ci]
 ·rw[dn];simp[rawInt]
theorem jtt {Q:Value->Shared->Prop}{x:Value}(hit:s.heap.IsTupleIter it l i)(hl:s.heap.IsTuple l items)(hx:items[i]?=some x)
  (q:∀h',h'.IsTupleIter it l (i+1)->Heap.SameBut it s.heap h'->Q x {s with heap:=h'}):wpAny (model prog w) A (Builtin.SmallTypes.nextOf (.ref it)) Q E s:=by
 have ty:s.TypeIs (.ref it) "tuple_iterator":=let⟨o,g,c,_⟩:=hit;⟨o,g,c⟩;obtain⟨ob,gi,ci,di⟩:=id hit;obtain⟨ol,gl,_,nl,dl⟩:=hl;have after:=jx2 (i:=i) gi ci di;unfold Builtin.SmallTypes.nextOf;refine wpAny_bind (wpAny_callSpecial?_slot (name:=Str.ofString "__next__") ty j1k (wpAny_call_entry j1k ty F.entry_tuple_iterator_next ?_ (F.args_tuple_iterator_next_1 _)));wp_walk using wpAny_field gi di (x:=.ref l) rfl,wpAny_field gi di (x:=.int (i:Int) 0) rfl,wpAny_seqItems gl dl;rw[j1t,hx];dsimp only;wp_walk using jqg gi di
 ·exact⟨_,rfl,wpAny_pure (q _ after (Heap.SameBut.update ..))⟩
 ·show 1<2;decide
theorem jmd (hh:A.handled=none)(hit:s.heap.IsTupleIter it l i)(hl:s.heap.IsTuple l items)(hx:items[i]?=none)
  (q:∀h' x,Heap.ExtBut it s.heap h'->(∃o,h'.get? x=some o/\o.cls=.type "StopIteration")->E (.ref x) {s with heap:=h'}):wpAny (model prog w) A (Builtin.SmallTypes.nextOf (.ref it)) Q E s:=by
 have ty:s.TypeIs (.ref it) "tuple_iterator":=let⟨o,g,c,_⟩:=hit;⟨o,g,c⟩;obtain⟨ob,gi,ci,di⟩:=id hit;obtain⟨ol,gl,_,nl,dl⟩:=hl;have hh1:A.in1.handled=none:=hh;unfold Builtin.SmallTypes.nextOf;refine wpAny_bind (wpAny_callSpecial?_slot (name:=Str.ofString "__next__") ty j1k (wpAny_call_entry j1k ty F.entry_tuple_iterator_next ?_ (F.args_tuple_iterator_next_1 _)));wp_walk using wpAny_field gi di (x:=.ref l) rfl,wpAny_field gi di (x:=.int (i:Int) 0) rfl,wpAny_seqItems gl dl;rw[j1t,hx];dsimp only;wp_walk using jqg gi di
 ·(try unfold raiseNew)
  wp_walk;exact q _ _ (((Heap.SameBut.update ..).extBut.push _).push _) ⟨_,j0f _ rfl,rfl⟩
 ·show 0<2;decide
theorem jBx (hit:iAt b s.heap it l i)(hl:sAt b s.heap l items)(hx:items[i]?=some x)
  (q:∀h',iAt b h' it l (i+1)->Heap.SameBut it s.heap h'->Q x {s with heap:=h'}):wpAny (model prog w) A (Builtin.SmallTypes.nextOf (.ref it)) Q E s:=by
 cases b
 ·exact wpAny_nextOf_list_item hit hl hx q
 ·exact jtt hit hl hx q
theorem jkI (hh:A.handled=none)(hit:iAt b s.heap it l i)(hl:sAt b s.heap l items)(hx:items[i]?=none)
  (q:∀h' x,Heap.ExtBut it s.heap h'->(∃o,h'.get? x=some o/\o.cls=.type "StopIteration")->E (.ref x) {s with heap:=h'}):wpAny (model prog w) A (Builtin.SmallTypes.nextOf (.ref it)) Q E s:=by
 cases b
 ·exact wpAny_nextOf_list_end hh hit hl hx q
 ·exact jmd hh hit hl hx q
theorem joW (hl:sAt b s.heap l items)(q:Q (.ref s.heap.objs.size) {s with heap:=s.heap.push (jgT b l)}):wpAny (model prog w) A (pyIter (.ref l)) Q E s:=by
 cases b
 ·exact wpAny_pyIter_list hl q
 ·exact wpAny_pyIter_tuple hl q
end
section
variable {prog:Program} {w:World} {A:Around} {E:Value->Shared->Prop} {s:Shared} {l:Addr} {items:Array Value} {b:Bool}
theorem jtN {h0 hB:Heap}{a c:Value}(zB:hB.objs.size=h0.objs.size+2) :
  ((hB.push {cls:=.type "tuple",data:=.seq #[a,c]}).push {cls:=.type "tuple",data:=.seq #[.none,.none]}).objs.size=h0.objs.size+4 /\
  IsZip (((hB.push {cls:=.type "tuple",data:=.seq #[a,c]}).push {cls:=.type "tuple",data:=.seq #[.none,.none]}).push {cls:=.type "zip",data:=.fields #[.none,.bool false,.bool false,.ref hB.objs.size,.ref (hB.push {cls:=.type "tuple",data:=.seq #[a,c]}).objs.size]}) (h0.objs.size+4) (h0.objs.size+2) (h0.objs.size+3) .none /\
  IsPair (((hB.push {cls:=.type "tuple",data:=.seq #[a,c]}).push {cls:=.type "tuple",data:=.seq #[.none,.none]}).push {cls:=.type "zip",data:=.fields #[.none,.bool false,.bool false,.ref hB.objs.size,.ref (hB.push {cls:=.type "tuple",data:=.seq #[a,c]}).objs.size]}) (h0.objs.size+2) a c /\
  IsPair (((hB.push {cls:=.type "tuple",data:=.seq #[a,c]}).push {cls:=.type "tuple",data:=.seq #[.none,.none]}).push {cls:=.type "zip",data:=.fields #[.none,.bool false,.bool false,.ref hB.objs.size,.ref (hB.push {cls:=.type "tuple",data:=.seq #[a,c]}).objs.size]}) (h0.objs.size+3) .none .none /\
  ∀d o,hB.get? d=some o->(((hB.push {cls:=.type "tuple",data:=.seq #[a,c]}).push {cls:=.type "tuple",data:=.seq #[.none,.none]}).push {cls:=.type "zip",data:=.fields #[.none,.bool false,.bool false,.ref hB.objs.size,.ref (hB.push {cls:=.type "tuple",data:=.seq #[a,c]}).objs.size]}).get? d=some o:=by
 have zC:(hB.push {cls:=.type "tuple",data:=.seq #[a,c]}).objs.size=h0.objs.size+3:=by rw[j09,zB]
 have tC:=j0f hB (o:={cls:=.type "tuple",data:=.seq #[a,c]}) rfl;have kC:∀d o,hB.get? d=some o->(hB.push {cls:=.type "tuple",data:=.seq #[a,c]}).get? d=some o:=fun d o e=>j0b _ e;rw[zB]at tC ⊢;rw[zC];generalize hB.push {cls:=.type "tuple",data:=.seq #[a,c]}=hC at zC tC kC ⊢;have zD:(hC.push {cls:=.type "tuple",data:=.seq #[.none,.none]}).objs.size=h0.objs.size+4:=by rw[j09,zC]
 have tD:=j0f hC (o:={cls:=.type "tuple",data:=.seq #[.none,.none]}) rfl;have kD:∀d o,hC.get? d=some o->(hC.push {cls:=.type "tuple",data:=.seq #[.none,.none]}).get? d=some o:=fun d o e=>j0b _ e;rw[zC]at tD;generalize hC.push {cls:=.type "tuple",data:=.seq #[.none,.none]}=hD at zD tD kD ⊢;have tE:=j0f hD (o:={cls:=.type "zip",data:=.fields #[.none,.bool false,.bool false,.ref (h0.objs.size+2),.ref (h0.objs.size+3)]}) rfl;rw[zD]at tE;exact⟨zD,tE,j0b _ (kD _ _ tC),j0b _ tD,fun d o e=>j0b _ (kD _ _ (kC _ _ e))⟩
theorem ju9 (b1 b2:Bool)(l1 l2:Addr)(xs ys:Array Value) :
  Meets (Builtin.«zip.__new__» ⟨[.type "zip",.ref l1,.ref l2],[]⟩) (fun _ R s=>sAt b1 s.heap l1 xs/\sAt b2 s.heap l2 ys /\
   ∀h',IsZip h' (s.heap.objs.size+4) (s.heap.objs.size+2) (s.heap.objs.size+3) .none->IsPair h' (s.heap.objs.size+2) (.ref s.heap.objs.size) (.ref (s.heap.objs.size+1))->IsPair h' (s.heap.objs.size+3) .none .none ->
    iAt b1 h' s.heap.objs.size l1 0->iAt b2 h' (s.heap.objs.size+1) l2 0->(∀c o,s.heap.get? c=some o->h'.get? c=some o)->R (.ok (.ret (.ref (s.heap.objs.size+4)))) {s with heap:=h'}):=by
 refine .of_wp ?_;rintro prog w A R ⟨hp,g,d,tk,os⟩ ⟨h1,h2,q⟩;have sub:=sub_zip;have g1:sAt b1 (Shared.heap ⟨hp,g,d,tk,os⟩) l1 xs:=h1;have g2:sAt b2 (Shared.heap ⟨hp.push (jgT b1 l1),g,d,tk,os⟩) l2 ys:=sAt.keep h2 fun o e=>j0b _ e;wp_walk using joW g1,joW g2;refine⟨_,rfl,?_⟩;have z1:(hp.push (jgT b1 l1)).objs.size=hp.objs.size+1:=j09 ..;generalize eA:hp.push (jgT b1 l1)=hA at *;have z2:(hA.push (jgT b2 l2)).objs.size=hp.objs.size+2:=by rw[j09,z1]
 have i1:hA.get? hp.objs.size=some (jgT b1 l1):=by rw[<- eA];exact j0f _ rfl
 have k1:∀c o,hp.get? c=some o->hA.get? c=some o:=fun c o e=>by rw[<- eA];exact j0b _ e
 have i2:(hA.push (jgT b2 l2)).get? (hp.objs.size+1)=some (jgT b2 l2):=by rw[<- z1];exact j0f _ rfl
 have k2:∀c o,hA.get? c=some o->(hA.push (jgT b2 l2)).get? c=some o:=fun c o e=>j0b _ e;obtain⟨e4,p1,p2,p3,p4⟩:=jtN (a:=.ref hp.objs.size) (c:=.ref hA.objs.size) z2;have hq:=q _ p1 (by show IsPair _ _ _ (.ref (hp.objs.size+1));rw[<- z1];exact p2) p3 (jhu (p4 _ _ (k2 _ _ i1))) (jhu (p4 _ _ i2)) fun c o e=>p4 _ _ (k2 _ _ (k1 _ _ e));rw[<- e4]at hq;exact hq
theorem jpg (h1:sAt b1 s.heap l1 xs)(h2:sAt b2 s.heap l2 ys)
  (q:∀h',IsZip h' (s.heap.objs.size+4) (s.heap.objs.size+2) (s.heap.objs.size+3) .none->IsPair h' (s.heap.objs.size+2) (.ref s.heap.objs.size) (.ref (s.heap.objs.size+1))->IsPair h' (s.heap.objs.size+3) .none .none ->
    iAt b1 h' s.heap.objs.size l1 0->iAt b2 h' (s.heap.objs.size+1) l2 0->(∀c o,s.heap.get? c=some o->h'.get? c=some o)->Q (.ref (s.heap.objs.size+4)) {s with heap:=h'}) :
  wpAny (model prog w) A (call (.type "zip") [.ref l1,.ref l2]) Q E s:=
 callType_new F.called_zip (by decide) (F.typeCall_zip_2 _ _) (F.newCall_zip_2 _ _) (fun o=>F.args_object_init_3 o _ _) F.entry_zip_new (ju9 b1 b2 l1 l2 xs ys)
  ⟨h1,h2,fun h' p1 p2 p3 p4 p5 p6=>⟨⟨_,p1,rfl⟩,q h' p1 p2 p3 p4 p5 p6⟩⟩
theorem jwe {b1 b2:Bool}{z TI TO i1 i2 l1 l2:Addr}{i:Nat}{xs ys:Array Value}{x y u v:Value}{Q:Option Value->Shared->Prop}(D:ZipApart z TI TO i1 i2 l1 l2)
  (oz:IsZip s.heap z TI TO .none) (oi:IsPair s.heap TI (.ref i1) (.ref i2)) (oo:IsPair s.heap TO u v) (a1:iAt b1 s.heap i1 l1 i) (a2:iAt b2 s.heap i2 l2 i) (s1:sAt b1 s.heap l1 xs) (s2:sAt b2 s.heap l2 ys) (ex:xs[i]?=some x) (ey:ys[i]?=some y)
  (q:∀h',IsZip h' z TI TO (rawInt s.heap.objs.size)->IsPair h' TO x y->iAt b1 h' i1 l1 (i+1)->iAt b2 h' i2 l2 (i+1)->IsPair h' s.heap.objs.size x y ->
   (∀c o,c≠z->c≠TO->c≠i1->c≠i2->s.heap.get? c=some o->h'.get? c=some o)->Q (some (.ref s.heap.objs.size)) {s with heap:=h'}) :
  wpAny (model prog w) A (pyNext (.ref z)) Q E s:=by
 have ty:s.TypeIs (.ref z) "zip":=⟨_,oz,rfl⟩;unfold pyNext;refine wpAny_bind (wpAny_attempt (wpAny_callSpecial?_slot (name:=Str.ofString "__next__") ty j1i (wpAny_call_entry j1i ty F.entry_zip_next ?_ (F.args_zip_next_1 _))));have fin:∀(w1:Value) (t:Shared),Q (some w1) t->wpAny (model prog w) A (pure (some w1)) Q E t:=fun _ _ z=>wpAny_pure z;change wpAny _ _ (field (.ref z) 2 >>=_) _ _ _;refine wpAny_bind (wpAny_field oz rfl (x:=.bool false) rfl ?_);change wpAny _ _ (field (.ref z) 3 >>=_) _ _ _;refine wpAny_bind (wpAny_field oz rfl (x:=.ref TI) rfl (wpAny_bind (wpAny_seqItems oi rfl ?_)));change wpAny _ _ (Builtin.SmallTypes.ownedTupleIsFree (.ref z) >>=_) _ _ _;refine wpAny_bind (wpAny_bind (wpAny_field oz rfl (x:=.none) rfl (wpAny_pure ?_)));rw[if_pos rfl];refine wpAny_bind (wpAny_rule (wpAny_bind (wpAny_field oz rfl (x:=.ref TO) rfl (wpAny_bind (wpAny_setField_rec oz (by simp) fun hA zA kA=>wpAny_bind ?_)))));have zA':IsZip hA z TI TO .ellipsis:=zA;have nA:hA.objs.size=s.heap.objs.size:=kA.1;have oA:IsPair hA TO u v:=kA.extBut _ _ D.TOz oo;have a1A:iAt b1 hA i1 l1 i:=a1.keep fun o e=>kA.extBut _ _ D.i1z e;have a2A:iAt b2 hA i2 l2 i:=a2.keep fun o e=>kA.extBut _ _ D.i2z e;have s1A:sAt b1 hA l1 xs:=s1.keep fun o e=>kA.extBut _ _ D.l1z e;have s2A:sAt b2 hA l2 ys:=s2.keep fun o e=>kA.extBut _ _ D.l2z e;have keepA:∀c o,c≠z->s.heap.get? c=some o->hA.get? c=some o:=fun c o n e=>kA.extBut _ _ n e;simp only[List.zipIdx_cons,List.zipIdx_nil,List.forIn_cons,List.forIn_nil];refine wpAny_bind (wpAny_bind (wpAny_onRaise ?_));change wpAny _ _ (Builtin.SmallTypes.nextOf (.ref i1) >>=_) _ _ _;refine wpAny_bind (jBx a1A s1A ex fun hB a1B kB=>wpAny_pure ?_);have oB:IsPair hB TO u v:=kB.extBut _ _ D.TOi1 oA;refine wpAny_bind (wpAny_seqItems oB rfl (wpAny_bind (wpAny_updateSeq_pair oB fun hC oC kC=>wpAny_bind (wpAny_letGo (wpAny_pure ?_)))));have oC':IsPair hC TO x v:=oC;have a2C:iAt b2 hC i2 l2 i:=(a2A.keep fun o e=>kB.extBut _ _ D.i12.symm e).keep fun o e=>kC.extBut _ _ D.TOi2.symm e;have s2C:sAt b2 hC l2 ys:=(s2A.keep fun o e=>kB.extBut _ _ D.l2i1 e).keep fun o e=>kC.extBut _ _ D.l2TO e;refine wpAny_bind (wpAny_bind (wpAny_onRaise ?_));change wpAny _ _ (Builtin.SmallTypes.nextOf (.ref i2) >>=_) _ _ _;refine wpAny_bind (jBx a2C s2C ey fun hD a2D kD=>wpAny_pure ?_);have oD:IsPair hD TO x v:=kD.extBut _ _ D.TOi2 oC';refine wpAny_bind (wpAny_seqItems oD rfl (wpAny_bind (wpAny_updateSeq_pair oD fun hE oE kE=>wpAny_bind (wpAny_letGo (wpAny_pure (wpAny_pure ?_))))));have oE':IsPair hE TO x y:=oE;refine wpAny_bind (wpAny_seqItems oE' rfl (wpAny_bind (wpAny_newTuple ?_)));have nE:hE.objs.size=s.heap.objs.size:=by rw[kE.1,kD.1,kC.1,kB.1,nA]
 have keepE:∀c o,c≠TO->c≠i1->c≠i2->hA.get? c=some o->hE.get? c=some o:=fun c o c2 c3 c4 e=>kE.extBut _ _ c2 (kD.extBut _ _ c4 (kC.extBut _ _ c2 (kB.extBut _ _ c3 e)));have zE:IsZip hE z TI TO .ellipsis:=keepE _ _ D.TOz.symm D.i1z.symm D.i2z.symm zA';have a1E:iAt b1 hE i1 l1 (i+1):=a1B.keep fun o e=>kE.extBut _ _ D.TOi1.symm (kD.extBut _ _ D.i12 (kC.extBut _ _ D.TOi1.symm e));have a2E:iAt b2 hE i2 l2 (i+1):=a2D.keep fun o e=>kE.extBut _ _ D.TOi2.symm e;have lz:z<hE.objs.size:=j0i zE;change wpAny _ _ (Builtin.SmallTypes.ownedTupleHandOut (.ref z) (.ref hE.objs.size) >>=_) _ _ _;refine wpAny_bind ?_;unfold Builtin.SmallTypes.ownedTupleHandOut;have zP:IsZip (hE.push {cls:=.type "tuple",data:=.seq #[x,y]}) z TI TO .ellipsis:=j0b _ zE;refine wpAny_bind (wpAny_setField_rec zP (by simp) fun hF zF kF=>wpAny_setField_rec (show IsZip hF z TI TO (rawInt hE.objs.size)from zF) (by simp) fun hG zG kG=>?_);have zG':IsZip hG z TI TO (rawInt hE.objs.size):=zG;have keepG:∀c o,c≠z->(hE.push {cls:=.type "tuple",data:=.seq #[x,y]}).get? c=some o->hG.get? c=some o:=fun c o n e=>kG.extBut _ _ n (kF.extBut _ _ n e);have up:∀c o,c≠z->hE.get? c=some o->hG.get? c=some o:=fun c o n e=>keepG c o n (j0b _ e);have new:IsPair hG hE.objs.size x y:=keepG _ _ (Nat.ne_of_gt lz) (j0f _ rfl);rw[nE]at zG' new;refine wpAny_pure ⟨_,rfl,fin _ _ ?_⟩;change Q (some (.ref hE.objs.size)) _;rw[nE];exact q hG zG' (up _ _ D.TOz oE') (a1E.keep fun o e=>up _ _ D.i1z e) (a2E.keep fun o e=>up _ _ D.i2z e) new fun c o c1 c2 c3 c4 e=>up c o c1 (keepE c o c2 c3 c4 (keepA c o c1 e))
theorem jAM {b1 b2:Bool}{z TI TO i1 i2 l1 l2:Addr}{i:Nat}{xs ys:Array Value}{u v:Value}{Q:Option Value->Shared->Prop}(hh:A.handled=none)(D:ZipApart z TI TO i1 i2 l1 l2)
  (oz:IsZip s.heap z TI TO .none) (oi:IsPair s.heap TI (.ref i1) (.ref i2)) (oo:IsPair s.heap TO u v) (a1:iAt b1 s.heap i1 l1 i) (a2:iAt b2 s.heap i2 l2 i) (s1:sAt b1 s.heap l1 xs) (s2:sAt b2 s.heap l2 ys) (ee:xs[i]?=none∨ys[i]?=none)
  (q:∀h',(∀c o,c≠z->c≠TO->c≠i1->c≠i2->s.heap.get? c=some o->h'.get? c=some o)->Q none {s with heap:=h'}) :
  wpAny (model prog w) A (pyNext (.ref z)) Q E s:=by
 have ty:s.TypeIs (.ref z) "zip":=⟨_,oz,rfl⟩;have hh1:A.in1.handled=none:=hh;unfold pyNext;refine wpAny_bind (wpAny_attempt (wpAny_callSpecial?_slot (name:=Str.ofString "__next__") ty j1i (wpAny_call_entry j1i ty F.entry_zip_next ?_ (F.args_zip_next_1 _))))
 have raised:∀(hX hY:Heap) (e:Addr),IsZip hX z TI TO .ellipsis->(∃o,hX.get? e=some o/\o.cls=.type "StopIteration")->(∀c o,c≠z->c≠TO->c≠i1->c≠i2->s.heap.get? c=some o->hX.get? c=some o)->Heap.SameBut z hX hY ->
   (∃o,hY.get? e=some o/\o.cls=.type "StopIteration")/\∀c o,c≠z->c≠TO->c≠i1->c≠i2->s.heap.get? c=some o->hY.get? c=some o:=fun hX hY e zX ⟨o,ho,hc⟩ kX kY=>by
  have ne:e≠z:=fun r=>by
   rw[r,zX]at ho;cases ho;simp at hc
  exact⟨⟨o,kY.extBut _ _ ne ho,hc⟩,fun c o c1 c2 c3 c4 r=>kY.extBut _ _ c1 (kX c o c1 c2 c3 c4 r)⟩
 change wpAny _ _ (field (.ref z) 2 >>=_) _ _ _;refine wpAny_bind (wpAny_field oz rfl (x:=.bool false) rfl ?_);change wpAny _ _ (field (.ref z) 3 >>=_) _ _ _;refine wpAny_bind (wpAny_field oz rfl (x:=.ref TI) rfl (wpAny_bind (wpAny_seqItems oi rfl ?_)));change wpAny _ _ (Builtin.SmallTypes.ownedTupleIsFree (.ref z) >>=_) _ _ _;refine wpAny_bind (wpAny_bind (wpAny_field oz rfl (x:=.none) rfl (wpAny_pure ?_)));rw[if_pos rfl];refine wpAny_bind (wpAny_rule (wpAny_bind (wpAny_field oz rfl (x:=.ref TO) rfl (wpAny_bind (wpAny_setField_rec oz (by simp) fun hA zA kA=>wpAny_bind ?_)))));have zA':IsZip hA z TI TO .ellipsis:=zA;have oA:IsPair hA TO u v:=kA.extBut _ _ D.TOz oo;have a1A:iAt b1 hA i1 l1 i:=a1.keep fun o e=>kA.extBut _ _ D.i1z e;have a2A:iAt b2 hA i2 l2 i:=a2.keep fun o e=>kA.extBut _ _ D.i2z e;have s1A:sAt b1 hA l1 xs:=s1.keep fun o e=>kA.extBut _ _ D.l1z e;have s2A:sAt b2 hA l2 ys:=s2.keep fun o e=>kA.extBut _ _ D.l2z e;simp only[List.zipIdx_cons,List.zipIdx_nil,List.forIn_cons,List.forIn_nil];refine wpAny_bind (wpAny_bind (wpAny_onRaise ?_));change wpAny _ _ (Builtin.SmallTypes.nextOf (.ref i1) >>=_) _ _ _;by_cases ex:xs[i]?=none
 ·refine wpAny_bind (jkI hh1 a1A s1A ex fun hX e kX he=>?_);have zX:IsZip hX z TI TO .ellipsis:=kX _ _ D.i1z.symm zA';refine wpAny_setField_rec zX (by simp) fun hY _ kY=>?_;obtain⟨⟨o,ho,hc⟩,kk⟩:=raised hX hY e zX he (fun c o c1 _ c3 _ r=>kX _ _ c3 (kA.extBut _ _ c1 r)) kY;exact wpAny_bind (wpAny_isInstance (T:="StopIteration") (b:=true) ⟨o,ho,hc⟩ isSubtype_stop (wpAny_pure (q _ kk)))
 ·have ey:ys[i]?=none:=ee.resolve_left ex;obtain⟨x,ex'⟩:∃x,xs[i]?=some x:=Option.ne_none_iff_exists'.mp ex;refine wpAny_bind (jBx a1A s1A ex' fun hB a1B kB=>wpAny_pure ?_);have oB:IsPair hB TO u v:=kB.extBut _ _ D.TOi1 oA;refine wpAny_bind (wpAny_seqItems oB rfl (wpAny_bind (wpAny_updateSeq_pair oB fun hC oC kC=>wpAny_bind (wpAny_letGo (wpAny_pure ?_)))));have a2C:iAt b2 hC i2 l2 i:=(a2A.keep fun o e=>kB.extBut _ _ D.i12.symm e).keep fun o e=>kC.extBut _ _ D.TOi2.symm e;have s2C:sAt b2 hC l2 ys:=(s2A.keep fun o e=>kB.extBut _ _ D.l2i1 e).keep fun o e=>kC.extBut _ _ D.l2TO e;refine wpAny_bind (wpAny_bind (wpAny_onRaise ?_));change wpAny _ _ (Builtin.SmallTypes.nextOf (.ref i2) >>=_) _ _ _;refine wpAny_bind (jkI hh1 a2C s2C ey fun hX e kX he=>?_);have zX:IsZip hX z TI TO .ellipsis:=kX _ _ D.i2z.symm (kC.extBut _ _ D.TOz.symm (kB.extBut _ _ D.i1z.symm zA'));refine wpAny_setField_rec zX (by simp) fun hY _ kY=>?_;obtain⟨⟨o,ho,hc⟩,kk⟩:=raised hX hY e zX he (fun c o c1 c2 c3 c4 r=>kX _ _ c4 (kC.extBut _ _ c2 (kB.extBut _ _ c3 (kA.extBut _ _ c1 r)))) kY;exact wpAny_bind (wpAny_isInstance (T:="StopIteration") (b:=true) ⟨o,ho,hc⟩ isSubtype_stop (wpAny_pure (q _ kk)))
end
def SqB (b:Bool)(K:PySem.W.Frag)(H:Hp)(a:Addr)(xs:List V):Prop:=match b with|false=>SqL K H a xs|true=>SqT K H a xs
section
variable {X:Cx} {pins:List (Addr×Obj)} {σ:_L2.St} {H:Hp} {s:Shared} {a:Addr} {xs ys:List V} {b:Bool}
theorem Inv.sqb (I:Inv X pins σ H s)(h:SqB b X.K H a xs):∃its:List Value,jaI xs its/\sAt b s.heap a its.toArray/\xs.length<=sizeLine:=by
 cases b
 ·obtain⟨its,v,p,z⟩:=I.list h;exact⟨its,v,p.isList,z⟩
 ·obtain⟨its,v,p,z⟩:=I.tuple h;exact⟨its,v,p,z⟩
end
section
variable {X:Cx}
end
section
variable {X:Cx}
end
section
variable {κ:Type} [DecidableEq κ]
noncomputable def jox (kvs:List (κ×V))(k:κ):Option V:=(kvs.find? fun kv=>decide (kv.1=k)).map (·.2)
noncomputable def jok (kvs:List (κ×V))(k:κ)(v:V):List (κ×V):=
 if(kvs.any fun kv=>decide (kv.1=k))=true then kvs.map (fun kv=>if kv.1=k then(kv.1,v)else kv)else kvs++[(k,v)]
noncomputable def jBe (kvs:List (κ×V))(k:κ):List (κ×V):=kvs.filter fun kv=>decide (kv.1≠k)
theorem jhF {p:κ×V}{r:List (κ×V)}{k:κ}(e:p.1=k):jox (p::r) k=some p.2:=by simp[jox,j0O,e]
theorem jhx {p:κ×V}{r:List (κ×V)}{k:κ}(e:¬ p.1=k):jox (p::r) k=jox r k:=by simp[jox,j0O,e]
theorem jo4 (k:κ):∀kvs:List (κ×V),(kvs.any fun kv=>decide (kv.1=k))=(jox kvs k).isSome
 |[]=>rfl
 |p::r=>by
  rw[j1y];by_cases e:p.1=k
  ·simp only[jhF e,decide_eq_true e,Bool.true_or,Option.isSome_some]
  ·rw[jhx e,decide_eq_false e,Bool.false_or];exact jo4 k r
theorem jh7 (kvs:List (κ×V))(k:κ)(v:V):(jok kvs k v).length<=kvs.length+1:=by
 unfold jok;split
 ·rw[j0d];omega
 ·rw[j0o,j0j,j1b];omega
theorem jlB.isSome_eq (r:jlB o u):o.isSome=u.isSome:=by
 cases o with
 |none=>cases u with
  |none=>rfl
  |some _=>exact(show False from r).elim
 |some _=>cases u with
  |none=>exact(show False from r).elim
  |some _=>rfl
theorem jlB.getD (r:jlB o u)(rd:jaB d d'):jaB (o.getD d) (u.getD d'):=by
 cases o with
 |none=>cases u with
  |none=>exact rd
  |some _=>exact(show False from r).elim
 |some _=>cases u with
  |none=>exact(show False from r).elim
  |some _=>exact r
theorem KV.val {kvs:List (κ×V)}{vs:List (κ×Value)}(r:KV kvs vs)(k:κ):jlB (jox kvs k) (valueAt vs k):=by
 unfold KV at r
 induction r with
 |nil=>exact True.intro
 | @cons p q ps qs h t ih=>
  obtain⟨h1,h2⟩:=h;by_cases e:p.1=k
  ·have e':q.1=k:=h1.symm.trans e;have b:valueAt (q::qs) k=some q.2:=by simp[valueAt,j0O,e']
   rw[jhF e,b];exact h2
  ·have e':¬ q.1=k:=fun z=>e (h1.trans z);have b:valueAt (q::qs) k=valueAt qs k:=by simp[valueAt,j0O,e']
   rw[jhx e,b];exact ih
theorem KV.any (r:KV kvs vs)(k:κ):(kvs.any fun kv=>decide (kv.1=k))=vs.any fun kv=>decide (kv.1=k):=by
 unfold KV at r
 induction r with
 |nil=>rfl
 |cons h t ih=>rw[j1y,j1y,ih,h.1]
theorem KV.repl (r:KV kvs vs)(k:κ){y:V}{u:Value}(ry:jaB y u) :
  KV (kvs.map fun kv=>if kv.1=k then(kv.1,y)else kv) (vs.map fun kv=>if kv.1=k then(kv.1,u)else kv):=by
 unfold KV at r ⊢
 induction r with
 |nil=>exact .nil
 | @cons p q ps qs h t ih=>
  rw[j0c,j0c];refine .cons ?_ ih;obtain⟨h1,h2⟩:=h;by_cases e:p.1=k
  ·rw[if_pos e,if_pos (h1.symm.trans e)];exact⟨h1,ry⟩
  ·rw[if_neg e,if_neg (fun z=>e (h1.trans z))];exact⟨h1,h2⟩
theorem KV.put (r:KV kvs vs)(k:κ){y:V}{u:Value}(ry:jaB y u):KV (jok kvs k y) (stored vs k u):=by
 unfold jok stored;rw[r.any k];by_cases e:(vs.any fun kv=>decide (kv.1=k))=true
 ·rw[if_pos e,if_pos e];exact r.repl k ry
 ·rw[if_neg e,if_neg e];exact Paired.snoc r ⟨rfl,ry⟩
theorem KV.drop (r:KV kvs vs)(k:κ):KV (jBe kvs k) (without vs k):=by
 unfold KV at r ⊢;unfold jBe without
 induction r with
 |nil=>exact .nil
 | @cons p q ps qs h t ih=>
  obtain⟨h1,h2⟩:=h;rw[List.filter_cons,List.filter_cons];by_cases e:p.1=k
  ·have a:¬ decide (p.1≠k)=true:=by simp[e]
   have b:¬ decide (q.1≠k)=true:=by simp[h1.symm.trans e]
   rw[if_neg a,if_neg b];exact ih
  ·have e':¬ q.1=k:=fun z=>e (h1.trans z);have a:decide (p.1≠k)=true:=by simp[e]
   have b:decide (q.1≠k)=true:=by simp[e']
   rw[if_pos a,if_pos b];exact .cons ⟨h1,h2⟩ ih
theorem KV.keys {kvs:List (κ×V)}{vs:List (κ×Value)}(r:KV kvs vs):kvs.map (·.1)=vs.map (·.1):=by
 unfold KV at r
 induction r with
 |nil=>rfl
 |cons h t ih=>rw[j0c,j0c,ih,h.1]
theorem KV.length (r:KV kvs vs):kvs.length=vs.length:=Paired.length r
end
theorem jpL (r:jaB (kV k) u):(jal P w).is k u=true:=by
 cases k with
 |inl i=>obtain⟨t,e⟩:=(show ∃t,u=Value.int i t from r);subst e;exact jm1 P w i t
 |inr x=>obtain⟨t,e⟩:=(show ∃t,u=Value.str x t from r);subst e;exact jiJ P w x t
theorem ji:∀{ks:List Key} {us:List Value},jaI (ks.map kV) us->ItemsAre (jal P w) ks us
 |[],_,r=>by rw[j0B]at r;cases r;exact .nil
 |k::ks,_,r=>by
  rw[j0c]at r
  cases r with
  |cons h t=>exact .cons (jpL h) (ji t)
noncomputable abbrev KT (H:Hp):List (List Key×V)->List (List Key×Addr×Value)->Prop:=Paired fun p q=>p.1=q.1/\H q.2.1=some (.tup (p.1.map kV))/\jaB p.2 q.2.2
theorem KT.val {H:Hp}{kvs:List (List Key×V)}{xs:List (List Key×Addr×Value)}(r:KT H kvs xs)(k:List Key):jlB (jox kvs k) ((atKey xs k).map (·.2)):=by
 induction r with
 |nil=>exact True.intro
 | @cons p q ps qs h t ih=>
  obtain⟨h1,_,h2⟩:=h;by_cases e:p.1=k
  ·have e':q.1=k:=h1.symm.trans e;have b:atKey (q::qs) k=some q.2:=by simp[atKey,j0O,e']
   rw[jhF e,b];exact h2
  ·have e':¬ q.1=k:=fun z=>e (h1.trans z);have b:atKey (q::qs) k=atKey qs k:=by simp[atKey,j0O,e']
   rw[jhx e,b];exact ih
theorem KT.repl (r:KT H kvs xs)(k:List Key){y:V}{u:Value}(ry:jaB y u) :
  KT H (kvs.map fun kv=>if kv.1=k then(kv.1,y)else kv) (xs.map (putAt k u)):=by
 induction r with
 |nil=>exact .nil
 | @cons p q ps qs h t ih=>
  rw[j0c,j0c];refine .cons ?_ ih;obtain⟨h1,h2,h3⟩:=h;unfold putAt;by_cases e:p.1=k
  ·rw[if_pos e,if_pos (h1.symm.trans e)];exact⟨h1,h2,ry⟩
  ·rw[if_neg e,if_neg (fun z=>e (h1.trans z))];exact⟨h1,h2,h3⟩
theorem KT.put (r:KT H kvs xs)(k:List Key){b:Addr}{y:V}{u:Value}(hb:H b=some (.tup (k.map kV)))(ry:jaB y u) :
  KT H (jok kvs k y) (storedH xs k b u):=by
 have e:(kvs.any fun kv=>decide (kv.1=k))=(atKey xs k).isSome:=by
  rw[jo4,(r.val k).isSome_eq,Option.isSome_map]
 unfold jok storedH;rw[e];by_cases q:(atKey xs k).isSome=true
 ·rw[if_pos q,if_pos q];exact r.repl k ry
 ·rw[if_neg q,if_neg q];exact Paired.snoc r ⟨rfl,hb,ry⟩
theorem KT.keeps (r:KT H kvs xs)(ht:∀b ys,H b=some (.tup ys)->H' b=some (.tup ys)):KT H' kvs xs:=
 Paired.mapP r fun _ _ z=>⟨z.1,ht _ _ z.2.1,z.2.2⟩
section
variable {P:Program} {w:World} {H:Hp} {h:Heap} {a:Addr}
theorem jCD (ok:HOk P w H h)(e:Rd H a u):jaS P w H h a u:=e.ok ok
theorem jmW (ok:HOk P w H h)(e:Rd H a (.dK kvs)):kvs.length<=sizeLine/\(a==sysModules)=false/\∃vs,KV kvs vs/\h.DictOf (jal P w) a vs:=
 show jaS P w H h a (.dK kvs)from jCD ok e
theorem jDF (ok:HOk P w H h)(e:H a=some (.dK kvs)):kvs.length<=sizeLine/\(a==sysModules)=false/\∃vs,KV kvs vs/\h.DictOf (jal P w) a vs:=jmW ok (.inl e)
theorem jjM (ok:HOk P w H h)(e:H a=some (.tup (ks.map kV))):(tupleKind (jal P w)).is h ks a:=by
 obtain⟨_,its,n,r,h1⟩:=(show jaS P w H h a (.tup (ks.map kV))from ok a _ e);exact⟨_,its.toArray,n,h1,rfl,rfl,by simpa using ji r⟩
theorem jnL (ok:HOk P w H h)(e:Rd H a (.dT kvs)):kvs.length<=sizeLine/\(a==sysModules)=false /\
  ∃xs,KT H kvs xs/\h.DictOfH (tupleKind (jal P w)) a xs:=by
 obtain⟨z,y,xs,r,o,es,ep,h1,h2,h3,h4,h5⟩:=(show jaS P w H h a (.dT kvs)from jCD ok e);refine⟨z,y,xs,r,o,es,ep,h1,h2,h3,h4,fun x hx=>?_,h5⟩;have all:∀{l:List (List Key×V)} {m:List (List Key×Addr×Value)},KT H l m->∀x∈m,(tupleKind (jal P w)).is h x.1 x.2.1:=by
  intro l m q
  induction q with
  |nil=>intro x hx;exact nomatch hx
  | @cons p q ps qs hq t ih=>
   intro x hx;rcases j0q.mp hx with e|hx
   ·subst e;exact jjM ok (by rw[<- hq.1];exact hq.2.1)
   ·exact ih x hx
 exact all r x hx
theorem jAL (ok:HOk P w H h)(e:H a=some (.dT kvs)):kvs.length<=sizeLine/\(a==sysModules)=false /\
  ∃xs,KT H kvs xs/\h.DictOfH (tupleKind (jal P w)) a xs:=jnL ok (.inl e)
end
def jpr (H:Hp)(a:Addr)(y:V)(r:Option V):Prop:=
 (∃kvs k,Rd H a (.dK kvs)/\y=kV k/\r=jox kvs k)∨∃kvs k b,Rd H a (.dT kvs)/\y=.ref b/\H b=some (.tup (k.map kV))/\r=jox kvs k
def jvA (H:Hp)(a:Addr)(y v:V)(H':Hp):Prop:=
 (∃kvs k,H a=some (.dK kvs)/\y=kV k/\kvs.length<sizeLine/\H'=upd H a (.dK (jok kvs k v))) ∨
 ∃kvs k b,H a=some (.dT kvs)/\y=.ref b/\H b=some (.tup (k.map kV))/\kvs.length<sizeLine/\H'=upd H a (.dT (jok kvs k v))
theorem jpr.t (e:H a=some (.dT kvs))(eb:H b=some (.tup (k.map kV))):jpr H a (.ref b) (jox kvs k):=.inr ⟨kvs,k,b,.inl e,rfl,eb,rfl⟩
theorem jvA.k {H:Hp}{a:Addr}{kvs:List (Key×V)}{k:Key}{v:V}(e:H a=some (.dK kvs))(hl:kvs.length<sizeLine):jvA H a (kV k) v (upd H a (.dK (jok kvs k v))):=.inl ⟨kvs,k,e,rfl,hl,rfl⟩
theorem jvA.t {H:Hp}{a b:Addr}{kvs:List (List Key×V)}{k:List Key}{v:V}(e:H a=some (.dT kvs))(eb:H b=some (.tup (k.map kV)))(hl:kvs.length<sizeLine) :
  jvA H a (.ref b) v (upd H a (.dT (jok kvs k v))):=.inr ⟨kvs,k,b,e,rfl,eb,hl,rfl⟩
section
variable {X:Cx} {pins:List (Addr×Obj)} {σ:St} {H:Hp} {s:Shared} {a:Addr} {y v:V} {u r:Value} {o:Option V} {A:Around} {E:Value->Shared->Prop}
theorem Inv.big (I:Inv X pins σ H s):sysModules<s.heap.objs.size:=by
 have h:mainGlobals<s.heap.objs.size:=(I.mod.glob.keeps I.bk).lt;exact Nat.lt_trans (by decide) h
theorem jmp (hu:A.units+1<cLine)(I:Inv X pins σ H s)(g:jpr H a y (some v))(ry:jaB y u)(h:∀w' s',Inv X pins σ H s'->jaB v w'->Q w' s') :
  wpAny (model X.prog X.w) A (getItem (.ref a) u) Q E s:=by
 rcases g with⟨kvs,k,e,ey,l⟩|⟨kvs,k,b,e,ey,eb,l⟩
 ·subst ey;obtain⟨z,hd,vs,rel,dd⟩:=jmW I.hok e;obtain⟨w',hw,rw'⟩:=jlB.some_of (v:=v) (o:=valueAt vs k) (by rw[l];exact rel.val k);exact wpAny_getItem_of (jpL ry) dd.mapOf hw (h w' _ (I.tok _) rw')
 ·subst ey;cases(show u=Value.ref b from ry);obtain⟨z,hd,xs,rel,dd⟩:=jnL I.hok e;obtain⟨w',hw,rw'⟩:=jlB.some_of (v:=v) (o:=(atKey xs k).map (·.2)) (by rw[l];exact rel.val k);obtain⟨p,hp,hp2⟩:=Option.map_eq_some_iff.mp hw;refine wpAny_getItem_heap (tupleKind_room_in1 hu) (jjM I.hok eb) dd hp ?_;rw[hp2];exact h w' _ (I.tok _) rw'
theorem jFb (hu:A.units+1<cLine)(I:Inv X pins σ H s)(g:jpr H a y o)(ry:jaB y u)(h:∀s',Inv X pins σ H s'->Q (.bool o.isSome) s') :
  wpAny (model X.prog X.w) A (compareOp .In u (.ref a)) Q E s:=by
 rcases g with⟨kvs,k,e,ey,l⟩|⟨kvs,k,b,e,ey,eb,l⟩
 ·subst ey;obtain⟨z,hd,vs,rel,dd⟩:=jmW I.hok e;refine wpAny_in_of (jpL ry) hd dd.mapOf ?_;rw[<- (rel.val k).isSome_eq,<- l];exact h _ (I.tok _)
 ·subst ey;cases(show u=Value.ref b from ry);obtain⟨z,hd,xs,rel,dd⟩:=jnL I.hok e;refine wpAny_in_heap (tupleKind_room_in1 hu) (jjM I.hok eb) hd dd ?_;have q:=(rel.val k).isSome_eq;rw[Option.isSome_map]at q;rw[<- q,<- l];exact h _ (I.tok _)
theorem jxI (hu:A.units+1<cLine)(I:Inv X pins σ H s)(g:jpr H a y o)(ry:jaB y u)(h:∀s',Inv X pins σ H s'->Q (.bool (!o.isSome)) s') :
  wpAny (model X.prog X.w) A (compareOp .NotIn u (.ref a)) Q E s:=by
 rcases g with⟨kvs,k,e,ey,l⟩|⟨kvs,k,b,e,ey,eb,l⟩
 ·subst ey;obtain⟨z,hd,vs,rel,dd⟩:=jmW I.hok e;refine wpAny_notIn_of (jpL ry) hd dd.mapOf ?_;rw[<- (rel.val k).isSome_eq,<- l];exact h _ (I.tok _)
 ·subst ey;cases(show u=Value.ref b from ry);obtain⟨z,hd,xs,rel,dd⟩:=jnL I.hok e;refine wpAny_notIn_heap (tupleKind_room_in1 hu) (jjM I.hok eb) hd dd ?_;have q:=(rel.val k).isSome_eq;rw[Option.isSome_map]at q;rw[<- q,<- l];exact h _ (I.tok _)
theorem jrJ (I:Inv X pins σ H s)(mu:Mut (H a))(hs:Heap.SameBut a s.heap h')(he:∃q,h'.get? a=some q)(new:jaS X.prog X.w (upd H a ob) h' a ob) :
  Inv X pins σ (upd H a ob) {s with heap:=h',toks:=t'}:=
 I.write (x:=a) (e:=a) mu (.inl rfl) (fun b q hb z=>(hs.2 b hb).trans z) he new
theorem jvD (z:kvs.length<=sizeLine)(hd:(a==sysModules)=false)(rel:KV kvs vs)(dd:h'.DictOf (jal P w) a vs) :
  jaS P w H' h' a (.dK kvs):=⟨z,hd,vs,rel,dd⟩
theorem jqE (hu:A.units+1<cLine)(I:Inv X pins σ H s)(g:jvA H a y v H')(ry:jaB y u)(rv:jaB v r)(h:∀s',Inv X pins σ H' s'->Q () s') :
  wpAny (model X.prog X.w) A (setItem (.ref a) u r) Q E s:=by
 rcases g with⟨kvs,k,e,ey,l,eH⟩|⟨kvs,k,b,e,ey,eb,l,eH⟩
 ·subst ey eH;obtain⟨z,hd,vs,rel,dd⟩:=jDF I.hok e;have hz:vs.length<=sizeLine:=by rw[<- rel.length];exact z
  have hl:(jok kvs k v).length<=sizeLine:=by have:=jh7 kvs k v;omega
  refine wpAny_setItem_pairs (hsz:=hz) (jpL ry) dd fun h' dd' hs=>h _ ?_;have he:∃q,h'.get? a=some q:=let⟨q,_,_,hq,_⟩:=dd';⟨q,hq⟩;exact jrJ I (by rw[e];exact True.intro) hs he (jvD hl hd (rel.put k rv) dd')
 ·subst ey eH;cases(show u=Value.ref b from ry);obtain⟨z,hd,xs,rel,dd⟩:=jAL I.hok e;have hz:xs.length<=sizeLine:=by rw[<- Paired.length rel];exact z
  have hl:(jok kvs k v).length<=sizeLine:=by have:=jh7 kvs k v;omega
  refine wpAny_setItem_heap (hsz:=hz) (tupleKind_room_in1 hu) (jjM I.hok eb) dd fun h' dd' hs=>h _ ?_;obtain⟨q,es,ep,hq,h2,h3,h4,_,h5⟩:=dd';refine jrJ I (by rw[e];exact True.intro) hs ⟨q,hq⟩ ⟨hl,hd,_,(rel.put k eb rv).keeps fun c ys ec=>?_,q,es,ep,hq,h2,h3,h4,h5⟩;rw[jae (jEw ec e (fun z=>nomatch z))];exact ec
end
section
variable {X:Cx} {pins:List (Addr×Obj)} {σ:St} {H:Hp} {s:Shared} {a:Addr} {kvs:List (Key×V)} {k:Key} {u:Value} {A:Around} {E:Value->Shared->Prop}
end
def jED (i:Expr):Prop:=∀ov iv,subscripted i false ov iv=operate [ov,iv] (getItem ov iv)
theorem jyJ {prog:Program}{w:World}{A:Around}{E:Value->Shared->Prop}{s:Shared}{env:Env}{value slice:Expr}{pos:Pos}{T id:String}{Q:Value->Shared->Prop}
  (hl:typeLookup (.type T) "__getitem__" =pure (some (.builtin id))) (hs:jED slice)
  (h:wpAny (model prog w) A (eval value env) (fun o s₁=>wpAny (model prog w) A (eval slice env) (fun i s₂=>s₂.TypeIs o T/\wpAny (model prog w) A (getItem o i) Q E s₂) E s₁) E s) :
  wpAny (model prog w) A (eval (.Subscript value slice pos) env) Q E s:=by
 refine Subscript_ (wpAny_mono h (fun o s₁ h₁=>wpAny_mono h₁ (fun i s₂ h₂=>?_) fun _ _ x=>x) fun _ _ x=>x);obtain⟨hT,h₂⟩:=h₂;unfold subscriptTail;refine wpAny_bind ?_;rw[getitemInPython_of_ne hT.not_modules];refine wpAny_bind (wpAny_specialOf hT hl ?_);have fin:wpAny (model prog w) A (subscripted slice false o i) (fun r s₃=>wpAny (model prog w) A (letTemporaryGo value o r >>=fun _=>pure r) Q E s₃) E s₂:=by
  rw[hs o i];exact wpAny_operating (wpAny_mono h₂ (fun r s₃ h₃=>wpAny_bind (wpAny_letTemporaryGo (wpAny_pure h₃))) fun _ _ x=>x)
 first
  |exact wpAny_pure (wpAny_bind fin)
  |exact wpAny_bind (wpAny_pure (wpAny_bind fin))
  |exact wpAny_bind fin
theorem jiW (I:Inv X pins σ H s)(g:jpr H a y o):s.TypeIs (.ref a) "dict":=by
 rcases g with⟨kvs,k,e,_,_⟩|⟨kvs,k,b,e,_,_,_⟩
 ·obtain⟨_,_,vs,_,dd⟩:=jmW I.hok e;exact dd.typeIs
 ·obtain⟨_,_,xs,_,dd⟩:=jnL I.hok e;exact dd.typeIs
def jDw (td ty:TE):TE:=fun σ H Q=>td σ H fun x H1=>ty σ H1 fun y H2=>∃a v,x=.ref a/\jpr H2 a y (some v)/\Q v H2
def jDL (td ty tv:TE):TS:=fun D σ H=>tv σ H fun v H1=>td σ H1 fun x H2=>ty σ H2 fun y H3=>∃a H4,x=.ref a/\jvA H3 a y v H4/\D.nx σ H4
section
variable {X:Cx} {o i e value:Expr} {pos pos' tpos:Pos} {td ty tv:TE}
theorem jxE (hu:X.A.units+1<cLine)(ho:PE X o td)(hi:PE X i ty)(hs:jED i):PE X (.Subscript o i pos) (jDw td ty):=by
 intro pins s σ H Q I h;refine jyJ PySem.F.slot_dict_getitem.lookup hs (thn (ho pins s σ H _ I h) fun u s1 ⟨x,H1,I1,rx,q1⟩=>thn (hi pins s1 σ H1 _ I1 q1) fun iv s2 ⟨y,H2,I2,ry,a,v,ex,g,q2⟩=>?_);subst ex;obtain rfl:u=Value.ref a:=rx;exact⟨jiW I2 g,jmp hu I2 g ry fun w' s3 I3 rw'=>⟨v,H2,I3,rw',q2⟩⟩
theorem jyD (hu:X.A.units+1<cLine)(ho:PE X o td)(hi:PE X i ty)(hv:PE X value tv)(hs:swapsWith value (some (.Subscript o i pos')) pos.line X.env=pure false) :
  PS X (.Assign [.Subscript o i pos'] value pos) (jDL td ty tv):=by
 intro pins s σ H D I h;refine wpAny_Assign_Subscript (thn (hv pins s σ H _ I h) fun r s1 ⟨v,H1,I1,rv,q1⟩=>thn (ho pins s1 σ H1 _ I1 q1) fun u s2 ⟨x,H2,I2,rx,q2⟩=>thn (hi pins s2 σ H2 _ I2 q2) fun iv s3 ⟨y,H3,I3,ry,a,H4,ex,g,q3⟩=>?_) hs;subst ex;obtain rfl:u=Value.ref a:=rx;exact jqE hu I3 g ry rv fun s4 I4=>⟨σ,H4,I4,q3⟩
end
theorem jvi (h:Heap)(hb:sysModules<h.objs.size):jaS P w H (h.push {cls:=.type "dict",data:=.dict #[]}) h.objs.size (.dK []):=
 ⟨j0J _,beq_eq_false_iff_ne.mpr (Ne.symm (j0k hb)),[],.nil,Heap.DictOf.new h⟩
theorem jtn (h:Heap)(hb:sysModules<h.objs.size):jaS P w H (h.push {cls:=.type "dict",data:=.dict #[]}) h.objs.size (.dT []):=
 ⟨j0J _,beq_eq_false_iff_ne.mpr (Ne.symm (j0k hb)),[],.nil,_,#[],0,j0f _ rfl,⟨rfl,rfl,rfl⟩,rfl,rfl,List.nodup_nil⟩
def jBY:TE:=fun _ H Q=>∀p,H p=none->Q (.ref p) (upd H p (.dK []))
def jA8:TE:=fun _ H Q=>∀p,H p=none->Q (.ref p) (upd H p (.dT []))
section
variable {X:Cx} {pos:Pos}
theorem juK:PE X (.Dict [] [] pos) jBY:=fun pins s σ H Q I h=>
 wpAny_Dict_empty ⟨.ref s.heap.objs.size,_,I.laid (a:=s.heap.objs.size) (o:=.dK []) (t':=s.toks) (fun _ _ q=>j0b _ q) (j0l _) (jvi s.heap I.big),rfl,h _ (I.hok.fresh (j0l _))⟩
theorem jte:PE X (.Dict [] [] pos) jA8:=fun pins s σ H Q I h=>
 wpAny_Dict_empty ⟨.ref s.heap.objs.size,_,I.laid (a:=s.heap.objs.size) (o:=.dT []) (t':=s.toks) (fun _ _ q=>j0b _ q) (j0l _) (jtn s.heap I.big),rfl,h _ (I.hok.fresh (j0l _))⟩
end
structure M1 (X:Cx) (o:Expr) (m:Str) (apos:Pos) (e:Expr) (cpos:Pos):Prop where
 base:attributeBase o m X.env (eval o X.env)=eval o X.env
 few:((backTo cpos (starEach [e] X.env)).all (fun x=>!x.1)&&(backToKw cpos (keywordEach [] X.env)).all (fun x=>x.1.isSome)
  && decide (([e]:List Expr).length+([]:List Keyword).length+(if([]:List Keyword).isEmpty then 0 else 1)<30))=true
 line:(apos.endLine==cpos.line)=true
 trees:backTo cpos (starEach [e] X.env)=[(false,eval e X.env)]
structure M2 (X:Cx) (o:Expr) (m:Str) (apos:Pos) (e f:Expr) (cpos:Pos):Prop where
 base:attributeBase o m X.env (eval o X.env)=eval o X.env
 few:((backTo cpos (starEach [e,f] X.env)).all (fun x=>!x.1)&&(backToKw cpos (keywordEach [] X.env)).all (fun x=>x.1.isSome)
  && decide (([e,f]:List Expr).length+([]:List Keyword).length+(if([]:List Keyword).isEmpty then 0 else 1)<30))=true
 line:(apos.endLine==cpos.line)=true
 trees:backTo cpos (starEach [e,f] X.env)=[(false,eval e X.env),(false,eval f X.env)]
def IsD (H:Hp)(a:Addr):Prop:=(∃kvs,Rd H a (.dK kvs))∨∃kvs,Rd H a (.dT kvs)
theorem jCm (I:Inv X pins σ H s)(d:IsD H a) :
  s.TypeIs (.ref a) "dict"/\(∀b,Value.ref a=.ref b->∃ob,s.heap.get? b=some ob/\ob.dict=none)/\(a==sysModules)=false:=by
 rcases d with⟨kvs,e⟩|⟨kvs,e⟩
 ·obtain⟨_,hd,vs,_,dd⟩:=jmW I.hok e;refine⟨dd.typeIs,fun b q=>?_,hd⟩;cases q;obtain⟨ob,_,_,h1,h2,_⟩:=dd;exact⟨ob,h1,h2.2.1⟩
 ·obtain⟨_,hd,xs,_,dd⟩:=jnL I.hok e;refine⟨dd.typeIs,fun b q=>?_,hd⟩;cases q;obtain⟨ob,_,_,h1,h2,_⟩:=dd;exact⟨ob,h1,h2.2.1⟩
section
variable {X:Cx} {pins:List (Addr×Obj)} {σ:St} {H:Hp} {s:Shared} {a:Addr} {y d:V} {u r:Value} {o:Option V} {A:Around} {E:Value->Shared->Prop}
theorem jAQ (hu:A.units+1<cLine)(I:Inv X pins σ H s)(g:jpr H a y o)(ry:jaB y u)(rd:jaB d r)(h:∀w' s',Inv X pins σ H s'->jaB (o.getD d) w'->Q w' s') :
  wpAny (model X.prog X.w) A (call (.builtin "dict.get") [.ref a,u,r]) Q E s:=by
 rcases g with⟨kvs,k,e,ey,l⟩|⟨kvs,k,b,e,ey,eb,l⟩
 ·subst ey;obtain⟨z,hd,vs,rel,dd⟩:=jmW I.hok e;refine call_meetsIn j1l dd.typeIs PySem.F.entry_dict_get (PySem.F.args_dict_get_3 _ _ _) (meets_dict_get_default (jal X.prog X.w) a (jpL ry) hd r) ⟨_,dd.mapOf,h _ _ (I.tok _) ?_⟩;rw[l];exact(rel.val k).getD rd
 ·subst ey;cases(show u=Value.ref b from ry);obtain⟨z,hd,xs,rel,dd⟩:=jnL I.hok e;refine call_meetsIn j1l dd.typeIs PySem.F.entry_dict_get (PySem.F.args_dict_get_3 _ _ _) (meetsH_dict_get_default (tupleKind (jal X.prog X.w)) a b hd r) ⟨tupleKind_room_in1 hu,k,xs,jjM I.hok eb,dd,h _ _ (I.tok _) ?_⟩;rw[l];exact(rel.val k).getD rd
end
def jz0 (td ty tx:TE):TE:=fun σ H Q=>td σ H fun x H1=>∃a,x=.ref a/\IsD H1 a/\ty σ H1 fun y H2=>tx σ H2 fun z H3=>∃o,jpr H3 a y o/\Q (o.getD z) H3
section
variable {X:Cx} {o e f:Expr} {apos cpos:Pos} {td ty tx:TE}
theorem js9 (hu:X.A.units+1<cLine) (ho:PE X o td) (he:PE X e ty) (hf:PE X f tx) (m:M2 X o "get" apos e f cpos):PE X (.Call (.Attribute o "get" apos) [e,f] [] cpos) (jz0 td ty tx):=by
 intro pins s σ H Q I h;refine wpAny_Call_method m.base m.few m.line j1z j1l PySem.F.type_dict_get (thn (ho pins s σ H _ I h) fun u s1 ⟨x,H1,I1,rx,a,ex,d,q1⟩=>?_);subst ex;obtain rfl:u=Value.ref a:=rx;obtain⟨t1,t2,_⟩:=jCm I1 d;refine⟨t1,t2,?_⟩;rw[m.trees];refine j1j rfl (Calls.evalArgs_plain (j1B (thn (he pins s1 σ H1 _ I1 q1) fun iv s2 ⟨y,H2,I2,ry,q2⟩=>
  j1B (thn (hf pins s2 σ H2 _ I2 q2) fun fv s3 ⟨z,H3,I3,rz,ov,g,q3⟩=>Calls.spliced_nil ?_))))
 exact jAQ hu I3 g ry rz fun w' s4 I4 rw'=>⟨_,H3,I4,rw',q3⟩
end
section
variable {X:Cx} {pins:List (Addr×Obj)} {σ:St} {H:Hp} {s:Shared} {a:Addr} {kvs:List (Key×V)} {A:Around} {E:Value->Shared->Prop}
end
section
variable {X:Cx} {pins:List (Addr×Obj)} {σ:St} {H:Hp} {s:Shared} {a:Addr} {y:V} {u:Value} {A:Around} {E:Value->Shared->Prop}
end
noncomputable def jeZ (kvs:List (Str×V))(z:Str):Option V:=(kvs.find? fun p=>decide (p.1=z)).map (·.2)
def jEQ (p:Str×V)(e:DictEntry):Prop:=(∃t,e.key=.str p.1 t)/\jaB p.2 e.val
structure MD (K:PySem.W.Frag) (W:World) (a:Addr) (kvs:List (Str×V)):Prop where
 ex:∃(es:Array DictEntry) (m:Nat),K.lookup a=some ⟨.type "dict",none,.dict es m,#[]⟩/\PySem.W.KeysLit W.params es.toList/\Paired jEQ kvs es.toList
 lo:(a==sysModules)=false
theorem jp (z:Str):∀{kvs:List (Str×V)} {l:List DictEntry},Paired jEQ kvs l->jlB (jeZ kvs z) ((l.find? fun e=>Value.isStrOf z e.key).map (·.val))
 |_,_,.nil=>True.intro
 |p::kvs,e::l,.cons h t=>by
  obtain⟨⟨tk,hk⟩,hv⟩:=h;have e1:Value.isStrOf z e.key=decide (p.1=z):=by rw[hk];rfl
  by_cases c:p.1=z
  ·have a1:jeZ (p::kvs) z=some p.2:=by simp[jeZ,j0O,c]
   have a2:((e::l).find? fun e=>Value.isStrOf z e.key)=some e:=by rw[j0O,e1,decide_eq_true c]
   rw[a1,a2];exact hv
  ·have a1:jeZ (p::kvs) z=jeZ kvs z:=by simp[jeZ,j0O,c]
   have a2:((e::l).find? fun e=>Value.isStrOf z e.key)=l.find? fun e=>Value.isStrOf z e.key:=by rw[j0O,e1,decide_eq_false c]
   rw[a1,a2];exact jp z t
section
variable {X:Cx} {pins:List (Addr×Obj)} {σ:_L2.St} {H:Hp} {s:Shared} {a:Addr} {kvs:List (Str×V)}
theorem MD.map (I:Inv X pins σ H s)(h:MD X.K X.w a kvs):∃f:Str->Option Value,s.heap.MapOf (strKind X.prog X.w) a f/\∀z,jlB (jeZ kvs z) (f z):=by
 obtain⟨⟨es,m,hl,hk,hp⟩,_⟩:=h;refine⟨_,PySem.W.mapOf_K (prog:=X.prog) I.kIn hl hk,fun z=>?_⟩;obtain⟨l⟩:=es;show jlB (jeZ kvs z) ((Array.find? (fun e=>Value.isStrOf z e.key) l.toArray).map (·.val));rw[List.find?_toArray];exact jp z hp
theorem MD.ty (I:Inv X pins σ H s)(h:MD X.K X.w a kvs):s.TypeIs (.ref a) "dict"/\∀b,Value.ref a=.ref b->∃ob,s.heap.get? b=some ob/\ob.dict=none:=by
 obtain⟨⟨es,m,hl,_⟩,_⟩:=h;have g:=I.kIn _ _ hl;refine⟨⟨_,g,rfl⟩,fun b q=>?_⟩;cases q;exact⟨_,g,rfl⟩
end
section
variable {X:Cx}
def jBu (K:PySem.W.Frag)(W:World)(td ty tx:TE):TE:=fun σ H Q=>td σ H fun x H1=>∃a kvs,x=.ref a/\MD K W a kvs/\ty σ H1 fun y H2=>tx σ H2 fun d H3=>∃z,y=.str z/\Q ((jeZ kvs z).getD d) H3
theorem jvh (ho:QE X o td)(he:QE X e ty)(hf:QE X f tx)(hb:jaN o=true:=by rfl)(hst:jaf [e,f]=true:=by rfl)(hline:(apos.endLine==cpos.line)=true:=by rfl) :
  QE X (.Call (.Attribute o "get" apos) [e,f] [] cpos) (jBu X.K X.w td ty tx):=by
 have h1:=hst;unfold jaf at h1;simp only[j0S,j0a]at h1;have htr:backTo cpos (starEach [e,f] X.env)=[(false,eval e X.env),(false,eval f X.env)]:=by
  rw[jam h1.1,jam h1.2.1];rfl
 refine⟨fun pins s σ H Q I h=>?_⟩;refine wpAny_Call_method (jnP hb) (jqX hst (by show 1<28;decide)) hline j1z j1l PySem.F.type_dict_get (thn (ho.h pins s σ H _ I h) fun u s1 ⟨x,H1,I1,rx,a,kvs,ex,hm,q1⟩=>?_);subst ex;cases rx;refine⟨(hm.ty I1).1,(hm.ty I1).2,?_⟩;rw[htr];refine j1j rfl (Calls.evalArgs_plain (j1B (thn (he.h pins s1 σ H1 _ I1 q1) fun iv s2 ⟨y,H2,I2,ry,q2⟩=>
  j1B (thn (hf.h pins s2 σ H2 _ I2 q2) fun fv s3 ⟨d,H3,I3,rd,z,ey,q3⟩=>Calls.spliced_nil ?_))))
 subst ey;obtain⟨t,rfl⟩:=ry;obtain⟨g,hg,hr⟩:=hm.map I3;exact call_meetsIn j1l (hm.ty I3).1 PySem.F.entry_dict_get (PySem.F.args_dict_get_3 _ _ _) (meets_dict_get_default (strKind X.prog X.w) a (strKind_is X.prog X.w z t) hm.lo fv) ⟨_,hg,_,H3,I3.tok _,(hr z).getD rd,q3⟩
def jxu:R2:=fun x y H Q=>∃a v,x=.ref a/\jpr H a y (some v)/\Q v H
theorem jDp (hu:X.A.units+1<cLine):IxR X jxu:=by
 intro value slice pins s σ H x y v u Q I rx ry h hs;obtain⟨a,r,rfl,g,q⟩:=h;cases rx;exact tail_any (jiW I g) slot_dict_getitem.lookup (jmp hu I g ry fun w' s' I' rw'=>⟨r,H,I',rw',q⟩) hs
def jxj (neg:Bool):R2:=fun x y H Q=>∃a o,y=.ref a/\jpr H a x o/\Q (.bl (if neg then !o.isSome else o.isSome)) H
theorem jyO (hu:X.A.units+1<cLine):OpR X (compareOp .In) (jxj false):=by
 intro pins s σ H x y v u Q I rx ry h;obtain⟨a,o,rfl,g,q⟩:=h;cases ry;exact jFb hu I g rx fun s' I'=>⟨.bl o.isSome,H,I',rfl,q⟩
theorem jp6 (hu:X.A.units+1<cLine):OpR X (compareOp .NotIn) (jxj true):=by
 intro pins s σ H x y v u Q I rx ry h;obtain⟨a,o,rfl,g,q⟩:=h;cases ry;exact jxI hu I g rx fun s' I'=>⟨.bl (!o.isSome),H,I',rfl,q⟩
end
noncomputable abbrev jbW (led:Bool):Obj:={cls:=.type "set",dict:=none,data:=.set #[] 0 (.fresh 0 0 led)}
def jo8 (a:Addr)(n:Nat)(h:Heap):Prop:=∃o es ep t,h.get? a=some o/\o.ExactSet/\o.data=.set es ep t/\t.fits es.size=true/\es.size=n
noncomputable def jz9 (a:Addr)(n:Nat):HO:=.ext (jo8 a n)
theorem jpj (x:iAt b h it l i):∃y z,h.get? it=some z/\z.data=.fields y:=by
 cases b<;>(obtain⟨o,g,_,d⟩:=x;exact⟨_,o,g,d⟩)
structure FillK (P:Program) (W:World) (b:Bool) (l:Addr) (its:List Value) (n:Nat) where
 pre:Heap->Prop
 St:Addr->Nat->Heap->Prop
 push:∀h o,pre h->pre (h.push o)
 zero:∀D h led,h.get? D=some (jbW led)->pre h->St D 0 h
 stay:∀D it j h h',D≠it->iAt b h it l j->St D j h->(∀c o,c≠it->h.get? c=some o->h'.get? c=some o)->St D j h'
 add:∀(A:Around) (E:Value->Shared->Prop) D j v (t:Shared) (Q:Bool->Shared->Prop),A.units<cLine->its[j]?=some v->St D j t.heap->(∀g tk r,Heap.SameBut D t.heap g->St D (j+1) g->Q r {t with heap:=g,toks:=tk})->wpAny (model P W) A (setAdd D v) Q E t
 last:∀D h,St D its.length h->jo8 D n h
section
variable {P:Program} {W:World} {B:Around} {E:Value->Shared->Prop} {s:Shared} {l:Addr} {its:List Value} {b:Bool} {n:Nat}
theorem jst (hh:B.handled=none)(it l:Addr)(hne:l≠it)(items:Array Value):Walks P W B it [it,l] [it] items.size (fun i v=>items[i]?=some v) (fun i h=>iAt b h it l i/\sAt b h l items):=by
 cases b
 ·exact Walks.list hh it l hne items
 ·exact Walks.tuple hh it l hne items
theorem jsp (K:FillK P W b l its n){D it:Addr}(hh:B.handled=none)(hu:B.units+1<cLine)(hD:D≠it)(hDl:D≠l)(hl:l≠it)(left:Nat) :
  ∀(j:Nat) (t:Shared),its.length - j=left->j<=its.length->iAt b t.heap it l j->sAt b t.heap l its.toArray->K.St D j t.heap ->
   (∀g tk,(∀c o,c≠D->c≠it->t.heap.get? c=some o->g.get? c=some o)->K.St D its.length g->R (.ok (.ret .none)) {t with heap:=g,toks:=tk}) ->
   codeAny (model P W) B (.builtin "set.update.loop" ⟨[.ref D,.ref it],[]⟩) R t:=by
 have Wk:=jst (P:=P) (W:=W) (B:=B.in1) (b:=b) (by simp[hh]) it l hl its.toArray;have nw:∀{c:Addr},c≠it->c∉[it]:=fun h=>by simpa using h
 induction left with
 |zero=>
  intro j t he hj hi hs lies fin;obtain rfl:j=its.length:=by omega
  refine codeAny_builtin PyProof.Rows.F.entry_set_update_loop ?_;rw[j04 j1g _];refine(wpAny_bind (Wk.done t _ _ ⟨by simpa using hi,hs⟩ fun g tk kp=>?_):wpAny _ B.in1 (pyNext (.ref it) >>=_) _ _ t);show wpAny (model P W) B.in1 (ret Value.none) _ _ _;exact wpAny_pure (fin g tk (fun c o _ h e=>kp c o (nw h) e) (K.stay D it _ _ _ hD hi lies fun c o h e=>kp c o (nw h) e))
 |succ left ih=>
  intro j t he hj hi hs lies fin;refine codeAny_builtin PyProof.Rows.F.entry_set_update_loop ?_;rw[j04 j1g _];refine(wpAny_bind (Wk.item j t _ _ (by simp;omega) ⟨hi,hs⟩ fun v g1 tk1 hv here1 kp1=>?_):wpAny _ B.in1 (pyNext (.ref it) >>=_) _ _ t);refine(wpAny_bind (wpAny_holding ?_):wpAny _ B.in1 (holding [v] (setAdd D v) >>=_) _ _ _);refine K.add _ _ D j v _ _ (by simp;omega) (by simpa using hv) (K.stay D it _ _ _ hD hi lies fun c o h e=>kp1 c o (nw h) e) fun g2 tk2 r only lies2=>?_;have h2:=Wk.frame _ _ g2 here1 fun c hc o e=>(only.2 c fun q=>by
   simp only[j0q,j1A,or_false]at hc;rcases hc with rfl|rfl
   ·exact hD q.symm
   ·exact hDl q.symm).trans e
  exact wpAny_pure ⟨plainId_quiet j1g _,ih (j+1) _ (by omega) (by omega) h2.1 h2.2 lies2 fun g tk kp lies4=>fin g tk (fun c o nd nw' e=>kp c o nd nw' ((only.2 c nd).trans (kp1 c o (nw nw') e))) lies4⟩
theorem jpY (K:FillK P W b l its n)(hh:B.handled=none)(hu:B.units+4<cLine)(hS:s.heap.get? D=some (jbW led))(hl:sAt b s.heap l its.toArray)(hD:D≠l)(hp:K.pre s.heap)
  (k:∀g tk,jo8 D n g->(∀c o,c≠D->s.heap.get? c=some o->g.get? c=some o)->Q (.done (.ret .none)) {s with heap:=g,toks:=tk}) :
  wpAny (model P W) B (Builtin.«set.__init__» ⟨[.ref D,.ref l],[]⟩) Q E s:=by
 obtain⟨hp0,g0,dr,tk,os⟩:=s;have hlt:l<hp0.objs.size:=let⟨_,e⟩:=hl.obj;j0i e;have hDt:D<hp0.objs.size:=j0i hS;have hT:(⟨hp0,g0,dr,tk,os⟩:Shared).TypeIs (.ref D) "set":=⟨_,hS,rfl⟩;have fin:wpAny (model P W) B (runValue (.builtin "set.update.loop" ⟨[.ref D,.ref hp0.objs.size],[]⟩)) (fun _ s'=>Q (.done (.ret .none)) s') E ⟨hp0.push (jgT b l),g0,dr,tk,os⟩:=
  wpAny_runValue (jsp K hh (by omega) (j0k hDt) hD (j0k hlt) its.length 0 ⟨hp0.push (jgT b l),g0,dr,tk,os⟩ rfl (j0J _) (jhu (j0f _ rfl)) (sAt.keep hl fun o e=>j0b _ e) (K.zero _ _ led (j0b _ hS) (K.push _ _ hp))
   fun g tk' kp q=>k g tk' (K.last _ _ q) fun c o hc e=>kp c o hc (j0k (j0i e)) (j0b _ e))
 have hl0:=hl;cases b
 all_goals
  obtain⟨⟨c,dd,dt,sl⟩,hol,hc,n,hd⟩:=hl;cases hc;cases hd;have f1:=F.sub_list_set;have f2:=F.sub_list_frozenset;have f3:(Value.type "list" ==Value.type "dict")=false:=by decide
  have f4:=F.sub_tuple_set;have f5:=F.sub_tuple_frozenset;have f6:(Value.type "tuple" ==Value.type "dict")=false:=by decide
  unfold Builtin.«set.__init__» noKeywords Builtin.Frozenset.updateFrom;generalize hPI:pyIter=PI;wp_walk;subst hPI;exact joW hl0 (wpAny_bind (wpAny_mono fin (fun _ s' q=>wpAny_pure (wpAny_pure q)) fun _ _ e=>e))
theorem jpI (K:FillK P W b l its n)(hh:B.handled=none)(hu:B.units+12<cLine)(hl:sAt b s.heap l its.toArray)(hp:K.pre s.heap)
  (k:∀(g:Heap) (tk:Nat),jo8 s.heap.objs.size n g->(∀c o,s.heap.get? c=some o->g.get? c=some o)->Q (.ref s.heap.objs.size) {s with heap:=g,toks:=tk}) :
  wpAny (model P W) B (call (.type "set") [.ref l]) Q E s:=by
 have hlt:l<s.heap.objs.size:=let⟨_,e⟩:=hl.obj;j0i e;obtain⟨c,tl,g1⟩:=F.called_set.mro;have g2:=F.called_set.made;have g3:=F.called_set.sub;have g4:=F.called_set.notType;have g5:=F.called_set.canCreate;have g6:=F.typeCall_set_1 (.ref l);have body:∀(led:Bool) (C:Around),C.handled=none->C.units+8<cLine->codeAny (model P W) C (.call (.builtin "set.__init__") ⟨[.ref s.heap.objs.size,.ref l],[]⟩) (wants (fun r s2=>r=.none/\Q (.ref s.heap.objs.size) s2) E) {s with heap:=s.heap.push (jbW led)}  :=fun led C hC hCu=>by
  have hS:(s.heap.push (jbW led)).get? s.heap.objs.size=some (jbW led):=j0f _ rfl;refine codeAny_call_builtin F.called_set.init.plain F.entry_set_init (check_set_init_1 (s:={s with heap:=s.heap.push (jbW led)}) ⟨_,hS,rfl⟩ ?_);exact jpY (s:={s with heap:=s.heap.push (jbW led)}) K (by simp[hC]) (by simp;omega) hS (sAt.keep hl fun o e=>j0b _ e) (Nat.ne_of_gt hlt) (K.push _ _ hp) fun g tk hS' kp=>⟨rfl,k g tk hS' fun c o e=>kp c o (j0k (j0i e)) (j0b _ e)⟩
 refine wpAny_call (codeAny_of_tree ?_);show wpAny _ _ (callAny (.type "set") ⟨[.ref l],[]⟩) _ _ _;refine wpAny_pure ⟨Code.quiet_builtin _ (by decide +kernel),codeAny_builtin F.entry_type_call ?_⟩;rw[Around.under_plain (weight_type_call_type "set" [.ref l] []) rfl];wp_walk;refine codeAny_mono (code_set_new_1 (.ref l) (E:=E) (Q₁:=fun x s1=>∃led,x=.ref s.heap.objs.size/\s1={s with heap:=s.heap.push (jbW led)}) fun led=>⟨led,rfl,rfl⟩) fun r s1 hr=>?_
 match r,hr with
 |.error e,hr=>exact hr
 |.ok (.ret x),hr=>
  obtain⟨led,rfl,rfl⟩:=hr;have hS:(s.heap.push (jbW led)).get? s.heap.objs.size=some (jbW led):=j0f _ rfl;have hT:Shared.TypeIs {s with heap:=s.heap.push (jbW led)} (.ref s.heap.objs.size) "set":=⟨_,hS,rfl⟩;have i1:=F.called_set.init.lookup;have i2:=F.called_set.init.bind (.ref s.heap.objs.size);wp_walk;refine codeAny_mono (body led _ (by simp[hh]) (by simp;omega)) fun r2 s2 hr2=>?_
  match r2,hr2 with
  |.error e,hr2=>exact hr2
  |.ok (.ret y),hr2=>
   obtain⟨rfl,q⟩:=hr2;wp_walk;exact q
noncomputable def jEr (its:List Value)(zs:List Str)(hi:jaI (zs.map V.str) its)(hb:zs.length+1<scanBound):FillK P W b l its (ddS zs).length where
 pre:=fun _=>True
 St:=fun D j h=>h.SetOf (strKind P W) D (fun y=>decide (y∈ddS (zs.take j))) (ddS (zs.take j)).length
 push:=fun _ _ h=>h
 zero:=fun D h led hS _=>by
  have q:=(PyProof.Rows.setObjOf_fresh (knd:=strKind P W) led).setOf hS (by unfold scanBound;omega);have ef:(fun y=>decide (y∈ddS (zs.take 0)))=fun _=>false:=by
   funext y
   simp[ddS]
  rw[ef];exact q
 stay:=fun D it j h h' hD _ q k=>jny q fun o e=>k D o hD e
 add:=fun A E D j v t Q _ hv lies k=>by
  have hlen:=hi.length;rw[j0d]at hlen;have hj:j<zs.length:=by rw[hlen];exact(j0g.mp hv).1
  obtain⟨u',hu,tz,ru⟩:=hi.get (i:=j) (x:=V.str zs[j]) (by simp[hj]);rw[hv]at hu;cases hu;subst ru;have hz:zs[j]?=some zs[j]:=by simp
  have size:=jvE (zs.take j);rw[j0Q]at size;unfold setAdd;refine wpAny_holding (wpAny_bind ((strKind P W).pyHash (k:=zs[j]) (strKind_is _ _ _ _) ?_));refine wpAny_setAddHashed_of (knd:=strKind P W) (s:={t with toks:=t.toks+1}) (strKind_is _ _ _ _) rfl lies (by omega) fun g2 only lies2=>k g2 _ _ only ?_;rw[jtK zs j _ hz,jog,show(fun y=>decide (y∈jpH (ddS (zs.take j)) zs[j]))=fun y=>decide (y∈ddS (zs.take j))||decide (y=zs[j])from funext fun y=>jvj _ _ _];exact lies2
 last:=fun D h q=>by
  have hlen:=hi.length;rw[j0d]at hlen;rw[<- hlen,List.take_length]at q;obtain⟨o,es,ep,t,h1,h2,h3,_,_,_,h7,h8⟩:=q;exact⟨o,es,ep,t,h1,h2,h3,h7,h8⟩
end
section
variable {X:Cx}
def jBL (xs:List V)(n:Nat):Prop:=∃ys:List Str,xs=ys.map V.str/\ys.length<=1000/\n=(ddS ys).length
noncomputable def jAS (K:PySem.W.Frag):List V->Hp->VK->Prop:=fun vs H Q=>∃(p:Addr) (xs:List V) (n:Nat),vs=[.ref p]/\(SqL K H p xs∨SqT K H p xs)/\jBL xs n/\∀l,H l=none->Q (.ref l) (upd H l (jz9 l n))
theorem jsh (hc:X.calm=true)(hu:X.A.units+16<cLine):jbe X (.type "set") (jAS X.K):=by
 intro pins s σ H xs us Q I r h;obtain⟨p,ys,n,rfl,hq,ha,q⟩:=h;obtain⟨u,rfl,rx⟩:=jiZ r;cases rx;have fin:∀(b:Bool) (its:List Value),jaI ys its->sAt b s.heap p its.toArray->wpAny (model X.prog X.w) X.A (call (.type "set") [.ref p]) (EP X pins σ Q) X.xe s:=fun b its rv pl=>by
  have go:∀K:FillK X.prog X.w b p its n,K.pre s.heap->wpAny (model X.prog X.w) X.A (call (.type "set") [.ref p]) (EP X pins σ Q) X.xe s:=fun K hp=>by
   refine jpI K (I.ok.hd hc) (by omega) pl hp fun h' tk hS kp=>?_;refine⟨.ref s.heap.objs.size,_,I.laid (t':=tk) (o:=jz9 s.heap.objs.size n) kp (j0l _) ⟨hS,?_,?_⟩,rfl,q _ I.fresh⟩
   ·obtain⟨o,_,_,_,ho,_⟩:=hS;exact⟨o,ho⟩
   ·rintro g1 g2 ⟨o,es,ep,t,ho,rest⟩ k;exact⟨o,es,ep,t,k o ho,rest⟩
  obtain⟨zs,rfl,hz,rfl⟩:=ha;exact go (jEr its zs rv (by unfold scanBound;omega)) trivial
 rcases hq with hq|hq
 ·obtain⟨its,rv,pl,_⟩:=I.list hq;exact fin false its rv pl.isList
 ·obtain⟨its,rv,pl,_⟩:=I.tuple hq;exact fin true its rv pl
theorem jls:jbe X (.builtin "len") (fun xs H Q=>∃(p:Addr) (n:Nat),xs=[.ref p]/\H p=some (jz9 p n)/\n<=1000/\Q (.int n) H):=by
 intro pins s σ H xs us Q I r h;obtain⟨p,n,rfl,hp,hn,q⟩:=h;obtain⟨u,rfl,rx⟩:=jiZ r;cases rx;obtain⟨⟨o,es,ep,t,ho,hex,hd,hf,hz⟩,_,_⟩:=I.hok p _ hp;exact call_len_set ho hex hd hf (by omega) ⟨.int n,H,I.tok _,⟨_,by rw[hz]⟩,q⟩
noncomputable def jsX (K:PySem.W.Frag):List V->Hp->VK->Prop:=fun vs H Q=>jAS K vs H fun x H2=>∃(p:Addr) (n:Nat),[x]=[.ref p]/\H2 p=some (jz9 p n)/\n<=1000/\Q (.int n) H2
theorem jqM (hc:X.calm=true) (hu:X.A.units+16<cLine) (hg1:jbl X.env.scope "len" =true) (hm1:X.mg "len" =none) (hg2:jbl X.env.scope "set" =true) (hm2:X.mg "set" =none) (ha:PA X [a] ta) (hs:jaw a=true) :
  PE X (.Call (.Name "len" p1) [.Call (.Name "set" p2) [a] [] p3] [] p4) (fun σ H Q=>ta σ H fun vs H1=>jsX X.K vs H1 Q):=by
 have h1:=(jrU (jsh hc hu) hg2 hm2 jzW ⟨ha⟩ (by unfold jaf;simp[hs]):QE X (.Call (.Name "set" p2) [a] [] p3) _);have h2:=(juz jls hg1 hm1 jv2 (jw0 h1 jBw):QE X (.Call (.Name "len" p1) [.Call (.Name "set" p2) [a] [] p3] [] p4) _);exact h2.h
end
section
variable {prog:Program} {w:World} {A:Around} {E:Value->Shared->Prop} {s:Shared}
theorem jtu (ho:s.heap.get? a=some o)(q:Q (some o) s):wpAny M A (loadIfAlive a) Q E s:=fun Γ p _=>by
 unfold loadIfAlive;rw[Sem.wp_loadIfAlive,ho];exact q
def jzF (h:Heap)(z TI TO:Addr):Prop:=∃(T:Addr) (fl:Bool) (o:Obj),T≠z/\h.get? z=some {cls:=.type "zip",dict:=none,data:=.fields #[rawInt T,.bool fl,.bool false,.ref TI,.ref TO],slots:=#[]}/\h.get? T=some o
def jE0 (h:Heap)(z TI TO:Addr):Prop:=IsZip h z TI TO .none∨jzF h z TI TO
theorem jol {z TI TO:Addr}{Q:Bool->Shared->Prop}(h:jzF s.heap z TI TO)(q:∀h',jzF h' z TI TO->(∀c o,c≠z->s.heap.get? c=some o->h'.get? c=some o)->h'.objs.size=s.heap.objs.size->Q false {s with heap:=h'}) :
  wpAny (model prog w) A (Builtin.SmallTypes.ownedTupleIsFree (.ref z)) Q E s:=by
 obtain⟨T,fl,o,hne,hz,hT⟩:=h;unfold Builtin.SmallTypes.ownedTupleIsFree;refine wpAny_bind (wpAny_field hz rfl (x:=rawInt T) rfl ?_);show wpAny _ _ (loadIfAlive (T:Int).toNat >>=_) _ _ _;rw[j1t];refine wpAny_bind (jtu hT ?_);show wpAny _ _ (field (.ref z) 1 >>=_) _ _ _;refine wpAny_bind (wpAny_field hz rfl (x:=.bool fl) rfl ?_)
 cases fl with
 |true=>exact wpAny_pure (q s.heap ⟨T,true,o,hne,hz,hT⟩ (fun _ _ _ e=>e) rfl)
 |false=>
  refine wpAny_bind ?_;show wpAny _ _ (setField (.ref z) 1 (.bool true)) _ _ _;exact wpAny_setField_rec hz (by simp) fun h' hz' kz=>wpAny_pure (q h' ⟨T,true,o,hne,hz',kz.extBut _ _ hne hT⟩ (fun c o n e=>kz.extBut _ _ n e) kz.1)
theorem jw4 {b1 b2:Bool}{z TI TO i1 i2 l1 l2:Addr}{i:Nat}{xs ys:Array Value}{x y:Value}{Q:Option Value->Shared->Prop}(D:ZipApart z TI TO i1 i2 l1 l2)
  (oz:jzF s.heap z TI TO) (oi:IsPair s.heap TI (.ref i1) (.ref i2)) (a1:iAt b1 s.heap i1 l1 i) (a2:iAt b2 s.heap i2 l2 i) (s1:sAt b1 s.heap l1 xs) (s2:sAt b2 s.heap l2 ys) (ex:xs[i]?=some x) (ey:ys[i]?=some y)
  (q:∀h',jzF h' z TI TO->iAt b1 h' i1 l1 (i+1)->iAt b2 h' i2 l2 (i+1)->IsPair h' s.heap.objs.size x y ->
   (∀c o,c≠z->c≠i1->c≠i2->s.heap.get? c=some o->h'.get? c=some o)->Q (some (.ref s.heap.objs.size)) {s with heap:=h'}) :
  wpAny (model prog w) A (pyNext (.ref z)) Q E s:=by
 obtain⟨T,fl,oT,hne,hz,hT⟩:=id oz;have ty:s.TypeIs (.ref z) "zip":=⟨_,hz,rfl⟩;unfold pyNext;refine wpAny_bind (wpAny_attempt (wpAny_callSpecial?_slot (name:=Str.ofString "__next__") ty j1i (wpAny_call_entry j1i ty F.entry_zip_next ?_ (F.args_zip_next_1 _))));have fin:∀(w1:Value) (t:Shared),Q (some w1) t->wpAny (model prog w) A (pure (some w1)) Q E t:=fun _ _ z=>wpAny_pure z;change wpAny _ _ (field (.ref z) 2 >>=_) _ _ _;refine wpAny_bind (wpAny_field hz rfl (x:=.bool false) rfl ?_);change wpAny _ _ (field (.ref z) 3 >>=_) _ _ _;refine wpAny_bind (wpAny_field hz rfl (x:=.ref TI) rfl (wpAny_bind (wpAny_seqItems oi rfl ?_)));change wpAny _ _ (Builtin.SmallTypes.ownedTupleIsFree (.ref z) >>=_) _ _ _;refine wpAny_bind (jol oz fun hA zA kA nA=>?_);rw[if_neg j0e];have a1A:iAt b1 hA i1 l1 i:=a1.keep fun o e=>kA _ _ D.i1z e;have a2A:iAt b2 hA i2 l2 i:=a2.keep fun o e=>kA _ _ D.i2z e;have s1A:sAt b1 hA l1 xs:=s1.keep fun o e=>kA _ _ D.l1z e;have s2A:sAt b2 hA l2 ys:=s2.keep fun o e=>kA _ _ D.l2z e;simp only[List.forIn_toArray,List.forIn_cons,List.forIn_nil];refine wpAny_bind (wpAny_bind (wpAny_bind (wpAny_holding ?_)));change wpAny _ _ (Builtin.SmallTypes.nextOf (.ref i1) >>=_) _ _ _;refine wpAny_bind (jBx a1A s1A ex fun hB a1B kB=>wpAny_pure (wpAny_pure ?_));have a2B:iAt b2 hB i2 l2 i:=a2A.keep fun o e=>kB.extBut _ _ D.i12.symm e;have s2B:sAt b2 hB l2 ys:=s2A.keep fun o e=>kB.extBut _ _ D.l2i1 e;refine wpAny_bind (wpAny_bind (wpAny_holding ?_));change wpAny _ _ (Builtin.SmallTypes.nextOf (.ref i2) >>=_) _ _ _;refine wpAny_bind (jBx a2B s2B ey fun hC a2C kC=>wpAny_pure (wpAny_pure (wpAny_pure ?_)));refine wpAny_bind (wpAny_newTuple ?_ (by show 2<=sizeLine;decide));have nC:hC.objs.size=s.heap.objs.size:=by rw[kC.1,kB.1,nA]
 have kAC:∀c o,c≠i1->c≠i2->hA.get? c=some o->hC.get? c=some o:=fun c o c1 c2 e=>kC.extBut _ _ c2 (kB.extBut _ _ c1 e);refine wpAny_pure ⟨_,rfl,fin _ _ ?_⟩;change Q (some (.ref hC.objs.size)) {s with heap:=hC.push {cls:=.type "tuple",data:=.seq #[x,y]}};have new:(hC.push {cls:=.type "tuple",data:=.seq #[x,y]}).get? hC.objs.size=some {cls:=.type "tuple",data:=.seq #[x,y]}:=j0f _ rfl;rw[nC]at new ⊢;have up:∀c o,hC.get? c=some o->(hC.push {cls:=.type "tuple",data:=.seq #[x,y]}).get? c=some o:=fun c o e=>j0b _ e;obtain⟨T',fl',o',hne',hz',hT'⟩:=zA;refine q _ ?_ ((a1B.keep fun o e=>kC.extBut _ _ D.i12 e).keep fun o e=>up _ _ e) (a2C.keep fun o e=>up _ _ e) new fun c o c1 c2 c3 e=>up _ _ (kAC _ _ c2 c3 (kA _ _ c1 e));have zC:=up _ _ (kAC _ _ D.i1z.symm D.i2z.symm hz');by_cases e1:T'=i1
 ·obtain⟨o1,ho1,_⟩:=((a1B.keep fun o e=>kC.extBut _ _ D.i12 e).keep fun o e=>up _ _ e).obj;exact⟨T',fl',o1,hne',zC,by rw[e1];exact ho1⟩
 ·by_cases e2:T'=i2
  ·obtain⟨o2,ho2,_⟩:=(a2C.keep fun o e=>up _ _ e).obj;exact⟨T',fl',o2,hne',zC,by rw[e2];exact ho2⟩
  ·exact⟨T',fl',o',hne',zC,up _ _ (kAC _ _ e1 e2 hT')⟩
theorem jAo {b1 b2:Bool}{z TI TO i1 i2 l1 l2:Addr}{i:Nat}{xs ys:Array Value}{Q:Option Value->Shared->Prop}(hh:A.handled=none)(D:ZipApart z TI TO i1 i2 l1 l2)
  (oz:jzF s.heap z TI TO) (oi:IsPair s.heap TI (.ref i1) (.ref i2)) (a1:iAt b1 s.heap i1 l1 i) (a2:iAt b2 s.heap i2 l2 i) (s1:sAt b1 s.heap l1 xs) (s2:sAt b2 s.heap l2 ys) (ex:xs[i]?=none)
  (q:∀h',(∀c o,c≠z->c≠i1->c≠i2->s.heap.get? c=some o->h'.get? c=some o)->Q none {s with heap:=h'}) :
  wpAny (model prog w) A (pyNext (.ref z)) Q E s:=by
 obtain⟨T,fl,oT,hne,hz,hT⟩:=id oz;have ty:s.TypeIs (.ref z) "zip":=⟨_,hz,rfl⟩;have hh1:A.in1.handled=none:=hh;unfold pyNext;refine wpAny_bind (wpAny_attempt (wpAny_callSpecial?_slot (name:=Str.ofString "__next__") ty j1i (wpAny_call_entry j1i ty F.entry_zip_next ?_ (F.args_zip_next_1 _))));change wpAny _ _ (field (.ref z) 2 >>=_) _ _ _;refine wpAny_bind (wpAny_field hz rfl (x:=.bool false) rfl ?_);change wpAny _ _ (field (.ref z) 3 >>=_) _ _ _;refine wpAny_bind (wpAny_field hz rfl (x:=.ref TI) rfl (wpAny_bind (wpAny_seqItems oi rfl ?_)));change wpAny _ _ (Builtin.SmallTypes.ownedTupleIsFree (.ref z) >>=_) _ _ _;refine wpAny_bind (jol oz fun hA zA kA nA=>?_);rw[if_neg j0e];have a1A:iAt b1 hA i1 l1 i:=a1.keep fun o e=>kA _ _ D.i1z e;have s1A:sAt b1 hA l1 xs:=s1.keep fun o e=>kA _ _ D.l1z e;simp only[List.forIn_toArray,List.forIn_cons,List.forIn_nil];refine wpAny_bind (wpAny_bind (wpAny_bind (wpAny_holding ?_)));change wpAny _ _ (Builtin.SmallTypes.nextOf (.ref i1) >>=_) _ _ _;refine wpAny_bind (jkI hh1 a1A s1A ex fun hX e kX he=>?_);obtain⟨o,ho,hc⟩:=he;exact wpAny_bind (wpAny_isInstance (T:="StopIteration") (b:=true) ⟨o,ho,hc⟩ isSubtype_stop (wpAny_pure (q _ fun c o c1 c2 _ e=>kX _ _ c2 (kA _ _ c1 e))))
end
theorem ju5:typeLookup (.type "zip") "keys" =pure none:=am_miss_of_fast (by kernel_rfl)
theorem jtr:typeLookup (.type "zip") "__getattr__" =pure none:=am_miss_of_fast (by kernel_rfl)
theorem jAn:entryFor table "zip.__getattribute__" =some Builtin.«object.__getattribute__»:=entryFor_alias (id':="object.__getattribute__") (by kernel_rfl) (by decide +kernel) (by decide +kernel) (by kernel_rfl)
section
variable {prog:Program} {w:World} {A:Around} {E:Value->Shared->Prop} {s:Shared} {z:Addr} {vs:Array Value}
theorem jt9 (hz:s.heap.get? z=some {cls:=.type "zip",dict:=none,data:=.fields vs,slots:=#[]}) (hh:A.handled=none)
  (q:∀h' tk e,Heap.NewAttrErr s.heap h' e (.ref z) "keys"->E (.ref e) {s with heap:=h',toks:=tk}):wpAny (model prog w) A (Builtin.«object.__getattribute__» ⟨[.ref z,.str "keys" u],[]⟩) Q E s:=by
 obtain⟨hp,g,d,tk,os⟩:=s;have hT:(⟨hp,g,d,tk,os⟩:Shared).TypeIs (.ref z) "zip":=⟨_,hz,rfl⟩;have f1:=ju5;unfold Builtin.«object.__getattribute__»;wp_walk;exact wpAny_raiseAttrError hh q (attrMsg_fits (by decide +kernel) (by size_fits))
theorem jpk (hz:s.heap.get? z=some {cls:=.type "zip",dict:=none,data:=.fields vs,slots:=#[]}) (hh:A.handled=none)
  (q:∀h' tk,(∀b o,s.heap.get? b=some o->h'.get? b=some o)->Q none {s with heap:=h',toks:=tk}):wpAny (model prog w) A (getAttr? (.ref z) "keys") Q E s:=by
 obtain⟨hp,g,d,tk,os⟩:=s;have t0:(⟨hp,g,d,tk,os⟩:Shared).TypeIs (.ref z) "zip":=⟨_,hz,rfl⟩;have t1:(⟨hp,g,d,tk+1,os⟩:Shared).TypeIs (.ref z) "zip":=⟨_,hz,rfl⟩;have e1:=sub_AttributeError;have e2:=F.slot_zip_getattribute.lookup;have e3:=F.slot_zip_getattribute.bind (.ref z);have e4:=jtr;unfold getAttr? getAttrBy? getAttrBy;wp_walk;refine codeAny_call_builtin F.slot_zip_getattribute.plain jAn (F.slot_zip_getattribute.check _ _ _ _ _ _ _ _ t1 (F.args_zip_getattribute_2 _ _) (jt9 (s:=⟨hp,g,d,tk+1,os⟩) hz (by simp[hh]) fun h' tk' e ne=>?_));obtain⟨t',u',he⟩:=ne.there;change wpAny _ _ (getattributeRaised _ _ _ _ _ _ _) _ _ _;unfold getattributeRaised hookOrError hookBehind attributeErrorLeaves;wp_walk;exact q _ _ ne.keeps
end
section
variable {prog:Program} {w:World} {A:Around} {R:Result->Shared->Prop}
structure ZipAt (b1 b2:Bool) (z TI TO i1 i2 l1 l2:Addr) (xs ys:Array Value) (i:Nat) (h:Heap):Prop where
 zs:jE0 h z TI TO
 ti:IsPair h TI (.ref i1) (.ref i2)
 to:∃c d,IsPair h TO c d
 a1:iAt b1 h i1 l1 i
 a2:iAt b2 h i2 l2 i
 s1:sAt b1 h l1 xs
 s2:sAt b2 h l2 ys
theorem ZipAt.keep {b1 b2:Bool}{z TI TO i1 i2 l1 l2:Addr}{xs ys:Array Value}{i:Nat}{h h':Heap}{D:Addr}(Z:ZipAt b1 b2 z TI TO i1 i2 l1 l2 xs ys i h)(hz:z≠D)(h2:TI≠D)(h3:TO≠D)(h4:i1≠D)(h5:i2≠D)(h6:l1≠D)(h7:l2≠D)(hD:∃o,h'.get? D=some o)(k:∀c o,c≠D->h.get? c=some o->h'.get? c=some o):ZipAt b1 b2 z TI TO i1 i2 l1 l2 xs ys i h':=by
 refine⟨?_,k _ _ h2 Z.ti,let⟨c,d,e⟩:=Z.to;⟨c,d,k _ _ h3 e⟩,Z.a1.keep fun o e=>k _ _ h4 e,Z.a2.keep fun o e=>k _ _ h5 e,Z.s1.keep fun o e=>k _ _ h6 e,Z.s2.keep fun o e=>k _ _ h7 e⟩;rcases Z.zs with e|⟨T,fl,o,hne,e,hT⟩
 ·exact .inl (k _ _ hz e)
 ·by_cases c:T=D
  ·obtain⟨o',ho'⟩:=hD;exact .inr ⟨T,fl,o',hne,k _ _ hz e,by rw[c];exact ho'⟩
  ·exact .inr ⟨T,fl,o,hne,k _ _ hz e,k _ _ c hT⟩
theorem ZipAt.next {E:Value->Shared->Prop}{s:Shared}{b1 b2:Bool}{z TI TO i1 i2 l1 l2:Addr}{xs ys:Array Value}{i:Nat}{x y:Value}{Q:Option Value->Shared->Prop}(D:ZipApart z TI TO i1 i2 l1 l2)(Z:ZipAt b1 b2 z TI TO i1 i2 l1 l2 xs ys i s.heap)(ex:xs[i]?=some x)(ey:ys[i]?=some y)
  (q:∀h',ZipAt b1 b2 z TI TO i1 i2 l1 l2 xs ys (i+1) h'->IsPair h' s.heap.objs.size x y->(∀c o,c≠z->c≠TO->c≠i1->c≠i2->s.heap.get? c=some o->h'.get? c=some o)->Q (some (.ref s.heap.objs.size)) {s with heap:=h'}) :
  wpAny (model prog w) A (pyNext (.ref z)) Q E s:=by
 obtain⟨c,d,hTO⟩:=Z.to;have hzn:s.heap.objs.size≠z:=by
  rcases Z.zs with e|⟨T,fl,o,hne,e,hT⟩<;>exact Ne.symm (j0k (j0i e))
 rcases Z.zs with e|e
 ·refine jwe D e Z.ti hTO Z.a1 Z.a2 Z.s1 Z.s2 ex ey fun h' z' o' a1' a2' p' k'=>?_;exact q h' ⟨.inr ⟨s.heap.objs.size,false,_,hzn,z',p'⟩,k' _ _ D.TIz D.TITO D.TIi1 D.TIi2 Z.ti,⟨_,_,o'⟩,a1',a2',Z.s1.keep fun o e=>k' _ _ D.l1z D.l1TO D.l1i1 D.l1i2 e,Z.s2.keep fun o e=>k' _ _ D.l2z D.l2TO D.l2i1 D.l2i2 e⟩ p' k'
 ·refine jw4 D e Z.ti Z.a1 Z.a2 Z.s1 Z.s2 ex ey fun h' z' a1' a2' p' k'=>?_;exact q h' ⟨.inr z',k' _ _ D.TIz D.TIi1 D.TIi2 Z.ti,⟨c,d,k' _ _ D.TOz D.TOi1 D.TOi2 hTO⟩,a1',a2',Z.s1.keep fun o e=>k' _ _ D.l1z D.l1i1 D.l1i2 e,Z.s2.keep fun o e=>k' _ _ D.l2z D.l2i1 D.l2i2 e⟩ p' fun c o c1 _ c3 c4 e=>k' c o c1 c3 c4 e
theorem ZipAt.stop {E:Value->Shared->Prop}{s:Shared}{b1 b2:Bool}{z TI TO i1 i2 l1 l2:Addr}{xs ys:Array Value}{i:Nat}{Q:Option Value->Shared->Prop}(hh:A.handled=none)(D:ZipApart z TI TO i1 i2 l1 l2)(Z:ZipAt b1 b2 z TI TO i1 i2 l1 l2 xs ys i s.heap)(ex:xs[i]?=none)
  (q:∀h',(∀c o,c≠z->c≠TO->c≠i1->c≠i2->s.heap.get? c=some o->h'.get? c=some o)->Q none {s with heap:=h'}) :
  wpAny (model prog w) A (pyNext (.ref z)) Q E s:=by
 obtain⟨c,d,hTO⟩:=Z.to;rcases Z.zs with e|e
 ·exact jAM hh D e Z.ti hTO Z.a1 Z.a2 Z.s1 Z.s2 (.inl ex) q
 ·exact jAo hh D e Z.ti Z.a1 Z.a2 Z.s1 Z.s2 ex fun h' k=>q h' fun c o c1 _ c3 c4 e=>k c o c1 c3 c4 e
theorem jgf:entryFor table "dict.update.loop" =some Builtin.«dict.update.loop»:=entryFor_of_tree (by kernel_rfl)
theorem jbk:plainId "dict.update.loop" =true:=by decide +kernel
noncomputable def jgK (ks:List Str)(us:List Value):List (Key×Value):=(ks.zip us).map fun p=>(Sum.inr p.1,p.2)
theorem jjJ {kvs:List (Key×Value)}{k:Key}{v:Value}(h:k∉kvs.map (·.1)):stored kvs k v=kvs++[(k,v)]:=by
 unfold stored;rw[if_neg];intro hc;obtain⟨p,hp,e⟩:=List.any_eq_true.mp hc;exact h (j0s.mpr ⟨p,hp,by simpa using e⟩)
theorem jks {b1 b2:Bool}{z TI TO i1 i2 l1 l2 Dd:Addr}{xs ys:Array Value}{ks:List Str}(D:ZipApart z TI TO i1 i2 l1 l2)(hk:∀(i:Nat) (v:Value),xs[i]?=some v->∃k t,ks[i]?=some k/\v=.str k t)(hlx:xs.size=ks.length)(hly:ys.size=ks.length)(hn:ks.Nodup)(hb:ks.length<=1000)
  (n1:z≠Dd) (n2:TI≠Dd) (n3:TO≠Dd) (n4:i1≠Dd) (n5:i2≠Dd) (n6:l1≠Dd) (n7:l2≠Dd) (hh:A.handled=none) :
  ∀(m i:Nat) (j:Int) (s:Shared),ks.length - i=m->i<=ks.length->ZipAt b1 b2 z TI TO i1 i2 l1 l2 xs ys i s.heap->s.heap.DictOf (jal prog w) Dd (jgK (ks.take i) (ys.toList.take i)) ->
   (∀h' tk,(∀c o,c≠Dd->c≠z->c≠TO->c≠i1->c≠i2->s.heap.get? c=some o->h'.get? c=some o)->h'.DictOf (jal prog w) Dd (jgK ks ys.toList)->R (.ok (.ret .none)) {s with heap:=h',toks:=tk}) ->
   codeAny (model prog w) A (.builtin "dict.update.loop" ⟨[.ref Dd,.ref z,rawInt j,.none],[]⟩) R s:=by
 intro m
 induction m with
 |zero=>
  intro i j s hm hi Z hS q;obtain rfl:i=ks.length:=by omega
  refine codeAny_builtin jgf ?_;rw[j04 jbk _];change wpAny _ A.in1 (pyNext (.ref z) >>=_) _ _ s;refine wpAny_bind (Z.stop (by simp[hh]) D (by simp[hlx]) fun h' k'=>?_);change wpAny _ A.in1 (Builtin.Dict.addKeywords Dd [] >>=_) _ _ _;refine wpAny_bind (wpAny_pure (wpAny_pure (q h' s.toks (fun c o _ c1 c2 c3 c4 e=>k' c o c1 c2 c3 c4 e) ?_)));rw[List.take_length,List.take_of_length_le (by rw[j0F];omega)]at hS;exact hS.at fun o e=>k' _ _ n1.symm n3.symm n4.symm n5.symm e
 |succ m ih=>
  intro i j s hm hi Z hS q;have hlt:i<ks.length:=by omega
  have hx:xs[i]?=some xs[i]:=by simp[hlx,hlt]
  have hy:ys[i]?=some ys[i]:=by simp[hly,hlt]
  obtain⟨k,t,hki,hkv⟩:=hk i _ hx;refine codeAny_builtin jgf ?_;rw[j04 jbk _];change wpAny _ A.in1 (pyNext (.ref z) >>=_) _ _ s;refine wpAny_bind (Z.next D hx hy fun h1 Z1 p1 k1=>?_);have hS1:h1.DictOf (jal prog w) Dd (jgK (ks.take i) (ys.toList.take i)):=hS.at fun o e=>k1 _ _ n1.symm n3.symm n4.symm n5.symm e;rw[hkv]at p1;change wpAny _ A.in1 (holding [Value.ref s.heap.objs.size] _ >>=_) _ _ _;refine wpAny_bind (wpAny_holding ?_);have ty:Shared.TypeIs {s with heap:=h1} (.ref s.heap.objs.size) "tuple":=⟨_,p1,rfl⟩;have prs:wpAny (model prog w) A.in1 (Builtin.Dict.pairItems (.ref s.heap.objs.size)) (fun r s'=>r=[Value.str k t,ys[i]]/\s'={s with heap:=h1}) (fun _ _=>False) {s with heap:=h1}:=by
   unfold Builtin.Dict.pairItems;refine wpAny_bind (wpAny_typeOf ty ?_);rw[if_pos (by decide)];exact wpAny_bind (wpAny_seqItems p1 rfl (wpAny_pure ⟨rfl,rfl⟩))
  refine wpAny_bind (wpAny_tryCatch (wpAny_mono prs (fun r s' hr=>?_) fun _ _ h=>h.elim));obtain⟨rfl,rfl⟩:=hr;change wpAny _ A.in1 (holding [Value.str k t,ys[i]] (dictSet Dd (.str k t) ys[i])) _ _ _;have hsmall:(jgK (ks.take i) (ys.toList.take i)).length<=sizeLine:=by
   unfold jgK;rw[j0d,j1u,j0Q,j0Q];exact j0A (by omega:_<=1000) (by decide)
  refine wpAny_holding (wpAny_dictSet_pairs (knd:=jal prog w) (s:={s with heap:=h1}) (k:=Sum.inr k) (jiJ prog w k t) hS1 (fun h2 hd2 sb=>?_) hsmall);have enew:stored (jgK (ks.take i) (ys.toList.take i)) (Sum.inr k) ys[i]=jgK (ks.take (i+1)) (ys.toList.take (i+1)):=by
   rw[jjJ]
   ·unfold jgK;have hyl:ys.toList[i]?=some ys[i]:=by simp[hly,hlt]
    rw[jh3 hki,jh3 hyl,List.zip_append (by simp only[j0Q,j0F,hly]),j0y];rfl
   ·intro hm';unfold jgK at hm';rw[j1m]at hm';obtain⟨p,hp,e⟩:=j0s.mp hm';have e':p.1=k:=Sum.inr.inj e;have hin:k∈ks.take i:=by rw[<- e'];exact(List.of_mem_zip hp).1
    obtain⟨i',hi',he⟩:=List.getElem_of_mem hin;have hi2:i'<i:=by
     rw[j0Q]at hi';omega
    have he':ks[i']?=some k:=by
     rw[<- he,List.getElem_take,j0N]
    have:=(List.getElem?_inj (i:=i') (j:=i) (by omega) hn).mp (he'.trans hki.symm);omega
  rw[enew]at hd2;have hDl:∃o,h2.get? Dd=some o:=let⟨o,_,_,e,_⟩:=hd2;⟨o,e⟩;refine wpAny_pure ⟨plainId_quiet jbk _,ih (i+1) (j+1) _ (by omega) hlt (Z1.keep n1 n2 n3 n4 n5 n6 n7 hDl fun c o hc e=>(sb.2 c hc).trans e) hd2 fun h' tk kp hS'=>?_⟩;exact q h' tk (fun c o c0 c1 c2 c3 c4 e=>kp c o c0 c1 c2 c3 c4 ((sb.2 c c0).trans (k1 c o c1 c2 c3 c4 e))) hS'
end
section
variable {prog:Program} {w:World} {A:Around} {E:Value->Shared->Prop} {s:Shared}
theorem jmR {b1 b2:Bool}{z TI TO i1 i2 l1 l2:Addr}{xs ys:Array Value}{ks:List Str}{Q:Value->Shared->Prop}(hh:A.handled=none)(D:ZipApart z TI TO i1 i2 l1 l2)(hz:IsZip s.heap z TI TO .none)(hTI:IsPair s.heap TI (.ref i1) (.ref i2))(hTO:∃c d,IsPair s.heap TO c d)(a1:iAt b1 s.heap i1 l1 0)(a2:iAt b2 s.heap i2 l2 0)(s1:sAt b1 s.heap l1 xs)(s2:sAt b2 s.heap l2 ys)
  (hk:∀(i:Nat) (v:Value),xs[i]?=some v->∃k t,ks[i]?=some k/\v=.str k t) (hlx:xs.size=ks.length) (hly:ys.size=ks.length) (hn:ks.Nodup) (hb:ks.length<=1000)
  (q:∀h' tk,h'.DictOf (jal prog w) s.heap.objs.size (jgK ks ys.toList)->(∀c o,c≠z->c≠TO->c≠i1->c≠i2->s.heap.get? c=some o->h'.get? c=some o)->Q (.ref s.heap.objs.size) {s with heap:=h',toks:=tk}) :
  wpAny (model prog w) A (call (.type "dict") [.ref z]) Q E s:=by
 refine callType_codes (Q₁:=fun x s1=>x=.ref s.heap.objs.size/\s1={s with heap:=s.heap.push {cls:=.type "dict",data:=.dict #[]}}) F.kt_called_dict (F.kt_typeCall_dict_1 _) F.entry_dict_init (kt_code_dict_new _ ⟨rfl,rfl⟩) ?_;rintro x s1' ⟨rfl,rfl⟩;have hnew:(s.heap.push {cls:=.type "dict",data:=.dict #[]}).DictOf (jal prog w) s.heap.objs.size []:=Heap.DictOf.new s.heap;have up:∀c o,s.heap.get? c=some o->(s.heap.push {cls:=.type "dict",data:=.dict #[]}).get? c=some o:=fun c o e=>j0b _ e;refine⟨hnew.typeIs,F.args_dict_init_2 _ _,?_⟩;generalize s.heap.push {cls:=.type "dict",data:=.dict #[]}=hA at hnew up;have ne:∀{c:Addr} {o:Obj},s.heap.get? c=some o->c≠s.heap.objs.size:=fun e=>j0k (j0i e);unfold Builtin.«dict.__init__»;refine wpAny_bind ?_;unfold Builtin.Dict.selfAndRest;refine wpAny_bind (wpAny_notOrdered_dict hnew.typeIs (wpAny_pure ?_));change wpAny _ _ (Builtin.Dict.updateFrom "dict.__init__" s.heap.objs.size (.ref z) [] .none) _ _ _;unfold Builtin.Dict.updateFrom;refine wpAny_bind (wpAny_typeOf (T:="zip") ⟨_,up _ _ hz,rfl⟩ ?_);rw[if_pos (by decide)];refine wpAny_bind (jpk (s:={s with heap:=hA}) (up _ _ hz) (by simp[hh]) fun hB tk kB=>?_);rw[if_pos (show(none:Option Value).isNone=true from rfl)];have upB:∀c o,s.heap.get? c=some o->hB.get? c=some o:=fun c o e=>kB _ _ (up _ _ e);refine wpAny_bind (wpAny_rule (wpAny_bind (wpAny_pyIter_zip (s:={s with heap:=hB,toks:=tk}) (upB _ _ hz) ?_)));obtain⟨c,d,hTO'⟩:=hTO;obtain⟨o1,e1,_⟩:=a1.obj;obtain⟨o2,e2,_⟩:=a2.obj;obtain⟨o3,e3⟩:=s1.obj;obtain⟨o4,e4⟩:=s2.obj;have hS0:hB.DictOf (jal prog w) s.heap.objs.size (jgK (ks.take 0) (ys.toList.take 0)):=by
  have:=hnew.at (h':=hB) fun o e=>kB _ _ e;simpa[jgK]using this
 refine wpAny_pure ⟨plainId_quiet jbk _,jks (A:=A.in1) D hk hlx hly hn hb (ne hz) (ne hTI) (ne hTO') (ne e1) (ne e2) (ne e3) (ne e4) (by simp[hh]) (ks.length - 0) 0 0 _ rfl (j0J _) ⟨.inl (upB _ _ hz),upB _ _ hTI,⟨c,d,upB _ _ hTO'⟩,a1.keep fun o e=>upB _ _ e,a2.keep fun o e=>upB _ _ e,s1.keep fun o e=>upB _ _ e,s2.keep fun o e=>upB _ _ e⟩ hS0 fun h' tk' kp hS=>⟨rfl,q h' tk' hS fun c o c1 c2 c3 c4 e=>kp c o (ne e) c1 c2 c3 c4 (upB _ _ e)⟩⟩
end
section
variable {X:Cx}
noncomputable def jo9 (K:PySem.W.Frag):List V->Hp->VK->Prop:=fun vs H Q=>∃(p q:Addr) (b1 b2:Bool) (ks:List Str) (us:List V),vs=[.ref p,.ref q]/\SqB b1 K H p (ks.map V.str)/\SqB b2 K H q us/\us.length=ks.length/\ks.length<=1000/\ks.Nodup/\((∀l,H l=none->Q (.ref l) (upd H l (.dK ((ks.map Sum.inr).zip us))))∨∀l o es ep,H l=none->o.data=.dict es ep->Q (.ref l) (upd H l (.frz o (.dK ((ks.map Sum.inr).zip us)))))
theorem jlK:∀{ks:List Str} {us:List V} {ws:List Value},jaI us ws->KV ((ks.map Sum.inr).zip us) (jgK ks ws)
 |[],_,_,_=>.nil
 |_::_,_,_,.nil=>.nil
 |k::ks,_,_,.cons r t=>.cons ⟨rfl,r⟩ (jlK t)
theorem jpl {a b:Expr} {ta:TA} {p1 p2 p3 p4:Pos} (hc:X.calm=true) (hg1:jbl X.env.scope "dict" =true) (hm1:X.mg "dict" =none) (hg2:jbl X.env.scope "zip" =true) (hm2:X.mg "zip" =none) (ha:PA X [a,b] ta) (hs:jaf [a,b]=true) :
  PE X (.Call (.Name "dict" p1) [.Call (.Name "zip" p2) [a,b] [] p3] [] p4) (fun σ H Q=>ta σ H fun vs H1=>jo9 X.K vs H1 Q):=by
 have h1:=hs;unfold jaf at h1;simp only[j0S,j0a]at h1;have hs2:starEach [b] X.env=[(false,eval b X.env)]:=jam h1.2.1;have hs1:starEach [a,b] X.env=[(false,eval a X.env),(false,eval b X.env)]:=by rw[jam h1.1,hs2]
 have hs0:starEach [.Call (.Name "zip" p2) [a,b] [] p3] X.env=[(false,eval (.Call (.Name "zip" p2) [a,b] [] p3) X.env)]:=jam rfl;intro pins s σ H Q I h;refine Call_name1 hs0 (jgn I (jav hg1).1 hm1 jlc (callWith_type1 (Call_ (jgn I (jav hg2).1 hm2 jBJ (j1h (thn (ha p3 pins s σ H _ I h) fun us s1 ⟨vs,H1,I1,r1,q1⟩=>?_) (by rw[hs1,hs2]) (by rw[hs2];rfl))))));obtain⟨l1,l2,b1,b2,ks,ws,rfl,sq1,sq2,el,hb,hn,q⟩:=q1;obtain⟨u1,u2,rfl,ru1,ru2⟩:=r1.two;cases ru1;cases ru2;obtain⟨its1,rv1,pl1,_⟩:=I1.sqb sq1;obtain⟨its2,rv2,pl2,_⟩:=I1.sqb sq2;have e1:=rv1.length;have e2:=rv2.length;rw[j0d]at e1;have a1:l1<s1.heap.objs.size:=by obtain⟨_,e⟩:=pl1.obj;exact j0i e
 have a2:l2<s1.heap.objs.size:=by obtain⟨_,e⟩:=pl2.obj;exact j0i e
 refine jpg pl1 pl2 fun h' hz hTI hTO i1 i2 kp=>?_;have hsz:s1.heap.objs.size+5<=h'.objs.size:=j0i hz;refine jmR (s:={s1 with heap:=h'}) (ks:=ks) (I1.ok.hd hc) (zipApart_new a1 a2) hz hTI ⟨_,_,hTO⟩ i1 i2 (sAt.keep pl1 fun o e=>kp _ _ e) (sAt.keep pl2 fun o e=>kp _ _ e) (fun i v hv=>?_) (by rw[j0h];omega) (by rw[j0h];omega) hn hb fun h2 tk hd kp2=>?_
 ·have hv':its1[i]?=some v:=by simpa using hv
  have hi':i<ks.length:=by rw[e1];exact(j0g.mp hv').1
  obtain⟨u',hu,t,ru⟩:=rv1.get (i:=i) (x:=V.str ks[i]) (by simp[hi']);rw[hv']at hu;cases hu;exact⟨ks[i],t,by simp[hi'],ru⟩
 ·have old:∀c o,s1.heap.get? c=some o->h2.get? c=some o:=fun c o e=>by
   have hlt:c<s1.heap.objs.size:=j0i e;exact kp2 c o (j0k (j0m hlt (Nat.le_add_right _ 4))) (j0k (j0m hlt (Nat.le_add_right _ 3))) (j0k hlt) (j0k (j0m hlt (Nat.le_add_right _ 1))) (kp _ _ e)
  have hok:∀H',jaS X.prog X.w H' h2 h'.objs.size (.dK ((ks.map Sum.inr).zip ws)):=fun H'=>jvD (by rw[j1u,j0d];exact j0A (by omega:_<=1000) (by decide)) (beq_eq_false_iff_ne.mpr (Nat.ne_of_gt (j0m I1.big (by omega)))) (jlK (ks:=ks) (by simpa using rv2)) hd;rcases q with q|q
  ·exact⟨.ref h'.objs.size,_,I1.laid (a:=h'.objs.size) (t':=tk) (o:=.dK ((ks.map Sum.inr).zip ws)) old (by omega) (hok _),rfl,q _ (I1.hok.fresh (by omega))⟩
  ·obtain⟨o,es,ep,ho,_,hdt,_⟩:=hd;exact⟨.ref h'.objs.size,_,I1.laid (a:=h'.objs.size) (t':=tk) (o:=.frz o (.dK ((ks.map Sum.inr).zip ws))) old (by omega) ⟨ho,hok _⟩,rfl,q _ o es ep (I1.hok.fresh (by omega)) hdt⟩
end
section
variable {X:Cx}
end
noncomputable def ItI (o:Obj)(a:Addr)(kvs:List (Key×V)):It:=
 ⟨fun i H=>H a=some (.frz o (.dK kvs))/\i<kvs.length,fun i H x H'=>∃p q,kvs[i]?=some q/\x=.ref p/\H p=none/\H'=upd H p (.tup [kV q.1,q.2]),fun i H=>H a=some (.frz o (.dK kvs))/\kvs.length<=i⟩
theorem jtE (h:(jal P W).is k u=true):jaB (kV k) u:=by
 rcases jaD h with⟨i,t,rfl,rfl⟩|⟨z,t,rfl,rfl⟩
 ·exact⟨t,rfl⟩
 ·exact⟨t,rfl⟩
theorem jgl (I:Inv X pins σ H s)(h:H a=some (.frz o (.dK kvs)))(he:o.data=.dict es ep):∃vs,KV kvs vs/\s.heap.DictAt (jal X.prog X.w) a vs ep/\(a==sysModules)=false:=by
 obtain⟨hg,_,hlo,vs,hkv,o',es',ep',ho,hc,hd,r⟩:=(show jaS X.prog X.w H s.heap a (.frz o (.dK kvs))from I.hok a _ h);rw[hg]at ho;cases ho;rw[he]at hd;cases hd;exact⟨vs,hkv,⟨o,es,hg,hc,he,r⟩,hlo⟩
theorem jz8 (h:KV kvs vs){i:Nat}{q:Key×V}(e:kvs[i]?=some q):∃u,vs[i]?=some (q.1,u)/\jaB q.2 u:=by
 unfold KV at h
 induction h generalizing i with
 |nil=>simp at e
 |cons r t ih=>
  rename_i a b as bs
  cases i with
  |zero=>
   simp only[j0K,j0w]at e;subst e;refine⟨b.2,?_,r.2⟩;rw[j0K,r.1]
  |succ i=>simpa using ih (i:=i) (by simpa using e)
theorem jpC:entryFor table "dict_itemiterator.__iter__" =some Builtin.«dict_keyiterator.__iter__»:=entryFor_alias (id':="dict_keyiterator.__iter__") (by kernel_rfl) rfl (by decide +kernel) (by kernel_rfl)
theorem jpc {P:Program}{w:World}{K:PySem.W.Frag}{elts:List Expr}{x1:Nat}{tpos:Pos}{o:Obj}{es:Array DictEntry}{ep:Nat}(a it:Addr)(kvs:List (Key×V))(he:o.data=.dict es ep) :
  Turn P w K (.Tuple elts x1 tpos) (ItI o a kvs) [it] it (fun i h=>∃ok ov,IsItemIter h it a i kvs.length ep ok ov) where
 mem:=by simp
 obj:=fun i h st b hb=>by
  obtain⟨ok,ov,hi⟩:=st;have z:b=it:=by simpa using hb
  subst z;exact⟨_,hi,fun v z=>by
   have z':Data.fields _=Data.cell v:=z;cases z'⟩
 keep:=fun i h h' st k=>by
  obtain⟨ok,ov,hi⟩:=st;exact⟨ok,ov,k it (by simp) _ hi⟩
 item:=by
  intro X hP hw hK hc i pins s σ H E I hf st hg;subst hP hw hK;obtain⟨hH,hlt⟩:=hg;obtain⟨ok,ov,hi⟩:=st;obtain⟨vs,hkv,hat,hlo⟩:=jgl I hH he;have hle:=KV.length hkv;have hx:kvs[i]?=some kvs[i]:=by simp[hlt]
  obtain⟨u,hu,ru⟩:=jz8 hkv hx;have f1:=hf it (by simp);rw[hle]at hi;refine wpAny_pyNext_items_item hi hat hu fun key h1 hkey ho1 htup hsz kp=>⟨_,rfl,wpAny_letOwnedTupleGo_items ho1 fun h2 he2 sb2=>?_⟩;have hitn:s.heap.objs.size≠it:=Ne.symm (j0k (j0i hi));have kp2:∀b o,b∉[it]->s.heap.get? b=some o->h2.get? b=some o:=fun b o hb q=>by
   have hb':b≠it:=by simpa using hb
   exact(sb2.2 b hb').trans (kp b o hb' q)
  have hnew:h2.get? s.heap.objs.size=some {cls:=.type "tuple",data:=.seq #[key,u]}:=(sb2.2 _ hitn).trans htup;have nt:∀b v,H b=some v->b∉[it]:=fun b v q hb=>by
   have z:b=it:=by simpa using hb
   rw[z,f1.1]at q;cases q
  have hfr:=I.fresh;have U:Un (frs X.stack) [it] H (upd H s.heap.objs.size (.tup [kV kvs[i].1,kvs[i].2])) s.heap h2:=
   {keep:=fun b o q _ _ hb=>kp2 b o hb q
    slot:=fun b o q _ _ hb=>⟨o.slots,kp2 b o hb q⟩
    free:=fun b o q n _=>by rw[jae (j0k (j0i q))];exact n
    there:=fun b o q hb=>⟨o,kp2 b o hb q⟩
    tups:=fun b xs q=>by rw[jae (jar q hfr)];exact q
    frzs:=fun b o xs q=>by rw[jae (jar q hfr)];exact q
    tbls:=fun b ps q=>⟨#[],by rw[jae (jar q hfr),q];simp⟩}
  have hok:HOk X.prog X.w (upd H s.heap.objs.size (.tup [kV kvs[i].1,kvs[i].2])) h2:=fun b v q=>by
   by_cases hb:b=s.heap.objs.size
   ·subst hb;rw[jag]at q;cases q;exact⟨by show 2<=sizeLine;decide,[key,u],0,.cons (jtE hkey) (.cons ru .nil),hnew⟩
   ·rw[jae hb]at q;refine(I.hok b v q).stay (fun c v' hc' r=>kp2 c v' ?_ r) (fun c r=>by rw[jae (jar r hfr)];exact r) fun c ys r=>by rw[jae (jar r hfr)];exact r
    rcases hc' with e|e
    ·rw[e];exact nt b v q
    ·exact nt c _ e
  have I2:Inv X pins σ (upd H s.heap.objs.size (.tup [kV kvs[i].1,kvs[i].2])) {s with heap:=h2}:=I.call' rfl U hok I.bare fun b hb=>by
   obtain⟨g0,g1,g2,g3,g4,g5⟩:=hf b hb;exact⟨g3,g1,g4,g5⟩
  refine⟨.ref s.heap.objs.size,_,I2,rfl,⟨_,kvs[i],hx,rfl,hfr,rfl⟩,⟨key,u,by rw[hle];exact he2⟩,fun b hb=>?_⟩;have z:b=it:=by simpa using hb
  rw[z,jae (Ne.symm hitn)];exact f1.1
 done:=by
  intro X hP hw hK hc i pins s σ H E I hf st hg;subst hP hw hK;obtain⟨hH,hle0⟩:=hg;obtain⟨ok,ov,hi⟩:=st;obtain⟨vs,hkv,hat,hlo⟩:=jgl I hH he;have hle:=KV.length hkv;obtain⟨f0,f1,f2,f3,f4,f5⟩:=hf it (by simp);rw[hle]at hi;exact wpAny_pyNext_items_end (I.ok.hd hc) hi hat (by rw[List.getElem?_eq_none_iff];omega) fun h' eb=>⟨rfl,I.turned (t':=s.toks) (fun b o hb e=>eb b o hb e) f0 f1 f3 f4 f5⟩
 self:=fun _ _ _ _ _ st h=>by
  obtain⟨ok,ov,hi⟩:=st;have ty:Shared.TypeIs _ (.ref it) "dict_itemiterator":=⟨_,hi,rfl⟩;refine wpAny_pyIter_slot ty F.slot_dict_itemiterator_iter (wpAny_call_entry F.slot_dict_itemiterator_iter ty jpC ?_ (F.args_dict_itemiterator_iter_1 _));change wpAny _ _ (ret (.ref it)) _ _ _;exact wpAny_pure ⟨_,rfl,"dict_itemiterator",_,ty,F.slot_dict_itemiterator_next.lookup,h⟩
section
variable {X:Cx}
def jAR (te:TE):TI:=fun σ H R=>te σ H fun x H1=>∃a o kvs es ep,x=.ref a/\H1 a=some (.frz o (.dK kvs))/\o.data=.dict es ep/\R (ItI o a kvs) H1
theorem jt2 {e:Expr} {te:TE} {apos pos:Pos} {elts:List Expr} {x1:Nat} {tpos:Pos} (he:PE X e te) (hb:attributeBase e "items" X.env (eval e X.env)=eval e X.env) (hl:(apos.endLine==pos.line)=true) :
  PI X (.Tuple elts x1 tpos) (.Call (.Attribute e "items" apos) [] [] pos) (jAR te):=by
 intro pins s σ H R I h;refine wpAny_Call_method0_late hb hl (thn (he pins s σ H _ I h) fun v s1 ⟨x,H1,I1,r1,q1⟩=>?_);obtain⟨a,o,kvs,es,ep,rfl,hH,hd,q⟩:=q1;cases r1;obtain⟨vs,hkv,hat,hlo⟩:=jgl I1 hH hd;refine⟨"dict","dict.items",j1z,PySem.F.slot_dict_items,PySem.F.type_dict_items,hat.dictOf.typeIs,fun b q=>?_,?_⟩
 ·cases q;obtain⟨o',es',ho,hc,_⟩:=hat;exact⟨o',ho,hc.2.1⟩
 refine j1j rfl (PySem.evalArgs_none ?_);refine call_meetsIn PySem.F.slot_dict_items hat.dictOf.typeIs PySem.F.entry_dict_items (PySem.F.args_dict_items_1 _) (meets_dict_items (jal X.prog X.w) a hlo) ⟨⟨vs,hat.dictOf⟩,?_⟩;change wpAny (model X.prog X.w) X.A (pyIter (.ref s1.heap.objs.size)) _ _ _;refine wpAny_pyIter_items (s:={s1 with heap:=s1.heap.push {cls:=.type "dict_items",data:=.fields #[.ref a]}}) ⟨_,j0f _ rfl,rfl,rfl⟩ (hat.push _) ?_;have z1:(s1.heap.push {cls:=.type "dict_items",data:=.fields #[.ref a]}).objs.size=s1.heap.objs.size+1:=j09 ..;have gi:=j0f (s1.heap.push {cls:=.type "dict_items",data:=.fields #[.ref a]}) (o:={cls:=.type "dict_itemiterator",data:=.fields #[.none,.bool false,.ref a,.int 0 0,.int vs.length 0,.int ep 0,.none,.none]}) rfl;have hle:=KV.length hkv;refine⟨_,[_],_,_,H1,rfl,I1.kept (t':=s1.toks) fun b o e=>j0b _ (j0b _ e),jpc a _ kvs hd,⟨.none,.none,by rw[hle];exact gi⟩,fun b hb=>?_,q⟩;have hb':b=(s1.heap.push {cls:=.type "dict_items",data:=.fields #[.ref a]}).objs.size:=by simpa using hb
 have hle2:s1.heap.objs.size<=b:=by rw[hb',z1];exact Nat.le_succ _
 exact I1.fpOk hle2 (I1.hok.fresh hle2)
end
section
variable {X:Cx}
noncomputable def jEt (n:Nat)(lo st:Int):List Nat:=sliceRange (max 0 (min lo n)) n st
end
structure Fly (P:Program) (w:World) (outer:List Env) (H:Hp) (s:Shared) (B:Heap) (a0:Value) (a:Addr) (cls:Value) (H':Hp) (s':Shared):Prop where
 os:s'.os=s.os
 bare:AllBare s'.gens
 fly:Heap.FlyingW B outer a cls a0 s'.heap
 hok:HOk P w H' B
 keep:∀b o,s.heap.get? b=some o->H b=none->b∉frs outer->B.get? b=some o
 slot:∀b o,s.heap.get? b=some o->b∈frs outer->∃sl,s'.heap.get? b=some {o with slots:=sl}
 free:∀b o,s.heap.get? b=some o->H b=none->H' b=none
 there:∀b o,s.heap.get? b=some o->b∉frs outer->∃o',B.get? b=some o'
 tups:∀b xs,H b=some (.tup xs)->H' b=some (.tup xs)
 frzs:∀b o u,H b=some (.frz o u)->H' b=some (.frz o u)
 tbls:∀b ps,H b=some (.tbl ps)->∃more,H' b=some (.tbl (ps++more))
noncomputable def CX1 (P:Program)(w:World):CXT:=fun outer H s E e s'=>∃B a0 a C H',e=.ref a/\Fly P w outer H s B a0 a (.ref C) H' s'/\E (.ref C) none H'
section
variable {P:Program} {w:World} {outer:List Env} {H H':Hp} {s s':Shared} {B:Heap} {a0 cls:Value} {a:Addr}
theorem Fly.un (f:Fly P w outer H s B a0 a cls H' s'):Un (frs outer) [] H H' s.heap s'.heap where
 keep:=fun b o e n hb _=>f.fly.1 b o (f.keep b o e n hb)
 slot:=fun b o e _ hb _=>f.slot b o e hb
 free:=fun b o e n _=>f.free b o e n
 there:=fun b o e _=>by
  by_cases hb:b∈frs outer
  ·obtain⟨sl,q⟩:=f.slot b o e hb;exact⟨_,q⟩
  ·obtain⟨o',q⟩:=f.there b o e hb;exact⟨o',f.fly.1 b o' q⟩
 tups:=f.tups
 frzs:=f.frzs
 tbls:=f.tbls
theorem Fly.hok' (f:Fly P w outer H s B a0 a cls H' s'):HOk P w H' s'.heap:=f.hok.kept fun b u e=>f.fly.1 b u e
end
section
variable {X:Cx} {pins:List (Addr×Obj)} {σ:St} {H H':Hp} {s s':Shared} {B:Heap} {a0 cls:Value} {a:Addr}
end
noncomputable abbrev jDT:List Value:=[.type "ValueError",.type "Exception",.type "BaseException",.type "object"]
structure ExcC (K:PySem.W.Frag) (C:Addr):Prop where
 ex:∃(tl:List Value) (N:Addr) (nm q:Str) (bs:List Value) (hd:Bool) (sn:List Str) (sub:List Value) (ab:Bool) (col:Option Bool) (dd:Option Addr) (k0 k1 k2 k3 k5:Option Value),
  K.lookup C=some (excClassObj nm q C N bs tl hd sn sub ab col dd k0 k1 k2 k3 k5 "ValueError.__new__")/\PySem.W.tailIn K jDT tl=true/\PySem.W.nsOkIn K N=true/\PySem.W.nsIn K N "__init__" =some none
section
variable {P:Program} {w:World} {K:PySem.W.Frag} {mg:Str->Option Value} {base:Heap} {N:List Str} {qual:Str} {scope:Scope} {f:Addr} {cd:Value} {A:Around} {outer:List Env} {s0:Shared} {H0:Hp} {E:XK}
end
end _L2
namespace _L2
open PySem PySem.W PySem.Spec PySem.Calls PyProof.Rows Builtin Builtin.ObjectAttr Builtin.Getset_descriptor
structure ExcA (K:Frag) (C:Addr):Prop where
 ga:findIn K (.ref C) "__getattribute__" =some (some (.builtin "BaseException.__getattribute__"))
 gt:findIn K (.ref C) "__getattr__" =some none
 cl:findIn K (.ref C) "__class__" =some (some (.builtin "object.__class__"))
 gs:specialIn K (.builtin "object.__class__") "__get__" =some (some (.builtin "getset_descriptor.__get__"))
 tk:takesIn K (.builtin "object.__class__")=some true
 mo:mroIn K C (.type "object")=some true
 mb:mroIn K C (.type "BaseException")=some true
section
variable {prog:Program} {w:World} {A:Around} {E:Value->Shared->Prop} {s:Shared} {K:Frag} {x C:Addr} {o:Obj}
end
end _L2
namespace _L2
open PySem PySem.Spec PyProof.Rows
section
variable {X:Cx} {pins:List (Addr×Obj)} {σ:St} {H:Hp} {s:Shared}
noncomputable def jEf:V->Option Value
 |.ref a=>some (.ref a)
 |.ty n=>some (.type n)
 |_=>none
theorem ju6 (h:jEf v=some c)(r:jaB v u):u=c:=by
 cases v<;>first|(cases h;done)|(cases h;exact r)
theorem jo7:∀{cs:List V} {us ts:List Value},cs.mapM jEf=some ts->jaI cs us->us=ts
 |[],_,ts,e,.nil=>by
  rw[List.mapM_nil]at e;exact(j0E e)
 |c::cs,_,ts,e,.cons r t=>by
  rw[List.mapM_cons]at e;obtain⟨u,h1,e⟩:=Option.bind_eq_some_iff.mp e;obtain⟨us',h2,e⟩:=Option.bind_eq_some_iff.mp e;cases j0E e;rw[jo7 h2 t,ju6 h1 r]
end
section
variable {X:Cx} {pins:List (Addr×Obj)} {σ:St} {H H':Hp} {s s':Shared} {B:Heap} {a0:Value} {a:Addr} {oe:Obj}
structure CalG (CX:CXT) (P:Program) (w:World) (K:PySem.W.Frag) (mg:Str->Option Value) (base:Heap) (k:Nat) (x:Str) (ps:List Str) (sp:Sp):Prop where
 ex:(∃(f:Addr) (fd:FuncData),FnOk P w K mg base CX k f fd ps sp/\mg x=some (.ref f)/\PySem.W.keepIn K (.ref f)=true/\jdF K fd ps []) ∨
  ∃(C f:Addr) (fd:FuncData) (qs:List Str) (k':Nat) (sp':Sp),k=k'+1/\Mk K C f/\FnOk P w K mg base CX k' f fd qs sp'/\mg x=some (.ref C)/\jdF K fd qs [] /\
   ∀vs H Q E,sp vs H Q E->∀x dx,H x=none->H dx=none->dx≠x->sp' (.ref x::vs) (upd (upd H dx (.own x)) x (.ins C dx [])) (fun v H2=>v=.non/\Q (.ref x) H2) E
theorem FnOk.calm {P:Program}{w:World}{K:PySem.W.Frag}{mg:Str->Option Value}{base:Heap}{k:Nat}{f:Addr}{fd:FuncData}{ps:List Str}{sp:Sp}(F:FnOk P w K mg base (CX1 P w) k f fd ps sp):FnOk P w K mg base CX0 k f fd ps (fun vs H Q _=>sp vs H Q E0):=
 ⟨fun vs H Q E q=>F.len vs H Q E0 q,fun A outer s H args us vs Q E hr he hbi hv hs=>codeAny_mono (F.run A outer s H args us vs Q E0 hr he hbi hv hs) fun r s' hq=>by
  cases r with
  |ok fl=>cases fl<;>exact hq
  |error e=>
   obtain⟨_,_,_,_,_,_,_,z⟩:=hq;exact z.elim⟩
theorem CalG.calm {P:Program}{w:World}{K:PySem.W.Frag}{mg:Str->Option Value}{base:Heap}{k:Nat}{x:Str}{ps:List Str}{sp:Sp}(c:CalG (CX1 P w) P w K mg base k x ps sp):CalG CX0 P w K mg base k x ps (fun vs H Q _=>sp vs H Q E0):=by
 rcases c.ex with⟨f,fd,F,r⟩|⟨C,f,fd,qs,k',sp0,e,M,F,hm,hb,q⟩
 ·exact⟨.inl ⟨f,fd,F.calm,r⟩⟩
 ·exact⟨.inr ⟨C,f,fd,qs,k',_,e,M,F.calm,hm,hb,fun vs H Q E z=>q vs H Q E0 z⟩⟩
def jBh (t:TA):Prop:=∀σ H (P P':List V->Hp->Prop),(∀vs H1,P vs H1->P' vs H1)->t σ H P->t σ H P'
theorem jz5 (c:CalG CX X.prog X.w X.K X.mg X.base k x ps sp)(hr:Room j X.A)(hk:k<=j)(hg:jbl X.env.scope x=true)(hx:jjT CX X E)(ht:jBh t)(ha:PA X (e::es) t)(hst:jaf (e::es)=true) :
  PE X (.Call (.Name x p) (e::es) [] pos) (jAG sp [] E t):=by
 have k1:=hst;unfold jaf at k1;simp only[j0S,j0a]at k1;have gl:=jav hg;rcases c.ex with⟨f,fd,F,hm,hkp,hb⟩|⟨C,f,fd,qs,k',sp',rfl,M,F,hm,hb,q⟩
 ·exact jws (hdb:=gl.2.1) (he:=jam k1.1) (hpl:=jaJ k1.2) F (hr.mono hk) gl.1 hm hkp hb .nil hx ha
 ·intro pins s σ H Q I h;refine jyo (hdb:=gl.2.1) (he:=jam k1.1) (hpl:=jaJ k1.2) M F (hr.mono hk) gl.1 hm hb .nil hx ha pins s σ H Q I (ht σ H _ _ (fun vs H1 z x dx h1 h2 h3=>?_) h);rw[j0x]at z ⊢;exact q _ _ _ _ z x dx h1 h2 h3
end
noncomputable def KP:List Str->List Value->List (Value×Value)->Prop
 |[],[],[]=>True
 |k::ks,u::us,(kv,v)::r=>(∃t,kv=.str k t)/\v=u/\KP ks us r
 |_,_,_=>False
theorem KP.len:∀{ks:List Str} {us:List Value} {r:List (Value×Value)},KP ks us r->us.length=ks.length
 |[],[],[],_=>rfl
 |k::ks,u::us,(kv,v)::r,h=>congrArg Nat.succ (KP.len h.2.2)
 |[],[],_::_,h=>h.elim
 |[],_::_,_,h=>h.elim
 |_::_,[],_,h=>h.elim
 |_::_,_::_,[],h=>h.elim
section
variable {X:Cx}
end
end _L2
namespace HT
open PySem PySem.Spec PyProof.Rows
section
variable {prog:Program} {w:World} {A:Around} {E:Value->Shared->Prop} {s:Shared}
theorem getItem_whole {t sl:Addr}{items:Array Value}{vl vu:Value}{lo hi:Option Int}{Q:Value->Shared->Prop}(ht:IsTup s.heap t items)(hs:s.heap.IsSliceOf sl vl vu .none)(pl:IsPart vl lo)(pu:IsPart vu hi)
  (hw:sIx items.size 0 lo=0/\sIx items.size items.size hi=items.size) (h:Q (.ref t) s):wpAny (model prog w) A (getItem (.ref t) (.ref sl)) Q E s:=by
 obtain⟨os,hos,hcs,hds⟩:=id hs;have hTs:s.TypeIs (.ref sl) "slice":=⟨os,hos,hcs⟩;unfold getItem
 try with_reducible refine wpAny_holding ?_
 first|refine wpAny_bind (wpAny_pure ?_)|skip
 refine wpAny_bind (wpAny_sequenceKey ht.typeIs (by decide) ?_);refine wpAny_bind (wpAny_callSpecial?_slot (name:=Str.ofString "__getitem__") ht.typeIs j08
  (wpAny_call_entry j08 ht.typeIs entry_tuple_getitem ?_ (args_tuple_getitem _ _)))
 show wpAny _ _ (Builtin.Tuple.tupleItemsOf (.ref t) >>=_) _ _ s;refine wpAny_bind (tupleItemsOf_ ht ?_);refine wpAny_bind (wpAny_typeOf hTs ?_);rw[if_pos (by decide)];refine wpAny_bind (jdC hs pl pu ?_);have hyes:(((sIx items.size 0 lo:Nat):Int)==0&&(1:Int)==1&&(sIx items.size items.size hi - sIx items.size 0 lo)==items.size)=true:=by
  rw[hw.1,hw.2];simp
 show wpAny _ _ (if(((sIx items.size 0 lo:Nat):Int)==0&&(1:Int)==1&&(sIx items.size items.size hi - sIx items.size 0 lo)==items.size)=true then _ else _) _ _ s;rw[if_pos hyes];have hT:=ht.typeIs;unfold Builtin.Tuple.tupleIsExact;refine wpAny_bind (wpAny_bind (wpAny_typeOf hT (wpAny_pure ?_)));rw[if_pos (by decide)]
 first
  |exact wpAny_bind (wpAny_rule (wpAny_pure ⟨_,rfl,wpAny_pure h⟩))
  |exact wpAny_bind (wpAny_pure (wpAny_pure ⟨_,rfl,wpAny_pure h⟩))
end
end HT
namespace _L2
open PySem PySem.Spec PyProof.Rows
section
variable {X:Cx}
noncomputable def jEV (K:PySem.W.Frag):V->Option Int->Option Int->Hp->VK->Prop:=fun x lo hi H Q=>∃a xs,x=.ref a/\SqT K H a xs/\(HT.sIx xs.length 0 lo=0/\HT.sIx xs.length xs.length hi=xs.length)/\Q (.ref a) H
theorem jtq:SlR X (jEV X.K):=by
 intro pins s σ H x v vl vu lo hi sl Q I rx hs pl pu h;obtain⟨a,xs,rfl,hx,hw,q⟩:=h;cases rx;obtain⟨its,r,ht,hz⟩:=I.tuple hx;have hlen:its.toArray.size=xs.length:=by rw[j0h];exact r.length.symm
 refine⟨"tuple",_,PyProof.Rows.slot_tuple_getitem.lookup,ht.typeIs,?_⟩;exact HT.getItem_whole ht hs pl pu (by rw[hlen];exact hw) ⟨.ref a,H,I,rfl,q⟩
end
section
variable {X:Cx}
end
noncomputable def sTy:Bool->String
 |false=>"list"
 |true=>"tuple"
def sEx (b:Bool)(h:Heap)(l:Addr)(xs:Array Value):Prop:=∃n,h.get? l=some {cls:=.type (sTy b),data:=.seq xs n}
theorem sEx.at (x:sEx b h l xs):sAt b h l xs:=by
 obtain⟨n,e⟩:=x;cases b<;>exact⟨_,e,rfl,n,rfl⟩
theorem sEx.keep (x:sEx b h l xs)(k:∀o,h.get? l=some o->h'.get? l=some o):sEx b h' l xs:=
 let⟨n,e⟩:=x;⟨n,k _ e⟩
theorem jr:typeLookup (.type "list") "keys" =pure none:=am_miss_of_fast (by kernel_rfl)
theorem jpi:typeLookup (.type "tuple") "keys" =pure none:=am_miss_of_fast (by kernel_rfl)
section
variable {prog:Program} {w:World} {A:Around} {E:Value->Shared->Prop} {s:Shared} {b:Bool} {l:Addr} {xs:Array Value}
theorem jrg (e:s.heap.get? l=some {cls:=.type (sTy b),data:=.seq xs n})(hh:A.handled=none)
  (q:∀h' tk e,Heap.NewAttrErr s.heap h' e (.ref l) "keys"->E (.ref e) {s with heap:=h',toks:=tk}):wpAny (model prog w) A (Builtin.«object.__getattribute__» ⟨[.ref l,.str "keys" u],[]⟩) Q E s:=by
 obtain⟨hp,g,d,tk,os⟩:=s;cases b
 ·have hT:(⟨hp,g,d,tk,os⟩:Shared).TypeIs (.ref l) "list":=⟨_,e,rfl⟩;have f1:=jr;unfold Builtin.«object.__getattribute__»;wp_walk;exact wpAny_raiseAttrError hh q (attrMsg_fits (by decide +kernel) (by size_fits))
 ·have hT:(⟨hp,g,d,tk,os⟩:Shared).TypeIs (.ref l) "tuple":=⟨_,e,rfl⟩;have f1:=jpi;unfold Builtin.«object.__getattribute__»;wp_walk;exact wpAny_raiseAttrError hh q (attrMsg_fits (by decide +kernel) (by size_fits))
theorem jsY (hl:sEx b s.heap l xs)(hh:A.handled=none)
  (q:∀h' tk,(∀c o,s.heap.get? c=some o->h'.get? c=some o)->Q none {s with heap:=h',toks:=tk}):wpAny (model prog w) A (getAttr? (.ref l) "keys") Q E s:=by
 obtain⟨n,e⟩:=hl;obtain⟨hp,g,d,tk,os⟩:=s;have e1:=sub_AttributeError;cases b
 ·have t0:(⟨hp,g,d,tk,os⟩:Shared).TypeIs (.ref l) "list":=⟨_,e,rfl⟩;have t1:(⟨hp,g,d,tk+1,os⟩:Shared).TypeIs (.ref l) "list":=⟨_,e,rfl⟩;have e2:=F.slot_list_getattribute.lookup;have e3:=F.slot_list_getattribute.bind (.ref l);have e4:=am_list_getattr_none;unfold getAttr? getAttrBy? getAttrBy;wp_walk;refine codeAny_call_builtin F.slot_list_getattribute.plain am_entry_list_getattribute (F.slot_list_getattribute.check _ _ _ _ _ _ _ _ t1 (F.args_list_getattribute_2 _ _) (jrg (s:=⟨hp,g,d,tk+1,os⟩) (b:=false) e (by simp[hh]) fun h' tk' x ne=>?_));obtain⟨t',u',he⟩:=ne.there;change wpAny _ _ (getattributeRaised _ _ _ _ _ _ _) _ _ _;unfold getattributeRaised hookOrError hookBehind attributeErrorLeaves;wp_walk;exact q _ _ ne.keeps
 ·have t0:(⟨hp,g,d,tk,os⟩:Shared).TypeIs (.ref l) "tuple":=⟨_,e,rfl⟩;have t1:(⟨hp,g,d,tk+1,os⟩:Shared).TypeIs (.ref l) "tuple":=⟨_,e,rfl⟩;have e2:=F.slot_tuple_getattribute.lookup;have e3:=F.slot_tuple_getattribute.bind (.ref l);have e4:=am_tuple_getattr_none;unfold getAttr? getAttrBy? getAttrBy;wp_walk;refine codeAny_call_builtin F.slot_tuple_getattribute.plain am_entry_tuple_getattribute (F.slot_tuple_getattribute.check _ _ _ _ _ _ _ _ t1 (F.args_tuple_getattribute_2 _ _) (jrg (s:=⟨hp,g,d,tk+1,os⟩) (b:=true) e (by simp[hh]) fun h' tk' x ne=>?_));obtain⟨t',u',he⟩:=ne.there;change wpAny _ _ (getattributeRaised _ _ _ _ _ _ _) _ _ _;unfold getattributeRaised hookOrError hookBehind attributeErrorLeaves;wp_walk;exact q _ _ ne.keeps
end
def jtB (h:Heap)(T:Addr)(x y:Value):Prop:=∃n,h.get? T=some {cls:=.type "tuple",data:=.seq #[x,y] n}
structure LayK (P:Program) (W:World) (b:Bool) (l:Addr) (its:List Value) where
 pre:Heap->Prop
 St:Addr->Nat->Heap->Prop
 keep:∀h h',pre h->(∀c o,h.get? c=some o->h'.get? c=some o)->pre h'
 zero:∀D h,h.DictOf (jal P W) D []->h.get? D=some {cls:=.type "dict",data:=.dict #[]}->pre h->St D 0 h
 stay:∀D it j h h',D≠it->iAt b h it l j->St D j h->(∀c o,c≠it->h.get? c=some o->h'.get? c=some o)->St D j h'
 pair:∀D j v h,its[j]?=some v->St D j h->∃T x y,v=.ref T/\jtB h T x y
 set:∀(A:Around) (E:Value->Shared->Prop) D j T x y (t:Shared) (Q:Unit->Shared->Prop),A.units<cLine->its[j]?=some (.ref T)->jtB t.heap T x y->St D j t.heap->(∀g tk,Heap.SameBut D t.heap g->St D (j+1) g->Q () {t with heap:=g,toks:=tk})->wpAny (model P W) A (dictSet D x y) Q E t
section
variable {P:Program} {W:World} {B:Around} {E:Value->Shared->Prop} {s:Shared} {l:Addr} {its:List Value} {b:Bool}
theorem jpO (K:LayK P W b l its){D it:Addr}(hh:B.handled=none)(hu:B.units+1<cLine)(hD:D≠it)(hDl:D≠l)(hl:l≠it)(left:Nat) :
  ∀(j:Nat) (z:Int) (t:Shared),its.length - j=left->j<=its.length->iAt b t.heap it l j->sAt b t.heap l its.toArray->K.St D j t.heap ->
   (∀g tk,(∀c o,c≠D->c≠it->t.heap.get? c=some o->g.get? c=some o)->K.St D its.length g->R (.ok (.ret .none)) {t with heap:=g,toks:=tk}) ->
   codeAny (model P W) B (.builtin "dict.update.loop" ⟨[.ref D,.ref it,rawInt z,.none],[]⟩) R t:=by
 have Wk:=jst (P:=P) (W:=W) (B:=B.in1) (b:=b) (by simp[hh]) it l hl its.toArray;have nw:∀{c:Addr},c≠it->c∉[it]:=fun h=>by simpa using h
 induction left with
 |zero=>
  intro j z t he hj hi hs lies fin;obtain rfl:j=its.length:=by omega
  refine codeAny_builtin jgf ?_;rw[j04 jbk _];refine(wpAny_bind (Wk.done t _ _ ⟨by simpa using hi,hs⟩ fun g tk kp=>?_):wpAny _ B.in1 (pyNext (.ref it) >>=_) _ _ t);change wpAny _ B.in1 (Builtin.Dict.addKeywords D [] >>=_) _ _ _;exact wpAny_bind (wpAny_pure (wpAny_pure (fin g tk (fun c o _ h e=>kp c o (nw h) e) (K.stay D it _ _ _ hD hi lies fun c o h e=>kp c o (nw h) e))))
 |succ left ih=>
  intro j z t he hj hi hs lies fin;refine codeAny_builtin jgf ?_;rw[j04 jbk _];refine(wpAny_bind (Wk.item j t _ _ (by simp;omega) ⟨hi,hs⟩ fun v g1 tk1 hv here1 kp1=>?_):wpAny _ B.in1 (pyNext (.ref it) >>=_) _ _ t);have hv':its[j]?=some v:=by simpa using hv
  have lies1:=K.stay D it _ _ g1 hD hi lies fun c o h e=>kp1 c o (nw h) e;obtain⟨T,x,y,rfl,n,hT⟩:=K.pair D j v g1 hv' lies1;change wpAny _ B.in1 (holding [Value.ref T] _ >>=_) _ _ _;refine wpAny_bind (wpAny_holding ?_);have prs:wpAny (model P W) B.in1 (Builtin.Dict.pairItems (.ref T)) (fun r s'=>r=[x,y]/\s'={t with heap:=g1,toks:=tk1}) (fun _ _=>False) {t with heap:=g1,toks:=tk1}:=by
   unfold Builtin.Dict.pairItems;refine wpAny_bind (wpAny_typeOf (T:="tuple") ⟨_,hT,rfl⟩ ?_);rw[if_pos (by decide)];exact wpAny_bind (wpAny_seqItems hT rfl (wpAny_pure ⟨rfl,rfl⟩))
  refine wpAny_bind (wpAny_tryCatch (wpAny_mono prs (fun r s' hr=>?_) fun _ _ h=>h.elim));obtain⟨rfl,rfl⟩:=hr;change wpAny _ B.in1 (holding [x,y] (dictSet D x y)) _ _ _;refine wpAny_holding (K.set _ _ D j T x y _ _ (by simp;omega) hv' ⟨n,hT⟩ lies1 fun g2 tk2 only lies2=>?_);have h2:=Wk.frame _ _ g2 here1 fun c hc o e=>(only.2 c fun q=>by
   simp only[j0q,j1A,or_false]at hc;rcases hc with rfl|rfl
   ·exact hD q.symm
   ·exact hDl q.symm).trans e
  exact wpAny_pure ⟨plainId_quiet jbk _,ih (j+1) (z+1) _ (by omega) (by omega) h2.1 h2.2 lies2 fun g tk kp lies4=>fin g tk (fun c o nd nw' e=>kp c o nd nw' ((only.2 c nd).trans (kp1 c o (nw nw') e))) lies4⟩
theorem jna (K:LayK P W b l its)(hh:B.handled=none)(hu:B.units+12<cLine)(hl:sEx b s.heap l its.toArray)(hp:K.pre s.heap)
  (k:∀(g:Heap) (tk:Nat),K.St s.heap.objs.size its.length g->(∀c o,s.heap.get? c=some o->g.get? c=some o)->Q (.ref s.heap.objs.size) {s with heap:=g,toks:=tk}) :
  wpAny (model P W) B (call (.type "dict") [.ref l]) Q E s:=by
 refine callType_codes (Q₁:=fun x s1=>x=.ref s.heap.objs.size/\s1={s with heap:=s.heap.push {cls:=.type "dict",data:=.dict #[]}}) F.kt_called_dict (F.kt_typeCall_dict_1 _) F.entry_dict_init (kt_code_dict_new _ ⟨rfl,rfl⟩) ?_;rintro x s1' ⟨rfl,rfl⟩;have hnew:(s.heap.push {cls:=.type "dict",data:=.dict #[]}).DictOf (jal P W) s.heap.objs.size []:=Heap.DictOf.new s.heap;have hobj:(s.heap.push {cls:=.type "dict",data:=.dict #[]}).get? s.heap.objs.size=some {cls:=.type "dict",data:=.dict #[]}:=j0f _ rfl;have up:∀c o,s.heap.get? c=some o->(s.heap.push {cls:=.type "dict",data:=.dict #[]}).get? c=some o:=fun c o e=>j0b _ e;have sz:(s.heap.push {cls:=.type "dict",data:=.dict #[]}).objs.size=s.heap.objs.size+1:=j09 _ _;refine⟨hnew.typeIs,F.args_dict_init_2 _ _,?_⟩;generalize s.heap.push {cls:=.type "dict",data:=.dict #[]}=hA at hnew up hobj sz;have ne:∀{c:Addr} {o:Obj},s.heap.get? c=some o->c≠s.heap.objs.size:=fun e=>j0k (j0i e);have hlA:=hl.keep fun o e=>up _ _ e;unfold Builtin.«dict.__init__»;refine wpAny_bind ?_;unfold Builtin.Dict.selfAndRest;refine wpAny_bind (wpAny_notOrdered_dict hnew.typeIs (wpAny_pure ?_));change wpAny _ _ (Builtin.Dict.updateFrom "dict.__init__" s.heap.objs.size (.ref l) [] .none) _ _ _;unfold Builtin.Dict.updateFrom;obtain⟨o1,e1⟩:=hl.at.obj;have ty:Shared.TypeIs {s with heap:=hA} (.ref l) (sTy b):=let⟨n,e⟩:=hlA;⟨_,e,rfl⟩;refine wpAny_bind (wpAny_typeOf ty ?_);rw[if_pos (by cases b<;>decide)];refine wpAny_bind (jsY (s:={s with heap:=hA}) hlA (by simp[hh]) fun hB tk kB=>?_);rw[if_pos (show(none:Option Value).isNone=true from rfl)];have upB:∀c o,s.heap.get? c=some o->hB.get? c=some o:=fun c o e=>kB _ _ (up _ _ e);refine wpAny_bind (wpAny_rule (wpAny_bind (joW (s:={s with heap:=hB,toks:=tk}) (hlA.keep fun o e=>kB _ _ e).at ?_)));have hlt:l<s.heap.objs.size:=j0i e1;have hsB:s.heap.objs.size<hB.objs.size:=j0i (kB _ _ hobj);have upC:∀c o,hB.get? c=some o->(hB.push (jgT b l)).get? c=some o:=fun c o e=>j0b _ e;refine wpAny_pure ⟨plainId_quiet jbk _,jpO (B:=B.in1) K (by simp[hh]) (by simp;omega) (j0k hsB) (ne e1).symm (j0k (Nat.lt_trans hlt hsB)) its.length 0 0 _ rfl (j0J _) (jhu (j0f _ rfl)) (sAt.keep hl.at fun o e=>upC _ _ (upB _ _ e)) (K.zero _ _ (hnew.at fun o e=>upC _ _ (kB _ _ e)) (upC _ _ (kB _ _ hobj)) (K.keep _ _ hp fun c o e=>upC _ _ (upB _ _ e))) fun g tk' kp q=>⟨rfl,k g tk' q fun c o e=>kp c o (ne e) (j0k (Nat.lt_trans (j0i e) hsB)) (upC _ _ (upB _ _ e))⟩⟩
theorem jtB.keep (p:jtB h T x y)(k:∀o,(∃it n,o.data=.seq it n)->h.get? T=some o->h'.get? T=some o):jtB h' T x y:=
 let⟨n,e⟩:=p;⟨n,k _ ⟨_,_,rfl⟩ e⟩
theorem jt6 (hi:iAt b h it l j)(e:h.get? c=some o)(d:∃it n,o.data=.seq it n):c≠it:=fun z=>by
 subst z;obtain⟨y,q,e1,e2⟩:=jpj hi;obtain⟨_,_,d⟩:=d;rw[e]at e1;cases e1;rw[d]at e2;cases e2
theorem juX {h:Heap}{D c:Addr}{o o':Obj}{es:Array DictEntry}{ep:Nat}(hD:h.get? D=some o')(hd:o'.data=.dict es ep)(e:h.get? c=some o)(d:∃it n,o.data=.seq it n):c≠D:=fun z=>by
 subst z;obtain⟨_,_,d⟩:=d;rw[e]at hD;cases hD;rw[d]at hd;cases hd
theorem jty {α β:Type}{ws:List (α×β)}{j:Nat}{k:α}{y:β}(hn:(ws.map (·.1)).Nodup)(h:ws[j]?=some (k,y)):k∉(ws.take j).map (·.1):=fun hm=>by
 obtain⟨⟨k',y'⟩,hp,e⟩:=j0s.mp hm;obtain⟨i,hi⟩:=List.mem_iff_getElem?.mp hp;rw[List.getElem?_take]at hi;split at hi
 ·rename_i hlt;have h1:(ws.map (·.1))[i]?=some k:=by rw[j0R,hi];exact congrArg some e
  have h2:(ws.map (·.1))[j]?=some k:=by rw[j0R,h];rfl
  have:=(List.getElem?_inj (i:=i) (j:=j) (j0g.mp h1).1 hn).mp (h1.trans h2.symm);omega
 ·cases hi
noncomputable def jE6 (its:List Value)(ws:List (Key×Value))(hl:its.length=ws.length)(hn:(ws.map (·.1)).Nodup)(hz:ws.length<=1000):LayK P W b l its where
 pre:=fun h=>∀(i:Nat) (k:Key) (y:Value),ws[i]?=some (k,y)->∃T x,its[i]?=some (.ref T)/\(jal P W).is k x=true/\jtB h T x y
 St:=fun D j h=>h.DictOf (jal P W) D (ws.take j)/\∀(i:Nat) (k:Key) (y:Value),ws[i]?=some (k,y)->∃T x,its[i]?=some (.ref T)/\(jal P W).is k x=true/\jtB h T x y
 keep:=fun h h' q k i a y e=>let⟨T,x,h1,h2,h3⟩:=q i a y e;⟨T,x,h1,h2,h3.keep fun o _=>k T o⟩
 zero:=fun D h hd _ q=>⟨hd,q⟩
 stay:=fun D it j h h' hD hi ⟨q,r⟩ k=>⟨q.at fun o e=>k D o hD e,fun i a y e=>let⟨T,x,h1,h2,h3⟩:=r i a y e;⟨T,x,h1,h2,h3.keep fun o d e=>k T o (jt6 hi e d) e⟩⟩
 pair:=fun D j v h hv ⟨q,r⟩=>by
  have hj:j<ws.length:=by rw[<- hl];exact(j0g.mp hv).1
  obtain⟨T,x,h1,h2,h3⟩:=r j ws[j].1 ws[j].2 (j0N hj);rw[hv]at h1;cases h1;exact⟨T,x,_,rfl,h3⟩
 set:=fun A E D j T x y t Q hu hv hp ⟨q,r⟩ k=>by
  have hj:j<ws.length:=by rw[<- hl];exact(j0g.mp hv).1
  have hw:ws[j]?=some (ws[j].1,ws[j].2):=j0N hj;obtain⟨T',x',h1,h2,n',h3⟩:=r j _ _ hw;rw[hv]at h1;cases h1;obtain⟨n,hp⟩:=hp;rw[h3]at hp;simp only[j0w,Obj.mk.injEq,Data.seq.injEq,Array.mk.injEq,List.cons.injEq,true_and,and_true]at hp;obtain⟨⟨rfl,rfl⟩,_⟩:=hp;refine wpAny_dictSet_pairs (knd:=jal P W) h2 q (fun g hd sb=>k g _ sb ⟨?_,fun i a y e=>?_⟩) (j0A (by rw[j0Q];omega:_<=1000) (by decide))
  ·rw[jjJ (jty hn hw)]at hd;rw[jh3 hw];exact hd
  ·obtain⟨T,x,h1,h2,h3⟩:=r i a y e;obtain⟨o,es,ep,e1,_,e2,_⟩:=q;exact⟨T,x,h1,h2,h3.keep fun o d e=>(sb.2 T (juX e1 e2 e d)).trans e⟩
end
section
variable {X:Cx}
noncomputable def jA4:List V->Hp->VK->Prop:=fun vs H Q=>∃(p:Addr) (xs:List V),vs=[.ref p]/\(H p=some (.lst xs)∨H p=some (.tup xs)) /\
 ∃kus:List (Key×V),kus.length<=1000/\(kus.map (·.1)).Nodup/\Paired (fun ku x=>∃T,x=V.ref T/\H T=some (.tup [kV ku.1,ku.2])) kus xs/\∀l,H l=none->Q (.ref l) (upd H l (.dK kus))
theorem jqh (hc:X.calm=true)(hu:X.A.units+16<cLine):jbe X (.type "dict") jA4:=by
 intro pins s σ H xs us Q I r h;obtain⟨p,ys,rfl,hq,ha⟩:=h;obtain⟨u,rfl,rx⟩:=jiZ r;cases rx;have two:∀{T:Addr} {x y:V},H T=some (.tup [x,y])->∃a c,jaB x a/\jaB y c/\jtB s.heap T a c:=fun e=>by
  obtain⟨_,its,n,rv,e1⟩:=I.hok _ _ e;obtain⟨a,c,rfl,r1,r2⟩:=rv.two;exact⟨a,c,r1,r2,n,e1⟩
 have big:=I.big;have fin:∀(b:Bool) (its:List Value),jaI ys its->sEx b s.heap p its.toArray->wpAny (model X.prog X.w) X.A (call (.type "dict") [.ref p]) (EP X pins σ Q) X.xe s:=fun b its rv pl=>by
  obtain⟨kus,hz,hn,hp,q⟩:=ha
  ·have ex:∃ws:List (Key×Value),KV kus ws/\∀(i:Nat) (k:Key) (y:Value),ws[i]?=some (k,y)->∃T x,its[i]?=some (.ref T)/\(jal X.prog X.w).is k x=true/\jtB s.heap T x y:=by
    clear pl q hz hn hq
    induction hp generalizing its with
    |nil=>exact⟨[],.nil,fun i k y e=>by simp at e⟩
    | @cons ku x kus xs h t ih=>
     cases rv with
     | @cons _ u _ us ru rus=>
      obtain⟨ws,h1,h2⟩:=ih us rus;obtain⟨T,rfl,hT⟩:=h;obtain⟨a,c,r1,r2,pr⟩:=two hT;cases ru;have his:(jal X.prog X.w).is ku.1 a=true:=by
       have:ItemsAre (jal X.prog X.w) [ku.1] [a]:=ji (.cons r1 .nil)
       cases this with
       |cons h _=>exact h
      refine⟨(ku.1,c)::ws,.cons ⟨rfl,r2⟩ h1,fun i k y e=>?_⟩
      cases i with
      |zero=>
       cases e;exact⟨T,a,rfl,his,pr⟩
      |succ i=>exact h2 i k y (by simpa using e)
   obtain⟨ws,kv,hws⟩:=ex;have e1:ws.map (·.1)=kus.map (·.1):=by
    clear hws q hp hn hz;unfold KV at kv
    induction kv with
    |nil=>rfl
    |cons h t ih=>rw[j0c,j0c,ih,h.1]
   have l1:ws.length=kus.length:=by simpa using congrArg List.length e1
   have l2:kus.length=its.length:=hp.length.trans rv.length;refine jna (jE6 its ws (by omega) (by rw[e1];exact hn) (by omega)) (I.ok.hd hc) (by omega) pl hws fun g tk hS kp=>?_;have hd:=hS.1;rw[<- l2,<- l1,List.take_length]at hd;refine⟨.ref s.heap.objs.size,_,I.laid (t':=tk) (o:=.dK kus) kp (j0l _) ⟨j0A hz (by decide),?_,ws,kv,hd⟩,rfl,q _ I.fresh⟩;simpa using Nat.ne_of_gt big
 rcases hq with hq|hq
 ·obtain⟨_,its,n,rv,e⟩:=I.hok _ _ hq;exact fin false its rv ⟨n,e⟩
 ·obtain⟨_,its,n,rv,e⟩:=I.hok _ _ hq;exact fin true its rv ⟨n,e⟩
end
end _L2
namespace _L2
section
open PyProof.Rows PySem.W
noncomputable def Ans {α:Type}(n:Nat)(c:Nat->Nat->Bool)(Z:α->Prop):KasT α->Prop
 |.ret a=>Z a
 |.ask i j k=>i<n/\j<n/\Ans n c Z (k (c i j))
theorem Ans.bind:∀{t:KasT α},Ans n c (fun a=>Ans n c Z (f a)) t->Ans n c Z (t.bind f)
 |.ret _,h=>h
 |.ask _ _ _,h=>⟨h.1,h.2.1,Ans.bind h.2.2⟩
theorem Ans.mono {α:Type}{n:Nat}{c:Nat->Nat->Bool}{Z Y:α->Prop}(hz:∀a,Z a->Y a):∀{t:KasT α},Ans n c Z t->Ans n c Y t
 |.ret _,h=>hz _ h
 |.ask _ _ _,h=>⟨h.1,h.2.1,Ans.mono hz h.2.2⟩
structure Strict (n:Nat) (c:Nat->Nat->Bool):Prop where
 tot:∀i j,i<n->j<n->i≠j->c i j=false->c j i=true
 asy:∀i j,i<n->j<n->c i j=true->c j i=false
 tra:∀i j k,i<n->j<n->k<n->c i j=true->c j k=true->c i k=true
structure Pm (n:Nat) (p:Array Nat):Prop where
 size:p.size=n
 perm:p.Perm (List.range n).toArray
theorem Pm.lt (h:Pm n p)(h0:0<n)(i:Nat):p.getD i 0<n:=by
 by_cases hi:i<p.size
 ·have e:p.getD i 0=p[i]:=by simp[Array.getD,hi]
  rw[e];have hm:p[i]∈(List.range n).toArray:=h.perm.mem_iff.mp (Array.getElem_mem hi);simpa using hm
 ·have e:p.getD i 0=0:=by simp[Array.getD,hi]
  omega
theorem Pm.ne (h:Pm n p){i j:Nat}(hi:i<n)(hj:j<n)(hij:i≠j):p.getD i 0≠p.getD j 0:=by
 have hs:=h.size;have ei:p.getD i 0=p[i]'(by omega):=by simp[Array.getD,hs,hi]
 have ej:p.getD j 0=p[j]'(by omega):=by simp[Array.getD,hs,hj]
 rw[ei,ej];have nd:p.toList.Nodup:=by
  have hp:p.toList.Perm (List.range n):=by simpa using h.perm.toList
  exact hp.nodup_iff.mpr List.nodup_range
 intro e;apply hij;have:=(List.getElem_inj (h₀:=by simpa[hs]using hi) (h₁:=by simpa[hs]using hj) nd).mp (by simpa using e);exact this
theorem Pm.of (h:Pm n p)(hq:q.Perm p):Pm n q:=⟨by rw[hq.size_eq];exact h.size,hq.trans h.perm⟩
def Up (c:Nat->Nat->Bool)(p:Array Nat)(b:Nat):Prop:=∀x y,x<y->y<b->c (p.getD x 0) (p.getD y 0)=true
def Dn (c:Nat->Nat->Bool)(p:Array Nat)(b:Nat):Prop:=∀x y,x<y->y<b->c (p.getD y 0) (p.getD x 0)=true
section
variable {n:Nat} {c:Nat->Nat->Bool}
theorem Up.more (S:Strict n c)(h0:0<n)(P:Pm n p){m:Nat}(h1:1<=m)(u:Up c p m)(e:c (p.getD (m - 1) 0) (p.getD m 0)=true):Up c p (m+1):=by
 intro x y hx hy;rcases Nat.lt_or_ge y m with h|h
 ·exact u x y hx h
 ·have:y=m:=by omega
  subst this;by_cases hxm:x=y - 1
  ·rw[hxm];exact e
  ·exact S.tra _ _ _ (P.lt h0 _) (P.lt h0 _) (P.lt h0 _) (u x (y - 1) (by omega) (by omega)) e
theorem Dn.more (S:Strict n c)(h0:0<n)(P:Pm n p){m:Nat}(h1:1<=m)(u:Dn c p m)(e:c (p.getD m 0) (p.getD (m - 1) 0)=true):Dn c p (m+1):=by
 intro x y hx hy;rcases Nat.lt_or_ge y m with h|h
 ·exact u x y hx h
 ·have:y=m:=by omega
  subst this;by_cases hxm:x=y - 1
  ·rw[hxm];exact e
  ·exact S.tra _ _ _ (P.lt h0 _) (P.lt h0 _) (P.lt h0 _) e (u x (y - 1) (by omega) (by omega))
theorem jni (S:Strict n c)(h0:0<n){p:Array Nat}(P:Pm n p):∀(f m:Nat),1<=m->m+f=n->Up c p m->Ans n c (fun k=>m<=k/\k<=n/\Up c p k/\(k<n->c (p.getD k 0) (p.getD (k - 1) 0)=true)) (kas_asc p f m)
 |0,m,h1,hm,u=>⟨j0l _,by omega,u,fun h=>by omega⟩
 |f+1,m,h1,hm,u=>by
  refine⟨P.lt h0 _,P.lt h0 _,?_⟩
  cases e:c (p.getD m 0) (p.getD (m - 1) 0)with
  |true=>
   dsimp only;rw[if_pos rfl];exact⟨j0l _,by omega,u,fun _=>e⟩
  |false=>
   dsimp only;rw[if_neg (by simp)];have e':=S.tot _ _ (P.lt h0 _) (P.lt h0 _) (P.ne (i:=m) (j:=m - 1) (by omega) (by omega) (by omega)) e;exact Ans.mono (fun k ⟨a1,a2,a3,a4⟩=>⟨by omega,a2,a3,a4⟩) (jni S h0 P f (m+1) (by omega) (by omega) (u.more S h0 P h1 e'))
theorem jot (S:Strict n c)(h0:0<n){p:Array Nat}(P:Pm n p):∀(f m:Nat),1<=m->m+f=n->Dn c p m->Ans n c (fun r=>r.1=p/\r.2.2=0/\m<=r.2.1/\r.2.1<=n/\Dn c p r.2.1) (kas_desc f p m 0)
 |0,m,h1,hm,u=>⟨rfl,rfl,j0l _,by show m<=n;omega,u⟩
 |f+1,m,h1,hm,u=>by
  refine⟨P.lt h0 _,P.lt h0 _,?_⟩
  cases e:c (p.getD m 0) (p.getD (m - 1) 0)with
  |true=>
   dsimp only;rw[if_pos rfl,if_neg (by omega)];exact Ans.mono (fun k ⟨a1,a2,a3,a4⟩=>⟨a1,a2,by omega,a4⟩) (jot S h0 P f (m+1) (by omega) (by omega) (u.more S h0 P h1 e))
  |false=>
   dsimp only;rw[if_neg (by simp)];have e':=S.tot _ _ (P.lt h0 _) (P.lt h0 _) (P.ne (i:=m) (j:=m - 1) (by omega) (by omega) (by omega)) e;refine⟨P.lt h0 _,P.lt h0 _,?_⟩;rw[e'];dsimp only;rw[if_pos rfl];exact⟨rfl,rfl,j0l _,by show m<=n;omega,u⟩
theorem jq0 (hm:m<=p.size)(hk:k<m):(kas_rev p 0 m).getD k 0=p.getD (m - 1 - k) 0:=by
 have e:=getElem?_mirror_all (xs:=p) (i:=0) (j:=m) hm k;rw[if_pos ⟨j0J _,hk⟩]at e;show(mirror p 0 m ((m - 0) / 2)).getD k 0=_;rw[j03,j03,e];congr 2;omega
theorem jqq (S:Strict n c)(h2:2<=n){p:Array Nat}(P:Pm n p):Ans n c (fun r=>1<=r.1/\r.1<=n/\Pm n r.2/\Up c r.2 r.1) (kas_count n p):=by
 have h0:0<n:=by omega
 refine Ans.bind (Ans.mono (fun k ⟨a1,a2,a3,a4⟩=>?_) (jni S h0 P (n - 1) 1 (j0l _) (by omega) (fun x y hx hy=>by omega)))
 skip
 by_cases hk:k=n
 ·rw[if_pos (by simpa using hk)];exact⟨a1,a2,P,a3⟩
 ·rw[if_neg (by simpa using hk)];by_cases h1:k > 1
  ·rw[if_pos h1];refine⟨P.lt h0 _,P.lt h0 _,?_⟩;rw[a3 0 (k - 1) (by omega) (by omega)];dsimp only;rw[if_pos rfl];exact⟨a1,a2,P,a3⟩
  ·rw[if_neg h1];have hk1:k=1:=by omega
   subst hk1;have hd:Dn c p 2:=fun x y hx hy=>by
    have:x=0:=by omega
    have:y=1:=by omega
    subst x;subst y;exact a4 (by omega)
   refine Ans.bind (Ans.mono (fun r ⟨b1,b2,b3,b4,b5⟩=>?_) (jot S h0 P (n - (1+1)) (1+1) (by omega) (by omega) hd))
   skip
   rw[if_neg (by omega),b1];generalize r.2.1=m at b3 b4 b5;have hsz:=P.size;have P':Pm n (kas_rev p 0 m):=P.of (mirror_perm _ _ _ _);have U:Up c (kas_rev p 0 m) m:=fun x y hx hy=>by
    rw[jq0 (by omega) (by omega),jq0 (by omega) hy];exact b5 _ _ (by omega) (by omega)
   exact Ans.bind (Ans.mono (fun k' ⟨d1,d2,d3,_⟩=>⟨by omega,d2,P',d3⟩) (jni S h0 P' (n - m) m (by omega) (by omega) U))
theorem jiC (S:Strict n c)(h0:0<n){p:Array Nat}(P:Pm n p){k:Nat}(hk:k<n)(U:Up c p k):∀(f l r:Nat),r<=k->l<=r->r<=l+f ->
  (∀x,x<l->c (p.getD x 0) (p.getD k 0)=true)->(∀x,r<=x->x<k->c (p.getD k 0) (p.getD x 0)=true) ->
  Ans n c (fun l=>l<=k/\(∀x,x<l->c (p.getD x 0) (p.getD k 0)=true)/\∀x,l<=x->x<k->c (p.getD k 0) (p.getD x 0)=true) (kas_place p k f l r)
 |0,l,r,h1,h2,h3,a,b=>⟨by omega,a,fun x hx=>b x (by omega)⟩
 |f+1,l,r,h1,h2,h3,a,b=>by
  unfold kas_place;by_cases hlr:l ≥ r
  ·rw[if_pos hlr];exact⟨by omega,a,fun x hx=>b x (by omega)⟩
  ·rw[if_neg hlr];refine⟨P.lt h0 _,P.lt h0 _,?_⟩;have hm1:l<=(l+r) / 2:=by omega
   have hm2:(l+r) / 2<r:=by omega
   generalize (l+r) / 2=m at hm1 hm2
   cases e:c (p.getD k 0) (p.getD m 0)with
   |true=>
    dsimp only;rw[if_pos rfl];refine jiC S h0 P hk U f l m (by omega) (by omega) (by omega) a fun x hx hxk=>?_;by_cases hxm:x=m
    ·rw[hxm];exact e
    ·exact S.tra _ _ _ (P.lt h0 _) (P.lt h0 _) (P.lt h0 _) e (U m x (by omega) hxk)
   |false=>
    dsimp only;rw[if_neg (by simp)];have e':=S.tot _ _ (P.lt h0 _) (P.lt h0 _) (P.ne (i:=k) (j:=m) hk (by omega) (by omega)) e;refine jiC S h0 P hk U f (m+1) r (by omega) (by omega) (by omega) (fun x hx=>?_) b;by_cases hxm:x=m
    ·rw[hxm];exact e'
    ·exact S.tra _ _ _ (P.lt h0 _) (P.lt h0 _) (P.lt h0 _) (U x m (by omega) (by omega)) e'
theorem jqi (S:Strict n c)(h0:0<n):∀(f:Nat) (p:Array Nat) (k:Nat),Pm n p->k+f=n->Up c p k->Ans n c (fun q=>Pm n q/\Up c q n) (kas_bin f p k)
 |0,p,k,P,hk,U=>by
  have:k=n:=by omega
  subst this;exact⟨P,U⟩
 |f+1,p,k,P,hk,U=>by
  unfold kas_bin;refine Ans.bind (Ans.mono (fun l ⟨a1,a2,a3⟩=>?_) (jiC S h0 P (k:=k) (by omega) U k 0 k (j0l _) (j0J _) (by omega) (fun x hx=>by omega) (fun x hx hxk=>by omega)));have hsz:=P.size;have P':Pm n (bubble p k (k - l)):=P.of (bubble_perm _ _ _);refine jqi S h0 f _ (k+1) P' (by omega) ?_;have g:∀x,(bubble p k (k - l)).getD x 0=if x=l then p.getD k 0 else if l<x/\x<=k then p.getD (x - 1) 0 else p.getD x 0:=fun x=>by
   have e:=getElem?_bubble (xs:=p) (src:=k) (by omega) (k - l) (by omega) x;have el:k - (k - l)=l:=by omega
   rw[el]at e;rw[j03,e];split
   ·rw[j03]
   ·split<;>rw[j03]
  intro x y hx hy;rw[g x,g y];by_cases h1:y=l
  ·rw[if_pos h1,if_neg (by omega),if_neg (by omega)];exact a2 x (by omega)
  ·rw[if_neg h1];by_cases h2:l<y/\y<=k
   ·rw[if_pos h2];by_cases h3:x=l
    ·rw[if_pos h3];exact a3 (y - 1) (by omega) (by omega)
    ·rw[if_neg h3];by_cases h4:l<x/\x<=k
     ·rw[if_pos h4];exact U _ _ (by omega) (by omega)
     ·rw[if_neg h4];exact U _ _ (by omega) (by omega)
   ·rw[if_neg h2,if_neg (by omega),if_neg (by omega)];exact U _ _ hx (by omega)
theorem joQ (S:Strict n c)(h2:2<=n):Ans n c (fun q=>Pm n q/\Up c q n) (kas_sort n):=by
 have P:Pm n (List.toArray (List.range n)):=⟨by simp,Array.Perm.refl _⟩;refine Ans.bind (Ans.mono (fun r ⟨a1,a2,a3,a4⟩=>?_) (jqq S h2 P));by_cases h:r.1<n
 ·rw[if_pos h];have e:max r.1 1=r.1:=by omega
  rw[e];exact jqi S (by omega) _ _ _ a3 (by omega) a4
 ·rw[if_neg h];have:r.1=n:=by omega
  rw[this]at a4;exact⟨a3,a4⟩
end
end
end _L2
namespace _L2
open PySem
def jpJ (h:Heap)(d:Addr)(es:Array DictEntry)(ep:Nat):Prop:=∃o,h.get? d=some o/\o.ExactDict/\o.data=.dict es ep
theorem jpJ.to (m:jpJ h d es ep)(k:∀o,h.get? d=some o->h'.get? d=some o):jpJ h' d es ep:=m.elim fun o z=>⟨o,k o z.1,z.2⟩
theorem jpJ.lt (m:jpJ h d es ep):d<h.objs.size:=m.elim fun _ z=>j0i z.1
theorem jpJ.ty {s:Shared}{d:Addr}{es:Array DictEntry}{ep:Nat}(m:jpJ s.heap d es ep):s.TypeIs (.ref d) "dict":=m.elim fun o z=>⟨o,z.1,z.2.1.1⟩
section
variable {prog:Program} {w:World} {A:Around} {E:Value->Shared->Prop} {s:Shared} {d it:Addr} {es:Array DictEntry} {ep i:Nat}
theorem jzk {Q:Value->Shared->Prop}(lo:(d==sysModules)=false)(m:jpJ s.heap d es ep)
  (q:Q (.ref s.heap.objs.size) {s with heap:=s.heap.push {cls:=.type "dict_keyiterator",data:=.fields #[.ref d,.int 0 0,.int es.size 0,.int ep 0]}}):wpAny (model prog w) A (pyIter (.ref d)) Q E s:=by
 have ty:=m.ty;obtain⟨o,g,xd,dat⟩:=m;have main:∀{A:Around} {Q:Fin->Shared->Prop},Q (.done (.ret (.ref s.heap.objs.size))) {s with heap:=s.heap.push {cls:=.type "dict_keyiterator",data:=.fields #[.ref d,.int 0 0,.int es.size 0,.int ep 0]}} ->
   wpAny (model prog w) A (Builtin.«dict.__iter__» ⟨[.ref d],[]⟩) Q E s:=fun {A Q} hq=>by
  unfold Builtin.«dict.__iter__» Builtin.Dict.dictSlotNone Builtin.Dict.showsAll;have lo':¬ (d==sysModules)=true:=by rw[lo];exact j0e
  wp_walk using wpAny_notOrdered_dict ty,wpAny_dictEntries g dat,wpAny_dictEpoch g dat;exact hq
 exact wpAny_pyIter_slot ty F.slot_dict_iter (wpAny_call_entry F.slot_dict_iter ty F.entry_dict_iter (main ⟨_,rfl,"dict_keyiterator",_,⟨_,j0f _ rfl,rfl⟩,F.slot_dict_keyiterator_next.lookup,q⟩) (F.args_dict_iter_1 _))
end
section
variable {prog:Program} {w:World} {A:Around} {E:Value->Shared->Prop} {s:Shared} {d it:Addr} {es:Array DictEntry} {ep i:Nat}
theorem joB:Builtin.Dict_items.ownsTuple "dict_keyiterator" =false:=by decide
theorem jvt (ho:s.heap.get? it=some o)(hd:o.data=.fields fs)
  (q:Q () {s with heap:=s.heap.update it (Obj.mapFields (·.setIfInBounds j u))}) (hk:k=j) (hv:v=u) (hj:j<fs.size):wpAny M A (setField (.ref it) k v) Q E s:=by
 subst hk;subst hv;exact wpAny_setField ho hd hj q
theorem jzo {h:Heap} {ob:Obj} {n:Nat} (gi:h.get? it=some ob) (ci:ob.cls=.type "dict_keyiterator") (di:ob.data=.fields #[.ref d,.int (i:Int) 0,.int (n:Int) 0,.int (ep:Int) 0]) :
  (h.update it (Obj.mapFields (·.setIfInBounds 1 (rawInt ((i:Int)+1))))).IsKeyIter it d (i+1) n ep:=by
 have dn:=Obj.data_mapFields di (·.setIfInBounds 1 (rawInt ((i:Int)+1)));refine⟨_,Heap.get?_update_self (Obj.mapFields (·.setIfInBounds 1 (rawInt ((i:Int)+1)))) gi (Obj.isFreed_of_fields dn),?_,?_⟩
 ·rw[Obj.cls_mapFields,ci]
 ·rw[dn];simp[rawInt]
theorem jzg {Q:Option Value->Shared->Prop}{e:DictEntry}(hit:s.heap.IsKeyIter it d i es.size ep)(m:jpJ s.heap d es ep)(hx:es[i]?=some e)
  (q:∀h',h'.IsKeyIter it d (i+1) es.size ep->Heap.SameBut it s.heap h'->Q (some e.key) {s with heap:=h'}):wpAny (model prog w) A (pyNext (.ref it)) Q E s:=by
 obtain⟨ob,gi,ci,di⟩:=id hit;obtain⟨p,g,xd,dat⟩:=m;have after:(s.heap.update it (Obj.mapFields (·.setIfInBounds 1 (rawInt ((i:Int)+1))))).IsKeyIter it d (i+1) es.size ep:=
  jzo gi ci di
 have t2:({s with heap:=s.heap.update it (Obj.mapFields (·.setIfInBounds 1 (rawInt ((i:Int)+1))))}:Shared).TypeIs (.ref it) "dict_keyiterator":=after.typeIs;have main:∀{A:Around} {E:Value->Shared->Prop} {Q:Fin->Shared->Prop},Q (.done (.ret e.key)) {s with heap:=s.heap.update it (Obj.mapFields (·.setIfInBounds 1 (rawInt ((i:Int)+1))))} ->
   wpAny (model prog w) A (Builtin.«dict_keyiterator.__next__» ⟨[.ref it],[]⟩) Q E s:=fun {A E Q} hq=>by
  have own:=joB;have neg:¬ ((i:Int)<0):=by omega
  wp_walk using wpAny_typeNameOfWhole_keyiter hit.typeIs,wpAny_fieldsOf gi di,wpAny_dictEntries g dat,wpAny_dictEpoch g dat;rw[if_neg neg,j1t,hx];dsimp only;wp_walk using wpAny_typeNameOfWhole_keyiter hit.typeIs,wpAny_isOneOf_keyiter hit.typeIs,jvt (j:=1) (u:=rawInt ((i:Int)+1)) gi di,wpAny_isOneOf_keyiter t2
  ·exact hq
  ·rw[joB];rfl
  ·rfl
  ·show 1<4;decide
 refine wpAny_bind (wpAny_attempt (wpAny_callSpecial?_slot (name:=Str.ofString "__next__") hit.typeIs j1d (wpAny_call_entry j1d hit.typeIs F.entry_dict_keyiterator_next (main ⟨_,rfl,?_⟩) (F.args_dict_keyiterator_next_1 _))));exact wpAny_pure (q _ after (Heap.SameBut.update ..))
theorem jCp (hh:A.handled=none)(hit:s.heap.IsKeyIter it d es.size es.size ep)(m:jpJ s.heap d es ep)
  (q:∀h',Heap.ExtBut it s.heap h'->Q none {s with heap:=h'}):wpAny (model prog w) A (pyNext (.ref it)) Q E s:=by
 obtain⟨ob,gi,ci,di⟩:=id hit;obtain⟨p,g,xd,dat⟩:=m
 have main:∀{A:Around} {E:Value->Shared->Prop} {Q:Fin->Shared->Prop},A.handled=none ->
   (∀h' x,Heap.ExtBut it s.heap h'->(∃o,h'.get? x=some o/\o.cls=.type "StopIteration")->E (.ref x) {s with heap:=h'}) ->
   wpAny (model prog w) A (Builtin.«dict_keyiterator.__next__» ⟨[.ref it],[]⟩) Q E s:=fun {A E Q} hn hq=>by
  have own:=joB;have neg:¬ ((es.size:Int)<0):=by omega
  wp_walk using wpAny_typeNameOfWhole_keyiter hit.typeIs,wpAny_fieldsOf gi di,wpAny_dictEntries g dat,wpAny_dictEpoch g dat;rw[if_neg neg,j1t,Array.getElem?_eq_none (j0l _)];dsimp only;wp_walk using wpAny_typeNameOfWhole_keyiter hit.typeIs,jvt (j:=0) (u:=.none) gi di
  ·unfold raiseNew;wp_walk;exact hq _ _ (((Heap.SameBut.update ..).extBut.push _).push _) ⟨_,j0f _ rfl,rfl⟩
  ·rw[joB];rfl
  ·rfl
  ·show 0<4;decide
 refine wpAny_bind (wpAny_attempt (wpAny_callSpecial?_slot (name:=Str.ofString "__next__") hit.typeIs j1d (wpAny_call_entry j1d hit.typeIs F.entry_dict_keyiterator_next (main hh fun h' x k hx=>?_) (F.args_dict_keyiterator_next_1 _))));obtain⟨ox,gx,cx⟩:=hx;refine wpAny_bind (wpAny_isInstance (T:="StopIteration") (b:=true) ⟨ox,gx,cx⟩ isSubtype_stop ?_);exact wpAny_pure (q h' k)
theorem jxG (hit:s.heap.IsKeyIter it d i es.size ep)(q:Q (.ref it) s):wpAny (model prog w) A (pyIter (.ref it)) Q E s:=wpAny_pyIter_keyiter hit q
theorem jyx (hh:A.handled=none)(hne:d≠it) :
  Walks prog w A it [it,d] [it] es.size (fun j v=>∃e,es[j]?=some e/\v=e.key) (fun j h=>h.IsKeyIter it d j es.size ep/\jpJ h d es ep) where
 sub:=fun b hb=>j0q.mpr (.inl (j1C.mp hb))
 frame:=fun j h h' st k=>⟨st.1.at fun o e=>k it (j0v ..) o e,st.2.to fun o e=>k d (j0p _ (j1C.mpr rfl)) o e⟩
 item:=fun j s Q E hj st q=>jzg st.1 st.2 (e:=es[j]) (by simp[hj]) fun h' hi sb=>q _ h' s.toks ⟨_,by simp[hj],rfl⟩ ⟨hi,st.2.to fun o e=>sb.extBut d o hne e⟩ fun b o hb e=>sb.extBut b o (fun z=>hb (j1C.mpr z)) e
 done:=fun s Q E st q=>jCp hh st.1 st.2 fun h' x=>q h' s.toks fun b o hb e=>x b o (fun z=>hb (j1C.mpr z)) e
 self:=fun j s Q E st q=>jxG st.1 q
end
end _L2
namespace _L2
open PySem PySem.Spec PyProof.Rows
noncomputable abbrev T3:=Int×Str×Str
noncomputable def k3 (t:T3):List Key:=[.inl t.1,.inr t.2.1,.inr t.2.2]
noncomputable def v3 (t:T3):List V:=[.int t.1,.str t.2.1,.str t.2.2]
theorem jFs (t:T3):(k3 t).map kV=v3 t:=rfl
noncomputable def jbB (x y:T3):Bool:=jEY (v3 x) (v3 y)
def sl (a b:Str):Prop:=a.cps.toList<b.cps.toList
theorem jvP (h:a≠b):sl a b∨sl b a:=by
 by_cases h1:sl a b
 ·exact .inl h1
 ·by_cases h2:sl b a
  ·exact .inr h2
  ·refine absurd ?_ h;have e:a.cps.toList=b.cps.toList:=List.le_antisymm (List.not_lt.mp h2) (List.not_lt.mp h1);obtain⟨x⟩:=a;obtain⟨y⟩:=b;have e':x=y:=Array.toList_inj.mp e;rw[e']
theorem jlY (a:Str):¬ sl a a:=List.lt_irrefl _
theorem jvz (h1:sl a b)(h2:sl b c):sl a c:=List.lt_trans h1 h2
theorem jdb (x y:T3):jbB x y=true↔x.1<y.1∨(x.1=y.1/\(sl x.2.1 y.2.1∨(x.2.1=y.2.1/\sl x.2.2 y.2.2))):=by
 obtain⟨a,b,c⟩:=x;obtain⟨a',b',c'⟩:=y;show(if(a==a')=true then(if(b==b')=true then(if(c==c')=true then false else decide (c.cps.toList<c'.cps.toList))else decide (b.cps.toList<b'.cps.toList))else decide (a<a'))=true↔_;by_cases h1:a=a'
 ·subst h1;rw[if_pos (by simp)];by_cases h2:b=b'
  ·subst h2;rw[if_pos (by simp)];by_cases h3:c=c'
   ·subst h3;rw[if_pos (by simp)];have:=jlY b;have:=jlY c;simp[*]
   ·rw[if_neg (by simpa using h3)];have:=jlY b;rw[decide_eq_true_eq];constructor
    ·intro h;exact .inr ⟨rfl,.inr ⟨rfl,h⟩⟩
    ·rintro(h|⟨_,h|⟨_,h⟩⟩)
     ·exact absurd h (by simp)
     ·exact absurd h this
     ·exact h
  ·rw[if_neg (by simpa using h2)];rw[decide_eq_true_eq];constructor
   ·intro h;exact .inr ⟨rfl,.inl h⟩
   ·rintro(h|⟨_,h|⟨e,h⟩⟩)
    ·exact absurd h (by simp)
    ·exact h
    ·exact absurd e h2
 ·rw[if_neg (by simpa using h1)];rw[decide_eq_true_eq];constructor
  ·intro h;exact .inl h
  ·rintro(h|⟨e,_⟩)
   ·exact h
   ·exact absurd e h1
theorem jly (h:x≠y)(n:jbB x y=false):jbB y x=true:=by
 have n':¬ jbB x y=true:=by rw[n];exact j0e
 rw[jdb]at n' ⊢;obtain⟨a,b,c⟩:=x;obtain⟨a',b',c'⟩:=y;dsimp only at n' ⊢;by_cases h1:a=a'
 ·subst h1;by_cases h2:b=b'
  ·subst h2;have h3:c≠c':=fun e=>h (by rw[e]);rcases jvP h3 with z|z
   ·exact absurd (.inr ⟨rfl,.inr ⟨rfl,z⟩⟩) n'
   ·exact .inr ⟨rfl,.inr ⟨rfl,z⟩⟩
  ·rcases jvP h2 with z|z
   ·exact absurd (.inr ⟨rfl,.inl z⟩) n'
   ·exact .inr ⟨rfl,.inl z⟩
 ·rcases Int.lt_or_lt_of_ne h1 with z|z
  ·exact absurd (.inl z) n'
  ·exact .inl z
theorem jkA (h1:jbB x y=true)(h2:jbB y z=true):jbB x z=true:=by
 rw[jdb]at *;obtain⟨a,b,c⟩:=x;obtain⟨a',b',c'⟩:=y;obtain⟨a'',b'',c''⟩:=z;dsimp only at *;rcases h1 with h1|⟨rfl,h1⟩
 ·rcases h2 with h2|⟨rfl,h2⟩
  ·exact .inl (by omega)
  ·exact .inl h1
 ·rcases h2 with h2|⟨rfl,h2⟩
  ·exact .inl h2
  ·refine .inr ⟨rfl,?_⟩;rcases h1 with h1|⟨rfl,h1⟩
   ·rcases h2 with h2|⟨rfl,h2⟩
    ·exact .inl (jvz h1 h2)
    ·exact .inl h1
   ·rcases h2 with h2|⟨rfl,h2⟩
    ·exact .inl h2
    ·exact .inr ⟨rfl,jvz h1 h2⟩
theorem jhB (x:T3):jbB x x=false:=by
 cases h:jbB x x with
 |false=>rfl
 |true=>
  rw[jdb]at h;rcases h with h|⟨_,h|⟨_,h⟩⟩
  ·omega
  ·exact absurd h (jlY _)
  ·exact absurd h (jlY _)
theorem jeQ (h:jbB x y=true):jbB y x=false:=by
 cases h':jbB y x with
 |false=>rfl
 |true=>
  have:=jkA h h';rw[jhB]at this;cases this
noncomputable def js8 (ts:List T3)(i j:Nat):Bool:=jbB (ts.getD i (0,⟨#[]⟩,⟨#[]⟩)) (ts.getD j (0,⟨#[]⟩,⟨#[]⟩))
theorem jrl {α:Type}{l:List α}{i:Nat}{x:α}(h:i<l.length):l.getD i x=l[i]:=by simp[h]
theorem jr7 {ts:List T3}(nd:ts.Nodup):Strict ts.length (js8 ts):=by
 refine⟨fun i j hi hj ne h=>?_,fun i j hi hj h=>jeQ h,fun i j k _ _ _ h1 h2=>jkA h1 h2⟩;refine jly (fun e=>ne ?_) h;rw[jrl hi,jrl hj]at e;exact(List.getElem_inj nd).mp e
def jho (h:Heap)(b:Addr)(t:T3):Prop:=∃(o:Obj) (us:Array Value) (n:Nat) (i j k:Tok),h.get? b=some o/\o.cls=.type "tuple"/\o.data=.seq us n/\us = #[.int t.1 i,.str t.2.1 j,.str t.2.2 k]
theorem jho.to (x:jho h b t)(k:∀o,h.get? b=some o->h'.get? b=some o):jho h' b t:=let⟨o,us,n,i,j,l,e,r⟩:=x;⟨o,us,n,i,j,l,k o e,r⟩
theorem jnm:∀{bs:List Addr} {ts:List T3},Paired (jho h) bs ts->(∀b∈bs,∀o,h.get? b=some o->h'.get? b=some o)->Paired (jho h') bs ts
 |_,_,.nil,_=>.nil
 |_,_,.cons r t,k=>.cons (r.to (k _ j0v)) (jnm t fun b hb=>k b (j0p _ hb))
theorem jnR (p:Paired (jho h) bs ts){j:Nat}(hj:j<bs.length):jho h (bs.getD j 0) (ts.getD j (0,⟨#[]⟩,⟨#[]⟩)):=by
 induction p generalizing j with
 |nil=>exact absurd hj (Nat.not_lt_zero _)
 |cons r t ih=>
  cases j with
  |zero=>exact r
  |succ j=>exact ih (Nat.lt_of_succ_lt_succ hj)
theorem jqO (p:Paired (jho h) bs ts):∃fs,PySem.W.KatTups h (bs.map Value.ref) fs/\fs.length=bs.length/\∀v∈fs,∃(n:Int) (t:Tok),v=.int n t:=by
 induction p with
 |nil=>exact⟨[],trivial,rfl,fun _ hv=>nomatch hv⟩
 |cons r t ih=>
  obtain⟨fs,h1,h2,h3⟩:=ih;obtain⟨o,us,n,i,j,k,g,c,dat,rfl⟩:=r;refine⟨_::fs,PySem.W.KatTups.cons g c dat rfl h1,congrArg (· + 1) h2,fun v hv=>?_⟩;rcases j0q.mp hv with z|z
  ·exact⟨_,_,z⟩
  ·exact h3 v z
section
variable {prog:Program} {w:World} {A:Around} {E:Value->Shared->Prop} {s:Shared}
theorem jrO (hc:∀i j C,i<n->j<n->C (c i j) s->cmp i j C s) :
  ∀(t:PySem.W.KasT α),Ans n c Z t->t.kasWp cmp (fun a s'=>s'=s/\Z a) s
 |.ret a,h=>⟨rfl,h⟩
 |.ask i j k,⟨hi,hj,h⟩=>hc i j _ hi hj (jrO hc (k (c i j)) h)
theorem jus (p:Paired (jho s.heap) bs ts){i j:Nat}{C:Bool->Shared->Prop}(hi:i<bs.length)(hj:j<bs.length)(h:C (js8 ts i j) s) :
  PySem.W.kas_ask prog w A (tuples' true) (bs.map Value.ref) i j C s:=by
 have ei:(bs.map Value.ref).getD i Value.none=.ref (bs.getD i 0):=by simp[hi]
 have ej:(bs.map Value.ref).getD j Value.none=.ref (bs.getD j 0):=by simp[hj]
 show wpAny _ _ (keyLt' (tuples' true) ((bs.map Value.ref).getD i Value.none) ((bs.map Value.ref).getD j Value.none)) _ _ _;rw[ei,ej];obtain⟨o1,us1,n1,a1,a2,a3,g1,_,d1,rfl⟩:=jnR p hi;obtain⟨o2,us2,n2,b1,b2,b3,g2,_,d2,rfl⟩:=jnR p hj;have h':C (jbB (ts.getD i (0,⟨#[]⟩,⟨#[]⟩)) (ts.getD j (0,⟨#[]⟩,⟨#[]⟩))) s:=h;generalize ts.getD i (0,⟨#[]⟩,⟨#[]⟩)=x at h' d1;generalize ts.getD j (0,⟨#[]⟩,⟨#[]⟩)=y at h' d2;have lt:jbB x y=(if eqV (.int x.1) (.int y.1)=true then(if eqV (.str x.2.1) (.str y.2.1)=true then(if eqV (.str x.2.2) (.str y.2.2)=true then false else ltV (.str x.2.2) (.str y.2.2))else ltV (.str x.2.1) (.str y.2.1))else ltV (.int x.1) (.int y.1)):=rfl;rw[lt]at h';refine PySem.W.kat_lt g1 d1 g2 d2 (PySem.W.kat_cons (jiF (y:=.int x.1) (x:=.int y.1) ⟨_,rfl⟩ ⟨_,rfl⟩ rfl rfl _ _ _ _ (PySem.W.kat_go (fun e=>PySem.W.kat_yes ?_) fun e=>PySem.W.kat_no ?_)))
 ·rw[if_pos e]at h';refine PySem.W.kat_cons (jiF (y:=.str x.2.1) (x:=.str y.2.1) ⟨_,rfl⟩ ⟨_,rfl⟩ rfl rfl _ _ _ _ (PySem.W.kat_go (fun e=>PySem.W.kat_yes ?_) fun e=>PySem.W.kat_no ?_))
  ·rw[if_pos e]at h';refine PySem.W.kat_cons (jiF (y:=.str x.2.2) (x:=.str y.2.2) ⟨_,rfl⟩ ⟨_,rfl⟩ rfl rfl _ _ _ _ (PySem.W.kat_go (fun e=>PySem.W.kat_yes ?_) fun e=>PySem.W.kat_no ?_))
   ·rw[if_pos e]at h';exact PySem.W.kat_nil h'
   ·rw[if_neg (by rw[e];exact j0e)]at h';exact PySem.W.kat_one _ _ (lt_str h')
  ·rw[if_neg (by rw[e];exact j0e)]at h';exact PySem.W.kat_one _ _ (lt_str h')
 ·rw[if_neg (by rw[e];exact j0e)]at h';exact oneLt_int h'
theorem jrL (ho:s.heap.get? a=some (seqObj "list" (bs.map Value.ref).toArray n)) (p:Paired (jho s.heap) bs ts) (nd:ts.Nodup) (h64:bs.length<64)
  (h:∀(q:Array Nat) (out:Array Value),Pm ts.length q->Up (js8 ts) q ts.length->out=List.toArray (q.toList.map fun i=>Value.ref (bs.getD i 0))->Q (.done (.ret .none)) {s with heap:=sortedHeap s.heap a (bs.map Value.ref) out}) :
  wpAny (model prog w) A (Builtin.«list.sort» ⟨[.ref a],[]⟩) Q E s:=by
 have hl:bs.length=ts.length:=p.length;have sz:sizeLine=16777216:=sizeLine_eq;have hv:(bs.map Value.ref).length=bs.length:=j0d ..;have ha:=j0i ho;obtain⟨c1,h1⟩:∃c,(s.heap.update a (Obj.mapSeq fun _=>#[])).get? a=some (seqObj "list" #[] c):=⟨_,get?_update_seq ho _⟩;have stay:∀b o,b≠a->s.heap.get? b=some o->(((s.heap.update a (Obj.mapSeq fun _=>#[])).push (seqObj "tuple" (bs.map Value.ref).toArray 0)).push (seqObj "list" #[] 0)).get? b=some o:=fun b o hb e=>
  j0b _ (j0b _ (by rw[j0Z _ _ _ _ hb];exact e))
 have h6:(((s.heap.update a (Obj.mapSeq fun _=>#[])).push (seqObj "tuple" (bs.map Value.ref).toArray 0)).push (seqObj "list" #[] 0)).get? a=some (seqObj "list" #[] c1):=j0b _ (j0b _ h1);have pk:Paired (jho (((s.heap.update a (Obj.mapSeq fun _=>#[])).push (seqObj "tuple" (bs.map Value.ref).toArray 0)).push (seqObj "list" #[] 0))) bs ts:=by
  have ne:∀b∈bs,b≠a:=fun b hb e=>by
   obtain⟨j,hj⟩:=List.mem_iff_getElem?.mp hb;have hj':j<bs.length:=(j0g.mp hj).1;obtain⟨o,us,m,_,_,_,g,cl,_⟩:=jnR p hj';have:bs.getD j 0=b:=by simp[hj]
   rw[this,e,ho]at g;have eg:=j0E g;rw[<- eg]at cl;have es:("list" : String) = "tuple":=by injection cl
   exact absurd es (by decide)
  exact jnm p fun b hb o e=>stay b o (ne b hb) e
 have fin:∀(q:Array Nat) (out:Array Value),Pm ts.length q->Up (js8 ts) q ts.length->out=List.toArray (q.toList.map fun i=>Value.ref (bs.getD i 0))->out.size<=sizeLine+1:=fun q out hq _ e=>by
  rw[e,j0h,j0d,j0F,hq.size];omega
 rw[list_sort_plain];refine wpAny_bind (listItems_at ho rfl (wpAny_bind (listUpdate_at ho rfl (wpAny_bind (seqEpoch_at h1 rfl (wpAny_bind (wpAny_newTuple (wpAny_bind (wpAny_newList (wpAny_holding ?_) (j0J _))) (by show(bs.map Value.ref).length<=_;omega))))) (by rw[j0h];omega) (j0J _))));show wpAny (model prog w) A _ Q E {s with heap:=((s.heap.update a (Obj.mapSeq fun _=>#[])).push (seqObj "tuple" (bs.map Value.ref).toArray 0)).push (seqObj "list" #[] 0)};dsimp only;by_cases h2:(bs.map Value.ref).toArray.size<2
 ·have h2':bs.length<2:=by rw[j0h,hv]at h2;exact h2
  rw[if_pos h2,if_pos h2];have out:((bs.map Value.ref).toArray.zip (bs.map Value.ref).toArray).map (·.2)=List.toArray ((List.range ts.length).toArray.toList.map fun i=>Value.ref (bs.getD i 0)):=by
   match bs,hl,h2' with
   |[],hl,_=>rw[<- hl];simp
   |[b],hl,_=>rw[<- hl];simp
  have pm:Pm ts.length (List.range ts.length).toArray:=⟨by simp,Array.Perm.refl _⟩;have up:Up (js8 ts) (List.range ts.length).toArray ts.length:=fun x y hx hy=>by omega
  have z:=h _ _ pm up out;refine wpAny_bind (wpAny_pure ?_);rw[StateT.run_pure];refine wpAny_bind (wpAny_pure ?_);dsimp only;refine wpAny_bind (seqEpoch_at h6 rfl (wpAny_bind (listUpdate_at h6 rfl ?_ (j0J _) (fin _ _ pm up out))));simp only[bne_self_eq_false,j0H,if_false];exact wpAny_pure z
 ·have h2':2<=bs.length:=by rw[j0h,hv]at h2;omega
  rw[if_neg h2,if_neg h2];obtain⟨fs,f1,f2,f3⟩:=jqO pk;refine wpAny_bind (PySem.W.kat_kind (T:=.type "int") f1 (by omega) (fun v hv=>?_) rfl ?_)
  ·obtain⟨n,t,rfl⟩:=f3 v hv;exact PySem.W.Looks.of_pure rfl
  have tt:(Value.type "int" !=Value.type "tuple")=true:=by decide
  rw[tt];refine wpAny_bind (wpAny_mono (PySem.W.kat_run (ks:=bs.map Value.ref) (Q:=fun st' s'=>∃q:Array Nat,arrOf st'=q.map (PySem.W.kas_item ((bs.map Value.ref).toArray.zip (bs.map Value.ref).toArray))/\failedOf st'=none /\
    s'={s with heap:=((s.heap.update a (Obj.mapSeq fun _=>#[])).push (seqObj "tuple" (bs.map Value.ref).toArray 0)).push (seqObj "list" #[] 0)}/\Pm ts.length q/\Up (js8 ts) q ts.length)
   rfl (by omega) (by omega) (fun q st' s' _ k1 k2 k3=>⟨q,k1,k2,k3⟩) ?_) ?_ fun _ _ e=>e)
  ·rw[hv,hl];exact jrO (n:=ts.length) (c:=js8 ts) (fun i j C hi hj hC=>jus pk (by omega) (by omega) hC) _ (joQ (jr7 nd) (by omega))
  rintro⟨⟨⟩,st'⟩ s' ⟨q,k1,k2,rfl,pm,up⟩;dsimp only;have out:(arrOf st').map (·.2)=List.toArray (q.toList.map fun i=>Value.ref (bs.getD i 0)):=by
   rw[PySem.W.kat_snds rfl k1];congr 1;refine List.map_congr_left fun i hi=>?_;have:i<ts.length:=by
    have:=pm.perm.mem_iff.mp (Array.mem_def.mpr hi);simpa using this
   simp[hl,this]
  have z:=h _ _ pm up out;have zs:=fin _ _ pm up out;refine wpAny_bind (seqEpoch_at h6 rfl (wpAny_bind (listUpdate_at h6 rfl ?_ (j0J _) zs)));rw[k2];simp only[bne_self_eq_false,j0H,if_false];exact wpAny_pure z
end
theorem jBK (lo:(d==sysModules)=false) :
  PySem.W.KdlSrc prog w "dict" d d es.size (fun j v=>∃e,es[j]?=some e/\v=e.key) (fun h=>jpJ h d es ep) where
 type:=fun s m=>m.ty
 there:=fun h m=>⟨m.lt,m.lt⟩
 keep:=fun h h' m k=>m.to fun o e=>k d (.inl rfl) o e
 notList:=by decide
 notTuple:=by decide
 hint:=fun A E s Q m q=>PySem.W.kdl_hint_dict m.ty q
 iter:=fun A s hh m=>⟨_,_,fun E Q q=>jzk lo m q,jyx hh (j0k m.lt),⟨⟨_,j0f _ rfl,rfl,rfl⟩,m.to fun o e=>j0b _ e⟩⟩
theorem jxP (r:KT H kvs rows):kvs.map (·.1)=rows.map (·.1):=by
 induction r with
 |nil=>rfl
 |cons h t ih=>rw[j0c,j0c,h.1,ih]
theorem jwN (r:KT H kvs rows):∀{ts:List T3},kvs.map (·.1)=ts.map k3->Paired (fun b t=>H b=some (.tup (v3 t))) (rows.map (·.2.1)) ts:=by
 induction r with
 |nil=>
  intro ts e
  cases ts with
  |nil=>exact .nil
  |cons t r=>cases e
 |cons h t ih=>
  intro ts e
  cases ts with
  |nil=>cases e
  |cons x r=>
   rw[j0c,j0c]at e;have e1:=(List.cons.inj e).1;refine .cons ?_ (ih (List.cons.inj e).2);have:=h.2.1;rw[e1,jFs]at this;exact this
theorem jde:∀{l:List Nat},(∀i∈l,R (f i) (g i))->Paired R (l.map f) (l.map g)
 |[],_=>.nil
 |i::l,h=>.cons (h i j0v) (jde fun j hj=>h j (j0p _ hj))
theorem jiP {α β:Type}{R:α->β->Prop}{xs:List α}{ys:List β}(p:Paired R xs ys){x0:α}{y0:β}{j:Nat}(hj:j<xs.length):R (xs.getD j x0) (ys.getD j y0):=by
 induction p generalizing j with
 |nil=>exact absurd hj (Nat.not_lt_zero _)
 |cons r t ih=>
  cases j with
  |zero=>exact r
  |succ j=>exact ih (Nat.lt_of_succ_lt_succ hj)
theorem jpd (l:List α)(x:α):(List.range l.length).map (fun i=>l.getD i x)=l:=by
 refine List.ext_getElem (by simp) fun i h1 h2=>?_;simp[h2]
noncomputable def jvZ:List V->Hp->VK->Prop:=fun xs H Q=>∃(d:Addr) (kvs:List (List Key×V)) (ts:List T3),xs=[.ref d]/\H d=some (.dT kvs)/\kvs.map (·.1)=ts.map k3/\ts.length<64 /\
 ∀(p:Addr) (vs:List V) (us:List T3),H p=none->us.Perm ts->us.Pairwise (fun x y=>jbB x y=true)->Paired (jyS v3 H) vs us->Q (.ref p) (upd H p (.lst vs))
section
variable {X:Cx}
theorem jmr (hc:X.calm=true):jbe X (.builtin "sorted") jvZ:=by
 intro pins s σ H xs us Q I r h;obtain⟨d,kvs,ts,rfl,hd,hk,h64,q⟩:=h;obtain⟨u,rfl,rx⟩:=jiZ r;cases rx;have sz:sizeLine=16777216:=sizeLine_eq;obtain⟨hz,lo,rows,kt,o,es,ep,g1,g2,g3,g4,_,g6⟩:=jAL I.hok hd;have raw:jpJ s.heap d es ep:=⟨o,g1,g2,g3⟩;have pt:=jwN kt hk;have bl:(rows.map (·.2.1)).length=ts.length:=pt.length;have rl:rows.length=ts.length:=by rw[<- bl,j0d]
 have el:es.size=ts.length:=by rw[<- rl,<- j0F,g4,j0d]
 have nd:ts.Nodup:=by
  rw[<- jxP kt,hk]at g6;exact(j0D.mp g6).imp fun h e=>h (by rw[e])
 have pk:Paired (jho s.heap) (rows.map (·.2.1)) ts:=Paired.imp' (fun b t (hb:H b=some (.tup (v3 t)))=>by
  obtain⟨its,rv,⟨ot,t1,t2,n,t3⟩,_⟩:=I.tuple (SqT.of (K:=X.K) hb)
  cases rv with
  |cons r1 rv=>
   cases rv with
   |cons r2 rv=>
    cases rv with
    |cons r3 rv=>
     cases rv;obtain⟨i,rfl⟩:=r1;obtain⟨j,rfl⟩:=r2;obtain⟨k,rfl⟩:=r3;exact⟨ot,_,n,i,j,k,t1,t2,t3,rfl⟩) pt
 apply Calls.call_function_entry kind_sorted plain_sorted entry_sorted (args_sorted1 _);unfold Builtin.«sorted»;refine wpAny_bind (m:=checkCount "sorted" 1 1 _) (wpAny_pure (wpAny_bind (PySem.W.kdu_collect (A:=X.A.in1) (jBK lo) (I.ok.hd hc) raw (by omega) fun h' tk acc keep items=>?_)));have ea:acc.toList=(rows.map (·.2.1)).map Value.ref:=by
  refine List.ext_getElem? fun j=>?_;rcases Nat.lt_or_ge j acc.size with hj|hj
  ·have ej:acc.toList[j]?=some acc[j]:=by simp[hj]
   obtain⟨e,e1,e2⟩:=items.2 j acc[j] (by simp[hj]);rw[<- Array.getElem?_toList,g4,j0R]at e1;rw[ej,e2,j1m,j0R]
   cases hx:rows[j]? with
   |none=>rw[hx]at e1;cases e1
   |some x=>
    rw[hx]at e1;cases e1;rfl
  ·have:=items.1;rw[List.getElem?_eq_none (by simpa using hj),List.getElem?_eq_none (by simp;omega)]
 rw[ea];have vl:((rows.map (·.2.1)).map Value.ref).length=ts.length:=by rw[j0d];exact bl
 refine wpAny_bind (wpAny_newList ?_ (by omega));have gD:(h'.push {cls:=.type "list",data:=.seq ((rows.map (·.2.1)).map Value.ref).toArray}).get? h'.objs.size=some (seqObj "list" ((rows.map (·.2.1)).map Value.ref).toArray 0):=j0f _ rfl;have keep2:∀b o,s.heap.get? b=some o->(h'.push {cls:=.type "list",data:=.seq ((rows.map (·.2.1)).map Value.ref).toArray}).get? b=some o:=fun b o e=>j0b _ (keep b o e);have I1:=I.kept (t':=tk) keep;refine wpAny_bind (wpAny_holding (wpAny_call_entry slot_list_sort ⟨_,gD,rfl⟩ entry_list_sort (jrL (s:={s with heap:=h'.push {cls:=.type "list",data:=.seq ((rows.map (·.2.1)).map Value.ref).toArray},toks:=tk}) gD (jnm pk fun b _ o e=>keep2 b o e) nd (by omega) fun sq out pm up eo=>⟨_,rfl,?_⟩) (args_list_sort _)));refine wpAny_pure ⟨_,rfl,?_⟩;obtain⟨e,gE⟩:=sortedHeap_at (out:=out) gD;have inr:∀i∈sq.toList,i<ts.length:=fun i hi=>by
  have:=pm.perm.mem_iff.mp (Array.mem_def.mpr hi);simpa using this
 refine⟨.ref h'.objs.size,upd H h'.objs.size (.lst (sq.toList.map fun i=>V.ref ((rows.map (·.2.1)).getD i 0))),I1.laid (fun b o g=>?_) (j0l _) ⟨?_,(sq.toList.map fun i=>Value.ref ((rows.map (·.2.1)).getD i 0)),e,?_,?_⟩,rfl,q _ _ (sq.toList.map fun i=>ts.getD i (0,⟨#[]⟩,⟨#[]⟩)) (I1.hok.fresh (j0l _)) ?_ ?_ ?_⟩
 ·have hb:b<h'.objs.size:=j0i g;rw[sortedHeap_old (j0k hb) (by rw[size_push'];exact Nat.lt_succ_of_lt hb)];exact j0b _ g
 ·rw[j0d,j0F,pm.size];omega
 ·exact jde fun i _=>rfl
 ·rw[gE,eo]
 ·have hp:sq.toList.Perm (List.range ts.length):=by simpa using pm.perm.toList
  have:=hp.map (fun i=>ts.getD i (0,⟨#[]⟩,⟨#[]⟩));rw[jpd]at this;exact this
 ·rw[List.pairwise_iff_getElem];intro i j hi hj hij;rw[j0d,j0F,pm.size]at hi hj;have:=up i j hij hj;have hs:=pm.size;have di:sq.getD i 0=sq[i]'(by omega):=by simp[Array.getD,hs,hi]
  have dj:sq.getD j 0=sq[j]'(by omega):=by simp[Array.getD,hs,hj]
  rw[di,dj]at this;simpa[js8]using this
 ·exact jde fun i hi=>⟨_,rfl,jiP pt (by rw[bl];exact inr i hi)⟩
variable {o e f i value:Expr} {td ty tx tv:TE} {pos pos':Pos}
end
noncomputable abbrev T2:=Int×Str
noncomputable def v2 (t:T2):List V:=[.int t.1,.str t.2]
noncomputable def t3 (t:T2):T3:=(t.1,t.2,⟨#[]⟩)
theorem jBi (h:t3 x=t3 y):x=y:=by
 have h1:x.1=y.1:=congrArg (fun z:T3=>z.1) h;have h2:x.2=y.2:=congrArg (fun z:T3=>z.2.1) h;exact Prod.ext h1 h2
def jhZ (h:Heap)(b:Addr)(t:T2):Prop:=∃(o:Obj) (us:Array Value) (n:Nat) (i j:Tok),h.get? b=some o/\o.cls=.type "tuple"/\o.data=.seq us n/\us = #[.int t.1 i,.str t.2 j]
theorem jhZ.to (x:jhZ h b t)(k:∀o,h.get? b=some o->h'.get? b=some o):jhZ h' b t:=let⟨o,us,n,i,j,e,r⟩:=x;⟨o,us,n,i,j,k o e,r⟩
noncomputable def jwE (ts:List T2):Nat->Nat->Bool:=js8 (ts.map t3)
theorem jk8 (ts:List T2)(i:Nat):(ts.map t3).getD i (0,⟨#[]⟩,⟨#[]⟩)=t3 (ts.getD i (0,⟨#[]⟩)):=by
 rw[j0G,j0R,j0G];cases ts[i]?<;>rfl
theorem jDj (p:Paired (jhZ h) bs ts):∃fs,PySem.W.KatTups h (bs.map Value.ref) fs/\fs.length=bs.length/\∀v∈fs,∃(n:Int) (t:Tok),v=.int n t:=by
 induction p with
 |nil=>exact⟨[],trivial,rfl,fun _ hv=>nomatch hv⟩
 |cons r t ih=>
  obtain⟨fs,h1,h2,h3⟩:=ih;obtain⟨o,us,n,i,j,g,c,dat,rfl⟩:=r;refine⟨_::fs,PySem.W.KatTups.cons g c dat rfl h1,congrArg (· + 1) h2,fun v hv=>?_⟩;rcases j0q.mp hv with z|z
  ·exact⟨_,_,z⟩
  ·exact h3 v z
section
variable {prog:Program} {w:World} {A:Around} {E:Value->Shared->Prop} {s:Shared}
theorem jFj (p:Paired (jhZ s.heap) bs ts){i j:Nat}{C:Bool->Shared->Prop}(hi:i<bs.length)(hj:j<bs.length)(h:C (jwE ts i j) s) :
  PySem.W.kas_ask prog w A (tuples' true) (bs.map Value.ref) i j C s:=by
 have ei:(bs.map Value.ref).getD i Value.none=.ref (bs.getD i 0):=by simp[hi]
 have ej:(bs.map Value.ref).getD j Value.none=.ref (bs.getD j 0):=by simp[hj]
 show wpAny _ _ (keyLt' (tuples' true) ((bs.map Value.ref).getD i Value.none) ((bs.map Value.ref).getD j Value.none)) _ _ _;rw[ei,ej];obtain⟨o1,us1,n1,a1,a2,g1,_,d1,rfl⟩:=jiP p (x0:=0) (y0:=(0,⟨#[]⟩)) hi;obtain⟨o2,us2,n2,b1,b2,g2,_,d2,rfl⟩:=jiP p (x0:=0) (y0:=(0,⟨#[]⟩)) hj;have h':C (jbB ((ts.map t3).getD i (0,⟨#[]⟩,⟨#[]⟩)) ((ts.map t3).getD j (0,⟨#[]⟩,⟨#[]⟩))) s:=h;rw[jk8,jk8]at h';generalize ts.getD i (0,⟨#[]⟩)=x at h' d1;generalize ts.getD j (0,⟨#[]⟩)=y at h' d2;have lt:jbB (t3 x) (t3 y)=(if eqV (.int x.1) (.int y.1)=true then(if eqV (.str x.2) (.str y.2)=true then false else ltV (.str x.2) (.str y.2))else ltV (.int x.1) (.int y.1)):=rfl;rw[lt]at h';refine PySem.W.kat_lt g1 d1 g2 d2 (PySem.W.kat_cons (jiF (y:=.int x.1) (x:=.int y.1) ⟨_,rfl⟩ ⟨_,rfl⟩ rfl rfl _ _ _ _ (PySem.W.kat_go (fun e=>PySem.W.kat_yes ?_) fun e=>PySem.W.kat_no ?_)))
 ·rw[if_pos e]at h';refine PySem.W.kat_cons (jiF (y:=.str x.2) (x:=.str y.2) ⟨_,rfl⟩ ⟨_,rfl⟩ rfl rfl _ _ _ _ (PySem.W.kat_go (fun e=>PySem.W.kat_yes ?_) fun e=>PySem.W.kat_no ?_))
  ·rw[if_pos e]at h';exact PySem.W.kat_nil h'
  ·rw[if_neg (by rw[e];exact j0e)]at h';exact PySem.W.kat_one _ _ (lt_str h')
 ·rw[if_neg (by rw[e];exact j0e)]at h';exact oneLt_int h'
theorem jAk {a kS:Addr} {bs:List Addr} {ts:List T2} {vs:List Value} {e e1:Nat} {Q:PySem.Fin->Shared->Prop} (hk:s.heap.get? kS=some (seqObj "list" (bs.map Value.ref).toArray e)) (ha:s.heap.get? a=some (seqObj "list" #[] e1)) (hne:kS≠a)
  (p:Paired (jhZ s.heap) bs ts) (nd:ts.Nodup) (hl:vs.length=ts.length) (h64:ts.length<64)
  (h:∀(q:Array Nat) (out:Array Value) (h':Heap) (c:Nat),Pm ts.length q->Up (jwE ts) q ts.length->out=List.toArray (q.toList.map fun i=>vs.getD i Value.none)->h'.get? a=some (seqObj "list" out c)->(∀b o,b≠a->b≠kS->s.heap.get? b=some o->h'.get? b=some o)->Q (.done (.ret .none)) {s with heap:=h'}) :
  wpAny (model prog w) A (ksk_end a false vs.toArray e1 (.ref kS) (bs.map Value.ref).toArray) Q E s:=by
 have hb:bs.length=ts.length:=p.length;have sz:sizeLine=16777216:=sizeLine_eq;have nd3:(ts.map t3).Nodup:=j0D.mpr (nd.imp fun a e=>a (jBi e));have n3:(ts.map t3).length=ts.length:=j0d ..;have kl:(bs.map Value.ref).length=vs.length:=by rw[j0d];omega
 have ha1:(s.heap.update kS (Obj.mapSeq fun _=>(#[]:Array Value))).get? a=some (seqObj "list" #[] e1):=by rw[j0Z _ _ _ _ hne.symm];exact ha
 have close:∀(st:SortSt) (q:Array Nat),failedOf st=none->(arrOf st).map (·.2)=List.toArray (q.toList.map fun i=>vs.getD i Value.none)->Pm ts.length q->Up (jwE ts) q ts.length->wpAny (model prog w) A (ksk_tail a false e1 (.ref kS) st) Q E s:=fun st q hf ho pm up=>by
  have so:((arrOf st).map (·.2)).size=ts.length:=by rw[ho,j0h,j0d,j0F,pm.size]
  unfold ksk_tail;dsimp only;refine wpAny_bind (listUpdate_at hk rfl (wpAny_bind (wpAny_letGo (wpAny_bind (seqEpoch_at ha1 rfl (wpAny_bind (listUpdate_at ha1 rfl ?_ (j0J _) (by simp only[j0H,if_false];omega))))))) (by rw[j0h];omega) (j0J _));rw[hf];simp only[bne_self_eq_false,j0H,if_false];obtain⟨c,hc⟩:∃c,((s.heap.update kS (Obj.mapSeq fun _=>(#[]:Array Value))).update a (Obj.mapSeq fun _=>(arrOf st).map (·.2))).get? a=some (seqObj "list" ((arrOf st).map (·.2)) c):=⟨_,get?_update_seq ha1 fun _=>(arrOf st).map (·.2)⟩;exact wpAny_pure (h q _ _ c pm up ho hc fun b o h1 h2 g=>by rw[j0Z _ _ _ _ h1,j0Z _ _ _ _ h2];exact g)
 unfold ksk_end;dsimp only;simp only[j0H,if_false];by_cases h2:vs.toArray.size<2
 ·have h2':vs.length<2:=by rw[j0h]at h2;exact h2
  rw[if_pos h2,if_pos h2];refine wpAny_bind (wpAny_pure ?_);rw[StateT.run_pure];refine wpAny_bind (wpAny_pure (close _ (List.range ts.length).toArray rfl ?_ ⟨by simp,Array.Perm.refl _⟩ fun x y hx hy=>by omega));show(((bs.map Value.ref).toArray.zip vs.toArray).map (·.2))=_
  cases vs with
  |nil=>
   cases bs with
   |nil=>rw[<- hl];simp
   |cons b bs=>simp at kl
  |cons v vs=>
   cases vs with
   |nil=>
    cases bs with
    |nil=>simp at kl
    |cons b bs=>
     cases bs with
     |nil=>rw[<- hl];simp
     |cons _ _=>simp at kl
   |cons _ _=>simp at h2';omega
 ·have h2':2<=vs.length:=by rw[j0h]at h2;omega
  rw[if_neg h2,if_neg h2];obtain⟨fs,f1,f2,f3⟩:=jDj p;refine wpAny_bind (PySem.W.kat_kind (T:=.type "int") f1 (by omega) (fun v hv=>?_) rfl ?_)
  ·obtain⟨n,t,rfl⟩:=f3 v hv;exact PySem.W.Looks.of_pure rfl
  rw[show(Value.type "int" !=Value.type "tuple")=true from by decide];refine wpAny_bind (wpAny_mono (PySem.W.kat_run (ks:=bs.map Value.ref) (vs:=vs) (Q:=fun st' s'=>∃q:Array Nat,arrOf st'=q.map (PySem.W.kas_item ((bs.map Value.ref).toArray.zip vs.toArray))/\failedOf st'=none/\s'=s/\Pm ts.length q/\Up (jwE ts) q ts.length)
   kl (by omega) (by omega) (fun q st' s' _ k1 k2 k3=>⟨q,k1,k2,k3⟩) ?_) ?_ fun _ _ e=>e)
  ·rw[hl];have an:=joQ (jr7 nd3) (by omega);rw[n3]at an;exact jrO (n:=ts.length) (c:=jwE ts) (fun i j C hi hj hC=>jFj p (by omega) (by omega) hC) _ an
  rintro⟨⟨⟩,st'⟩ s' ⟨q,k1,k2,rfl,pm,up⟩;exact close st' q k2 (PySem.W.kat_snds kl k1) pm up
end
noncomputable def jlq (sp:Sp):List V->List T2->Hp->(Hp->Prop)->Prop
 |[],ts,H,K=>ts=[]/\K H
 |x::xs,ts,H,K=>∃t tr,ts=t::tr/\sp [x] H (fun v H2=>∃b,v=.ref b/\H2 b=some (.tup (v2 t))/\jlq sp xs tr H2 K) E0
section
variable {X:Cx} {pins:List (Addr×Obj)} {σ:_L2.St} {H:Hp} {s:Shared} {E:Value->Shared->Prop}
theorem jwA (F:FnOk X.prog X.w X.K X.mg X.base CX0 k f fd [p] sp)(hr:Room (k+2) X.A)(hb:jdF X.K fd [p] [])(I:Inv X pins σ H s)(r:jaB x u)(q:sp [x] H Q E0) :
  wpAny (model X.prog X.w) X.A.in1.in1 (call (.ref f) [u]) (EP X pins σ fun v H'=>Q v H'/\∀b xs,H b=some (.tup xs)->H' b=some (.tup xs)) (fun _ _=>False) s:=by
 have hb':=hb s [u] I.kIn rfl;rw[j0x]at hb';refine wpAny_call (codeAny_mono (F.run X.A.in1.in1 X.stack s H ⟨[u],[]⟩ [u] [x] Q E0 hr.in1.in1 I.env0.in1.in1 hb' (.cons r .nil) q) fun r s' hq=>?_)
 cases r with
 |error e=>exact hq
 |ok fl=>
  cases fl with
  |ret u=>
   obtain⟨v,H',a1,a2,un,a3,a4,a5⟩:=hq;exact I.after ⟨v,H',a1,a2,un,a3,a4,a5,un.tups⟩
  |next=>exact False.elim hq
  |brk=>exact False.elim hq
  |cont=>exact False.elim hq
theorem jv8 (I:Inv X pins σ H s)(h:H b=some (.tup (v2 t))):jhZ s.heap b t:=by
 obtain⟨its,rv,⟨ot,t1,t2,n,t3⟩,_⟩:=I.tuple (SqT.of (K:=X.K) h)
 cases rv with
 |cons r1 rv=>
  cases rv with
  |cons r2 rv=>
   cases rv;obtain⟨i,rfl⟩:=r1;obtain⟨j,rfl⟩:=r2;exact⟨ot,_,n,i,j,t1,t2,t3,rfl⟩
theorem jpK {sp:Sp}{xs:List V}{ts:List T2}{K:Hp->Prop}{x:V}(h:jlq sp (x::xs) ts H K):∃t tr,ts=t::tr/\sp [x] H (fun v H2=>∃b,v=.ref b/\H2 b=some (.tup (v2 t))/\jlq sp xs tr H2 K) E0:=h
theorem jy2 {k:Nat}{f:Addr}{fd:FuncData}{p:Str}{sp:Sp}{a kS:Addr}{e1:Nat}{xs:List V}{ts:List T2}{vs:List Value}{K:Hp->Prop}{Q:PySem.Fin->Shared->Prop}(F:FnOk X.prog X.w X.K X.mg X.base CX0 k f fd [p] sp)(hr:Room (k+2) X.A)(hb:jdF X.K fd [p] [])
  (I:Inv X pins σ H s) (ok:s.heap.get? kS=some (seqObj "list" #[] 0)) (oa:s.heap.get? a=some (seqObj "list" #[] e1)) (hne:kS≠a) (fk:jnz X pins H kS) (fa:jnz X pins H a) (rv:jaI xs vs) (hl:vs.length=ts.length) (nd:ts.Nodup) (h64:ts.length<64) (hK:jlq sp xs ts H K)
  (fin:∀(H2:Hp) (s2:Shared) (q:Array Nat) (out:Array Value) (h':Heap) (c:Nat),K H2->Inv X pins σ H2 s2->H2 kS=none->H2 a=none->Pm ts.length q->Up (jwE ts) q ts.length->out=List.toArray (q.toList.map fun i=>vs.getD i Value.none)->h'.get? a=some (seqObj "list" out c)->(∀b o,b≠a->b≠kS->s2.heap.get? b=some o->h'.get? b=some o)->Q (.done (.ret .none)) {s2 with heap:=h'}) :
  wpAny (model X.prog X.w) X.A.in1.in1 (ksk_rest a (.ref f) false vs.toArray e1 (.ref kS)) Q E s:=by
 obtain⟨k0,k1,k2,k3,k4,k5⟩:=fk;obtain⟨a0,a1,a2,a3,a4,a5⟩:=fa;have sz:sizeLine=16777216:=sizeLine_eq;have cell:∀(us:Array Value) (n:Nat) (v:Option Value),(seqObj "list" us n).data≠.cell v:=fun us n v z=>by cases z
 have both:∀{H2:Hp} {s2:Shared} {us:Array Value} {n:Nat},Inv X pins σ H2 s2->H2 kS=none->H2 a=none->s2.heap.get? kS=some (seqObj "list" us n)->s2.heap.get? a=some (seqObj "list" #[] e1)->Inv X ((kS,seqObj "list" us n)::(a,seqObj "list" #[] e1)::pins) σ H2 s2:=fun {H2 s2 us n} J b1 b2 b3 b4=>J.pins_of fun p hp=>by
  rcases j0q.mp hp with z|hp
  ·rw[z];exact⟨b3,b1,k1,k2,cell _ _⟩
  rcases j0q.mp hp with z|hp
  ·rw[z];exact⟨b4,b2,a1,a2,cell _ _⟩
  ·exact J.pin p (j0r _ hp)
 unfold ksk_rest;refine wpAny_bind (wpAny_rule ?_);rw[List.forIn_toArray];refine wpAny_bind (ksk_fold (fun i s'=>∃(Hi:Hp) (bs:List Addr) (e:Nat),Inv X pins σ Hi s'/\Hi kS=none/\Hi a=none/\s'.heap.get? kS=some (seqObj "list" (bs.map Value.ref).toArray e)/\s'.heap.get? a=some (seqObj "list" #[] e1)/\Paired (fun b t=>Hi b=some (.tup (v2 t))) bs (ts.take i)/\jlq sp (xs.drop i) (ts.drop i) Hi K) vs 0 s ⟨H,[],0,I,k0,a0,ok,oa,by rw[List.take_zero];exact .nil,hK⟩ ?step ?done)
 case step=>
  rintro j u s' hu ⟨Hi,bs,e,J,b1,b2,b3,b4,pk,hk⟩;simp only[Nat.zero_add]at pk hk ⊢;have hxl:=rv.length;have hj:j<vs.length:=(j0g.mp hu).1;have hx:xs.drop j=xs[j]'(by omega)::xs.drop (j+1):=List.drop_eq_getElem_cons (by omega);obtain⟨u',hu',ru⟩:=rv.get (i:=j) (x:=xs[j]'(by omega)) (by simp);obtain rfl:u'=u:=j0E (hu'.symm.trans hu);rw[hx]at hk;obtain⟨t,tr,et,hsp⟩:=jpK hk;have ht:ts[j]?=some t:=by
   have:=congrArg (·[0]?) et;simpa using this
  have etr:ts.drop (j+1)=tr:=by rw[<- List.drop_drop (i:=1) (j:=j)]<;>first|(rw[et];rfl)|skip
  refine wpAny_bind (wpAny_attempt (wpAny_mono (jwA F hr hb (both J b1 b2 b3 b4) ru hsp) (fun y s2 hy=>?_) fun _ _ z=>z.elim));obtain⟨v,H2,J2,rz,⟨b,rfl,hb2,hk2⟩,tup⟩:=hy;cases rz;have p1:=J2.pin (kS,seqObj "list" (bs.map Value.ref).toArray e) (j0r _ (.head _));have p2:=J2.pin (a,seqObj "list" #[] e1) (j0r _ (.tail _ (.head _)));have J3:Inv X pins σ H2 s2:=J2.pins_of fun p hp=>J2.pin p (j0r _ (.tail _ (.tail _ hp)));have bl:bs.length=j:=by have:=pk.length;rw[j0Q]at this;omega
  dsimp only;refine wpAny_bind (listUpdate_at p1.1 rfl ?_ (by rw[j0h,j0d];omega) (by rw[Array.size_push,j0h,j0d];omega));obtain⟨c2,hc2⟩:∃c2,(s2.heap.update kS (Obj.mapSeq (·.push (.ref b)))).get? kS=some (seqObj "list" ((bs.map Value.ref).toArray.push (.ref b)) c2):=⟨_,get?_update_seq p1.1 (·.push (.ref b))⟩;have J4:Inv X pins σ H2 {s2 with heap:=s2.heap.update kS (Obj.mapSeq (·.push (.ref b))),toks:=s2.toks}:=J3.turned (fun c o hc g=>by rw[j0Z _ _ _ _ hc];exact g) p1.2.1 k1 k3 k4 k5;refine wpAny_pure ⟨rfl,H2,bs++[b],c2,J4,p1.2.1,p2.2.1,?_,?_,?_,?_⟩
  ·rw[hc2];simp
  ·show(s2.heap.update kS _).get? a=_;rw[j0Z _ _ _ _ hne.symm];exact p2.1
  ·rw[List.take_add_one,ht];exact jng (Paired.imp' (fun b t h=>tup b _ h) pk) hb2
  ·rw[etr];exact hk2
 case done=>
  rintro s' ⟨Hi,bs,e,J,b1,b2,b3,b4,pk,hk⟩;rw[Nat.zero_add]at pk hk;have hxl:=rv.length;rw[List.take_of_length_le (by omega)]at pk;rw[List.drop_of_length_le (by omega)]at hk;refine wpAny_bind (listItems_at b3 rfl ?_);exact jAk b3 b4 hne (Paired.imp' (fun b t h=>jv8 J h) pk) nd hl h64 fun q out h' c pm up eo g1 g2=>fin Hi s' q out h' c hk.2 J b1 b2 pm up eo g1 g2
theorem Inv.adopt (I:Inv X pins σ H s) (fa:jnz X pins H a) (fc:jnz X pins H c) (g:h'.get? a=some (seqObj "list" its.toArray n)) (rv:jaI ys its) (hz:ys.length<=sizeLine)
  (k:∀b o,b≠a->b≠c->s.heap.get? b=some o->h'.get? b=some o):Inv X pins σ (upd H a (.lst ys)) {s with heap:=h',toks:=t'}:=by
 obtain⟨c0,c1,c2,c3,c4,c5⟩:=fc;obtain⟨a0,a1,a2,a3,a4,a5⟩:=fa;have nch:∀{b},b∉[a,c]->b≠a/\b≠c:=fun h=>by simpa using h
 have ne:∀{b u},H b=some u->b≠a/\b≠c:=fun {b u} e=>⟨fun z=>(by rw[z,a0]at e;cases e),fun z=>(by rw[z,c0]at e;cases e)⟩;refine I.step (g':=s.gens) (d':=s.drawn) (ch:=[a,c]) (fun b hb=>?_) (fun b o _ _ hc e _=>k b o (nch hc).1 (nch hc).2 e) (fun b o _ _ hc e _=>⟨o.slots,k b o (nch hc).1 (nch hc).2 e⟩) (fun b o hc e n=>by rw[jae (nch hc).1];exact n)
  (fun b o hc e=>⟨o,k b o (nch hc).1 (nch hc).2 e⟩) (fun b _ e=>by rw[jae (ne e).1];exact e) (fun b _ _ e=>by rw[jae (ne e).1];exact e) (fun b ps e=>⟨#[],by rw[jae (ne e).1,e];simp⟩) (fun m hm=>?_) (fun b u e=>?_) I.bare
 ·have hb':b=a∨b=c:=by simpa using hb
  rcases hb' with rfl|rfl
  ·exact⟨a3,a1,a4,a5⟩
  ·exact⟨c3,c1,c4,c5⟩
 ·obtain⟨o,es,ep,ho,r⟩:=hm;exact⟨o,es,ep,k _ o a1.symm c1.symm ho,r⟩
 ·by_cases hb:b=a
  ·subst hb;rw[jag]at e;cases e;exact⟨hz,its,n,rv,g⟩
  ·rw[jae hb]at e;refine(I.hok b u e).stay (fun d v hd q=>?_) (fun d q=>by rw[jae (ne q).1];exact q) fun d _ q=>by rw[jae (ne q).1];exact q
   have hn:d≠a/\d≠c:=by
    rcases hd with z|z
    ·rw[z];exact ne e
    ·exact ne z
   exact k d v hn.1 hn.2 q
theorem jxB {k:Nat}{f:Addr}{fd:FuncData}{p:Str}{sp:Sp}{a:Addr}{n:Nat}{xs:List V}{ts:List T2}{vs:List Value}{K:Hp->Prop}{Q:PySem.Fin->Shared->Prop}(F:FnOk X.prog X.w X.K X.mg X.base CX0 k f fd [p] sp)(hr:Room (k+2) X.A)(hb:jdF X.K fd [p] [])
  (I:Inv X pins σ H s) (oa:s.heap.get? a=some (seqObj "list" vs.toArray n)) (fa:jnz X pins H a) (rv:jaI xs vs) (hl:vs.length=ts.length) (nd:ts.Nodup) (h64:ts.length<64) (hK:jlq sp xs ts H K)
  (fin:∀(H2:Hp) (s2:Shared) (q:List Nat) (h':Heap),K H2->H2 a=none->q.Perm (List.range ts.length)->(q.map fun i=>ts.getD i (0,⟨#[]⟩)).Pairwise (fun x y=>jbB (t3 x) (t3 y)=true)->Inv X pins σ (upd H2 a (.lst (q.map fun i=>xs.getD i .non))) {s2 with heap:=h'}->Q (.done (.ret .none)) {s2 with heap:=h'}) :
  wpAny (model X.prog X.w) X.A.in1.in1 (ksk_tree a (.ref f) false) Q E s:=by
 have sz:sizeLine=16777216:=sizeLine_eq;have hxl:=rv.length;have alt:=j0i oa;obtain⟨e1,o1⟩:∃e1,(s.heap.update a (Obj.mapSeq fun _=>(#[]:Array Value))).get? a=some (seqObj "list" #[] e1):=⟨_,get?_update_seq oa fun _=>#[]⟩;unfold ksk_tree;refine wpAny_bind (listItems_at oa rfl (wpAny_bind (listUpdate_at oa rfl (wpAny_bind (seqEpoch_at o1 rfl (wpAny_bind (wpAny_newTuple (wpAny_bind (wpAny_newList (wpAny_holding ?_) (j0J _))) (by show vs.length<=_;omega))))) (by rw[j0h];omega) (j0J _))));have J1:Inv X pins σ H {s with heap:=s.heap.update a (Obj.mapSeq fun _=>(#[]:Array Value)),toks:=s.toks}:=I.turned (fun b o hb g=>by rw[j0Z _ _ _ _ hb];exact g) fa.1 fa.2.1 fa.2.2.2.1 fa.2.2.2.2.1 fa.2.2.2.2.2;have keep:∀b u,(s.heap.update a (Obj.mapSeq fun _=>(#[]:Array Value))).get? b=some u->(((s.heap.update a (Obj.mapSeq fun _=>(#[]:Array Value))).push (seqObj "tuple" vs.toArray 0)).push (seqObj "list" #[] 0)).get? b=some u:=fun b u g=>j0b _ (j0b _ g);have J2:=J1.kept (t':=s.toks) keep;have big:s.heap.objs.size<=((s.heap.update a (Obj.mapSeq fun _=>(#[]:Array Value))).push (seqObj "tuple" vs.toArray 0)).objs.size:=by rw[size_push',Heap.size_update];exact Nat.le_succ _
 have kn:=I.hok.fresh big;have fk:=I.fpOk (H':=H) big kn;refine jy2 (s:={s with heap:=((s.heap.update a (Obj.mapSeq fun _=>(#[]:Array Value))).push (seqObj "tuple" vs.toArray 0)).push (seqObj "list" #[] 0)}) F hr hb J2 (j0f _ rfl) (keep a _ o1) (Nat.ne_of_gt (j0m alt big)) fk fa rv hl nd h64 hK fun H2 s2 q out h' c hk J b1 b2 pm up eo g1 g2=>?_;have inr:∀i∈q.toList,i<ts.length:=fun i hi=>by
  have:=pm.perm.mem_iff.mp (Array.mem_def.mpr hi);simpa using this
 refine fin H2 s2 q.toList h' hk b2 (by simpa using pm.perm.toList) ?_ ?_
 ·rw[List.pairwise_iff_getElem];intro i j hi hj hij;rw[j0d,j0F,pm.size]at hi hj;have hs:=pm.size;have:=up i j hij hj;have di:q.getD i 0=q[i]'(by omega):=by simp[Array.getD,hs,hi]
  have dj:q.getD j 0=q[j]'(by omega):=by simp[Array.getD,hs,hj]
  rw[di,dj]at this;unfold jwE js8 at this;rw[jk8,jk8]at this;simpa using this
 ·rw[eo]at g1;refine J.adopt (t':=s2.toks) ⟨b2,fa.2⟩ ⟨b1,fk.2⟩ g1 (jde fun i hi=>?_) (by rw[j0d,j0F,pm.size];omega) g2;have:=inr i hi;obtain⟨u,hu,ru⟩:=rv.get (i:=i) (x:=xs[i]'(by omega)) (by simp);have e1:xs.getD i .non=xs[i]'(by omega):=by simp[List.getD,show i<xs.length by omega]
  have e2:vs.getD i Value.none=u:=by rw[j0G,hu];rfl
  rw[e1,e2];exact ru
def jz1 (K:PySem.W.Frag)(sp:Sp)(te:TE):TE:=fun σ H Q=>te σ H fun v H1=>∃(l:Addr) (xs:List V) (ts:List T2),v=.ref l/\SqL K H1 l xs/\xs.length=ts.length/\ts.Nodup/\ts.length<64 /\
 jlq sp xs ts H1 fun H2=>∀(p:Addr) (q:List Nat),H2 p=none->q.Perm (List.range ts.length)->(q.map fun i=>ts.getD i (0,⟨#[]⟩)).Pairwise (fun x y=>jbB (t3 x) (t3 y)=true)->Q (.ref p) (upd H2 p (.lst (q.map fun i=>xs.getD i .non)))
theorem ju4 {e:Expr}{te:TE}{x:Str}{p q pos kpos:Pos}{k:Nat}{f:Addr}{fd:FuncData}{pn:Str}{sp:Sp}(F:FnOk X.prog X.w X.K X.mg X.base CX0 k f fd [pn] sp)(hr:Room (k+2) X.A)(hb0:jdF X.K fd [pn] [])(hgx:jbl X.env.scope x=true)(hmx:X.mg x=some (.ref f))
  (hg:Gl X "sorted") (hm:X.mg "sorted" =none) (he:PE X e te)
  (hst:starEach [e] X.env=[(false,eval e X.env)]:=by rfl)
  (hb:backTo pos (starEach [e] X.env)=(false,eval e X.env)::backTo pos (starEach [] X.env):=by rfl) (hpl:(backTo pos (starEach [e] X.env)).any (·.1)=false:=by rfl)
  (hal:(backToKw pos (keywordEach [⟨some "key",.Name x q,kpos⟩] X.env)).all (·.1.isSome)=true:=by rfl) (hkw:(backToKw pos (keywordEach [⟨some "key",.Name x q,kpos⟩] X.env)).any (·.1.isNone)=false:=by rfl)
  (hks:(backToKw pos (keywordEach [⟨some "key",.Name x q,kpos⟩] X.env)).filterMap (·.1)=[Str.ofString "key"]:=by rfl) :
  PE X (.Call (.Name "sorted" p) [e] [⟨some "key",.Name x q,kpos⟩] pos) (jz1 X.K sp te):=by
 intro pins s σ H Q I h;have hd:PE X (.Name x q) (fun _ H Q=>Q (.ref f) H):=jqy (pos:=q) (jav hgx).1 hmx (show jaB (.ref f) (.ref f)from rfl) (jav hgx).2.1;refine wpAny_Call_Name_kw (jgn I hg hm jmz ?_);refine PyProof.Rows.callWith_kw (thn (jm0 he ji7 hst pos pins s σ H (fun vs H1=>match vs with
  |[v]=>∃(l:Addr) (xs:List V) (ts:List T2),v=.ref l/\SqL X.K H1 l xs/\xs.length=ts.length/\ts.Nodup/\ts.length<64 /\
   jlq sp xs ts H1 fun H2=>∀(p:Addr) (q:List Nat),H2 p=none->q.Perm (List.range ts.length)->(q.map fun i=>ts.getD i (0,⟨#[]⟩)).Pairwise (fun x y=>jbB (t3 x) (t3 y)=true)->Q (.ref p) (upd H2 p (.lst (q.map fun i=>xs.getD i .non)))
  |_=>False) I h) fun us s1 ⟨vs,H1,I1,r1,q1⟩=>?_) hb hpl hal hkw
 cases r1 with
 |nil=>exact q1.elim
 | @cons v u vr ur rx rr=>
  cases rr with
  |cons _ _=>exact q1.elim
  |nil=>
   refine thn (jqU hd jvx pos pins s1 σ H1 (fun zs H2=>zs=[.ref f]/\H2=H1) I1 ⟨rfl,rfl⟩) fun ws s2 ⟨zs,H2,I2,r2,q2⟩=>?_;obtain⟨rfl,rfl⟩:=q2
   cases r2 with
   |cons ry rr=>
    cases rr;obtain⟨l,xs,ts,rfl,hq,hxl,nd,h64,hK⟩:=q1;cases rx;cases ry;rw[hks];have sz:sizeLine=16777216:=sizeLine_eq;obtain⟨its,rv,pl,hz⟩:=I2.list hq;have hlen:=rv.length;have hsz:((s2.heap.push (seqObj "list" #[] 0)).update s2.heap.objs.size (Obj.mapSeq (· ++ its.toArray))).objs.size=s2.heap.objs.size+1:=by
     rw[Heap.size_update,size_push']
    have keep:∀b o,s2.heap.get? b=some o->(((s2.heap.push (seqObj "list" #[] 0)).update s2.heap.objs.size (Obj.mapSeq (· ++ its.toArray))).push (seqObj "list" its.toArray 0)).get? b=some o:=fun b o g=>by
     have hlt:=j0i g;exact j0b _ (by rw[j0Z _ _ _ _ (j0k hlt)];exact j0b _ g)
    have J:=I2.kept (t':=s2.toks) keep;have big:s2.heap.objs.size<=((s2.heap.push (seqObj "list" #[] 0)).update s2.heap.objs.size (Obj.mapSeq (· ++ its.toArray))).objs.size:=by rw[hsz];exact Nat.le_succ _
    have fa:=I2.fpOk (H':=H2) big (I2.hok.fresh big);refine call_function_entry_kw kind_sorted plain_sorted entry_sorted (ksk_s1 _ _) ?_;unfold Builtin.«sorted»;refine wpAny_bind (m:=checkCount "sorted" 1 1 _) (wpAny_pure (wpAny_bind (collect_list pl.isList (wpAny_bind (wpAny_newList ?_ (by omega))) (by omega))));refine wpAny_bind (wpAny_holding (wpAny_call_entry_kw slot_list_sort ⟨_,j0f _ rfl,rfl⟩ entry_list_sort ?_ (ksk_l1 _ _)));show wpAny _ _ (Builtin.«list.sort» ⟨[.ref _],[(Str.ofString "key",.ref f)]⟩) _ _ _;rw[ksk_t1];refine jxB (s:={s2 with heap:=((s2.heap.push (seqObj "list" #[] 0)).update s2.heap.objs.size (Obj.mapSeq (· ++ its.toArray))).push (seqObj "list" its.toArray 0)}) F hr hb0 J (j0f _ rfl) fa rv (by omega) nd h64 hK fun H3 s3 qq h' hk n3 pm up J3=>⟨_,rfl,wpAny_pure ⟨_,rfl,.ref _,_,J3,rfl,hk _ qq n3 pm up⟩⟩
end
structure Upg (S:List Addr) (H H2:Hp):Prop where
 off:∀a,a∉S->H2 a=H a
 on:∀a∈S,∃kvs o es ep,H a=some (.dK kvs)/\o.data=.dict es ep/\H2 a=some (.frz o (.dK kvs))
section
variable {X:Cx} {pins:List (Addr×Obj)} {σ:_L2.St} {H:Hp} {s:Shared}
theorem Upg.dom (u:Upg S H H2)(a:Addr):H2 a=none↔H a=none:=by
 by_cases h:a∈S
 ·obtain⟨kvs,o,es,ep,h1,_,h2⟩:=u.on a h;rw[h1,h2];simp
 ·rw[u.off a h]
theorem Upg.same (u:Upg S H H2){a:Addr}{o:HO}(h:H a=some o)(n:∀kvs,o≠.dK kvs):H2 a=some o:=by
 by_cases hs:a∈S
 ·obtain⟨kvs,_,_,_,h1,_,_⟩:=u.on a hs;rw[h]at h1;cases h1;exact absurd rfl (n kvs)
 ·rw[u.off a hs];exact h
open Classical in
theorem Inv.upg (I:Inv X pins σ H s)(S:List Addr)(hS:∀a∈S,∃kvs,H a=some (.dK kvs)):∃H2,Upg S H H2/\Inv X pins σ H2 s:=by
 have obj:∀a,a∈S->∃kvs o es ep,H a=some (.dK kvs)/\o.data=.dict es ep/\s.heap.get? a=some o:=fun a ha=>by
  obtain⟨kvs,h1⟩:=hS a ha;obtain⟨_,_,vs,_,o,es,ep,h2,_,h3,_⟩:=(show jaS X.prog X.w H s.heap a (.dK kvs)from I.hok a _ h1);exact⟨kvs,o,es,ep,h1,h3,h2⟩
 have U:Upg S H (fun a=>if h:a∈S then some (.frz (obj a h).choose_spec.choose (.dK (obj a h).choose))else H a):=⟨fun a ha=>dif_neg ha,fun a ha=>by
  obtain⟨es,ep,h1,h2,_⟩:=(obj a ha).choose_spec.choose_spec;exact⟨_,_,es,ep,h1,h2,dif_pos ha⟩⟩
 refine⟨_,U,⟨I.ok,I.os,I.bare,?_,I.loc,I.cell,(U.dom _).mpr I.free,fun x c e=>(U.dom _).mpr (I.freeC x c e),fun p hp=>?_,fun a o h=>?_,I.len⟩⟩
 ·have B:=I.base;exact {keep:=fun b o q n h1 h2=>B.keep b o q n h1 h2,slot:=fun b o q n h1 h2=>B.slot b o q n h1 h2,free:=fun b o q n h1=>(U.dom _).mpr (B.free b o q n h1),there:=fun b o q h1=>B.there b o q h1,tups:=fun b xs q=>U.same (B.tups b xs q) (fun _ z=>by cases z),frzs:=fun b o xs q=>U.same (B.frzs b o xs q) (fun _ z=>by cases z),tbls:=fun b ps q=>let⟨more,h⟩:=B.tbls b ps q;⟨more,U.same h (fun _ z=>by cases z)⟩}
 ·obtain⟨h1,h2,h3⟩:=I.pin p hp;exact⟨h1,(U.dom _).mpr h2,h3⟩
 ·have stay:∀{b u},H b=some u->jaS X.prog X.w H s.heap b u->jaS X.prog X.w (fun a=>if h:a∈S then some (.frz (obj a h).choose_spec.choose (.dK (obj a h).choose))else H a) s.heap b u:=fun {b u} hb q=>
   q.stay (fun c v _ e=>e) (fun c e=>U.same e fun _ z=>by cases z) fun c ys e=>U.same e fun _ z=>by cases z
  by_cases ha:a∈S
  ·rw[dif_pos ha]at h;cases h;obtain⟨es,ep,h1,h2,h3⟩:=(obj a ha).choose_spec.choose_spec;exact⟨h3,stay h1 (I.hok a _ h1)⟩
  ·rw[dif_neg ha]at h;exact stay h (I.hok a _ h)
theorem jAZ (h:PE X e te):PE X e (fun σ H Q=>te σ H fun v H1=>∃S:List Addr,(∀a∈S,∃kvs,H1 a=some (.dK kvs))/\∀H2,Upg S H1 H2->Q v H2):=by
 intro pins s σ H Q I q;refine wpAny_mono (h pins s σ H _ I q) (fun u s1 hu=>?_) fun _ _ z=>z;obtain⟨v,H1,I1,r,S,hS,k⟩:=hu;obtain⟨H2,U,I2⟩:=I1.upg S hS;exact⟨v,H2,I2,r,k H2 U⟩
end
theorem jrA (ns:List Int)(h:ns≠[]):∀k,k<ns.length->ns.getD (argBest (fun i j=>decide (ns.getD i 0 > ns.getD j 0)) k) 0=mxD 0 (ns.take (k+1))
 |0,hk=>by
  cases ns with
  |nil=>exact absurd rfl h
  |cons x r=>rfl
 |k+1,hk=>by
  have ih:=jrA ns h k (by omega);have hg:ns[k+1]?=some (ns.getD (k+1) 0):=by simp[List.getD,hk]
  have et:ns.take (k+1+1)=ns.take (k+1)++[ns.getD (k+1) 0]:=by rw[List.take_add_one,hg];rfl
  rw[et,joZ (fun z=>by have:=congrArg List.length z;rw[j0Q,j1b]at this;omega),<- ih];show ns.getD (if decide (ns.getD (k+1) 0 > ns.getD (argBest _ k) 0)=true then k+1 else argBest _ k) 0=_;by_cases hb:ns.getD (k+1) 0 > ns.getD (argBest (fun i j=>decide (ns.getD i 0 > ns.getD j 0)) k) 0
  ·rw[if_pos hb,if_pos (by simpa using hb)]
  ·rw[if_neg hb,if_neg (by simpa using hb)]
noncomputable def jB3 (K:PySem.W.Frag):List V->Hp->VK->Prop:=fun xs H Q=>∃(p:Addr) (ns:List Int),xs=[.ref p]/\SqL K H p (ns.map V.int)/\ns≠[]/\Q (.int (mxD 0 ns)) H
theorem jqG (hc:X.calm=true):jbe X (.builtin "max") (jB3 X.K):=by
 intro pins s σ H xs us Q I r h;obtain⟨p,ns,rfl,hq,hne,q⟩:=h;obtain⟨u,rfl,rx⟩:=jiZ r;cases rx;obtain⟨its,rv,pl,_⟩:=I.list hq;have hi:=jj1 rv;obtain⟨ys,hys⟩:=hi.allInts.items;have hl:=pl.isList;rw[hys]at hl;have en:ys.toList.map (·.1)=ns:=by
  rw[<- nums_intItems,<- hys];exact hi.numsOf
 have ez:ys.size=ns.length:=by rw[<- en];simp
 have hpos:0<ns.length:=List.length_pos_iff.mpr hne;have ea:numAt ys=fun i=>ns.getD i 0:=by
  funext i
  rw[<- en];simp[numAt]
 refine max_intList (I.ok.hd hc) hl (by rw[ez];exact hpos) fun v h' tk hv hk=>?_;obtain⟨t,rfl⟩:=intItems_at hv;refine⟨.int (mxD 0 ns),H,I.kept (t':=tk) hk,⟨t,?_⟩,q⟩;rw[ea,ez];show Value.int (ns.getD (argBest (fun i j=>decide (ns.getD i 0 > ns.getD j 0)) (ns.length - 1)) 0) t=_;rw[jrA ns hne _ (by omega),Nat.sub_add_cancel hpos,List.take_length]
section
variable {X:Cx} {pins:List (Addr×Obj)}
theorem Inv.dwn (h0:∀o xs,X.H₀ a≠some (.frz o xs))(I:Inv X pins σ H s)(h:H a=some (.frz o (.dK kvs))):Inv X pins σ (upd H a (.dK kvs)) s:=by
 have dom:∀b,upd H a (.dK kvs) b=none↔H b=none:=fun b=>by
  by_cases e:b=a
  ·subst e;rw[jag,h];simp
  ·rw[jae e]
 have same:∀{b:Addr} {u:HO},H b=some u->(∀o k,u≠.frz o (.dK k))->upd H a (.dK kvs) b=some u:=fun {b u} hb n=>by
  by_cases e:b=a
  ·subst e;rw[h]at hb;cases hb;exact absurd rfl (n _ _)
  ·rw[jae e];exact hb
 refine⟨I.ok,I.os,I.bare,?_,I.loc,I.cell,(dom _).mpr I.free,fun x c e=>(dom _).mpr (I.freeC x c e),fun p hp=>?_,fun b u hb=>?_,I.len⟩
 ·have B:=I.base;have fz:∀b o xs,X.H₀ b=some (.frz o xs)->upd H a (.dK kvs) b=some (.frz o xs):=fun b o xs q=>by
   by_cases e:b=a
   ·subst e;exact absurd q (h0 o xs)
   ·rw[jae e];exact B.frzs b o xs q
  exact {keep:=fun b o q n h1 h2=>B.keep b o q n h1 h2,slot:=fun b o q n h1 h2=>B.slot b o q n h1 h2,free:=fun b o q n h1=>(dom _).mpr (B.free b o q n h1),there:=fun b o q h1=>B.there b o q h1,tups:=fun b xs q=>same (B.tups b xs q) (fun _ _ z=>by cases z),frzs:=fun b o xs q=>fz b o xs q,tbls:=fun b ps q=>let⟨more,h⟩:=B.tbls b ps q;⟨more,same h (fun _ _ z=>by cases z)⟩}
 ·obtain⟨h1,h2,h3⟩:=I.pin p hp;exact⟨h1,(dom _).mpr h2,h3⟩
 ·have stay:∀{b u},H b=some u->jaS X.prog X.w H s.heap b u->jaS X.prog X.w (upd H a (.dK kvs)) s.heap b u:=fun {b u} hb q=>
   q.stay (fun c v _ e=>e) (fun c e=>same e fun _ _ z=>by cases z) fun c ys e=>same e fun _ _ z=>by cases z
  by_cases e:b=a
  ·subst e;rw[jag]at hb;cases hb;have q:=I.hok b _ h;exact(stay h q).2
  ·rw[jae e]at hb;exact stay hb (I.hok b _ hb)
noncomputable def ItE (o:Obj)(a:Addr):It:=⟨fun _ _=>False,fun _ _ _ _=>False,fun i H=>H a=some (.frz o (.dK []))/\i=0⟩
theorem jsC {P:Program}{w:World}{K:PySem.W.Frag}{tg:Expr}{o:Obj}{es:Array DictEntry}{ep:Nat}(a it:Addr)(he:o.data=.dict es ep) :
  Turn P w K tg (ItE o a) [it] it (fun i h=>∃ob,h.get? it=some ob/\ob.cls=.type "dict_valueiterator"/\ob.data=.fields #[.ref a,.int i 0,.int 0 0,.int ep 0]) where
 mem:=by simp
 obj:=fun i h st b hb=>by
  obtain⟨ob,h1,h2,h3⟩:=st;have z:b=it:=by simpa using hb
  subst z;exact⟨_,h1,fun v z=>by rw[h3]at z;cases z⟩
 keep:=fun i h h' st k=>by
  obtain⟨ob,h1,h2⟩:=st;exact⟨ob,k it (by simp) _ h1,h2⟩
 item:=by
  intro X hP hw hK hc i pins s σ H E I hf st hg;exact hg.elim
 done:=by
  intro X hP hw hK hc i pins s σ H E I hf st hg;subst hP hw hK;obtain⟨hH,rfl⟩:=hg;obtain⟨vs,hkv,hat,hlo⟩:=jgl I hH he;cases hkv;obtain⟨f0,f1,f2,f3,f4,f5⟩:=hf it (by simp);exact wpAny_pyNext_values_end (i:=0) (kvs:=([]:List (Key×Value))) (I.ok.hd hc) st hat rfl fun h' eb=>⟨rfl,I.turned (t':=s.toks) (fun b o hb e=>eb b o hb e) f0 f1 f3 f4 f5⟩
 self:=fun _ _ _ _ _ st h=>by
  obtain⟨ob,h1,h2,_⟩:=st;have ty:Shared.TypeIs _ (.ref it) "dict_valueiterator":=⟨_,h1,h2⟩;refine wpAny_pyIter_slot ty F.slot_dict_valueiterator_iter (wpAny_call_entry F.slot_dict_valueiterator_iter ty entry_dict_valueiterator_iter ?_ (F.args_dict_valueiterator_iter_1 _));change wpAny _ _ (ret (.ref it)) _ _ _;exact wpAny_pure ⟨_,rfl,"dict_valueiterator",_,ty,F.slot_dict_valueiterator_next.lookup,h⟩
def jBQ (B:Hp)(te:TE):TI:=fun σ H R=>te σ H fun x H1=>∃a,x=.ref a/\H1 a=some (.dK [])/\∀o H2,(∀o' xs,B a≠some (.frz o' xs))->H2=upd H1 a (.frz o (.dK []))->R (ItE o a) H2
theorem joH {e tg:Expr} {te:TE} {apos pos:Pos} (he:PE X e te) (hb:attributeBase e "values" X.env (eval e X.env)=eval e X.env) (hl:(apos.endLine==pos.line)=true) :
  PI X tg (.Call (.Attribute e "values" apos) [] [] pos) (jBQ X.H₀ te):=by
 intro pins s σ H R I h;refine wpAny_Call_method0_late hb hl (thn (he pins s σ H _ I h) fun v s1 ⟨x,H1,I1,r1,q1⟩=>?_);obtain⟨a,rfl,hH0,q⟩:=q1;cases r1;obtain⟨H2,U,I2⟩:=I1.upg [a] fun b hb=>by
  have:b=a:=by simpa using hb
  subst this;exact⟨_,hH0⟩
 obtain⟨kvs,o,es,ep,u1,hd,hH⟩:=U.on a (by simp);rw[hH0]at u1;cases u1;have e2:H2=upd H1 a (.frz o (.dK [])):=funext fun b=>by
  by_cases e:b=a
  ·subst e;rw[hH,jag]
  ·rw[jae e];exact U.off b (by simpa using e)
 have q2:=q o H2 (fun o' xs z=>by
  have:=I1.base.frzs a o' xs z;rw[hH0]at this;cases this) e2
 obtain⟨vs,hkv,hat,hlo⟩:=jgl I2 hH hd;cases hkv;refine⟨"dict","dict.values",j1z,PySem.F.slot_dict_values,PySem.F.type_dict_values,hat.dictOf.typeIs,fun b q=>?_,?_⟩
 ·cases q;obtain⟨o',es',ho,hc,_⟩:=hat;exact⟨o',ho,hc.2.1⟩
 refine j1j rfl (PySem.evalArgs_none ?_);refine call_meetsIn PySem.F.slot_dict_values hat.dictOf.typeIs PySem.F.entry_dict_values (PySem.F.args_dict_values_1 _) (meets_dict_values (jal X.prog X.w) a hlo) ⟨⟨[],hat.dictOf⟩,?_⟩;change wpAny (model X.prog X.w) X.A (pyIter (.ref s1.heap.objs.size)) _ _ _;refine wpAny_pyIter_values (s:={s1 with heap:=s1.heap.push {cls:=.type "dict_values",data:=.fields #[.ref a]}}) ⟨_,j0f _ rfl,rfl,rfl⟩ (hat.push _) ?_;have z1:(s1.heap.push {cls:=.type "dict_values",data:=.fields #[.ref a]}).objs.size=s1.heap.objs.size+1:=j09 ..;have gi:=j0f (s1.heap.push {cls:=.type "dict_values",data:=.fields #[.ref a]}) (o:={cls:=.type "dict_valueiterator",data:=.fields #[.ref a,.int 0 0,.int 0 0,.int ep 0]}) rfl;refine⟨_,[_],_,_,H2,rfl,I2.kept (t':=s1.toks) fun b o e=>j0b _ (j0b _ e),jsC a _ hd,⟨_,gi,rfl,rfl⟩,fun b hb=>?_,q2⟩;have hb':b=(s1.heap.push {cls:=.type "dict_values",data:=.fields #[.ref a]}).objs.size:=by simpa using hb
 have hle2:s1.heap.objs.size<=b:=by rw[hb',z1];exact Nat.le_succ _
 exact I2.fpOk hle2 (I2.hok.fresh hle2)
def jsH (t:TE):Prop:=∀σ H (P P':VK),(∀v H1,P v H1->P' v H1)->t σ H P->t σ H P'
def jsx (te:TE):TE:=fun σ H Q=>te σ H fun x H1=>∃a,x=.ref a/\H1 a=some (.dK [])/\∀p,H1 p=none->Q (.ref p) (upd H1 p (.lst []))
theorem jux (hc:X.calm=true) (S:CompScope X own N' scope) (he:PE X e te) (hb:attributeBase e "values" X.env (eval e X.env)=eval e X.env) (hl:(apos.endLine==pos.line)=true) (ht:jsH te) :
  PE X (.ListComp elt [⟨tg,.Call (.Attribute e "values" apos) [] [] pos,ifs,0⟩] scope pos') (jsx te):=by
 intro pins s σ H Q I h;have C:=jrj (pos:=pos') (elt:=elt) (ifs:=ifs) (g:=fun _ _ _ _=>False) (tt:=fun _ _ _=>False) (te:=fun _ _ _=>False) hc S (joH (tg:=tg) he hb hl) (fun C fp s H=>by intro _ _ _ _ _ _ _ _ _ z;exact z.elim) (fun C fp s H=>by intro _ _ _ _ _ _ z;exact z.elim) (fun C fp s H=>by intro _ _ _ _ _ _ z;exact z.elim);refine wpAny_mono (C pins s σ H (fun v H'=>∃a H1 o p,v=.ref p/\H1 a=some (.dK [])/\(∀o' xs,X.H₀ a≠some (.frz o' xs))/\H1 p=none/\H'=upd (upd H1 a (.frz o (.dK []))) p (.lst [])/\Q (.ref p) (upd H1 p (.lst []))) I ?_) (fun u s1 hu=>?_) fun _ _ z=>z
 ·refine ht σ H _ _ (fun x H1 ⟨a,e1,e2,q⟩=>⟨a,e1,e2,fun o H2 hB e3=>?_⟩) h;subst e3;refine⟨fun i m ys H'=>i=0/\ys=[]/\H'=upd H1 a (.frz o (.dK [])),⟨0,rfl,rfl,rfl⟩,?_⟩;rintro i m ys H' ⟨rfl,rfl,rfl⟩;refine .inl ⟨⟨jag,rfl⟩,fun p hp=>?_⟩;have hpa:p≠a:=fun z=>by rw[z,jag]at hp;cases hp
  rw[jae hpa]at hp;exact⟨a,H1,o,p,rfl,e2,hB,hp,rfl,q p hp⟩
 ·obtain⟨v,H',I',r,a,H1,o,p,rfl,e1,hB,hp,rfl,q⟩:=hu;have hpa:p≠a:=fun z=>by rw[z,e1]at hp;cases hp
  have hf:upd (upd H1 a (.frz o (.dK []))) p (.lst []) a=some (.frz o (.dK [])):=by rw[jae hpa.symm,jag]
  have J:=I'.dwn hB hf;have eH:upd (upd (upd H1 a (.frz o (.dK []))) p (.lst [])) a (.dK [])=upd H1 p (.lst []):=funext fun b=>by
   by_cases h1:b=a
   ·subst h1;rw[jag,jae hpa.symm,e1]
   ·rw[jae h1];by_cases h2:b=p
    ·subst h2;rw[jag,jag]
    ·rw[jae h2,jae h2,jae h1]
  rw[eH]at J;exact⟨_,_,J,r,q⟩
theorem jnk (hN:X.N.Nodup) (hy:X.N[i]?=some y) (hx:Loc X.env.scope y) (hc:X.calm=true) (S:CompScope X own N' scope) (he:PE X e te) (hb:attributeBase e "values" X.env (eval e X.env)=eval e X.env) (hl:(apos.endLine==pos.line)=true) (ht:jsH te)
  (hsw:swapsWith (.ListComp elt [⟨tg,.Call (.Attribute e "values" apos) [] [] pos,ifs,0⟩] scope pos') (some (.Name y py)) spos.line X.env=pure true) (hf:X.fn y=true∨X.env.scope.names.lookup y=some .local) :
  PS X (.Assign [.Name y py] (.ListComp elt [⟨tg,.Call (.Attribute e "values" apos) [] [] pos,ifs,0⟩] scope pos') spos) (jzK (jsx te) (jeW i)):=by
 intro pins s σ H D I h;have C:=jjF (pos:=pos') (elt:=elt) (ifs:=ifs) (g:=fun _ _ _ _=>False) (tt:=fun _ _ _=>False) (te:=fun _ _ _=>False) hN hy hx hc S (joH (tg:=tg) he hb hl) (fun C fp s H=>by intro _ _ _ _ _ _ _ _ _ z;exact z.elim) (fun C fp s H=>by intro _ _ _ _ _ _ z;exact z.elim) (fun C fp s H=>by intro _ _ _ _ _ _ z;exact z.elim) hsw (by intro _;rfl) hf;refine wpAny_mono (C pins s σ H {D with nx:=fun σ' H'=>∃a H1 o p,H1 a=some (.dK [])/\(∀o' xs,X.H₀ a≠some (.frz o' xs))/\H1 p=none/\H'=upd (upd H1 a (.frz o (.dK []))) p (.lst [])/\D.nx σ' (upd H1 p (.lst []))} I ?_) (fun fl s1 hu=>?_) fun _ _ z=>z
 ·refine ht σ H _ _ (fun x H1 ⟨a,e1,e2,q⟩=>⟨a,e1,e2,fun o H2 hB e3=>?_⟩) h;subst e3;refine⟨fun i m ys H'=>i=0/\ys=[]/\H'=upd H1 a (.frz o (.dK [])),⟨0,rfl,rfl,rfl⟩,?_⟩;rintro i m ys H' ⟨rfl,rfl,rfl⟩;refine .inl ⟨⟨jag,rfl⟩,fun p hp=>?_⟩;have hpa:p≠a:=fun z=>by rw[z,jag]at hp;cases hp
  rw[jae hpa]at hp;exact⟨a,H1,o,p,e2,hB,hp,rfl,q p hp⟩
 ·cases fl with
  |next=>
   obtain⟨σ',H',I',a,H1,o,p,e1,hB,hp,rfl,q⟩:=hu;have hpa:p≠a:=fun z=>by rw[z,e1]at hp;cases hp
   have hf:upd (upd H1 a (.frz o (.dK []))) p (.lst []) a=some (.frz o (.dK [])):=by rw[jae hpa.symm,jag]
   have J:=I'.dwn hB hf;have eH:upd (upd (upd H1 a (.frz o (.dK []))) p (.lst [])) a (.dK [])=upd H1 p (.lst []):=funext fun b=>by
    by_cases h1:b=a
    ·subst h1;rw[jag,jae hpa.symm,e1]
    ·rw[jae h1];by_cases h2:b=p
     ·subst h2;rw[jag,jag]
     ·rw[jae h2,jae h2,jae h1]
   rw[eH]at J;exact⟨_,_,J,q⟩
  |_=>exact hu
end
end _L2
namespace _L3
open PySem PySem.Spec PyProof.Rows _L2
set_option genInjectivity true in
inductive D where
 |non|bl (b:Bool)|int (i:Int)|str (x:Str)|ty (n:String)
 |tup (ds:List D)|lst (ds:List D)|scr (ds:List D)|stt (ds:List D)
 |dK (ks:List Key) (vs:List D)|dT (ks:List (List Key)) (vs:List D)|dF (ks:List Key) (vs:List D)
 |obj (C:Addr) (fs:List Str) (ds:List D)
 |cel (n:Nat)
inductive Cl where
 |lst (ds:List D)
 |dK (ks:List Key) (vs:List D)|dT (ks:List (List Key)) (vs:List D)
 |obj (C:Addr) (fs:List Str) (ds:List D)
noncomputable abbrev M:=List (Option Cl)
set_option genInjectivity true in
inductive Out (α:Type) where
 |ok (a:α) (μ:M)|exc (x:D) (μ:M)|bad
noncomputable def Out.bind {α β:Type}(o:Out α)(f:α->M->Out β):Out β:=
 match o with
 |.ok a μ=>f a μ
 |.exc x μ=>.exc x μ
 |.bad=>.bad
theorem Out.bind_ok {α β:Type}{o:Out α}{f:α->M->Out β}{b:β}{μ:M}(h:o.bind f=.ok b μ):∃a μ1,o=.ok a μ1/\f a μ1=.ok b μ:=by
 cases o with
 |ok a μ1=>exact⟨a,μ1,rfl,h⟩
 |exc x μ1=>cases h
 |bad=>cases h
structure Wd where
 Z:Hp
 γ:Nat->Addr
section
variable (K:PySem.W.Frag) (w:Wd) (n:Nat)
mutual
noncomputable def Den:D->V->Prop
 |.non,v=>v=.non
 |.bl b,v=>v=.bl b
 |.int i,v=>v=.int i
 |.str x,v=>v=.str x
 |.ty t,v=>v=.ty t
 |.tup ds,v=>∃a xs,v=.ref a/\w.Z a=some (.tup xs)/\DenL ds xs
 |.lst ds,v=>∃a xs,v=.ref a/\w.Z a=some (.lst xs)/\DenL ds xs
 |.scr ds,v=>∃a xs,v=.ref a/\SqL K w.Z a xs/\DenL ds xs
 |.stt ds,v=>∃a xs,v=.ref a/\SqT K w.Z a xs/\DenL ds xs
 |.dK ks vs,v=>∃a xs,v=.ref a/\ks.length=vs.length/\w.Z a=some (.dK (ks.zip xs))/\DenL vs xs
 |.dT ks vs,v=>∃a xs,v=.ref a/\ks.length=vs.length/\w.Z a=some (.dT (ks.zip xs))/\DenL vs xs
 |.dF ks vs,v=>∃a o es ep xs,v=.ref a/\ks.length=vs.length/\o.data=.dict es ep/\w.Z a=some (.frz o (.dK (ks.zip xs)))/\DenL vs xs
 |.obj C fs ds,v=>∃a dx xs,v=.ref a/\fs.length=ds.length/\w.Z a=some (.ins C dx (fs.zip xs))/\DenL ds xs
 |.cel k,v=>k<n/\v=.ref (w.γ k)
noncomputable def DenL:List D->List V->Prop
 |[],vs=>vs=[]
 |d::ds,vs=>∃v ws,vs=v::ws/\Den d v/\DenL ds ws
end
noncomputable def Holds (H:Hp)(a:Addr):Cl->Prop
 |.lst ds=>∃xs,H a=some (.lst xs)/\DenL K w n ds xs
 |.dK ks vs=>∃xs,ks.length=vs.length/\H a=some (.dK (ks.zip xs))/\DenL K w n vs xs
 |.dT ks vs=>∃xs,ks.length=vs.length/\H a=some (.dT (ks.zip xs))/\DenL K w n vs xs
 |.obj C fs ds=>∃dx xs,fs.length=ds.length/\H a=some (.ins C dx (fs.zip xs))/\DenL K w n ds xs
end
theorem jrH {K:PySem.W.Frag}{H H':Hp}{a:Addr}{xs:List V}(e:jgH H H')(h:SqT K H a xs):SqT K H' a xs:=by
 rcases h with(h|⟨o,h⟩)|⟨h1,h2⟩
 ·exact .inl (.inl (e _ _ h))
 ·exact .inl (.inr ⟨o,e _ _ h⟩)
 ·exact .inr ⟨h1,h2⟩
structure Ext (w w':Wd) (n n':Nat):Prop where
 z:jgH w.Z w'.Z
 g:∀i,i<n->w'.γ i=w.γ i
 le:n<=n'
theorem Ext.refl (w:Wd)(n:Nat):Ext w w n n:=⟨jgH.refl _,fun _ _=>rfl,j0l _⟩
theorem Ext.trans (a:Ext w w1 n n1)(b:Ext w1 w2 n1 n2):Ext w w2 n n2:=
 ⟨a.z.trans b.z,fun i hi=>(b.g i (j0m hi a.le)).trans (a.g i hi),j0A a.le b.le⟩
section
variable {K:PySem.W.Frag} {w w':Wd} {n n':Nat}
theorem jaF:∀{ds:List D} {xs:List V},DenL K w n ds xs↔Paired (Den K w n) ds xs
 |[],xs=>by
  unfold DenL;exact⟨fun h=>by subst h;exact .nil,fun h=>by cases h;rfl⟩
 |d::ds,xs=>by
  unfold DenL;constructor
  ·rintro⟨v,ws,rfl,h1,h2⟩;exact .cons h1 (jaF.mp h2)
  ·intro h
   cases h with
   |cons h1 h2=>exact⟨_,_,rfl,h1,jaF.mpr h2⟩
mutual
theorem Den.mono (e:Ext w w' n n'):∀{d:D} {v:V},Den K w n d v->Den K w' n' d v
 |.non,_,h=>by unfold Den at h ⊢;exact h
 |.bl _,_,h=>by unfold Den at h ⊢;exact h
 |.int _,_,h=>by unfold Den at h ⊢;exact h
 |.str _,_,h=>by unfold Den at h ⊢;exact h
 |.ty _,_,h=>by unfold Den at h ⊢;exact h
 |.tup ds,_,h=>by
  unfold Den at h ⊢;obtain⟨a,xs,h1,h2,h3⟩:=h;exact⟨a,xs,h1,e.z _ _ h2,DenL.mono e h3⟩
 |.lst ds,_,h=>by
  unfold Den at h ⊢;obtain⟨a,xs,h1,h2,h3⟩:=h;exact⟨a,xs,h1,e.z _ _ h2,DenL.mono e h3⟩
 |.scr ds,_,h=>by
  unfold Den at h ⊢;obtain⟨a,xs,h1,h2,h3⟩:=h;exact⟨a,xs,h1,e.z.seq h2,DenL.mono e h3⟩
 |.stt ds,_,h=>by
  unfold Den at h ⊢;obtain⟨a,xs,h1,h2,h3⟩:=h;exact⟨a,xs,h1,jrH e.z h2,DenL.mono e h3⟩
 |.dK ks vs,_,h=>by
  unfold Den at h ⊢;obtain⟨a,xs,h1,h2,h3,h4⟩:=h;exact⟨a,xs,h1,h2,e.z _ _ h3,DenL.mono e h4⟩
 |.dT ks vs,_,h=>by
  unfold Den at h ⊢;obtain⟨a,xs,h1,h2,h3,h4⟩:=h;exact⟨a,xs,h1,h2,e.z _ _ h3,DenL.mono e h4⟩
 |.dF ks vs,_,h=>by
  unfold Den at h ⊢;obtain⟨a,o,es,ep,xs,h1,h2,h3,h4,h5⟩:=h;exact⟨a,o,es,ep,xs,h1,h2,h3,e.z _ _ h4,DenL.mono e h5⟩
 |.obj C fs ds,_,h=>by
  unfold Den at h ⊢;obtain⟨a,dx,xs,h1,h2,h3,h4⟩:=h;exact⟨a,dx,xs,h1,h2,e.z _ _ h3,DenL.mono e h4⟩
 |.cel k,_,h=>by
  unfold Den at h ⊢;exact⟨j0m h.1 e.le,by rw[e.g k h.1];exact h.2⟩
theorem DenL.mono (e:Ext w w' n n'):∀{ds:List D} {xs:List V},DenL K w n ds xs->DenL K w' n' ds xs
 |[],_,h=>by unfold DenL at h ⊢;exact h
 |d::ds,_,h=>by
  unfold DenL at h ⊢;obtain⟨v,ws,h1,h2,h3⟩:=h;exact⟨v,ws,h1,Den.mono e h2,DenL.mono e h3⟩
end
theorem Holds.mono (e:Ext w w' n n')(ha:H' a=H a)(h:Holds K w n H a c):Holds K w' n' H' a c:=by
 cases c with
 |lst ds=>obtain⟨xs,h1,h2⟩:=h;exact⟨xs,ha.trans h1,h2.mono e⟩
 |dK ks vs=>obtain⟨xs,h0,h1,h2⟩:=h;exact⟨xs,h0,ha.trans h1,h2.mono e⟩
 |dT ks vs=>obtain⟨xs,h0,h1,h2⟩:=h;exact⟨xs,h0,ha.trans h1,h2.mono e⟩
 |obj C fs ds=>obtain⟨dx,xs,h0,h1,h2⟩:=h;exact⟨dx,xs,h0,ha.trans h1,h2.mono e⟩
theorem Holds.some (h:Holds K w n H a c):∃o,H a=some o:=by
 cases c with
 |lst ds=>obtain⟨xs,h1,h2⟩:=h;exact⟨_,h1⟩
 |dK ks vs=>obtain⟨xs,h0,h1,h2⟩:=h;exact⟨_,h1⟩
 |dT ks vs=>obtain⟨xs,h0,h1,h2⟩:=h;exact⟨_,h1⟩
 |obj C fs ds=>obtain⟨dx,xs,h0,h1,h2⟩:=h;exact⟨_,h1⟩
end
structure Rep (K:PySem.W.Frag) (w:Wd) (μ:M) (H:Hp):Prop where
 sub:jgH w.Z H
 liv:∀k c,μ[k]?=some (some c)->w.Z (w.γ k)=none/\Holds K w μ.length H (w.γ k) c
 inj:∀i j ci cj,μ[i]?=some (some ci)->μ[j]?=some (some cj)->w.γ i=w.γ j->i=j
section
variable {K:PySem.W.Frag} {w:Wd} {μ:M} {H:Hp}
theorem Rep.znone (R:Rep K w μ H){p:Addr}(hp:H p=none):w.Z p=none:=R.sub.free hp
theorem Rep.ne (R:Rep K w μ H){p:Addr}(hp:H p=none){k:Nat}{c:Cl}(h:μ[k]?=some (some c)):w.γ k≠p:=fun e=>by
 obtain⟨o,ho⟩:=(R.liv k c h).2.some;rw[e,hp]at ho;cases ho
theorem Rep.frz (R:Rep K w μ H){p:Addr}(hp:H p=none)(o:HO):Rep K ⟨upd w.Z p o,w.γ⟩ μ (upd H p o)/\Ext w ⟨upd w.Z p o,w.γ⟩ μ.length μ.length:=by
 have ex:Ext w ⟨upd w.Z p o,w.γ⟩ μ.length μ.length:=⟨(jgH.refl _).upd (R.znone hp),fun _ _=>rfl,j0l _⟩;refine⟨⟨fun b u h=>?_,fun k c h=>?_,R.inj⟩,ex⟩
 ·replace h:upd w.Z p o b=some u:=h;by_cases e:b=p
  ·subst e;rw[jag]at h ⊢;exact h
  ·rw[jae e]at h ⊢;exact R.sub _ _ h
 ·have hne:=R.ne hp h;exact⟨by show upd w.Z p o (w.γ k)=none;rw[jae hne];exact(R.liv k c h).1,(R.liv k c h).2.mono ex (jae hne)⟩
theorem Rep.cell (R:Rep K w μ H){p:Addr}(hp:H p=none)(o:HO)(c:Cl)(hc:∀w':Wd,Ext w w' μ.length (μ.length+1)->Holds K w' (μ.length+1) (upd H p o) p c) :
  ∃w':Wd,Rep K w' (μ++[some c]) (upd H p o)/\Ext w w' μ.length (μ.length+1)/\w'.γ μ.length=p:=by
 have ex:Ext w ⟨w.Z,fun i=>if i=μ.length then p else w.γ i⟩ μ.length (μ.length+1):=⟨jgH.refl _,fun i hi=>if_neg (j0k hi),Nat.le_succ _⟩;have hcases:∀(k:Nat) (d:Cl),(μ++[some c])[k]?=some (some d)->(k<μ.length/\μ[k]?=some (some d))∨(k=μ.length/\d=c):=fun k d h=>by
  by_cases hk:k<μ.length
  ·exact .inl ⟨hk,by rwa [j0X hk]at h⟩
  ·rw[j06 (by omega)]at h;have hk0:k - μ.length=0:=by
    cases e:k - μ.length with
    |zero=>rfl
    |succ m=>rw[e]at h;simp at h
   rw[hk0]at h;exact .inr ⟨by omega,by simpa using h.symm⟩
 refine⟨_,⟨?_,?_,?_⟩,ex,if_pos rfl⟩
 ·intro b u h;have hb:b≠p:=jar (R.sub _ _ h) hp;rw[jae hb];exact R.sub _ _ h
 ·intro k d h;have hlen:(μ++[some c]).length=μ.length+1:=by simp
  rw[hlen];rcases hcases k d h with⟨hk,h'⟩|⟨rfl,rfl⟩
  ·have hne:=R.ne hp h';have hg:(if k=μ.length then p else w.γ k)=w.γ k:=if_neg (j0k hk);show w.Z (if k=μ.length then p else w.γ k)=none/\Holds K _ _ _ (if k=μ.length then p else w.γ k) d;rw[hg];exact⟨(R.liv k d h').1,(R.liv k d h').2.mono ex (jae hne)⟩
  ·show w.Z (if μ.length=μ.length then p else w.γ μ.length)=none/\Holds K _ _ _ (if μ.length=μ.length then p else w.γ μ.length) d;rw[if_pos rfl];exact⟨R.znone hp,hc _ ex⟩
 ·intro i j ci cj hi hj e;have e':(if i=μ.length then p else w.γ i)=(if j=μ.length then p else w.γ j):=e;rcases hcases i ci hi with⟨hi',h1⟩|⟨rfl,_⟩<;>rcases hcases j cj hj with⟨hj',h2⟩|⟨rfl,_⟩
  ·rw[if_neg (j0k hi'),if_neg (j0k hj')]at e';exact R.inj i j ci cj h1 h2 e'
  ·rw[if_neg (j0k hi'),if_pos rfl]at e';exact absurd e' (R.ne hp h1)
  ·rw[if_pos rfl,if_neg (j0k hj')]at e';exact absurd e'.symm (R.ne hp h2)
  ·rfl
theorem Rep.put (R:Rep K w μ H){k:Nat}{c0 c:Cl}(hk:μ[k]?=some (some c0))(o:HO)(hc:Holds K w μ.length (upd H (w.γ k) o) (w.γ k) c):Rep K w (μ.set k (some c)) (upd H (w.γ k) o):=by
 have hkl:k<μ.length:=(j0g.mp hk).1;have hz:=(R.liv k c0 hk).1;have hcases:∀(j:Nat) (d:Cl),(μ.set k (some c))[j]?=some (some d)->(j=k/\d=c)∨(j≠k/\μ[j]?=some (some d)):=fun j d h=>by
  by_cases e:j=k
  ·subst e;rw[List.getElem?_set_self hkl]at h;exact .inl ⟨rfl,by simpa using h.symm⟩
  ·rw[List.getElem?_set_ne (fun z=>e z.symm)]at h;exact .inr ⟨e,h⟩
 refine⟨fun b u h=>?_,fun j d h=>?_,fun i j ci cj hi hj e=>?_⟩
 ·have hb:b≠w.γ k:=fun z=>by rw[z,hz]at h;cases h
  rw[jae hb];exact R.sub _ _ h
 ·rw[List.length_set];rcases hcases j d h with⟨rfl,rfl⟩|⟨hne,h'⟩
  ·exact⟨hz,hc⟩
  ·have:w.γ j≠w.γ k:=fun z=>hne (R.inj j k d c0 h' hk z);exact⟨(R.liv j d h').1,(R.liv j d h').2.mono (Ext.refl _ _) (jae this)⟩
 ·have l1:∃c',μ[i]?=some (some c'):=by
   rcases hcases i ci hi with⟨rfl,_⟩|⟨_,h⟩
   ·exact⟨_,hk⟩
   ·exact⟨_,h⟩
  have l2:∃c',μ[j]?=some (some c'):=by
   rcases hcases j cj hj with⟨rfl,_⟩|⟨_,h⟩
   ·exact⟨_,hk⟩
   ·exact⟨_,h⟩
  exact R.inj i j _ _ l1.choose_spec l2.choose_spec e
end
noncomputable abbrev S3:=List (Option D)
def jFu (K:PySem.W.Frag)(w:Wd)(n:Nat)(o:Option D)(x:Option V):Prop:=∀d,o=some d->∃v,x=some v/\Den K w n d v
abbrev jb1 (K:PySem.W.Frag) (w:Wd) (n:Nat) (ρ:S3) (σ:_L2.St):Prop:=Paired (jFu K w n) ρ σ
section
variable {K:PySem.W.Frag} {w w':Wd} {n n':Nat}
theorem jb1.mono (e:Ext w w' n n'):∀{ρ:S3} {σ:_L2.St},jb1 K w n ρ σ->jb1 K w' n' ρ σ
 |_,_,.nil=>.nil
 |_,_,.cons h t=>.cons (fun d hd=>let⟨v,h1,h2⟩:=h d hd;⟨v,h1,h2.mono e⟩) (jb1.mono e t)
theorem jb1.get:∀{ρ:S3} {σ:_L2.St} {i:Nat} {d:D},jb1 K w n ρ σ->ρ[i]?=some (some d)->∃v,σ[i]?=some (some v)/\Den K w n d v
 |_,_,0,d,.cons h t,e=>by
  obtain⟨v,h1,h2⟩:=h d (by simpa using e);exact⟨v,by simp[h1],h2⟩
 |_,_,i+1,d,.cons h t,e=>by
  obtain⟨v,h1,h2⟩:=jb1.get (i:=i) (d:=d) t (by simpa using e);exact⟨v,by simpa using h1,h2⟩
 |_,_,_,_,.nil,e=>by simp at e
theorem jb1.set (hd:Den K w n d v):∀{ρ:S3} {σ:_L2.St} (i:Nat),jb1 K w n ρ σ->jb1 K w n (ρ.set i (some d)) (σ.set i (some v))
 |_,_,_,.nil=>.nil
 |_,_,0,.cons _ t=>.cons (fun d' e=>by cases e;exact⟨v,rfl,hd⟩) t
 |_,_,i+1,.cons h t=>.cons h (jb1.set hd i t)
theorem jb1.drop1:∀{ρ:S3} {σ:_L2.St} (i:Nat),jb1 K w n ρ σ->jb1 K w n (ρ.set i none) σ
 |_,_,_,.nil=>.nil
 |_,_,0,.cons _ t=>.cons (fun d' e=>by cases e) t
 |_,_,i+1,.cons h t=>.cons h (jb1.drop1 i t)
noncomputable def forget (fg:List Nat)(ρ:S3):S3:=fg.foldl (fun r i=>r.set i none) ρ
theorem jb1.forget:∀(fg:List Nat) {ρ:S3} {σ:_L2.St},jb1 K w n ρ σ->jb1 K w n (forget fg ρ) σ
 |[],_,_,h=>h
 |i::fg,_,_,h=>jb1.forget fg (h.drop1 i)
theorem jb1.blank:∀(k:Nat) {ρ:S3} {σ:_L2.St},jb1 K w n ρ σ->jb1 K w n (List.replicate k none++ρ) (List.replicate k none++σ)
 |0,_,_,h=>h
 |k+1,_,_,h=>by
  rw[List.replicate_succ,List.replicate_succ];exact .cons (fun d e=>by cases e) (jb1.blank k h)
theorem jb1.start (h:DenL K w n ds vs)(m:Nat):jb1 K w n (ds.map some++List.replicate m none) (vs.map some++List.replicate m none):=by
 have h':=jaF.mp h;clear h
 induction h' with
 |nil=>
  have:=jb1.blank (K:=K) (w:=w) (n:=n) m (Paired.nil:jb1 K w n [] []);simpa using this
 |cons r t ih=>exact .cons (fun d e=>by cases e;exact⟨_,rfl,r⟩) ih
end
def T3E (K:PySem.W.Frag)(r:S3->M->Out D):TE:=fun σ H Q=>∃(w:Wd) (μ:M) (ρ:S3) (d:D) (μ':M),Rep K w μ H/\jb1 K w μ.length ρ σ/\r ρ μ=.ok d μ'/\∀w' H' v,Ext w w' μ.length μ'.length->Rep K w' μ' H'->Den K w' μ'.length d v->Q v H'
def T3T (K:PySem.W.Frag)(r:S3->M->Out Bool):TT:=fun σ H Q=>∃(w:Wd) (μ:M) (ρ:S3) (b:Bool) (μ':M),Rep K w μ H/\jb1 K w μ.length ρ σ/\r ρ μ=.ok b μ'/\∀w' H',Ext w w' μ.length μ'.length->Rep K w' μ' H'->Q b H'
def T3A (K:PySem.W.Frag)(r:S3->M->Out (List D)):TA:=fun σ H Q=>∃(w:Wd) (μ:M) (ρ:S3) (ds:List D) (μ':M),Rep K w μ H/\jb1 K w μ.length ρ σ/\r ρ μ=.ok ds μ'/\∀w' H' vs,Ext w w' μ.length μ'.length->Rep K w' μ' H'->DenL K w' μ'.length ds vs->Q vs H'
theorem T3A.mono {K:PySem.W.Frag}{r:S3->M->Out (List D)}:jBh (T3A K r):=fun σ H P P' h ⟨w,μ,ρ,ds,μ',R,S,e,q⟩=>⟨w,μ,ρ,ds,μ',R,S,e,fun w' H' vs x R' d=>h _ _ (q w' H' vs x R' d)⟩
set_option genInjectivity true in
inductive Fl where
 |nx (ρ:S3)|rt (d:D)|bk (ρ:S3)|ct (ρ:S3)
noncomputable def jEH (K:PySem.W.Frag)(w:Wd)(n:Nat)(H:Hp)(E:Ends):Fl->Prop
 |.nx ρ=>∀σ,jb1 K w n ρ σ->E.nx σ H
 |.rt d=>∀v,Den K w n d v->E.rt v H
 |.bk ρ=>∀σ,jb1 K w n ρ σ->E.bk σ H
 |.ct ρ=>∀σ,jb1 K w n ρ σ->E.ct σ H
def T3S (K:PySem.W.Frag)(r:S3->M->Out Fl):TS:=fun E σ H=>∃(w:Wd) (μ:M) (ρ:S3) (fl:Fl) (μ':M),Rep K w μ H/\jb1 K w μ.length ρ σ/\r ρ μ=.ok fl μ'/\∀w' H',Ext w w' μ.length μ'.length->Rep K w' μ' H'->jEH K w' μ'.length H' E fl
noncomputable abbrev Fn:=List D->M->Out D
noncomputable def jmZ (K:PySem.W.Frag)(np:Nat)(F:Fn):Sp:=fun vs H Q _=>vs.length=np/\∃(w:Wd) (μ:M) (ds:List D) (d:D) (μ':M),Rep K w μ H/\DenL K w μ.length ds vs/\F ds μ=.ok d μ'/\∀w' H' v,Ext w w' μ.length μ'.length->Rep K w' μ' H'->Den K w' μ'.length d v->Q v H'
inductive Tg where|nm (i:Nat)|tp (is:List Nat)
inductive IK where|seq|enm|zip|rng1|rng2|str|items
inductive Md where|raw|frz|new
inductive Bi where|len|sum|min2|max2|list|tuple|int|all|isT (n:String)|isT2 (n m:String)|listRange|str|lenSet|dictZip|dict|maxL|sortD
inductive Mt where|append|extend|join|split
inductive E where
 |var (i:Nat)|cst (d:D)
 |bin (op:Operator) (m:Bool) (a b:E)
 |neg (a:E)|not_ (a:E)|and_ (a b:E)|or_ (a b:E)
 |cmp (op:CmpOp) (a b:E)|chain (o1 o2:CmpOp) (a b c:E)
 |isN (a:E)|notN (a:E)
 |ife (c a b:E)
 |tup (es:List E)|lst (m:Bool) (es:List E)
 |ix (a b:E)|sl (m:Bool) (a:E) (lo hi:List E)|stp (m:Bool) (a:E) (lo st:List E)
 |fld (a:E) (i:Nat) (f:Str)
 |call (f:Nat) (md:Md) (es:List E)
 |bi (b:Bi) (m:Bool) (es:List E)
 |mt (b:Mt) (o:E) (es:List E)|clr (o:E)|dget (o a:E)|isC (a:E) (i:Nat)
 |comp (m:Bool) (own:Nat) (tg:Tg) (ik:IK) (es:List E) (ifs:List E) (elt:E)
 |dnew (t:Bool)|dget2 (o a f:E)|tix (a b:E)|sortK (f:Nat) (m:Bool) (a:E)|vals0 (m:Bool) (a:E)|maxDf (a b:E)
 |gl (f:Nat)|gget (f:Nat) (a d:E)|gin (neg:Bool) (f:Nat) (a:E)|gix (f:Nat) (a:E)
inductive S where
 |asg (tg:Tg) (e:E)|par (i j:Nat) (a b:E)|unp (is:List Nat) (e:E)|setF (o:E) (i:Nat) (f:Str) (e:E)|setI (o i e:E)|setK (o i e:E)|whl (c:E)|ex (e:E)
 |ite (c:E) (a b:List S)
 |for_ (tg:Tg) (ik:IK) (es:List E) (body:List S) (fg:List Nat)
 |ret (e:E)|retN|pass|never
inductive Dat where
 |cst (d:D)|dct (kvs:List (Str×D))|cls (C:Addr) (k:Nat) (fs:List Str)
structure FnE where
 name:Str
 ps:List Str
 lv:Nat
 F:Fn
 dat:Option Dat
noncomputable def je9 (μ:M):D->Option (List D)
 |.lst ds=>some ds
 |.scr ds=>some ds
 |.cel k=>match μ[k]? with
  |some (some (.lst ds))=>some ds
  |_=>none
 |_=>none
noncomputable def jhc (μ:M):D->Option (List D)
 |.tup ds=>some ds
 |.stt ds=>some ds
 |d=>je9 μ d
noncomputable def mkL (m:Bool)(ds:List D)(μ:M):Out D:=if m then .ok (.cel μ.length) (μ++[some (.lst ds)])else .ok (.lst ds) μ
noncomputable def jD (ds:List D)(lo hi:Option Int):List D:=(ds.drop (HT.sIx ds.length 0 lo)).take (HT.sIx ds.length ds.length hi - HT.sIx ds.length 0 lo)
noncomputable def jlm:D->Option V
 |.non=>some .non
 |.bl b=>some (.bl b)
 |.int i=>some (.int i)
 |.str x=>some (.str x)
 |_=>none
abbrev jzB (i j:Int):Prop:=(-18446744073709551616<i/\i<18446744073709551616)∨(-18446744073709551616<j/\j<18446744073709551616)
abbrev jBc (_ j:Int):Prop:=0<j/\j<18446744073709551616
abbrev jEs (_ j:Int):Prop:=0<j
abbrev jBV (i j:Int):Prop:=0<=j/\j<=1000000/\i.natAbs<18446744073709551616
noncomputable def jyA (C:Int->Int->Prop)(f:Int->Int->Int)(a b:D)(μ:M):Out D:=
 match a,b with
 |.int i,.int j=>@ite _ (C i j) (Classical.propDecidable _) (.ok (.int (f i j)) μ) .bad
 |_,_=>.bad
noncomputable def jC1 (m:Bool)(a b:D)(μ:M):Out D:=
 match a,b with
 |.int i,.int j=>.ok (.int (i+j)) μ
 |.str x,.str y=>@ite _ (x.length+y.length<=sizeLine) (Classical.propDecidable _) (.ok (.str (x++y)) μ) .bad
 |a,b=>match je9 μ a,je9 μ b with
  |some xs,some ys=>@ite _ (xs.length+ys.length<=sizeLine) (Classical.propDecidable _) (mkL m (xs++ys) μ) .bad
  |_,_=>.bad
noncomputable def jlA (op:Operator)(m:Bool):D->D->M->Out D:=
 match op with
 |.Add=>jC1 m
 |.Sub=>jyA (fun _ _=>True) (· - ·)
 |.Mult=>jyA jzB (· * ·)
 |.FloorDiv=>jyA jBc (· / ·)
 |.Mod=>jyA jEs (· % ·)
 |.Pow=>jyA jBV (fun i j=>i ^ j.toNat)
 |_=>fun _ _ _=>.bad
noncomputable def js4 (f:D->D->Option Bool):List D->List D->Option Bool
 |x::xs,y::ys=>match f x y,js4 f xs ys with
  |some a,some b=>some (a&&b)
  |_,_=>none
 |_,_=>some true
noncomputable def eqN (f:D->D->Option Bool)(μ:M)(a b:D):Option Bool:=
 match je9 μ a,je9 μ b with
 |some xs,some ys=>if xs.length=ys.length then js4 f xs ys else some false
 |_,_=>none
noncomputable def eqD (μ:M):Nat->D->D->Option Bool
 |0,_,_=>none
 |n+1,a,b=>match jlm a,jlm b with
  |some x,some y=>some (eqV x y)
  |_,_=>eqN (eqD μ n) μ a b
noncomputable def jnZ (μ:M)(a b:D):Option Bool:=
 match jlm a,jlm b with
 |some x,some y=>if jDi x y=true then some (decide (x=y))else none
 |_,_=>eqN (eqD μ 8) μ a b
noncomputable def jDe (x:V):List D->Option Bool
 |[]=>some false
 |d::ds=>match jlm d,jDe x ds with
  |some y,some r=>some (eqV y x||r)
  |_,_=>none
noncomputable def jpT:D->Option Key
 |.int i=>some (.inl i)
 |.str x=>some (.inr x)
 |_=>none
noncomputable def jgv (μ:M):D->Option (List Key×List D)
 |.dK ks vs=>some (ks,vs)
 |.dF ks vs=>some (ks,vs)
 |.cel c=>match μ[c]? with
  |some (some (.dK ks vs))=>some (ks,vs)
  |_=>none
 |_=>none
noncomputable def jhn {κ:Type}[DecidableEq κ](k:κ):List κ->List D->Option D
 |g::ks,d::ds=>if g=k then some d else jhn k ks ds
 |_,_=>none
noncomputable def inD (μ:M)(a b:D):Option Bool:=
 match jhc μ b with
 |some ds=>match jlm a with
  |some x=>jDe x ds
  |none=>none
 |none=>match jpT a,jgv μ b with
  |some k,some (ks,vs)=>some (jhn k ks vs).isSome
  |_,_=>none
noncomputable def js5 (op:CmpOp)(a b:D)(μ:M):Option Bool:=
 match op with
 |.Eq=>jnZ μ a b
 |.NotEq=>(jnZ μ a b).map (!·)
 |.Lt=>match a,b with
  |.int i,.int j=>some (decide (i<j))
  |_,_=>none
 |.LtE=>match a,b with
  |.int i,.int j=>some (decide (i<=j))
  |.str i,.str j=>some (!decide (j.cps.toList<i.cps.toList))
  |_,_=>none
 |.Gt=>match a,b with
  |.int i,.int j=>some (decide (j<i))
  |_,_=>none
 |.GtE=>match a,b with
  |.int i,.int j=>some (decide (j<=i))
  |_,_=>none
 |.In=>inD μ a b
 |.NotIn=>(inD μ a b).map (!·)
 |.Is=>none
 |.IsNot=>none
noncomputable def jeT (op:CmpOp)(a b:D)(μ:M):Out D:=
 match js5 op a b μ with
 |some r=>.ok (.bl r) μ
 |none=>.bad
noncomputable def jC2 (μ:M):D->Option Bool
 |.bl b=>some b
 |_=>none
noncomputable def jwo (a:D)(k:Key)(μ:M):Out D:=
 match jgv μ a with
 |some (ks,vs)=>match jhn k ks vs with
  |some d=>.ok d μ
  |none=>.bad
 |none=>.bad
noncomputable def ixD (a b:D)(μ:M):Out D:=
 match b with
 |.int i=>match a with
  |.str z=>@ite _ (z.length<=sizeLine) (Classical.propDecidable _) (match atI z.cps.toList i with
    |some c=>.ok (.str ⟨#[c]⟩) μ
    |none=>.bad) .bad
  |a=>match jhc μ a with
   |some ds=>match atI ds i with
    |some d=>.ok d μ
    |none=>.bad
   |none=>jwo a (.inl i) μ
 |.str k=>jwo a (.inr k) μ
 |_=>.bad
noncomputable def slD (m:Bool)(a:D)(lo hi:Option Int)(μ:M):Out D:=
 match a with
 |.tup ds=>.ok (.tup (jD ds lo hi)) μ
 |_=>.bad
noncomputable def jFd (m:Bool)(a:D)(lo st:Option Int)(μ:M):Out D:=
 match lo,st with
 |some i,some k=>if 0<=i/\0<k then match je9 μ a with
   |some ds=>mkL m ((jEt ds.length i k).filterMap (ds[·]?)) μ
   |none=>.bad
  else .bad
 |_,_=>.bad
noncomputable def joY (f:Str):List Str->List D->Option D
 |g::fs,d::ds=>if f=g then some d else joY f fs ds
 |_,_=>none
open Classical in
noncomputable def jAF (C:Addr)(f:Str)(a:D)(μ:M):Out D:=
 match a with
 |.obj C' fs ds=>match(if C'=C then joY f fs ds else none)with
  |some d=>.ok d μ
  |none=>.bad
 |.cel k=>match μ[k]? with
  |some (some (.obj C' fs ds))=>match(if C'=C then joY f fs ds else none)with
   |some d=>.ok d μ
   |none=>.bad
  |_=>.bad
 |_=>.bad
noncomputable def jiO (f:Str):List Str->List Str
 |[]=>[f]
 |g::r=>if g=f then g::r else g::jiO f r
noncomputable def jeX {α:Type}(f:Str)(d:α):List Str->List α->List α
 |[],_=>[d]
 |g::r,x::xs=>if g=f then d::xs else x::jeX f d r xs
 |_::_,[]=>[]
open Classical in
noncomputable def jDb (C:Addr)(f:Str)(d x:D)(μ:M):Option M:=
 match x with
 |.cel k=>match μ[k]? with
  |some (some (.obj C' fs ds))=>if C'=C/\fs.length<1000 then some (μ.set k (some (.obj C' (jiO f fs) (jeX f d fs ds))))else none
  |_=>none
 |_=>none
noncomputable def jkF:List D->Option (List Int)
 |[]=>some []
 |.int i::ds=>(jkF ds).map (i :: ·)
 |_=>none
noncomputable def jx9:List D->Option (List Bool)
 |[]=>some []
 |.bl i::ds=>(jx9 ds).map (i :: ·)
 |_=>none
noncomputable def jjy:List D->Option (List Str)
 |[]=>some []
 |.str i::ds=>(jjy ds).map (i :: ·)
 |_=>none
noncomputable def tyD (μ:M):D->Option String
 |.non=>some "NoneType"
 |.bl _=>some "bool"
 |.int _=>some "int"
 |.str _=>some "str"
 |.tup _=>some "tuple"
 |.scr _=>none
 |d=>(je9 μ d).map fun _=>"list"
noncomputable def jzL (n t:String):Option Bool:=
 if n = "int" then some (t = "int" ||t = "bool")
 else if n = "bool"∨n = "str"∨n = "tuple"∨n = "list"∨n = "dict" then some (t=n)
 else none
noncomputable def jDh (ds:List D)(μ:M):Out D:=
 match ds with
 |[.str z]=>@ite _ (z.length<=sizeLine) (Classical.propDecidable _) (.ok (.int z.length) μ) .bad
 |[d]=>match jhc μ d with
  |some xs=>.ok (.int xs.length) μ
  |none=>.bad
 |_=>.bad
noncomputable def jC7 (ds:List D)(μ:M):Out D:=
 match ds with
 |[d]=>match je9 μ d with
  |some xs=>match jkF xs with
   |some ns=>.ok (.int ns.sum) μ
   |none=>.bad
  |none=>.bad
 |_=>.bad
noncomputable def jDo (ds:List D)(μ:M):Out D:=
 match ds with
 |[.int i,.int j]=>.ok (.int (if j<i then j else i)) μ
 |_=>.bad
noncomputable def jEh (ds:List D)(μ:M):Out D:=
 match ds with
 |[.int i,.int j]=>.ok (.int (if j > i then j else i)) μ
 |_=>.bad
noncomputable def jw5 (m:Bool)(ds:List D)(μ:M):Out D:=
 match ds with
 |[d]=>match jhc μ d with
  |some xs=>mkL m xs μ
  |none=>.bad
 |_=>.bad
noncomputable def jsI (ds:List D)(μ:M):Out D:=
 match ds with
 |[.stt _]=>.bad
 |[d]=>match jhc μ d with
  |some xs=>.ok (.tup xs) μ
  |none=>.bad
 |_=>.bad
noncomputable def jC3 (ds:List D)(μ:M):Out D:=
 match ds with
 |[d]=>match je9 μ d with
  |some xs=>match jx9 xs with
   |some bs=>.ok (.bl (bs.all id)) μ
   |none=>.bad
  |none=>.bad
 |_=>.bad
noncomputable def jDf (n:String)(ds:List D)(μ:M):Out D:=
 match ds with
 |[d]=>match tyD μ d with
  |some t=>match jzL n t with
   |some r=>.ok (.bl r) μ
   |none=>.bad
  |none=>.bad
 |_=>.bad
noncomputable def jua (n m t:String):Option Bool:=
 match jzL n t with
 |some true=>some true
 |some false=>jzL m t
 |none=>none
noncomputable def jxV (n m:String)(ds:List D)(μ:M):Out D:=
 match ds with
 |[d]=>match tyD μ d with
  |some t=>match jua n m t with
   |some b=>.ok (.bl b) μ
   |none=>.bad
  |none=>.bad
 |_=>.bad
noncomputable def ksD:List D->Option (List Key)
 |[]=>some []
 |d::ds=>match jpT d,ksD ds with
  |some k,some ks=>some (k::ks)
  |_,_=>none
noncomputable def jDl:D->Option (List D)
 |.lst xs=>some xs
 |.tup xs=>some xs
 |_=>none
noncomputable def jjq (μ:M):D->Option (List (List Key)×List D)
 |.dT ks vs=>some (ks,vs)
 |.cel c=>match μ[c]? with
  |some (some (.dT ks vs))=>some (ks,vs)
  |_=>none
 |_=>none
noncomputable def jzH:D->Option (List Key)
 |.tup d=>ksD d
 |_=>none
noncomputable def jlL (μ:M)(d x:D):Option (Option D):=
 match jpT x with
 |some k=>(jgv μ d).map fun p=>jhn k p.1 p.2
 |none=>match jzH x,jjq μ d with
  |some k,some p=>some (jhn k p.1 p.2)
  |_,_=>none
noncomputable def jyq (μ:M)(d:D):Bool:=(jgv μ d).isSome||(jjq μ d).isSome
noncomputable def jBG (a b:D)(μ:M):Out D:=
 match jlL μ a b with
 |some (some d)=>.ok d μ
 |_=>.bad
noncomputable def je0 {κ:Type}[DecidableEq κ](k:κ)(ks:List κ):List κ:=if k∈ks then ks else ks++[k]
noncomputable def jcX {κ α:Type}[DecidableEq κ](k:κ)(d:α)(ks:List κ)(vs:List α):List α:=if k∈ks then List.zipWith (fun g x=>if g=k then d else x) ks vs else vs++[d]
noncomputable def jsa (x y d:D)(μ:M):Option M:=
 match x with
 |.cel c=>match μ[c]? with
  |some (some (.dK ks vs))=>match jpT y with
   |some k=>if ks.length<1000 then some (μ.set c (some (.dK (je0 k ks) (jcX k d ks vs))))else none
   |none=>none
  |some (some (.dT ks vs))=>match jzH y with
   |some k=>if ks.length<1000 then some (μ.set c (some (.dT (je0 k ks) (jcX k d ks vs))))else none
   |none=>none
  |_=>none
 |_=>none
noncomputable def t3D:List (List Key)->Option (List T3)
 |[]=>some []
 |k::ks=>match k with
  |[.inl i,.inr x,.inr y]=>(t3D ks).map ((i,x,y) :: ·)
  |_=>none
def jBI (ts us:List T3):Prop:=us.Perm ts/\us.Pairwise fun x y=>jbB x y=true
open Classical in
noncomputable def jka (m:Bool)(ds:List D)(μ:M):Out D:=
 match(match ds with
  |[d]=>(jjq μ d).bind fun p=>t3D p.1
  |_=>none)with
 |some ts=>if h:ts.length<64/\∃us,jBI ts us then mkL m (h.2.choose.map fun t=>.tup [.int t.1,.str t.2.1,.str t.2.2]) μ else .bad
 |none=>.bad
open Classical in
noncomputable def jld (F:Fn)(μ:M):List D->Option (List T2)
 |[]=>some []
 |d::ds=>match F [d] μ with
  |.ok (.tup [.int i,.str z]) μ1=>if μ1=μ then(jld F μ ds).map ((i,z) :: ·)else none
  |_=>none
def jmQ (ts:List T2)(q:List Nat):Prop:=q.Perm (List.range ts.length)/\(q.map fun i=>ts.getD i (0,⟨#[]⟩)).Pairwise fun x y=>jbB (t3 x) (t3 y)=true
open Classical in
noncomputable def jmL (F:Fn)(m:Bool)(d:D)(μ:M):Out D:=
 match je9 μ d with
 |some xs=>match jld F μ xs with
  |some ts=>if h:(ts.Nodup/\ts.length<64)/\∃q,jmQ ts q then mkL m (h.2.choose.map fun i=>xs.getD i .non) μ else .bad
  |none=>.bad
 |none=>.bad
noncomputable def jlV (G:List FnE)(f:Nat)(m:Bool)(d:D)(μ:M):Out D:=
 match G[f]? with
 |some g=>if g.ps.length=1/\g.dat.isNone then jmL g.F m d μ else .bad
 |none=>.bad
noncomputable def jm (m:Bool)(d:D)(μ:M):Out D:=
 match d with
 |.cel c=>match μ[c]? with
  |some (some (.dK ks _))=>if ks=[]then mkL m [] μ else .bad
  |_=>.bad
 |_=>.bad
noncomputable def joa (a b:D)(μ:M):Out D:=
 match je9 μ a,b with
 |some [],.int i=>.ok (.int i) μ
 |_,_=>.bad
noncomputable def jtw (ds:List D)(μ:M):Out D:=
 match ds with
 |[a]=>match(je9 μ a).bind jkF with
  |some ns=>if ns≠[]then .ok (.int (mxD 0 ns)) μ else .bad
  |none=>.bad
 |_=>.bad
noncomputable def jll (ds:List D)(μ:M):Out D:=
 match ds with
 |[d]=>match jhc μ d with
  |some xs=>match jjy xs with
   |some zs=>if zs.length<=1000 then .ok (.int (ddS zs).length) μ else .bad
   |none=>.bad
  |none=>.bad
 |_=>.bad
noncomputable def jzD:List D->Option (List D×List D)
 |[]=>some ([],[])
 |.tup [k,v]::ds=>(jzD ds).map fun r=>(k::r.1,v::r.2)
 |_=>none
open Classical in
noncomputable def mkK (m:Bool)(ks:List Key)(vs:List D)(μ:M):Out D:=if m then .ok (.cel μ.length) (μ++[some (.dK ks vs)])else .ok (.dK ks vs) μ
open Classical in
noncomputable def jnC (m:Bool)(ds:List D)(μ:M):Out D:=
 match ds with
 |[d]=>match jDl d with
  |some xs=>match jzD xs with
   |some (as,vs)=>match ksD as with
    |some ks=>if ks.length<=1000/\ks.Nodup then mkK m ks vs μ else .bad
    |none=>.bad
   |none=>.bad
  |none=>.bad
 |_=>.bad
noncomputable def jdm (m:Bool)(ds:List D)(μ:M):Out D:=
 match ds with
 |[a,b]=>match jhc μ a,jhc μ b with
  |some xs,some ys=>match jjy xs with
   |some zs=>if zs.length=ys.length/\zs.length<=1000/\zs.Nodup then(if m then .ok (.cel μ.length) (μ++[some (.dK (zs.map .inr) ys)])else .ok (.dF (zs.map .inr) ys) μ)else .bad
   |none=>.bad
  |_,_=>.bad
 |_=>.bad
noncomputable def biD (b:Bi)(m:Bool):List D->M->Out D:=
 match b with
 |.len=>jDh
 |.sum=>jC7
 |.min2=>jDo
 |.max2=>jEh
 |.list=>jw5 m
 |.tuple=>jsI
 |.int=>fun _ _=>.bad
 |.all=>jC3
 |.isT n=>jDf n
 |.isT2 n m=>jxV n m
 |.listRange=>fun _ _=>.bad
 |.str=>fun _ _=>.bad
 |.lenSet=>jll
 |.dictZip=>jdm m
 |.dict=>jnC m
 |.maxL=>jtw
 |.sortD=>jka m
noncomputable def jp0 (b:Mt)(o:D)(μ:M):Bool:=
 match b,o with
 |.join,.str _=>true
 |.join,_=>false
 |.split,.str _=>true
 |.split,_=>false
 |_,.cel k=>match μ[k]? with
  |some (some (.lst _))=>true
  |_=>false
 |_,_=>false
noncomputable def jzE (o:D)(ds:List D)(μ:M):Out D:=
 match o,ds with
 |.cel k,[d]=>match μ[k]? with
  |some (some (.lst xs))=>@ite _ (xs.length<sizeLine) (Classical.propDecidable _) (.ok .non (μ.set k (some (.lst (xs++[d]))))) .bad
  |_=>.bad
 |_,_=>.bad
noncomputable def jC6 (o:D)(ds:List D)(μ:M):Out D:=
 match o,ds with
 |.cel k,[.lst ys]=>match μ[k]? with
  |some (some (.lst xs))=>@ite _ (xs.length+ys.length<=sizeLine) (Classical.propDecidable _) (.ok .non (μ.set k (some (.lst (xs++ys))))) .bad
  |_=>.bad
 |_,_=>.bad
noncomputable def jDK (o a:D)(μ:M):Out D:=
 match o,a with
 |.dT ks vs,.tup d=>match ksD d with
  |some k=>.ok ((jhn k ks vs).getD .non) μ
  |none=>.bad
 |_,_=>.bad
noncomputable def jFt (o:D)(μ:M):Out D:=
 match o with
 |.cel k=>match μ[k]? with
  |some (some (.lst _))=>.ok .non (μ.set k (some (.lst [])))
  |_=>.bad
 |_=>.bad
noncomputable def mtD (b:Mt):D->List D->M->Out D:=
 match b with
 |.append=>jzE
 |.extend=>jC6
 |.join=>fun _ _ _=>.bad
 |.split=>fun _ _ _=>.bad
noncomputable def juQ:List Nat->List D->S3->Option S3
 |[],[],ρ=>some ρ
 |i::is,d::ds,ρ=>juQ is ds (ρ.set i (some d))
 |_,_,_=>none
noncomputable def jqa (tg:Tg)(d:D)(ρ:S3):Option S3:=
 match tg,d with
 |.nm i,d=>some (ρ.set i (some d))
 |.tp is,.tup ds=>juQ is ds ρ
 |_,_=>none
noncomputable def jEJ:List D->List D->List D
 |x::xs,y::ys=>.tup [x,y]::jEJ xs ys
 |_,_=>[]
noncomputable def jEI:Nat->List D->List D
 |k,x::xs=>.tup [.int (k:Int),x]::jEI (k+1) xs
 |_,[]=>[]
noncomputable def jAH (ds:List D)(μ:M):Option (List D):=
 match ds with
 |[d]=>jhc μ d
 |_=>none
noncomputable def jEm (ds:List D)(μ:M):Option (List D):=
 match ds with
 |[d]=>(jhc μ d).map (jEI 0)
 |_=>none
noncomputable def jDB (ds:List D)(μ:M):Option (List D):=
 match ds with
 |[d,d']=>match jhc μ d,jhc μ d' with
  |some xs,some ys=>some (jEJ xs ys)
  |_,_=>none
 |_=>none
noncomputable def joi (ds:List D)(_:M):Option (List D):=
 match ds with
 |[.int j]=>@ite _ (-(2 ^ 62)<=j/\j<2 ^ 62) (Classical.propDecidable _) (some ((List.range j.toNat).map fun(k:Nat)=>.int (k:Int))) none
 |_=>none
noncomputable def jn7 (ds:List D)(_:M):Option (List D):=
 match ds with
 |[.int i,.int j]=>@ite _ (-(2 ^ 62)<=i/\i<2 ^ 62/\-(2 ^ 62)<=j/\j<2 ^ 62) (Classical.propDecidable _) (some ((List.range (j - i).toNat).map fun(k:Nat)=>.int (i+(k:Int)))) none
 |_=>none
noncomputable def jzh (ds:List D)(_:M):Option (List D):=
 match ds with
 |[.str z]=>some (z.cps.toList.map fun c=>.str ⟨#[c]⟩)
 |_=>none
noncomputable def jo:Key->D
 |.inl i=>.int i
 |.inr x=>.str x
noncomputable def jnD:List Key->List D->List D
 |k::ks,d::ds=>.tup [jo k,d]::jnD ks ds
 |_,_=>[]
noncomputable def jno (ds:List D)(_:M):Option (List D):=
 match ds with
 |[.dF ks vs]=>some (jnD ks vs)
 |_=>none
noncomputable def itD (ik:IK):List D->M->Option (List D):=
 match ik with
 |.seq=>jAH
 |.enm=>jEm
 |.zip=>jDB
 |.rng1=>joi
 |.rng2=>jn7
 |.str=>jzh
 |.items=>jno
noncomputable def jdG (ik:IK)(ds:List D)(xs:List D)(μ:M):Bool:=@decide (itD ik ds μ=some xs) (Classical.propDecidable _)
noncomputable def jbq (ok:M->Bool)(tg:Tg)(cond:S3->M->Out Bool)(elt:S3->M->Out D)(ρ:S3):List D->M->Out (List D)
 |[],μ=>if ok μ then .ok [] μ else .bad
 |d::ds,μ=>if ok μ then match jqa tg d ρ with
   |some ρ1=>(cond ρ1 μ).bind fun b μ1=>if b then(elt ρ1 μ1).bind fun y μ2=>(jbq ok tg cond elt ρ ds μ2).bind fun ys μ3=>.ok (y::ys) μ3 else jbq ok tg cond elt ρ ds μ1
   |none=>.bad
  else .bad
noncomputable def jf4 (ok:M->Bool)(tg:Tg)(body:S3->M->Out Fl)(fg:List Nat):List D->S3->M->Out Fl
 |[],ρ,μ=>if ok μ then .ok (.nx (forget fg ρ)) μ else .bad
 |d::ds,ρ,μ=>if ok μ then match jqa tg d ρ with
   |some ρ1=>match body ρ1 μ with
    |.ok (.nx ρ2) μ2=>jf4 ok tg body fg ds (forget fg ρ2) μ2
    |.ok (.ct ρ2) μ2=>jf4 ok tg body fg ds (forget fg ρ2) μ2
    |.ok (.bk ρ2) μ2=>.ok (.nx (forget fg ρ2)) μ2
    |.ok (.rt d) μ2=>.ok (.rt d) μ2
    |.exc x μ2=>.exc x μ2
    |.bad=>.bad
   |none=>.bad
  else .bad
mutual
noncomputable def jbn (h:Nat->Option D):D->Option D
 |.tup ds=>(frzGs h ds).map .tup
 |.lst ds=>(frzGs h ds).map .lst
 |.scr ds=>(frzGs h ds).map .scr
 |.stt ds=>(frzGs h ds).map .stt
 |.dK ks vs=>(frzGs h vs).map (.dK ks)
 |.dT ks vs=>(frzGs h vs).map (.dT ks)
 |.dF ks vs=>(frzGs h vs).map (.dF ks)
 |.obj C fs ds=>(frzGs h ds).map (.obj C fs)
 |.cel k=>h k
 |.non=>some .non
 |.bl b=>some (.bl b)
 |.int i=>some (.int i)
 |.str x=>some (.str x)
 |.ty n=>some (.ty n)
noncomputable def frzGs (h:Nat->Option D):List D->Option (List D)
 |[]=>some []
 |d::ds=>match jbn h d,frzGs h ds with
  |some e,some es=>some (e::es)
  |_,_=>none
end
noncomputable def jht (μ:M)(n0:Nat)(keep:List Nat):Nat->Nat->Option D
 |f,k=>if k<n0 then some (.cel k)else if k∈keep then none else
  match f with
  |0=>none
  |f+1=>match μ[k]? with
   |some (some (.lst ds))=>(frzGs (jht μ n0 keep f) ds).map .lst
   |some (some (.dK ks vs))=>(frzGs (jht μ n0 keep f) vs).map (.dF ks)
   |some (some (.dT ks vs))=>(frzGs (jht μ n0 keep f) vs).map (.dT ks)
   |some (some (.obj C fs ds))=>(frzGs (jht μ n0 keep f) ds).map (.obj C fs)
   |_=>none
noncomputable def jqc (μ:M)(n0:Nat)(d:D):Option D:=jbn (jht μ n0 [] 4) d
noncomputable def jCb (n0:Nat)(ks:List Nat)(k:Nat):Option D:=(ks.idxOf? k).map fun j=>.cel (n0+j)
noncomputable def jq4 (μ:M)(n0:Nat)(ks:List Nat):List Nat->Option (List (List D))
 |[]=>some []
 |k::r=>match μ[k]? with
  |some (some (.lst ds))=>match frzGs (jht μ n0 ks 4) ds,jq4 μ n0 ks r with
   |some c,some cs=>some (c::cs)
   |_,_=>none
  |_=>none
open Classical in
noncomputable def jah (md:Md)(F:Fn)(ds:List D)(μ:M):Out D:=
 match md with
 |.raw=>F ds μ
 |.frz=>match F ds μ with
  |.ok d μ'=>if μ'.take μ.length=μ then match jqc μ' μ.length d with
    |some d'=>.ok d' μ
    |none=>.bad
   else .bad
  |.exc x μ'=>if μ'.take μ.length=μ then match jqc μ' μ.length x with
    |some x'=>.exc x' μ
    |none=>.bad
   else .bad
  |.bad=>.bad
 |.new=>.bad
noncomputable def jj4 (G:List FnE)(f:Nat):Option Dat:=(G[f]?).bind (·.dat)
noncomputable def jeV (z:Str):List (Str×D)->Option D
 |[]=>none
 |p::r=>if p.1=z then some p.2 else jeV z r
noncomputable def glD (o:Option Dat)(μ:M):Out D:=
 match o with
 |some (.cst d)=>.ok d μ
 |_=>.bad
noncomputable def jrn (o:Option Dat)(f:Str)(x:D)(μ:M):Out D:=
 match o with
 |some (.cls C _ _)=>jAF C f x μ
 |_=>.bad
open Classical in
noncomputable def jE2 (o:Option Dat)(x:D)(μ:M):Out D:=
 match o,x with
 |some (.cls C _ _),.obj C' _ _=>if C'=C then .ok (.bl true) μ else .bad
 |_,_=>.bad
noncomputable def jEo (o:Option Dat)(f:Str)(d x:D)(μ:M):Option M:=
 match o with
 |some (.cls C _ _)=>jDb C f d x μ
 |_=>none
noncomputable def jrW (o:Option Dat)(x y:D)(μ:M):Out D:=
 match o,x with
 |some (.dct kvs),.str z=>.ok ((jeV z kvs).getD y) μ
 |_,_=>.bad
noncomputable def jE8 (neg:Bool)(o:Option Dat)(x:D)(μ:M):Out D:=
 match o,x with
 |some (.dct kvs),.str z=>.ok (.bl (if neg then !(jeV z kvs).isSome else(jeV z kvs).isSome)) μ
 |_,_=>.bad
noncomputable def jE9 (o:Option Dat)(x:D)(μ:M):Out D:=
 match o,x with
 |some (.dct kvs),.str z=>match jeV z kvs with
  |some d=>.ok d μ
  |none=>.bad
 |_,_=>.bad
noncomputable def jpw (G:List FnE)(f:Nat)(md:Md)(ds:List D)(μ:M):Out D:=
 match G[f]? with
 |some g=>jah md g.F ds μ
 |none=>.bad
noncomputable def jpx (o:Out (List D)):Out (Option Int):=o.bind fun ds μ=>match ds with
 |[]=>.ok none μ
 |[.int i]=>.ok (some i) μ
 |_=>.bad
noncomputable def toB (r:S3->M->Out D)(ρ:S3)(μ:M):Out Bool:=(r ρ μ).bind fun d μ1=>match jC2 μ1 d with
 |some b=>.ok b μ1
 |none=>.bad
structure Ev where
 v:S3->M->Out D
 t:S3->M->Out Bool
noncomputable def Ev.of (v:S3->M->Out D):Ev:=⟨v,toB v⟩
noncomputable section
variable (G:List FnE)
mutual
noncomputable def ev:E->Ev
 |.var i=>.of fun ρ μ=>match ρ[i]? with
  |some (some d)=>.ok d μ
  |_=>.bad
 |.cst d=>.of fun _ μ=>.ok d μ
 |.bin op m a b=>.of fun ρ μ=>((ev a).v ρ μ).bind fun x μ1=>((ev b).v ρ μ1).bind fun y μ2=>jlA op m x y μ2
 |.neg a=>.of fun ρ μ=>((ev a).v ρ μ).bind fun x μ1=>match x with
  |.int i=>.ok (.int (-i)) μ1
  |_=>.bad
 |.not_ a=>⟨fun ρ μ=>((ev a).v ρ μ).bind fun x μ1=>match x with
  |.bl c=>.ok (.bl (!c)) μ1
  |_=>.bad,fun ρ μ=>((ev a).t ρ μ).bind fun c μ1=>.ok (!c) μ1⟩
 |.and_ a b=>⟨fun ρ μ=>((ev a).v ρ μ).bind fun x μ1=>match x with
  |.bl c=>if c then(ev b).v ρ μ1 else .ok (.bl false) μ1
  |_=>.bad,fun ρ μ=>((ev a).t ρ μ).bind fun c μ1=>if c then(ev b).t ρ μ1 else .ok false μ1⟩
 |.or_ a b=>⟨fun ρ μ=>((ev a).v ρ μ).bind fun x μ1=>match x with
  |.bl c=>if c then .ok (.bl true) μ1 else(ev b).v ρ μ1
  |_=>.bad,fun ρ μ=>((ev a).t ρ μ).bind fun c μ1=>if c then .ok true μ1 else(ev b).t ρ μ1⟩
 |.cmp op a b=>.of fun ρ μ=>((ev a).v ρ μ).bind fun x μ1=>((ev b).v ρ μ1).bind fun y μ2=>jeT op x y μ2
 |.chain o1 o2 a b c=>.of fun ρ μ=>((ev a).v ρ μ).bind fun x μ1=>((ev b).v ρ μ1).bind fun y μ2=>(jeT o1 x y μ2).bind fun z μ3=>match z with
  |.bl k=>if k then((ev c).v ρ μ3).bind fun u μ4=>jeT o2 y u μ4 else .ok (.bl false) μ3
  |_=>.bad
 |.isN a=>.of fun ρ μ=>((ev a).v ρ μ).bind fun x μ1=>match x with
  |.non=>.ok (.bl true) μ1
  |_=>.ok (.bl false) μ1
 |.notN a=>.of fun ρ μ=>((ev a).v ρ μ).bind fun x μ1=>match x with
  |.non=>.ok (.bl false) μ1
  |_=>.ok (.bl true) μ1
 |.ife c a b=>.of fun ρ μ=>((ev c).t ρ μ).bind fun k μ1=>if k then(ev a).v ρ μ1 else(ev b).v ρ μ1
 |.tup es=>.of fun ρ μ=>(evL es ρ μ).bind fun ds μ1=>if ds.length<=sizeLine then .ok (.tup ds) μ1 else .bad
 |.lst m es=>.of fun ρ μ=>(evL es ρ μ).bind fun ds μ1=>if ds.length<=sizeLine then mkL m ds μ1 else .bad
 |.ix a b=>.of fun ρ μ=>((ev a).v ρ μ).bind fun x μ1=>((ev b).v ρ μ1).bind fun y μ2=>ixD x y μ2
 |.sl m a lo hi=>.of fun ρ μ=>((ev a).v ρ μ).bind fun x μ1=>(jpx (evL lo ρ μ1)).bind fun l μ2=>(jpx (evL hi ρ μ2)).bind fun h μ3=>slD m x l h μ3
 |.stp m a lo st=>.of fun ρ μ=>((ev a).v ρ μ).bind fun x μ1=>(jpx (evL lo ρ μ1)).bind fun l μ2=>(jpx (evL st ρ μ2)).bind fun h μ3=>jFd m x l h μ3
 |.fld a i f=>.of fun ρ μ=>((ev a).v ρ μ).bind fun x μ1=>jrn (jj4 G i) f x μ1
 |.call f md es=>.of fun ρ μ=>(evL es ρ μ).bind fun ds μ1=>jpw G f md ds μ1
 |.bi b m es=>.of fun ρ μ=>(evL es ρ μ).bind fun ds μ1=>biD b m ds μ1
 |.mt b o es=>.of fun ρ μ=>((ev o).v ρ μ).bind fun x μ1=>if jp0 b x μ1 then(evL es ρ μ1).bind fun ds μ2=>mtD b x ds μ2 else .bad
 |.clr o=>.of fun ρ μ=>((ev o).v ρ μ).bind fun x μ1=>jFt x μ1
 |.dget o a=>.of fun ρ μ=>((ev o).v ρ μ).bind fun x μ1=>((ev a).v ρ μ1).bind fun y μ2=>jDK x y μ2
 |.isC a i=>.of fun ρ μ=>((ev a).v ρ μ).bind fun x μ1=>jE2 (jj4 G i) x μ1
 |.comp m own tg ik es ifs elt=>.of fun ρ μ=>(evL es ρ μ).bind fun ds μ1=>match itD ik ds μ1 with
  |some xs=>if xs.length<=sizeLine then(jbq (jdG ik ds xs) tg (evTs ifs) (ev elt).v (List.replicate own none++ρ) xs μ1).bind fun ys μ2=>mkL m ys μ2 else .bad
  |none=>.bad
 |.dnew t=>.of fun _ μ=>.ok (.cel μ.length) (μ++[some (if t then .dT [] []else .dK [] [])])
 |.dget2 o a f=>.of fun ρ μ=>((ev o).v ρ μ).bind fun x μ1=>if jyq μ1 x then((ev a).v ρ μ1).bind fun y μ2=>((ev f).v ρ μ2).bind fun z μ3=>match jlL μ3 x y with
  |some o=>.ok (o.getD z) μ3
  |none=>.bad else .bad
 |.tix a b=>.of fun ρ μ=>((ev a).v ρ μ).bind fun x μ1=>((ev b).v ρ μ1).bind fun y μ2=>jBG x y μ2
 |.sortK f m a=>.of fun ρ μ=>((ev a).v ρ μ).bind fun x μ1=>jlV G f m x μ1
 |.vals0 m a=>.of fun ρ μ=>((ev a).v ρ μ).bind fun x μ1=>jm m x μ1
 |.maxDf a b=>.of fun ρ μ=>((ev a).v ρ μ).bind fun x μ1=>((ev b).v ρ μ1).bind fun y μ2=>joa x y μ2
 |.gl f=>.of fun _ μ=>glD (jj4 G f) μ
 |.gget f a d=>.of fun ρ μ=>((ev a).v ρ μ).bind fun x μ1=>((ev d).v ρ μ1).bind fun y μ2=>jrW (jj4 G f) x y μ2
 |.gin neg f a=>.of fun ρ μ=>((ev a).v ρ μ).bind fun x μ1=>jE8 neg (jj4 G f) x μ1
 |.gix f a=>.of fun ρ μ=>((ev a).v ρ μ).bind fun x μ1=>jE9 (jj4 G f) x μ1
noncomputable def evL:List E->S3->M->Out (List D)
 |[],_,μ=>.ok [] μ
 |e::es,ρ,μ=>((ev e).v ρ μ).bind fun d μ1=>(evL es ρ μ1).bind fun ds μ2=>.ok (d::ds) μ2
noncomputable def evTs:List E->S3->M->Out Bool
 |[],_,μ=>.ok true μ
 |[e],ρ,μ=>(ev e).t ρ μ
 |_,_,_=>.bad
end
mutual
noncomputable def run:S->S3->M->Out Fl
 |.asg tg e,ρ,μ=>((ev G e).v ρ μ).bind fun d μ1=>match jqa tg d ρ with
  |some ρ1=>.ok (.nx ρ1) μ1
  |none=>.bad
 |.par i j a b,ρ,μ=>((ev G a).v ρ μ).bind fun x μ1=>((ev G b).v ρ μ1).bind fun y μ2=>.ok (.nx ((ρ.set i (some x)).set j (some y))) μ2
 |.unp is e,ρ,μ=>((ev G e).v ρ μ).bind fun d μ1=>match(je9 μ1 d).bind fun ds=>juQ is ds ρ with
  |some ρ1=>.ok (.nx ρ1) μ1
  |none=>.bad
 |.setF o i f e,ρ,μ=>((ev G e).v ρ μ).bind fun d μ1=>((ev G o).v ρ μ1).bind fun x μ2=>match jEo (jj4 G i) f d x μ2 with
  |some μ3=>.ok (.nx ρ) μ3
  |none=>.bad
 |.setI _ _ _,_,_=>.bad
 |.setK o i e,ρ,μ=>((ev G e).v ρ μ).bind fun d μ1=>((ev G o).v ρ μ1).bind fun x μ2=>((ev G i).v ρ μ2).bind fun y μ3=>match jsa x y d μ3 with
  |some μ4=>.ok (.nx ρ) μ4
  |none=>.bad
 |.whl c,ρ,μ=>((ev G c).t ρ μ).bind fun k μ1=>if k then .bad else .ok (.nx ρ) μ1
 |.ex e,ρ,μ=>((ev G e).v ρ μ).bind fun _ μ1=>.ok (.nx ρ) μ1
 |.ite c a b,ρ,μ=>((ev G c).t ρ μ).bind fun k μ1=>if k then runs a ρ μ1 else runs b ρ μ1
 |.for_ tg ik es body fg,ρ,μ=>(evL G es ρ μ).bind fun ds μ1=>match itD ik ds μ1 with
  |some xs=>jf4 (jdG ik ds xs) tg (runs body) fg xs ρ μ1
  |none=>.bad
 |.ret e,ρ,μ=>((ev G e).v ρ μ).bind fun d μ1=>.ok (.rt d) μ1
 |.retN,_,μ=>.ok (.rt .non) μ
 |.pass,ρ,μ=>.ok (.nx ρ) μ
 |.never,_,_=>.bad
noncomputable def runs:List S->S3->M->Out Fl
 |[],ρ,μ=>.ok (.nx ρ) μ
 |s::ss,ρ,μ=>match run s ρ μ with
  |.ok (.nx ρ1) μ1=>runs ss ρ1 μ1
  |r=>r
end
noncomputable def fnOf (np nl:Nat)(body:List S):Fn:=fun ds μ=>if ds.length=np then match runs G body (ds.map some++List.replicate nl none) μ with
  |.ok (.rt d) μ1=>.ok d μ1
  |.ok (.nx _) μ1=>.ok .non μ1
  |.ok _ _=>.bad
  |.exc x μ1=>.exc x μ1
  |.bad=>.bad
 else .bad
end
section
variable {K:PySem.W.Frag} {w:Wd} {μ:M} {H:Hp} {n:Nat}
theorem jb4 (h:Den K w n d v)(e:jlm d=some x):v=x/\jg6 v=true:=by
 cases d<;>simp only[jlm,j0w]at e<;>first|(subst e;unfold Den at h;subst h;exact⟨rfl,rfl⟩)|cases e
theorem jaU (R:Rep K w μ H)(h:Den K w μ.length d v)(e:je9 μ d=some ds):∃a xs,v=.ref a/\SqL K H a xs/\DenL K w μ.length ds xs:=by
 cases d with
 |lst xs=>
  simp only[je9,j0w]at e;subst e;unfold Den at h;obtain⟨a,xs,h1,h2,h3⟩:=h;exact⟨a,xs,h1,SqL.of (R.sub _ _ h2),h3⟩
 |scr xs=>
  simp only[je9,j0w]at e;subst e;unfold Den at h;obtain⟨a,xs,h1,h2,h3⟩:=h;exact⟨a,xs,h1,R.sub.seq h2,h3⟩
 |cel k=>
  simp only[je9]at e;split at e
  ·rename_i ys hk;cases e;unfold Den at h;obtain⟨xs,h1,h2⟩:=(R.liv k _ hk).2;exact⟨_,xs,h.2,SqL.of h1,h2⟩
  ·cases e
 |_=>cases e
theorem jjd (R:Rep K w μ H)(h:Den K w μ.length (.tup ds) v):∃a xs,v=.ref a/\SqT K H a xs/\DenL K w μ.length ds xs:=by
 unfold Den at h;obtain⟨a,xs,h1,h2,h3⟩:=h;exact⟨a,xs,h1,SqT.of (R.sub _ _ h2),h3⟩
theorem jfV (R:Rep K w μ H)(h:Den K w μ.length d v)(e:jhc μ d=some ds):∃a xs,v=.ref a/\(SqL K H a xs∨SqT K H a xs)/\DenL K w μ.length ds xs:=by
 unfold jhc at e;split at e
 ·cases e;obtain⟨a,xs,h1,h2,h3⟩:=jjd R h;exact⟨a,xs,h1,.inr h2,h3⟩
 ·cases e;unfold Den at h;obtain⟨a,xs,h1,h2,h3⟩:=h;exact⟨a,xs,h1,.inr (jrH R.sub h2),h3⟩
 ·obtain⟨a,xs,h1,h2,h3⟩:=jaU R h e;exact⟨a,xs,h1,.inl h2,h3⟩
theorem jad (h:DenL K w n ds xs):ds.length=xs.length:=(jaF.mp h).length
theorem jgd:∀{ds:List D} {xs:List V} {i:Nat} {d:D},DenL K w n ds xs->ds[i]?=some d->∃v,xs[i]?=some v/\Den K w n d v:=by
 intro ds xs i d h e;have h':=jaF.mp h;clear h
 induction h' generalizing i with
 |nil=>simp at e
 |cons r t ih=>
  cases i with
  |zero=>
   simp only[j0K,j0w]at e;subst e;exact⟨_,rfl,r⟩
  |succ i=>simpa using ih (i:=i) (by simpa using e)
theorem jgk:∀{us ws:List α} {xs ys:List β},Paired F us xs->Paired F ws ys->Paired F (us++ws) (xs++ys)
 |_,_,_,_,.nil,s=>s
 |_,_,_,_,.cons r t,s=>.cons r (jgk t s)
theorem jiV:∀{us:List α} {xs:List β} (k:Nat),Paired F us xs->Paired F (us.take k) (xs.take k)
 |_,_,0,_=>by simp;exact .nil
 |_,_,_+1,.nil=>.nil
 |_,_,k+1,.cons r t=>.cons r (jiV k t)
theorem jje:∀{us:List α} {xs:List β} (k:Nat),Paired F us xs->Paired F (us.drop k) (xs.drop k)
 |_,_,0,h=>h
 |_,_,_+1,.nil=>.nil
 |_,_,k+1,.cons r t=>jje k t
theorem DenL.append (h:DenL K w n ds xs)(k:DenL K w n es ys):DenL K w n (ds++es) (xs++ys):=jaF.mpr (jgk (jaF.mp h) (jaF.mp k))
theorem DenL.cut (h:DenL K w n ds xs)(lo hi:Option Int):DenL K w n (jD ds lo hi) (jzG xs lo hi):=by
 unfold jD jzG;rw[jad h];exact jaF.mpr (jiV _ (jje _ (jaF.mp h)))
theorem DenL.one (h:Den K w n d v):DenL K w n [d] [v]:=jaF.mpr (.cons h .nil)
theorem ji6:∀{ds:List D} {xs:List V} {ns:List Int},DenL K w n ds xs->jkF ds=some ns->xs=ns.map V.int
 |[],xs,ns,h,e=>by
  cases e;unfold DenL at h;exact h
 |.int i::ds,xs,ns,h,e=>by
  unfold DenL at h;obtain⟨v,ws,rfl,h1,h2⟩:=h;unfold Den at h1;unfold jkF at e
  cases e2:jkF ds with
  |none=>rw[e2]at e;cases e
  |some ms=>
   rw[e2]at e;cases e;rw[h1,ji6 h2 e2];rfl
 |.non::_,_,_,_,e|.bl _::_,_,_,_,e|.str _::_,_,_,_,e|.ty _::_,_,_,_,e|.tup _::_,_,_,_,e|.lst _::_,_,_,_,e|.scr _::_,_,_,_,e|.stt _::_,_,_,_,e|.dK _ _::_,_,_,_,e|.dT _ _::_,_,_,_,e|.dF _ _::_,_,_,_,e|.obj _ _ _::_,_,_,_,e|.cel _::_,_,_,_,e=>by cases e
theorem joz:∀{ds:List D} {xs:List V} {ns:List Bool},DenL K w n ds xs->jx9 ds=some ns->xs=ns.map V.bl
 |[],xs,ns,h,e=>by
  cases e;unfold DenL at h;exact h
 |.bl i::ds,xs,ns,h,e=>by
  unfold DenL at h;obtain⟨v,ws,rfl,h1,h2⟩:=h;unfold Den at h1;unfold jx9 at e
  cases e2:jx9 ds with
  |none=>rw[e2]at e;cases e
  |some ms=>
   rw[e2]at e;cases e;rw[h1,joz h2 e2];rfl
 |.non::_,_,_,_,e|.int _::_,_,_,_,e|.str _::_,_,_,_,e|.ty _::_,_,_,_,e|.tup _::_,_,_,_,e|.lst _::_,_,_,_,e|.scr _::_,_,_,_,e|.stt _::_,_,_,_,e|.dK _ _::_,_,_,_,e|.dT _ _::_,_,_,_,e|.dF _ _::_,_,_,_,e|.obj _ _ _::_,_,_,_,e|.cel _::_,_,_,_,e=>by cases e
theorem jhN:∀{ds:List D} {xs:List V} {ns:List Str},DenL K w n ds xs->jjy ds=some ns->xs=ns.map V.str
 |[],xs,ns,h,e=>by
  cases e;unfold DenL at h;exact h
 |.str i::ds,xs,ns,h,e=>by
  unfold DenL at h;obtain⟨v,ws,rfl,h1,h2⟩:=h;unfold Den at h1;unfold jjy at e
  cases e2:jjy ds with
  |none=>rw[e2]at e;cases e
  |some ms=>
   rw[e2]at e;cases e;rw[h1,jhN h2 e2];rfl
 |.non::_,_,_,_,e|.bl _::_,_,_,_,e|.int _::_,_,_,_,e|.ty _::_,_,_,_,e|.tup _::_,_,_,_,e|.lst _::_,_,_,_,e|.scr _::_,_,_,_,e|.stt _::_,_,_,_,e|.dK _ _::_,_,_,_,e|.dT _ _::_,_,_,_,e|.dF _ _::_,_,_,_,e|.obj _ _ _::_,_,_,_,e|.cel _::_,_,_,_,e=>by cases e
abbrev jo1 (K:PySem.W.Frag) (w:Wd) (n:Nat) (d:D) (μ':M) (Q:VK):Prop:=∀w' H' v,Ext w w' n μ'.length->Rep K w' μ' H'->Den K w' μ'.length d v->Q v H'
theorem jeR (R:Rep K w μ H)(q:jo1 K w μ.length d μ Q)(hp:H p=none)(hd:∀w',Ext w w' μ.length μ.length->w'.Z p=some o->Den K w' μ.length d (.ref p)):Q (.ref p) (upd H p o):=by
 obtain⟨R',x⟩:=R.frz hp o;exact q _ _ _ x R' (hd _ x jag)
theorem jai (R:Rep K w μ H)(q:jo1 K w μ.length d μ Q)(h:Den K w μ.length d v):Q v H:=q w H v (Ext.refl _ _) R h
theorem jfv (R:Rep K w μ H)(h:DenL K w μ.length ds xs)(e:mkL m ds μ=.ok d μ')(q:jo1 K w μ.length d μ' Q):∀p,H p=none->Q (.ref p) (upd H p (.lst xs)):=by
 intro p hp
 cases m with
 |false=>
  simp only[mkL,j0H,if_false]at e;cases e;exact jeR R q hp fun w' x hz=>by unfold Den;exact⟨p,xs,rfl,hz,h.mono x⟩
 |true=>
  simp only[mkL,if_true]at e;cases e;obtain⟨w',R',x,hg⟩:=R.cell hp (.lst xs) (.lst ds) (fun w' x=>⟨xs,jag,h.mono x⟩);have hl:(μ++[some (Cl.lst ds)]).length=μ.length+1:=by simp
  refine q w' _ _ (by rw[hl];exact x) R' ?_;unfold Den;exact⟨by rw[hl];exact j0Y _,by rw[hg]⟩
end
theorem imE (h:PE X e t)(k:∀σ H Q,t' σ H Q->t σ H Q):PE X e t':=fun pins s σ H Q I hw=>h pins s σ H Q I (k σ H Q hw)
theorem imT (h:PT X e t)(k:∀σ H Q,t' σ H Q->t σ H Q):PT X e t':=fun pins s σ H Q I hw=>h pins s σ H Q I (k σ H Q hw)
theorem imW (h:PW X e t)(k:∀σ H Q,t' σ H Q->t σ H Q):PW X e t':=fun wh pins s σ H Q I hw=>h wh pins s σ H Q I (k σ H Q hw)
theorem imA (h:PA X e t)(k:∀σ H Q,t' σ H Q->t σ H Q):PA X e t':=fun pos pins s σ H Q I hw=>h pos pins s σ H Q I (k σ H Q hw)
theorem imS (h:PS X e t)(k:∀E σ H,t' E σ H->t E σ H):PS X e t':=fun pins s σ H Q I hw=>h pins s σ H Q I (k Q σ H hw)
theorem jET (h:PSs X e t)(k:∀E σ H,t' E σ H->t E σ H):PSs X e t':=fun pins s σ H Q I hw=>h pins s σ H Q I (k Q σ H hw)
section
variable {K:PySem.W.Frag}
def js6 (K:PySem.W.Frag)(f:D->D->M->Out D)(r:R2):Prop:=∀(w:Wd) (μ:M) (H:Hp) (d1 d2 d:D) (μ':M) (v1 v2:V) (Q:VK),Rep K w μ H->Den K w μ.length d1 v1->Den K w μ.length d2 v2->f d1 d2 μ=.ok d μ'->jo1 K w μ.length d μ' Q->r v1 v2 H Q
theorem jvd (hs:js6 K f r){σ:_L2.St}{H:Hp}{Q:VK} :
  T3E K (fun ρ μ=>(ra ρ μ).bind fun x μ1=>(rb ρ μ1).bind fun y μ2=>f x y μ2) σ H Q->tOp r (T3E K ra) (T3E K rb) σ H Q:=by
 rintro⟨w,μ,ρ,d,μ',R,S,e,q⟩;obtain⟨x,μ1,e1,e⟩:=Out.bind_ok e;obtain⟨y,μ2,e2,e⟩:=Out.bind_ok e;exact⟨w,μ,ρ,x,μ1,R,S,e1,fun w1 H1 v1 x1 R1 d1=>⟨w1,μ1,ρ,y,μ2,R1,S.mono x1,e2,fun w2 H2 v2 x2 R2 d2=>hs w2 μ2 H2 x y d μ' v1 v2 Q R2 (d1.mono x2) d2 e fun w3 H3 v x3 R3 d3=>q w3 H3 v ((x1.trans x2).trans x3) R3 d3⟩⟩
theorem juq {f:D->M->Out D}{r:V->Hp->VK->Prop}{ra:S3->M->Out D}(hs:∀(w:Wd) (μ:M) (H:Hp) (d1 d:D) (μ':M) (v1:V) (Q:VK),Rep K w μ H->Den K w μ.length d1 v1->f d1 μ=.ok d μ'->jo1 K w μ.length d μ' Q->r v1 H Q){σ:_L2.St}{H:Hp}{Q:VK} :
  T3E K (fun ρ μ=>(ra ρ μ).bind fun x μ1=>f x μ1) σ H Q->T3E K ra σ H fun x H1=>r x H1 Q:=by
 rintro⟨w,μ,ρ,d,μ',R,S,e,q⟩;obtain⟨x,μ1,e1,e⟩:=Out.bind_ok e;exact⟨w,μ,ρ,x,μ1,R,S,e1,fun w1 H1 v1 x1 R1 d1=>hs w1 μ1 H1 x d μ' v1 Q R1 d1 e fun w3 H3 v x3 R3 d3=>q w3 H3 v (x1.trans x3) R3 d3⟩
end
section
variable {K:PySem.W.Frag} {X:Cx}
theorem jip:js6 K (jyA C f) (rI C fun i j=>.int (f i j)):=by
 intro w μ H d1 d2 d μ' v1 v2 Q R h1 h2 e q;unfold jyA at e;split at e
 ·split at e
  ·rename_i hc;cases e;unfold Den at h1 h2;exact⟨_,_,h1,h2,hc,jai R q (by unfold Den;rfl)⟩
  ·cases e
 ·cases e
def jA2 (K:PySem.W.Frag):R2:=fun x y H Q=>rI0 (fun i j=>.int (i+j)) x y H Q∨(∃i j,x=.str i/\y=.str j/\i.length+j.length<=sizeLine/\Q (.str (i++j)) H)∨jBn K x y H Q
theorem jwl:OpR X (binaryOp .Add) (jA2 X.K):=jCg.or (jpS.or jxQ)
theorem jw3:js6 K (jC1 m) (jA2 K):=by
 intro w μ H d1 d2 d μ' v1 v2 Q R h1 h2 e q;unfold jC1 at e;split at e
 ·cases e;unfold Den at h1 h2;exact .inl ⟨_,_,h1,h2,jai R q (by unfold Den;rfl)⟩
 ·split at e
  ·rename_i hc;cases e;unfold Den at h1 h2;exact .inr (.inl ⟨_,_,h1,h2,hc,jai R q (by unfold Den;rfl)⟩)
  ·cases e
 ·split at e
  ·rename_i xs ys e1 e2;split at e
   ·rename_i hc;obtain⟨a,us,rfl,s1,l1⟩:=jaU R h1 e1;obtain⟨b,ws,rfl,s2,l2⟩:=jaU R h2 e2;exact .inr (.inr ⟨a,b,us,ws,rfl,rfl,s1,s2,by rw[<- jad l1,<- jad l2];exact hc,jfv R (l1.append l2) e q⟩)
   ·cases e
  ·cases e
theorem jss:OpR X (binaryOp .FloorDiv) (rI jBc fun i j=>.int (i / j)):=opI fun i j _ _ _ _ _ hc q=>by
 have h1:(0:Int)<j:=hc.1;have h2:j<18446744073709551616:=hc.2;have h3:j.natAbs.log2<64:=(Nat.log2_lt (by omega)).mpr (by omega);exact floordiv_int (by omega) (by rw[Int.fdiv_eq_ediv_of_nonneg i (by omega)];exact q) (.inl (PyProof.noPylong_of_log2 (by omega)))
theorem jmX (h:OpR X f r)(k:∀x y H Q,r' x y H Q->r x y H Q):OpR X f r':=fun pins s σ H x y v u Q I rx ry q=>h pins s σ H x y v u Q I rx ry (k _ _ _ _ q)
theorem jt8:OpR X (binaryOp .Mult) (rI jzB fun i j=>.int (i*j)):=jmX jBO fun x y H Q ⟨i,j,h1,h2,hc,q⟩=>⟨i,j,h1,h2,by unfold jzB at hc;unfold jC8;omega,q⟩
theorem jva:OpR X (binaryOp .Pow) (rI jBV fun i j=>.int (i ^ j.toNat)):=jmX jCO fun x y H Q ⟨i,j,h1,h2,hc,q⟩=>⟨i,j,h1,h2,⟨hc.1,hc.2.1,by have:=hc.2.2;omega⟩,q⟩
theorem jBE:∃r,OpR X (binaryOp op) r/\js6 X.K (jlA op m) r:=by
 cases op with
 |Add=>exact⟨_,jwl,jw3⟩
 |Sub=>exact⟨_,jmX jCV fun x y H Q ⟨i,j,h1,h2,_,q⟩=>⟨i,j,h1,h2,q⟩,jip⟩
 |Mult=>exact⟨_,jt8,jip⟩
 |FloorDiv=>exact⟨_,jss,jip⟩
 |Mod=>exact⟨_,jCf,jip⟩
 |Pow=>exact⟨_,jva,jip⟩
 |_=>exact⟨fun _ _ _ _=>False,fun _ _ _ _ _ _ _ _ _ _ _ _ h=>h.elim,fun _ _ _ _ _ _ _ _ _ _ _ _ _ e _=>by cases e⟩
theorem jy4 (hf:∀d1 d2 x y u v b,Den K w n d1 x->Den K w n d2 y->jaB x u->jaB y v->f d1 d2=some b->SeqAt.EqAt A s u v b) :
  ∀{ds es:List D} {xs ys:List V} {us vs:List Value} {b:Bool},DenL K w n ds xs->DenL K w n es ys->jaI xs us->jaI ys vs->js4 f ds es=some b ->
   ∃g:Nat->Bool,(∀(j:Nat) (h1:j<us.length) (h2:j<vs.length),SeqAt.EqAt A s us[j] vs[j] (g j))/\(List.range (min us.length vs.length)).all g=b:=by
 intro ds es xs ys us vs b h1 h2 r1 r2;have p1:=jaF.mp h1;have p2:=jaF.mp h2;clear h1 h2
 induction p1 generalizing es ys us vs b with
 |nil=>
  intro e;cases r1;simp only[js4,j0w]at e;subst e;exact⟨fun _=>true,fun j h=>absurd h (by simp),by simp⟩
 |cons k1 t1 ih=>
  intro e
  cases p2 with
  |nil=>
   cases r2;simp only[js4,j0w]at e;subst e;exact⟨fun _=>true,fun j _ h=>absurd h (by simp),by simp⟩
  |cons k2 t2=>
   cases r1 with
   |cons q1 q1'=>
    cases r2 with
    |cons q2 q2'=>
     simp only[js4]at e;split at e
     ·rename_i a c ea ec;cases e;obtain⟨g,hg,hb⟩:=ih q1' q2' t2 ec;refine⟨fun j=>match j with|0=>a|j+1=>g j,fun j j1 j2=>?_,?_⟩
      ·cases j with
       |zero=>exact hf _ _ _ _ _ _ _ k1 k2 q1 q2 ea
       |succ j=>exact hg j (Nat.lt_of_succ_lt_succ j1) (Nat.lt_of_succ_lt_succ j2)
      ·rw[<- hb,j0j,j0j,Nat.add_min_add_right,List.range_succ_eq_map,j0S,List.all_map];rfl
     ·cases e
section
variable {pins:List (Addr×Obj)} {σ:_L2.St} {H:Hp} {s:Shared} {w:Wd} {μ:M}
theorem jzA (I:Inv X pins σ H s){a:Addr}{xs ys:List V}(h:SqL X.K H a xs)(k:SqL X.K H a ys):xs=ys:=by
 obtain⟨its,rv,p,_⟩:=I.list h;obtain⟨its2,rv2,p2,_⟩:=I.list k;obtain⟨o,n1,g1,_,_,d1⟩:=p;obtain⟨o2,n2,g2,_,_,d2⟩:=p2;rw[g1]at g2;cases g2;rw[d1]at d2;have e:its=its2:=by
  injection d2 with e _;simpa using e
 subst e;exact jaI.inj rv rv2
theorem jse (hf:∀d1 d2 x b,Den X.K w n d1 x->Den X.K w n d2 x->f d1 d2=some b->b=true):∀{ds es:List D} {xs:List V} {b:Bool},DenL X.K w n ds xs->DenL X.K w n es xs->js4 f ds es=some b->b=true:=by
 intro ds es xs b h1 h2;have p1:=jaF.mp h1;have p2:=jaF.mp h2;clear h1 h2
 induction p1 generalizing es b with
 |nil=>
  intro e;simp only[js4,j0w]at e;exact e.symm
 |cons k1 t1 ih=>
  intro e
  cases p2 with
  |cons k2 t2=>
   simp only[js4]at e;split at e
   ·rename_i a c ea ec;cases e;rw[hf _ _ _ _ k1 k2 ea,ih t2 ec];rfl
   ·cases e
theorem jow (I:Inv X pins σ H s)(R:Rep X.K w μ H){f:D->D->Option Bool}(hf:∀d1 d2 x b,Den X.K w μ.length d1 x->Den X.K w μ.length d2 x->f d1 d2=some b->b=true){d1 d2:D}{x:V}{b:Bool}(h1:Den X.K w μ.length d1 x)(h2:Den X.K w μ.length d2 x)(e:eqN f μ d1 d2=some b):b=true:=by
 unfold eqN at e;split at e
 ·rename_i xs ys q1 q2;obtain⟨a,us,e1,s1,l1⟩:=jaU R h1 q1;obtain⟨c,ws,e2,s2,l2⟩:=jaU R h2 q2;rw[e1]at e2;cases e2;have:=jzA I s1 s2;subst this;rw[if_pos (by rw[jad l1,jad l2])]at e;exact jse hf l1 l2 e
 ·cases e
theorem jom (I:Inv X pins σ H s)(R:Rep X.K w μ H):∀(n:Nat) (d1 d2:D) (x:V) (b:Bool),Den X.K w μ.length d1 x->Den X.K w μ.length d2 x->eqD μ n d1 d2=some b->b=true
 |0,_,_,_,_,_,_,e=>by cases e
 |n+1,d1,d2,x,b,h1,h2,e=>by
  unfold eqD at e;split at e
  ·rename_i x' y' e1 e2;cases e;obtain⟨q1,f1⟩:=jb4 h1 e1;obtain⟨q2,f2⟩:=jb4 h2 e2;rw[<- q1,<- q2];exact jt3 f1
  ·exact jow I R (jom I R n) h1 h2 e
theorem jsk (I:Inv X pins σ H s)(R:Rep X.K w μ H){A:Around}{f:D->D->Option Bool}(hu:A.units<cLine)(hf:∀d1 d2 x y u v b,Den X.K w μ.length d1 x->Den X.K w μ.length d2 y->jaB x u->jaB y v->f d1 d2=some b->SeqAt.EqAt A.in1 s u v b)
  {d1 d2:D} {x y:V} {b:Bool} (h1:Den X.K w μ.length d1 x) (h2:Den X.K w μ.length d2 y) (e:eqN f μ d1 d2=some b) :
  ∃a c,x=.ref a/\y=.ref c/\SeqAt.RcAt A s (.ref a) (.ref c) b/\SeqAt.RcNeAt A s (.ref a) (.ref c) (!b):=by
 unfold eqN at e;split at e
 ·rename_i xs ys q1 q2;obtain⟨a,us,rfl,s1,l1⟩:=jaU R h1 q1;obtain⟨c,ws,rfl,s2,l2⟩:=jaU R h2 q2;obtain⟨its,rv,p,_⟩:=I.list s1;obtain⟨its2,rv2,p2,_⟩:=I.list s2;have z1:its.toArray.size=xs.length:=by rw[j0h,<- rv.length,jad l1]
  have z2:its2.toArray.size=ys.length:=by rw[j0h,<- rv2.length,jad l2]
  split at e
  ·rename_i hl;obtain⟨g,hg,hk⟩:=jy4 hf l1 l2 rv rv2 e;have hj:∀j (h1:j<its.toArray.size) (h2:j<its2.toArray.size),SeqAt.EqAt A.in1 s its.toArray[j] its2.toArray[j] (g j):=fun j h1 h2=>by
    have:=hg j (by simpa using h1) (by simpa using h2);simpa using this
   have t1:=SeqAt.RcAt.lists (A:=A) (e:=g) p.isList p2.isList (by rw[z1,z2,hl]) hu hj;have t2:=SeqAt.RcNeAt.lists (A:=A) (e:=g) p.isList p2.isList (by rw[z1,z2,hl]) hu hj;have ek:(List.range its.toArray.size).all g=b:=by
    have:min its.length its2.length=its.toArray.size:=by
     rw[<- j0h,<- j0h,z1,z2,hl,Nat.min_self]
    rw[this]at hk;exact hk
   rw[ek]at t1 t2;exact⟨a,c,rfl,rfl,t1,t2⟩
  ·rename_i hl;cases e;have hne:(its.toArray.size !=its2.toArray.size)=true:=by
    rw[z1,z2];simp[hl]
   exact⟨a,c,rfl,rfl,SeqAt.RcAt.lists_lengths (A:=A) p.isList p2.isList hne hu,SeqAt.RcNeAt.lists_lengths (A:=A) p.isList p2.isList hne hu⟩
 ·cases e
theorem jr5 (I:Inv X pins σ H s)(R:Rep X.K w μ H):∀(n:Nat) {A:Around} (d1 d2:D) (x y:V) (u v:Value) (b:Bool),A.units+n<cLine ->
  Den X.K w μ.length d1 x->Den X.K w μ.length d2 y->jaB x u->jaB y v->eqD μ n d1 d2=some b->SeqAt.EqAt A s u v b
 |0,A,d1,d2,x,y,u,v,b,hu,h1,h2,r1,r2,e=>by cases e
 |n+1,A,d1,d2,x,y,u,v,b,hu,h1,h2,r1,r2,e=>by
  have hu1:A.units<cLine:=by omega
  unfold eqD at e;split at e
  ·rename_i x' y' e1 e2;cases e;obtain⟨rfl,f1⟩:=jb4 h1 e1;obtain⟨rfl,f2⟩:=jb4 h2 e2;exact jiF r1 r2 f1 f2
  ·obtain⟨a,c,rfl,rfl,t1,_⟩:=jsk I R hu1 (fun d1 d2 x y u v b=>jr5 I R n (A:=A.in1) d1 d2 x y u v b (by rw[Around.in1_units];omega)) h1 h2 e;cases r1;cases r2;by_cases hne:a=c
   ·subst hne;rw[jow I R (jom I R n) h1 h2 e];exact SeqAt.EqAt.same _
   ·exact SeqAt.EqAt.of_refs hne t1
end
def jEu (K:PySem.W.Frag)(ne:Bool):R2:=fun x y H Q=>(jDi x y=true/\Q (.bl (if ne then !decide (x=y)else decide (x=y))) H)∨∃w μ d1 d2 b,Rep K w μ H/\Den K w μ.length d1 x/\Den K w μ.length d2 y/\eqN (eqD μ 8) μ d1 d2=some b/\Q (.bl (if ne then !b else b)) H
theorem jA (hu:X.A.units+16<cLine):OpR X (compareOp .Eq) (jEu X.K false):=by
 intro pins s σ H x y v u Q I rx ry h;rcases h with⟨hs,q⟩|⟨w,μ,d1,d2,b,R,h1,h2,e,q⟩
 ·exact jDI pins s σ H x y v u Q I rx ry ⟨hs,q⟩
 ·obtain⟨a,c,rfl,rfl,t1,_⟩:=jsk I R (A:=X.A) (by omega) (fun d1 d2 x y u v b=>jr5 I R 8 (A:=X.A.in1) d1 d2 x y u v b (by rw[Around.in1_units];omega)) h1 h2 e;cases rx;cases ry;exact t1 _ _ _ _ ⟨.bl b,H,I,rfl,q⟩
theorem jB0 (hu:X.A.units+16<cLine):OpR X (compareOp .NotEq) (jEu X.K true):=by
 intro pins s σ H x y v u Q I rx ry h;rcases h with⟨hs,q⟩|⟨w,μ,d1,d2,b,R,h1,h2,e,q⟩
 ·exact jEj pins s σ H x y v u Q I rx ry ⟨hs,q⟩
 ·obtain⟨a,c,rfl,rfl,_,t2⟩:=jsk I R (A:=X.A) (by omega) (fun d1 d2 x y u v b=>jr5 I R 8 (A:=X.A.in1) d1 d2 x y u v b (by rw[Around.in1_units];omega)) h1 h2 e;cases rx;cases ry;exact t2 _ _ _ _ ⟨.bl (!b),H,I,rfl,q⟩
theorem jgL (e:jeT op a b μ=.ok d μ'):∃r,js5 op a b μ=some r/\d=.bl r/\μ'=μ:=by
 unfold jeT at e;split at e
 ·rename_i r hr;cases e;exact⟨r,hr,rfl,rfl⟩
 ·cases e
theorem jCN:∀{ds:List D} {xs:List V} {b:Bool},DenL K w n ds xs->jDe x ds=some b->xs.all jg6=true/\inV x xs=b:=by
 intro ds xs b h;have p:=jaF.mp h;clear h
 induction p generalizing b with
 |nil=>
  intro e;cases e;exact⟨rfl,rfl⟩
 |cons k t ih=>
  intro e;simp only[jDe]at e;split at e
  ·rename_i y r e1 e2;cases e;obtain⟨q,f⟩:=jb4 k e1;obtain⟨i1,i2⟩:=ih e2;refine⟨by rw[j0S,f,i1];rfl,?_⟩;unfold inV at i2 ⊢;rw[j1y,i2,q]
  ·cases e
theorem jhz (R:Rep K w μ H)(h:Den K w μ.length d v)(e:jgv μ d=some (ks,vs)):∃a xs,v=.ref a/\ks.length=vs.length/\Rd H a (.dK (ks.zip xs))/\DenL K w μ.length vs xs:=by
 cases d with
 |dK ks' vs'=>
  simp only[jgv,j0w,Prod.mk.injEq]at e;obtain⟨rfl,rfl⟩:=e;unfold Den at h;obtain⟨a,xs,h1,h2,h3,h4⟩:=h;exact⟨a,xs,h1,h2,.inl (R.sub _ _ h3),h4⟩
 |dF ks' vs'=>
  simp only[jgv,j0w,Prod.mk.injEq]at e;obtain⟨rfl,rfl⟩:=e;unfold Den at h;obtain⟨a,o,es,ep,xs,h1,h2,h3,h4,h5⟩:=h;exact⟨a,xs,h1,h2,.inr ⟨o,R.sub _ _ h4⟩,h5⟩
 |cel k=>
  simp only[jgv]at e;split at e
  ·rename_i ks' vs' hk;simp only[j0w,Prod.mk.injEq]at e;obtain⟨rfl,rfl⟩:=e;unfold Den at h;obtain⟨xs,h0,h1,h2⟩:=(R.liv k _ hk).2;exact⟨_,xs,h.2,h0,.inl h1,h2⟩
  ·cases e
 |_=>cases e
theorem jf8 [DecidableEq κ] {w:Wd} {n:Nat} (k:κ):∀{ks:List κ} {vs:List D} {xs:List V},DenL K w n vs xs->ks.length=vs.length->(∀d,jhn k ks vs=some d->∃v,jox (ks.zip xs) k=some v/\Den K w n d v)/\(jhn k ks vs=none->jox (ks.zip xs) k=none)
 |[],vs,xs,h,hl=>⟨fun d e=>(by cases e),fun _=>rfl⟩
 |g::ks,[],xs,h,hl=>by cases hl
 |g::ks,d::vs,xs,h,hl=>by
  unfold DenL at h;obtain⟨v,ws,rfl,h1,h2⟩:=h;obtain⟨i1,i2⟩:=jf8 k h2 (by simpa using hl);rw[j1n];by_cases c:g=k
  ·have a1:jhn k (g::ks) (d::vs)=some d:=by unfold jhn;rw[if_pos c]
   rw[a1,jhF (p:=(g,v)) c];exact⟨fun d' e=>by cases e;exact⟨v,rfl,h1⟩,fun e=>by cases e⟩
  ·have a1:jhn k (g::ks) (d::vs)=jhn k ks vs:=by rw[jhn,if_neg c]
   rw[a1,jhx (p:=(g,v)) c];exact⟨i1,i2⟩
theorem jn6 (h:Den K w n d v)(e:jpT d=some k):v=kV k:=by
 cases d<;>simp only[jpT,j0w]at e<;>first|(subst e;unfold Den at h;exact h)|cases e
theorem jvB:js6 K (fun a b μ=>match(inD μ a b).map (fun r=>if neg then !r else r)with
  |some r=>.ok (.bl r) μ
  |none=>.bad) (fun x y H Q=>rIn K neg x y H Q∨jxj neg x y H Q):=by
 intro w μ H d1 d2 d μ' v1 v2 Q R h1 h2 e q;dsimp only at e
 cases e0:inD μ d1 d2 with
 |none=>rw[e0]at e;cases e
 |some r=>
  rw[e0]at e;cases e;unfold inD at e0;split at e0
  ·rename_i ds e2;split at e0
   ·rename_i x e1;obtain⟨q1,f1⟩:=jb4 h1 e1;obtain⟨a,xs,rfl,s2,l2⟩:=jfV R h2 e2;obtain⟨i1,i2⟩:=jCN l2 e0;exact .inl ⟨a,xs,rfl,s2,f1,i1,by rw[q1,i2];exact jai R q (by unfold Den;rfl)⟩
   ·cases e0
  ·split at e0
   ·rename_i k ks vs e1 e2;cases e0;obtain⟨a,xs,rfl,hl,hz,l2⟩:=jhz R h2 e2;obtain⟨i1,i2⟩:=jf8 k l2 hl;have es:(jox (ks.zip xs) k).isSome=(jhn k ks vs).isSome:=by
     cases hg:jhn k ks vs with
     |none=>rw[i2 hg];rfl
     |some d=>
      obtain⟨v,hv,_⟩:=i1 d hg;rw[hv];rfl
    exact .inr ⟨a,_,rfl,.inl ⟨_,k,hz,jn6 h1 e1,rfl⟩,by rw[es];exact jai R q (by unfold Den;rfl)⟩
   ·cases e0
theorem jeK (h:∀(w:Wd) (μ:M) (H:Hp) (d1 d2:D) (b:Bool) (v1 v2:V) (Q:VK),Rep K w μ H->Den K w μ.length d1 v1->Den K w μ.length d2 v2->f d1 d2 μ=.ok (.bl b) μ->Q (.bl b) H->r v1 v2 H Q)(hb:∀d1 d2 d μ μ',f d1 d2 μ=.ok d μ'->∃b,d=.bl b/\μ'=μ):js6 K f r:=by
 intro w μ H d1 d2 d μ' v1 v2 Q R h1 h2 e q;obtain⟨b,rfl,rfl⟩:=hb _ _ _ _ _ e;exact h w μ' H d1 d2 b v1 v2 Q R h1 h2 e (jai R q (by unfold Den;rfl))
theorem jfZ:∀d1 d2 d μ μ',jeT op d1 d2 μ=.ok d μ'->∃b,d=.bl b/\μ'=μ:=fun _ _ _ _ _ e=>let⟨r,_,h1,h2⟩:=jgL e;⟨r,h1,h2⟩
theorem jjH (e:jeT op a b μ=.ok (.bl r) μ):js5 op a b μ=some r:=by
 obtain⟨r',h,h1,_⟩:=jgL e;cases h1;exact h
theorem jrD {w:Wd}{μ:M}{H:Hp}{d1 d2:D}{b:Bool}{v1 v2:V}{Q:VK}(ne:Bool)(R:Rep K w μ H)(h1:Den K w μ.length d1 v1)(h2:Den K w μ.length d2 v2)(e:jnZ μ d1 d2=some b)(q:Q (.bl (if ne then !b else b)) H):jEu K ne v1 v2 H Q:=by
 unfold jnZ at e;split at e
 ·rename_i x y e1 e2;split at e
  ·rename_i hs;cases e;obtain⟨rfl,_⟩:=jb4 h1 e1;obtain⟨rfl,_⟩:=jb4 h2 e2;exact .inl ⟨hs,q⟩
  ·cases e
 ·exact .inr ⟨w,μ,d1,d2,b,R,h1,h2,e,q⟩
theorem jsV (hu:X.A.units+16<cLine):∃r,OpR X (compareOp op) r/\js6 X.K (jeT op) r:=by
 cases op with
 |Eq=>exact⟨_,jA hu,jeK (fun w μ H d1 d2 b v1 v2 Q R h1 h2 e q=>jrD false R h1 h2 (jjH e) q) jfZ⟩
 |NotEq=>
  refine⟨_,jB0 hu,jeK (fun w μ H d1 d2 b v1 v2 Q R h1 h2 e q=>?_) jfZ⟩;have e':(jnZ μ d1 d2).map (!·)=some b:=jjH e
  cases e2:jnZ μ d1 d2 with
  |none=>rw[e2]at e';cases e'
  |some c=>
   rw[e2]at e';cases e';exact jrD true R h1 h2 e2 q
 |Lt=>
  refine⟨_,jDq,jeK (fun w μ H d1 d2 b v1 v2 Q R h1 h2 e q=>?_) jfZ⟩;have e':=jjH e;simp only[js5]at e';split at e'
  ·cases e';unfold Den at h1 h2;exact⟨_,_,h1,h2,q⟩
  ·cases e'
 |LtE=>
  refine⟨_,(jDn.or jrs),jeK (fun w μ H d1 d2 b v1 v2 Q R h1 h2 e q=>?_) jfZ⟩;have e':=jjH e;simp only[js5]at e';split at e'
  ·cases e';unfold Den at h1 h2;exact .inl ⟨_,_,h1,h2,q⟩
  ·cases e';unfold Den at h1 h2;exact .inr ⟨_,_,h1,h2,q⟩
  ·cases e'
 |Gt=>
  refine⟨_,jD5,jeK (fun w μ H d1 d2 b v1 v2 Q R h1 h2 e q=>?_) jfZ⟩;have e':=jjH e;simp only[js5]at e';split at e'
  ·cases e';unfold Den at h1 h2;exact⟨_,_,h1,h2,q⟩
  ·cases e'
 |GtE=>
  refine⟨_,jD3,jeK (fun w μ H d1 d2 b v1 v2 Q R h1 h2 e q=>?_) jfZ⟩;have e':=jjH e;simp only[js5]at e';split at e'
  ·cases e';unfold Den at h1 h2;exact⟨_,_,h1,h2,q⟩
  ·cases e'
 |In=>
  refine⟨_,jsq.or (jyO (by omega)),fun w μ H d1 d2 d μ' v1 v2 Q R h1 h2 e q=>jvB (neg:=false) w μ H d1 d2 d μ' v1 v2 Q R h1 h2 ?_ q⟩;obtain⟨r,hr,h3,h4⟩:=jgL e;have hr':inD μ d1 d2=some r:=hr;dsimp only;rw[hr',h3,h4];rfl
 |NotIn=>
  refine⟨_,jlW.or (jp6 (by omega)),fun w μ H d1 d2 d μ' v1 v2 Q R h1 h2 e q=>jvB (neg:=true) w μ H d1 d2 d μ' v1 v2 Q R h1 h2 ?_ q⟩;obtain⟨r,hr,h3,h4⟩:=jgL e;have hr':(inD μ d1 d2).map (!·)=some r:=hr;dsimp only;rw[h3,h4]
  cases e2:inD μ d1 d2 with
  |none=>rw[e2]at hr';cases hr'
  |some c=>
   rw[e2]at hr';cases hr';rfl
 |Is=>exact⟨fun _ _ _ _=>False,fun _ _ _ _ _ _ _ _ _ _ _ _ h=>h.elim,fun _ _ _ _ _ _ _ _ _ _ _ _ _ e _=>by obtain⟨r,hr,_⟩:=jgL e;cases hr⟩
 |IsNot=>exact⟨fun _ _ _ _=>False,fun _ _ _ _ _ _ _ _ _ _ _ _ h=>h.elim,fun _ _ _ _ _ _ _ _ _ _ _ _ _ e _=>by obtain⟨r,hr,_⟩:=jgL e;cases hr⟩
theorem juh (h:DenL K w n ds xs)(e:atI ds i=some d):∃v,atI xs i=some v/\Den K w n d v:=by
 unfold atI at e ⊢;rw[jad h]at e
 cases e2:ixN xs.length i with
 |none=>rw[e2]at e;cases e
 |some j=>
  rw[e2]at e;exact jgd h e
theorem js1 {w:Wd}{μ μ':M}{H:Hp}{d1 d:D}{v1 v2:V}{k:Key}{Q:VK}(R:Rep K w μ H)(h1:Den K w μ.length d1 v1)(hk:v2=kV k)(e:jwo d1 k μ=.ok d μ')(q:jo1 K w μ.length d μ' Q):jxu v1 v2 H Q:=by
 unfold jwo at e;split at e
 ·rename_i ks vs e2;split at e
  ·rename_i d' hd;obtain⟨a,xs,rfl,hl,hz,l2⟩:=jhz R h1 e2;obtain⟨v,hv,hdv⟩:=(jf8 k l2 hl).1 d' hd;cases e;exact⟨a,v,rfl,.inl ⟨_,k,hz,hk,hv.symm⟩,jai R q hdv⟩
  ·cases e
 ·cases e
theorem jDD:js6 K ixD (fun x y H Q=>rIx K x y H Q∨jxu x y H Q):=by
 intro w μ H d1 d2 d μ' v1 v2 Q R h1 h2 e q;unfold ixD at e;split at e
 ·rename_i i;unfold Den at h2;split at e
  ·rename_i z;unfold Den at h1;split at e
   ·rename_i hz;split at e
    ·rename_i c hc;cases e;exact .inl (.inr (.inr ⟨z,i,c,h1,h2,hz,hc,jai R q (by unfold Den;rfl)⟩))
    ·cases e
   ·cases e
  ·split at e
   ·rename_i ds hs;split at e
    ·rename_i d' hd;cases e;obtain⟨a,xs,rfl,s1,l1⟩:=jfV R h1 hs;obtain⟨v,e1,e2⟩:=juh l1 hd;rcases s1 with s1|s1
     ·exact .inl (.inl ⟨a,xs,i,v,rfl,h2,s1,e1,jai R q e2⟩)
     ·exact .inl (.inr (.inl ⟨a,xs,i,v,rfl,h2,s1,e1,jai R q e2⟩))
    ·cases e
   ·exact .inr (js1 R h1 (k:=.inl i) h2 e q)
 ·rename_i k;unfold Den at h2;exact .inr (js1 R h1 (k:=.inr k) h2 e q)
 ·cases e
noncomputable def jEx (K:PySem.W.Frag):V->Option Int->Option Int->Hp->VK->Prop:=fun x lo hi H Q=>jEV K x lo hi H Q∨jEK K x lo hi H Q
theorem jCB:SlR X (jEx X.K):=jtq.or jCJ
theorem jBs {m:Bool}{w:Wd}{μ μ':M}{H:Hp}{d1 d:D}{v1:V}{lo hi:Option Int}{Q:VK}(R:Rep K w μ H)(h1:Den K w μ.length d1 v1)(e:slD m d1 lo hi μ=.ok d μ')(q:jo1 K w μ.length d μ' Q):jEx K v1 lo hi H Q:=by
 unfold slD at e;split at e
 ·cases e;obtain⟨a,us,rfl,s1,l1⟩:=jjd R h1;by_cases hw:HT.sIx us.length 0 lo=0/\HT.sIx us.length us.length hi=us.length
  ·refine(.inl ⟨a,us,rfl,s1,hw,jai R q ?_⟩);have hw':=hw;rw[<- jad l1]at hw';unfold jD;rw[hw'.1,hw'.2,List.drop_zero,Nat.sub_zero,List.take_length];exact h1
  ·refine(.inr ⟨a,us,rfl,s1,hw,fun p hp=>?_⟩);exact jeR R q hp fun w' x hz=>by unfold Den;exact⟨p,_,rfl,hz,(l1.cut lo hi).mono x⟩
 ·cases e
theorem jw8 (R:Rep K w μ H)(h:Den K w μ.length d v)(e:jC2 μ d=some b):jAx K v H b:=by
 unfold jC2 at e;split at e
 ·cases e;unfold Den at h;subst h;rfl
 ·cases e
end
section
variable {K:PySem.W.Frag} {X:Cx}
theorem jCR:T3A K (fun _ μ=>.ok [] μ) σ H Q->jEU σ H Q:=by
 rintro⟨w,μ,ρ,ds,μ',R,S,e,q⟩;cases e;exact q w H [] (Ext.refl _ _) R (by unfold DenL;rfl)
theorem jyI :
  T3A K (fun ρ μ=>(r1 ρ μ).bind fun d μ1=>(r2 ρ μ1).bind fun ds μ2=>.ok (d::ds) μ2) σ H Q->jp5 (T3E K r1) (T3A K r2) σ H Q:=by
 rintro⟨w,μ,ρ,d,μ',R,S,e,q⟩;obtain⟨x,μ1,e1,e⟩:=Out.bind_ok e;obtain⟨ys,μ2,e2,e⟩:=Out.bind_ok e;cases e;exact⟨w,μ,ρ,x,μ1,R,S,e1,fun w1 H1 v1 x1 R1 d1=>⟨w1,μ1,ρ,ys,_,R1,S.mono x1,e2,fun w2 H2 vs x2 R2 d2=>q w2 H2 (v1::vs) (x1.trans x2) R2 (by unfold DenL;exact⟨v1,vs,rfl,d1.mono x2,d2⟩)⟩⟩
def jmq (K:PySem.W.Frag)(f:List D->M->Out D)(r:List V->Hp->VK->Prop):Prop:=∀(w:Wd) (μ:M) (H:Hp) (ds:List D) (d:D) (μ':M) (vs:List V) (Q:VK),Rep K w μ H->DenL K w μ.length ds vs->f ds μ=.ok d μ'->jo1 K w μ.length d μ' Q->r vs H Q
theorem jgD (hs:jmq K f r){σ:_L2.St}{H:Hp}{Q:VK} :
  T3E K (fun ρ μ=>(rl ρ μ).bind fun ds μ1=>f ds μ1) σ H Q->T3A K rl σ H fun vs H1=>r vs H1 Q:=by
 rintro⟨w,μ,ρ,d,μ',R,S,e,q⟩;obtain⟨ds,μ1,e1,e⟩:=Out.bind_ok e;exact⟨w,μ,ρ,ds,μ1,R,S,e1,fun w1 H1 vs x1 R1 d1=>hs w1 μ1 H1 ds d μ' vs Q R1 d1 e fun w3 H3 v x3 R3 d3=>q w3 H3 v (x1.trans x3) R3 d3⟩
theorem jnS (h:DenL K w n [d] vs):∃v,vs=[v]/\Den K w n d v:=by
 unfold DenL at h;obtain⟨v,ws,rfl,h1,h2⟩:=h;unfold DenL at h2;subst h2;exact⟨v,rfl,h1⟩
theorem jzI (h:DenL K w n [d,e] vs):∃v u,vs=[v,u]/\Den K w n d v/\Den K w n e u:=by
 unfold DenL at h;obtain⟨v,ws,rfl,h1,h2⟩:=h;obtain⟨u,rfl,h3⟩:=jnS h2;exact⟨v,u,rfl,h1,h3⟩
theorem jwp:jmq K (fun ds μ=>if ds.length<=sizeLine then .ok (.tup ds) μ else .bad) (fun xs H Q=>xs.length<=sizeLine/\∀p,H p=none->Q (.ref p) (upd H p (.tup xs))):=by
 intro w μ H ds d μ' vs Q R h e q;dsimp only at e;split at e
 ·rename_i hl;cases e;refine⟨by rw[<- jad h];exact hl,fun p hp=>?_⟩;exact jeR R q hp fun w' x hz=>by unfold Den;exact⟨p,_,rfl,hz,h.mono x⟩
 ·cases e
theorem jxt:jmq K (fun ds μ=>if ds.length<=sizeLine then mkL m ds μ else .bad) (fun xs H Q=>xs.length<=sizeLine/\∀p,H p=none->Q (.ref p) (upd H p (.lst xs))):=by
 intro w μ H ds d μ' vs Q R h e q;dsimp only at e;split at e
 ·rename_i hl;exact⟨by rw[<- jad h];exact hl,jfv R h e q⟩
 ·cases e
noncomputable abbrev jDE (K:PySem.W.Frag):List V->Hp->VK->Prop:=fun xs H Q=>(∃p ys,xs=[.ref p]/\(SqL K H p ys∨SqT K H p ys)/\Q (.int ys.length) H)∨∃z,xs=[.str z]/\z.length<=sizeLine/\Q (.int z.length) H
theorem jyZ:jmq K jDh (jDE K):=by
 intro w μ H ds d μ' vs Q R h e q;unfold jDh at e;split at e
 ·split at e
  ·rename_i hz;cases e;obtain⟨v,rfl,h1⟩:=jnS h;unfold Den at h1;subst h1;exact .inr ⟨_,rfl,hz,jai R q (by unfold Den;rfl)⟩
  ·cases e
 ·split at e
  ·rename_i xs hs;cases e;obtain⟨v,rfl,h1⟩:=jnS h;obtain⟨a,ys,rfl,s1,l1⟩:=jfV R h1 hs;exact .inl ⟨a,ys,rfl,s1,by rw[<- jad l1];exact jai R q (by unfold Den;rfl)⟩
  ·cases e
 ·cases e
theorem jzz:jmq K jC7 (jEE K):=by
 intro w μ H ds d μ' vs Q R h e q;unfold jC7 at e;split at e
 ·split at e
  ·rename_i xs hs;split at e
   ·rename_i ns hn;cases e;obtain⟨v,rfl,h1⟩:=jnS h;obtain⟨a,ys,rfl,s1,l1⟩:=jaU R h1 hs;have:=ji6 l1 hn;subst this;exact⟨a,ns,rfl,s1,jai R q (by unfold Den;rfl)⟩
   ·cases e
  ·cases e
 ·cases e
theorem jxe:jmq K jDo (fun xs H Q=>∃i j,xs=[.int i,.int j]/\Q (.int (if j<i then j else i)) H):=by
 intro w μ H ds d μ' vs Q R h e q;unfold jDo at e;split at e
 ·cases e;obtain⟨v,u,rfl,h1,h2⟩:=jzI h;unfold Den at h1 h2;subst h1 h2;exact⟨_,_,rfl,jai R q (by unfold Den;rfl)⟩
 ·cases e
theorem jzC:jmq K jEh (fun xs H Q=>∃i j,xs=[.int i,.int j]/\Q (.int (if j > i then j else i)) H):=by
 intro w μ H ds d μ' vs Q R h e q;unfold jEh at e;split at e
 ·cases e;obtain⟨v,u,rfl,h1,h2⟩:=jzI h;unfold Den at h1 h2;subst h1 h2;exact⟨_,_,rfl,jai R q (by unfold Den;rfl)⟩
 ·cases e
theorem jtX:jmq K (jw5 m) (fun xs H Q=>∃p ys,xs=[.ref p]/\(SqL K H p ys∨SqT K H p ys)/\∀l,H l=none->Q (.ref l) (upd H l (.lst ys))):=by
 intro w μ H ds d μ' vs Q R h e q;unfold jw5 at e;split at e
 ·split at e
  ·rename_i xs hs;obtain⟨v,rfl,h1⟩:=jnS h;obtain⟨a,ys,rfl,s1,l1⟩:=jfV R h1 hs;exact⟨a,ys,rfl,s1,jfv R l1 e q⟩
  ·cases e
 ·cases e
theorem jqN:jmq K jsI (fun xs H Q=>∃p ys,xs=[.ref p]/\((SqL K H p ys/\∀l,H l=none->Q (.ref l) (upd H l (.tup ys)))∨(SqT K H p ys/\Q (.ref p) H))):=by
 intro w μ H ds d μ' vs Q R h e q;unfold jsI at e;split at e
 ·cases e
 ·rename_i d0 hns;split at e
  ·rename_i xs hs;cases e;obtain⟨v,rfl,h1⟩:=jnS h;unfold jhc at hs;split at hs
   ·cases hs;obtain⟨a,ys,rfl,s1,l1⟩:=jjd R h1;exact⟨a,ys,rfl,.inr ⟨s1,jai R q h1⟩⟩
   ·exact absurd rfl (hns _)
   ·obtain⟨a,ys,rfl,s1,l1⟩:=jaU R h1 hs;exact⟨a,ys,rfl,.inl ⟨s1,fun p hp=>jeR R q hp fun w' x hz=>by unfold Den;exact⟨p,_,rfl,hz,l1.mono x⟩⟩⟩
  ·cases e
 ·cases e
theorem jv7 (hc:X.calm=true):jmq X.K jC3 (fun xs H Q=>X.calm=true/\∃(p:Addr) (bs:List Bool),xs=[.ref p]/\SqL X.K H p (bs.map V.bl)/\Q (.bl (bs.all id)) H):=by
 intro w μ H ds d μ' vs Q R h e q;unfold jC3 at e;split at e
 ·split at e
  ·rename_i xs hs;split at e
   ·rename_i ns hn;cases e;obtain⟨v,rfl,h1⟩:=jnS h;obtain⟨a,ys,rfl,s1,l1⟩:=jaU R h1 hs;have:=joz l1 hn;subst this;exact⟨hc,a,ns,rfl,s1,jai R q (by unfold Den;rfl)⟩
   ·cases e
  ·cases e
 ·cases e
theorem joq (e:tyD μ d=some t):(d=.non/\t = "NoneType")∨(∃b,d=.bl b/\t = "bool")∨(∃i,d=.int i/\t = "int")∨(∃x,d=.str x/\t = "str")∨(∃ds,d=.tup ds/\t = "tuple")∨(∃ds,je9 μ d=some ds/\t = "list"):=by
 cases d with
 |non=>cases e;exact .inl ⟨rfl,rfl⟩
 |bl b=>cases e;exact .inr (.inl ⟨b,rfl,rfl⟩)
 |int i=>cases e;exact .inr (.inr (.inl ⟨i,rfl,rfl⟩))
 |str x=>cases e;exact .inr (.inr (.inr (.inl ⟨x,rfl,rfl⟩)))
 |tup ds=>cases e;exact .inr (.inr (.inr (.inr (.inl ⟨ds,rfl,rfl⟩))))
 |scr ds=>cases e
 |lst ds=>cases e;exact .inr (.inr (.inr (.inr (.inr ⟨ds,rfl,rfl⟩))))
 |cel k=>
  simp only[tyD]at e
  cases e2:je9 μ (.cel k)with
  |none=>rw[e2]at e;cases e
  |some ds=>rw[e2]at e;cases e;exact .inr (.inr (.inr (.inr (.inr ⟨ds,rfl,rfl⟩))))
 |_=>cases e
theorem joU (ht:t = "NoneType"∨t = "bool"∨t = "int"∨t = "str"∨t = "tuple"∨t = "list") (e:jzL n t=some b):PySem.W.kitOne K (.type t) (.type n)=some b:=by
 unfold jzL at e;split at e
 ·rename_i hn;subst hn;rcases ht with rfl|rfl|rfl|rfl|rfl|rfl<;>(cases e;rfl)
 ·split at e
  ·rename_i hn;rcases hn with rfl|rfl|rfl|rfl|rfl<;>rcases ht with rfl|rfl|rfl|rfl|rfl|rfl<;>(cases e;rfl)
  ·cases e
noncomputable def jDz (K:PySem.W.Frag)(n:String):List V->Hp->VK->Prop:=fun xs H Q=>∃(x:V) (w:Wd) (μ:M) (d:D) (t:String) (b:Bool),xs=[x,.ty n]/\Rep K w μ H/\Den K w μ.length d x/\tyD μ d=some t/\jzL n t=some b/\Q (.bl b) H
theorem ju1:jbe X (.builtin "isinstance") (jDz X.K n):=by
 intro pins s σ H xs us Q I r h;obtain⟨x,w,μ,d,t,b,rfl,R,hd,ht,hb,q⟩:=h;obtain⟨u,u2,rfl,ru,ru2⟩:=r.two;cases(show u2=Value.type n from ru2);have hk:∀hh,PySem.W.kitOne X.K (.type t) (.type n)=some b:=fun hh=>joU hh hb;have fin:∀tk,EP X pins σ Q (.bool b) {s with toks:=tk}:=fun tk=>⟨.bl b,H,I.tok tk,rfl,q⟩;rcases joq ht with⟨rfl,rfl⟩|⟨k,rfl,rfl⟩|⟨i,rfl,rfl⟩|⟨y,rfl,rfl⟩|⟨ds,rfl,rfl⟩|⟨ds,e,rfl⟩
 ·unfold Den at hd;subst hd;exact jgq I ru .non (hk (by simp)) fin
 ·unfold Den at hd;subst hd;exact jgq I ru (.bl k) (hk (by simp)) fin
 ·unfold Den at hd;subst hd;exact jgq I ru (.int i) (hk (by simp)) fin
 ·unfold Den at hd;subst hd;exact jgq I ru (.str y) (hk (by simp)) fin
 ·obtain⟨a,xs,rfl,s1,_⟩:=jjd R hd;cases ru;obtain⟨its,_,p,_⟩:=I.tuple s1;obtain⟨o,h1,h2,_⟩:=p;exact j0M PySem.W.kitx_tuple I.kIn ⟨o,h1,h2⟩ (hk (by simp)) (fun z=>nomatch z) fin
 ·obtain⟨a,xs,rfl,s1,_⟩:=jaU R hd e;cases ru;obtain⟨its,_,p,_⟩:=I.list s1;obtain⟨o,n1,h1,h2,_⟩:=p;exact j0M PySem.W.kitx_list I.kIn ⟨o,h1,h2⟩ (hk (by simp)) (fun z=>nomatch z) fin
theorem jxJ (R:Rep K w μ H)(h:DenL K w μ.length ds vs)(e:jDf n ds μ=.ok d μ')(q:jo1 K w μ.length d μ' Q):jDz K n (vs++[.ty n]) H Q:=by
 unfold jDf at e;split at e
 ·rename_i d0;split at e
  ·rename_i t ht;split at e
   ·rename_i r hr;cases e;obtain⟨v,rfl,h1⟩:=jnS h;exact⟨v,w,μ,d0,t,r,rfl,R,h1,ht,hr,jai R q (by unfold Den;rfl)⟩
   ·cases e
  ·cases e
 ·cases e
theorem jxn (ht:t = "NoneType"∨t = "bool"∨t = "int"∨t = "str"∨t = "tuple"∨t = "list") (e:jua n m t=some b):PySem.W.kitAny K (.type t) [.type n,.type m]=some b:=by
 unfold jua at e;split at e
 ·rename_i h;cases e;have k:=joU (K:=K) ht h;unfold PySem.W.kitAny;rw[k]
 ·rename_i h;have k:=joU (K:=K) ht h;have k2:=joU (K:=K) ht e;unfold PySem.W.kitAny;rw[k];unfold PySem.W.kitAny;dsimp only;rw[k2];cases b<;>rfl
 ·cases e
noncomputable def jBC (K:PySem.W.Frag)(n m:String):List V->Hp->VK->Prop:=fun xs H Q=>∃(x:V) (p:Addr) (w:Wd) (μ:M) (d:D) (t:String) (b:Bool),xs=[x,.ref p]/\SqT K H p [.ty n,.ty m]/\Rep K w μ H/\Den K w μ.length d x/\tyD μ d=some t/\jua n m t=some b/\Q (.bl b) H
theorem jro:jbe X (.builtin "isinstance") (jBC X.K n m):=by
 intro pins s σ H xs us Q I r h;obtain⟨x,p,w,μ,d,t,b,rfl,hsq,R,hd,ht,hb,q⟩:=h;obtain⟨u,u2,rfl,ru,ru2⟩:=r.two;cases(show u2=Value.ref p from ru2);have hk:∀hh,PySem.W.kitAny X.K (.type t) [.type n,.type m]=some b:=fun hh=>jxn hh hb;have fin:∀tk,EP X pins σ Q (.bool b) {s with toks:=tk}:=fun tk=>⟨.bl b,H,I.tok tk,rfl,q⟩;obtain⟨its,rv,hp,_⟩:=I.tuple hsq;cases jo7 (show [V.ty n,V.ty m].mapM jEf=some [.type n,.type m]from rfl) rv;obtain⟨⟨cc,dd,dt,sl⟩,ho,hcc,nn,hdd⟩:=hp;simp only at hcc hdd;subst hcc hdd;rcases joq ht with⟨rfl,rfl⟩|⟨k,rfl,rfl⟩|⟨i,rfl,rfl⟩|⟨y,rfl,rfl⟩|⟨ds,rfl,rfl⟩|⟨ds,e,rfl⟩
 ·unfold Den at hd;subst hd;cases(show u=Value.none from ru);exact j1D PySem.W.kitx_none I.kIn True.intro ho (hk (by simp)) (fun z=>nomatch z) fin
 ·unfold Den at hd;subst hd;cases(show u=Value.bool k from ru);exact j1D PySem.W.kitx_bool I.kIn True.intro ho (hk (by simp)) (fun z=>nomatch z) fin
 ·unfold Den at hd;subst hd;obtain⟨tt,z⟩:=(show ∃t,u=Value.int i t from ru);cases z;exact j1D PySem.W.kitx_int I.kIn True.intro ho (hk (by simp)) (fun z=>nomatch z) fin
 ·unfold Den at hd;subst hd;obtain⟨tt,z⟩:=(show ∃t,u=Value.str y t from ru);cases z;exact j1D PySem.W.kitx_str I.kIn True.intro ho (hk (by simp)) (fun z=>nomatch z) fin
 ·obtain⟨a,xs,rfl,s1,_⟩:=jjd R hd;cases ru;obtain⟨its2,_,p2,_⟩:=I.tuple s1;obtain⟨o,h1,h2,_⟩:=p2;exact j1D PySem.W.kitx_tuple I.kIn ⟨o,h1,h2⟩ ho (hk (by simp)) (fun z=>nomatch z) fin
 ·obtain⟨a,xs,rfl,s1,_⟩:=jaU R hd e;cases ru;obtain⟨its2,_,p2,_⟩:=I.list s1;obtain⟨o,n1,h1,h2,_⟩:=p2;exact j1D PySem.W.kitx_list I.kIn ⟨o,h1,h2⟩ ho (hk (by simp)) (fun z=>nomatch z) fin
def jDX (K:PySem.W.Frag)(f:D->List D->M->Out D)(r:V->List V->Hp->VK->Prop):Prop:=∀(w:Wd) (μ:M) (H:Hp) (o:D) (x:V) (ds:List D) (d:D) (μ':M) (vs:List V) (Q:VK),Rep K w μ H->Den K w μ.length o x->DenL K w μ.length ds vs->f o ds μ=.ok d μ'->jo1 K w μ.length d μ' Q->r x vs H Q
theorem Rep.putL (R:Rep K w μ H)(hk:μ[k]?=some (some (.lst ds)))(h:DenL K w μ.length es ys):Rep K w (μ.set k (some (.lst es))) (upd H (w.γ k) (.lst ys)):=R.put hk (.lst ys) ⟨ys,jag,h⟩
theorem jof {w:Wd}{μ:M}{H':Hp}{k:Nat}{c:Cl}{d:D}{v:V}{Q:VK}(R:Rep K w (μ.set k (some c)) H')(q:jo1 K w μ.length d (μ.set k (some c)) Q)(h:Den K w μ.length d v):Q v H':=by
 have hl:(μ.set k (some c)).length=μ.length:=List.length_set;exact q w H' v (by rw[hl];exact Ext.refl _ _) R (by rw[hl];exact h)
theorem jzv:jDX K jzE rAppend:=by
 intro w μ H o x ds d μ' vs Q R h1 h2 e q;unfold jzE at e;split at e
 ·rename_i k d0;split at e
  ·rename_i xs hk;split at e
   ·rename_i hz;cases e;obtain⟨v,rfl,h3⟩:=jnS h2;unfold Den at h1;obtain⟨ys,g1,g2⟩:=(R.liv k _ hk).2;refine⟨w.γ k,ys,v,h1.2,rfl,g1,by rw[<- jad g2];exact hz,?_⟩;exact jof (R.putL hk (g2.append (DenL.one h3))) q (by unfold Den;rfl)
   ·cases e
  ·cases e
 ·cases e
theorem jxL:jDX K jC6 rExtend:=by
 intro w μ H o x ds d μ' vs Q R h1 h2 e q;unfold jC6 at e;split at e
 ·rename_i k zs;split at e
  ·rename_i xs hk;split at e
   ·rename_i hz;cases e;obtain⟨v,rfl,h3⟩:=jnS h2;unfold Den at h1 h3;obtain⟨ys,g1,g2⟩:=(R.liv k _ hk).2;obtain⟨b,us,rfl,g3,g4⟩:=h3;refine⟨w.γ k,b,ys,us,h1.2,rfl,g1,R.sub _ _ g3,by rw[<- jad g2,<- jad g4];exact hz,?_⟩;exact jof (R.putL hk (g2.append g4)) q (by unfold Den;rfl)
   ·cases e
  ·cases e
 ·cases e
theorem jrP {f:D->List D->M->Out D}{ok:D->M->Bool}{T:String}{r:V->List V->Hp->VK->Prop}{ro:S3->M->Out D}{rl:S3->M->Out (List D)}(hs:jDX K f r)(ht:∀(w:Wd) (μ:M) (H:Hp) (o:D) (x:V),Rep K w μ H->Den K w μ.length o x->ok o μ=true->tyV K T x H){σ:_L2.St}{H:Hp}{Q:VK} :
  T3E K (fun ρ μ=>(ro ρ μ).bind fun x μ1=>if ok x μ1 then(rl ρ μ1).bind fun ds μ2=>f x ds μ2 else .bad) σ H Q->tBM K T r (T3E K ro) (T3A K rl) σ H Q:=by
 rintro⟨w,μ,ρ,d,μ',R,S,e,q⟩;obtain⟨x,μ1,e1,e⟩:=Out.bind_ok e;split at e
 ·rename_i hok;obtain⟨ds,μ2,e2,e⟩:=Out.bind_ok e;exact⟨w,μ,ρ,x,μ1,R,S,e1,fun w1 H1 v1 x1 R1 d1=>⟨ht w1 μ1 H1 x v1 R1 d1 hok,⟨w1,μ1,ρ,ds,μ2,R1,S.mono x1,e2,fun w2 H2 vs x2 R2 d2=>hs w2 μ2 H2 x v1 ds d μ' vs Q R2 (d1.mono x2) d2 e fun w3 H3 v x3 R3 d3=>q w3 H3 v ((x1.trans x2).trans x3) R3 d3⟩⟩⟩
 ·cases e
theorem jmv (hb:b=.append∨b=.extend)(R:Rep K w μ H)(h:Den K w μ.length o x)(e:jp0 b o μ=true):tyV K "list" x H:=by
 cases o with
 |cel k=>
  have e':(match μ[k]? with|some (some (.lst _))=>true|_=>false)=true:=by
   rcases hb with rfl|rfl<;>exact e
  split at e'
  ·rename_i ds hk;unfold Den at h;obtain⟨ys,g1,g2⟩:=(R.liv k _ hk).2;rw[h.2];exact .inl ⟨rfl,ys,SqL.of g1⟩
  ·cases e'
 |_=>rcases hb with rfl|rfl<;>cases e
end
section
variable {K:PySem.W.Frag} {X:Cx}
def jFc (K:PySem.W.Frag)(tl:TE):TI:=fun σ H R=>tl σ H fun x H1=>∃a,x=.ref a/\((∃xs,SqL K H1 a xs/\R (Itl K a) H1)∨∃xs,SqT K H1 a xs/\R (Itt K a) H1)
theorem jzY (h:PE X e te):PI X tg e (jFc X.K te):=by
 intro pins s σ H R I hw;refine thn (h pins s σ H _ I hw) fun v s1 ⟨x,H1,I1,r1,q1⟩=>?_;obtain⟨a,e,q⟩:=q1;subst e;cases r1;rcases q with⟨xs,hq,q⟩|⟨xs,hq,q⟩
 ·obtain⟨its,rv,p,hz⟩:=I1.list hq;refine wpAny_pyIter_list p.isList ?_;refine⟨s1.heap.objs.size,[s1.heap.objs.size],_,_,H1,rfl,I1.kept (t':=s1.toks) fun b o e=>j0b _ e,jr8 a _,⟨_,j0f _ rfl,rfl,rfl⟩,fun b hb=>?_,q⟩;have e:b=s1.heap.objs.size:=by simpa using hb
  subst e;exact I1.fpOk (j0l _) (I1.hok.fresh (j0l _))
 ·obtain⟨its,rv,p,hz⟩:=I1.tuple hq;refine wpAny_pyIter_tuple (show s1.heap.IsTuple a its.toArray from p) ?_;refine⟨s1.heap.objs.size,[s1.heap.objs.size],_,_,H1,rfl,I1.kept (t':=s1.toks) fun b o e=>j0b _ e,jps a _,⟨_,j0f _ rfl,rfl,rfl⟩,fun b hb=>?_,q⟩;have e:b=s1.heap.objs.size:=by simpa using hb
  subst e;exact I1.fpOk (j0l _) (I1.hok.fresh (j0l _))
theorem imI (h:PI X tg it t)(k:∀σ H R,t' σ H R->t σ H R):PI X tg it t':=fun pins s σ H R I hw=>h pins s σ H R I (k σ H R hw)
def jzJ (K:PySem.W.Frag)(w:Wd)(n:Nat)(ok:M->Bool)(xs:List D)(J:It):Prop:=∀(w2:Wd) (μ2:M) (H2:Hp),Ext w w2 n μ2.length->Rep K w2 μ2 H2->ok μ2=true ->
 J.stop xs.length H2/\∀i d,xs[i]?=some d->J.go i H2/\∀x H3,J.yld i H2 x H3->∃w3,Ext w2 w3 μ2.length μ2.length/\Rep K w3 μ2 H3/\Den K w3 μ2.length d x
def T3I (K:PySem.W.Frag)(ik:IK)(r:S3->M->Out (List D)):TI:=fun σ H R=>∃(w:Wd) (μ:M) (ρ:S3) (ds:List D) (μ1:M) (xs:List D),Rep K w μ H/\jb1 K w μ.length ρ σ/\r ρ μ=.ok ds μ1/\itD ik ds μ1=some xs /\
 ∀w' H' J,Ext w w' μ.length μ1.length->Rep K w' μ1 H'->jzJ K w' μ1.length (jdG ik ds xs) xs J->R J H'
theorem ja1:jdG ik ds xs μ=true↔itD ik ds μ=some xs:=by
 unfold jdG;exact @decide_eq_true_iff _ (Classical.propDecidable _)
theorem jCk (h:∀(w2:Wd) (μ2:M) (H2:Hp),Ext w w2 n μ2.length->Rep K w2 μ2 H2->ok μ2=true->∃ys,SqL K H2 a ys/\DenL K w2 μ2.length xs ys):jzJ K w n ok xs (Itl K a):=by
 intro w2 μ2 H2 x2 R2 hk;obtain⟨ys,s1,l1⟩:=h w2 μ2 H2 x2 R2 hk;refine⟨⟨ys,s1,by rw[<- jad l1];exact j0l _⟩,fun i d hd=>?_⟩;obtain⟨v,e1,e2⟩:=jgd l1 hd;refine⟨⟨ys,v,s1,e1⟩,fun x H3 y=>?_⟩;obtain⟨rfl,y⟩:=y;have:=y ys s1;rw[e1]at this;cases this;exact⟨w2,Ext.refl _ _,R2,e2⟩
theorem jCA (h:∀(w2:Wd) (μ2:M) (H2:Hp),Ext w w2 n μ2.length->Rep K w2 μ2 H2->ok μ2=true->∃ys,SqT K H2 a ys/\DenL K w2 μ2.length xs ys):jzJ K w n ok xs (Itt K a):=by
 intro w2 μ2 H2 x2 R2 hk;obtain⟨ys,s1,l1⟩:=h w2 μ2 H2 x2 R2 hk;refine⟨⟨ys,s1,by rw[<- jad l1];exact j0l _⟩,fun i d hd=>?_⟩;obtain⟨v,e1,e2⟩:=jgd l1 hd;refine⟨⟨ys,v,s1,e1⟩,fun x H3 y=>?_⟩;obtain⟨rfl,y⟩:=y;have:=y ys s1;rw[e1]at this;cases this;exact⟨w2,Ext.refl _ _,R2,e2⟩
theorem jqp {r:S3->M->Out D}{ρ:S3}{μ μ1:M}{ds:List D}(e:((r ρ μ).bind fun d μ1=>(Out.ok [] μ1).bind fun ds μ2=>.ok (d::ds) μ2)=.ok ds μ1):∃d,ds=[d]/\r ρ μ=.ok d μ1:=by
 obtain⟨d,μ2,e1,e⟩:=Out.bind_ok e;cases e;exact⟨d,rfl,e1⟩
noncomputable def jDS:D->Bool
 |.tup _=>true
 |.stt _=>true
 |_=>false
theorem jAq (R:Rep K w μ H)(h:Den K w μ.length d v)(ht:jDS d=true)(e:jhc μ0 d=some ds):∃a xs,v=.ref a/\SqT K H a xs/\DenL K w μ.length ds xs:=by
 cases d with
 |tup es=>cases e;exact jjd R h
 |stt es=>
  cases e;unfold Den at h;obtain⟨a,xs,h1,h2,h3⟩:=h;exact⟨a,xs,h1,jrH R.sub h2,h3⟩
 |_=>cases ht
theorem jBM (ht:jDS d=false)(μ:M):jhc μ d=je9 μ d:=by
 cases d with
 |tup ds=>cases ht
 |stt ds=>cases ht
 |_=>rfl
theorem jwm {tg it:Expr}{r:S3->M->Out D}(h:PE X it (T3E X.K r)):PI X tg it (T3I X.K .seq (fun ρ μ=>(r ρ μ).bind fun d μ1=>(Out.ok [] μ1).bind fun ds μ2=>.ok (d::ds) μ2)):=by
 refine imI (jzY h) fun σ H R=>?_;rintro⟨w,μ,ρ,ds,μ1,xs,Rp,S,e,ei,q⟩;obtain⟨d,rfl,e1⟩:=jqp e;refine⟨w,μ,ρ,d,μ1,Rp,S,e1,fun w1 H1 v x1 R1 d1=>?_⟩;have ei':jhc μ1 d=some xs:=ei
 cases ht:jDS d with
 |true=>
  obtain⟨a,ys,rfl,s1,l1⟩:=jAq R1 d1 ht ei';refine⟨a,rfl,.inr ⟨ys,s1,q w1 H1 _ x1 R1 (jCA fun w2 μ2 H2 x2 R2 hk=>?_)⟩⟩;obtain⟨a',ys',ea,s2,l2⟩:=jAq R2 (d1.mono x2) ht ei';cases ea;exact⟨ys',s2,l2⟩
 |false=>
  have hL:=jBM ht;rw[hL]at ei';obtain⟨a,ys,rfl,s1,l1⟩:=jaU R1 d1 ei';refine⟨a,rfl,.inl ⟨ys,s1,q w1 H1 _ x1 R1 (jCk fun w2 μ2 H2 x2 R2 hk=>?_)⟩⟩;have e2:jhc μ2 d=some xs:=ja1.mp hk;rw[hL]at e2;obtain⟨a',ys',ea,s2,l2⟩:=jaU R2 (d1.mono x2) e2;cases ea;exact⟨ys',s2,l2⟩
theorem jr9:∀{ks:List Key} {vs:List D} {i:Nat} {d:D},(jnD ks vs)[i]?=some d->∃k v,ks[i]?=some k/\vs[i]?=some v/\d=.tup [jo k,v]
 |[],_,_,_,e=>by simp[jnD]at e
 |_::_,[],_,_,e=>by simp[jnD]at e
 |x::xs,y::ys,0,d,e=>by
  simp only[jnD,j0K,j0w]at e;exact⟨x,y,rfl,rfl,e.symm⟩
 |x::xs,y::ys,i+1,d,e=>by
  simp only[jnD,List.getElem?_cons_succ]at e;obtain⟨a,b,h1,h2,h3⟩:=jr9 e;exact⟨a,b,by simpa using h1,by simpa using h2,h3⟩
theorem jqs:∀(ks:List Key) (vs:List D),(jnD ks vs).length=min ks.length vs.length
 |[],_=>by simp[jnD]
 |_::_,[]=>by simp[jnD]
 |x::xs,y::ys=>by simp only[jnD,j0j,jqs xs ys,Nat.add_min_add_right]
theorem jy5 (k:Key):Den K w n (jo k) (kV k):=by
 rcases k with i|x<;>(unfold jo;dsimp only;unfold Den;rfl)
noncomputable def jcr:Expr->Bool
 |.Call _ as _ _=>!as.isEmpty
 |_=>true
theorem jhI (h:jcr e=true):attributeBase e f env (eval e env)=eval e env:=by
 cases e with
 |Call g as ks p=>
  cases as with
  |nil=>cases h
  |cons a as=>cases g<;>rfl
 |_=>rfl
theorem jq5 {elts:List Expr}{x1:Nat}{tpos apos pos:Pos}{a:Expr}{r:S3->M->Out D}(hb:jcr a=true)(hl:(apos.endLine==pos.line)=true)(h:PE X a (T3E X.K r)) :
  PI X (.Tuple elts x1 tpos) (.Call (.Attribute a "items" apos) [] [] pos) (T3I X.K .items (fun ρ μ=>(r ρ μ).bind fun d μ1=>(Out.ok [] μ1).bind fun ds μ2=>.ok (d::ds) μ2)):=by
 refine imI (jt2 h (jhI hb) hl) fun σ H R=>?_;rintro⟨w,μ,ρ,ds,μ1,xs,Rp,S,e,ei,q⟩;obtain⟨d,rfl,e1⟩:=jqp e;refine⟨w,μ,ρ,d,μ1,Rp,S,e1,fun w1 H1 v x1 R1 d1=>?_⟩;replace ei:jno [d] μ1=some xs:=ei;unfold jno at ei;split at ei
 case h_2=>cases ei
 rename_i ks vs heq;cases heq;cases ei;unfold Den at d1;obtain⟨a,o,es,ep,ys,rfl,h2,h3,h4,h5⟩:=d1;refine⟨a,o,_,es,ep,rfl,R1.sub _ _ h4,h3,q w1 H1 _ x1 R1 ?_⟩;intro w2 μ2 H2 x2 R2 hk;have hz:=R2.sub _ _ (x2.z _ _ h4);have hle:(ks.zip ys).length=(jnD ks vs).length:=by rw[jqs,j1u,<- jad h5]
 refine⟨⟨hz,by rw[hle];exact j0l _⟩,fun i d' hd=>?_⟩;obtain⟨k,v0,g1,g2,rfl⟩:=jr9 hd;obtain⟨u,u1,u2⟩:=jgd h5 g2;have hp:(ks.zip ys)[i]?=some (k,u):=by rw[List.getElem?_zip_eq_some];exact⟨g1,u1⟩
 refine⟨⟨hz,(j0g.mp hp).1⟩,fun x H3 y=>?_⟩;obtain⟨p,qq,y0,rfl,hn,rfl⟩:=y;rw[hp]at y0;cases y0;obtain⟨R3,x3⟩:=R2.frz hn (.tup [kV k,u]);refine⟨_,x3,R3,?_⟩;unfold Den;refine⟨p,_,rfl,jag,?_⟩;unfold DenL;exact⟨_,_,rfl,jy5 k,DenL.one ((u2.mono x2).mono x3)⟩
theorem jvC {w:Wd}{n:Nat}{ok:M->Bool}{lo:Int}{m:Nat}:jzJ K w n ok ((List.range m).map fun(k:Nat)=>.int (lo+(k:Int))) (Itr lo m):=by
 intro w2 μ2 H2 x2 R2 hk;refine⟨(by show m<=_;simp),fun i d hd=>?_⟩;have hi:i<m:=by
  have:=(j0g.mp hd).1;simpa using this
 have ed:d=.int (lo+(i:Int)):=by
  have:((List.range m).map fun(k:Nat)=>D.int (lo+(k:Int)))[i]?=some (.int (lo+(i:Int))):=by simp[hi]
  rw[this]at hd;exact(j0E hd).symm
 subst ed;refine⟨hi,fun x H3 y=>?_⟩;obtain⟨rfl,rfl⟩:=y;exact⟨w2,Ext.refl _ _,R2,by unfold Den;rfl⟩
theorem jw2 (hg:jbl X.env.scope "range" =true) (hm:X.mg "range" =none) (ha:PA X [a] (T3A X.K r)) (hs:jaw a=true) :
  PI X tg (.Call (.Name "range" p) [a] [] pos) (T3I X.K .rng1 r):=by
 refine imI (jpP hg hm ha hs) fun σ H R=>?_;rintro⟨w,μ,ρ,ds,μ1,xs,Rp,S,e,ei,q⟩;refine⟨w,μ,ρ,ds,μ1,Rp,S,e,fun w1 H1 vs x1 R1 d1=>?_⟩;replace ei:joi ds μ1=some xs:=ei;unfold joi at ei;split at ei
 case h_2=>cases ei
 rename_i j;split at ei
 case isFalse=>cases ei
 rename_i hj;obtain⟨v,rfl,h1⟩:=jnS d1;unfold Den at h1;subst h1;have e0:xs=(List.range j.toNat).map fun(k:Nat)=>D.int (0+(k:Int)):=by
  have:=j0E ei;rw[<- this];congr 1
  funext k
  rw[Int.zero_add]
 refine⟨j,rfl,hj.1,hj.2,q w1 H1 _ x1 R1 ?_⟩;rw[e0];exact jvC
theorem jyK (hg:jbl X.env.scope "range" =true) (hm:X.mg "range" =none) (ha:PA X [a,b] (T3A X.K r)) (hs:jaf [a,b]=true) :
  PI X tg (.Call (.Name "range" p) [a,b] [] pos) (T3I X.K .rng2 r):=by
 refine imI (jpQ hg hm ha hs) fun σ H R=>?_;rintro⟨w,μ,ρ,ds,μ1,xs,Rp,S,e,ei,q⟩;refine⟨w,μ,ρ,ds,μ1,Rp,S,e,fun w1 H1 vs x1 R1 d1=>?_⟩;replace ei:jn7 ds μ1=some xs:=ei;unfold jn7 at ei;split at ei
 case h_2=>cases ei
 rename_i i j;split at ei
 case isFalse=>cases ei
 rename_i hj;obtain⟨v,u,rfl,h1,h2⟩:=jzI d1;unfold Den at h1 h2;subst h1 h2;cases ei;exact⟨i,j,rfl,hj,q w1 H1 _ x1 R1 jvC⟩
theorem jxi {tg it:Expr}{r:S3->M->Out D}(h:PE X it (T3E X.K r)):PI X tg it (T3I X.K .str (fun ρ μ=>(r ρ μ).bind fun d μ1=>(Out.ok [] μ1).bind fun ds μ2=>.ok (d::ds) μ2)):=by
 refine imI (jCI h) fun σ H R=>?_;rintro⟨w,μ,ρ,ds,μ1,xs,Rp,S,e,ei,q⟩;obtain⟨d,rfl,e1⟩:=jqp e;refine⟨w,μ,ρ,d,μ1,Rp,S,e1,fun w1 H1 v x1 R1 d1=>?_⟩;replace ei:jzh [d] μ1=some xs:=ei;unfold jzh at ei;split at ei
 case h_2=>cases ei
 rename_i z hz;cases hz;cases ei;unfold Den at d1;subst d1;refine⟨z,rfl,q w1 H1 _ x1 R1 ?_⟩;intro w2 μ2 H2 x2 R2 hk;refine⟨?_,fun i d hd=>?_⟩
 ·show z.cps.size<=_;simp
 ·have hd':(z.cps.toList.map fun c=>D.str ⟨#[c]⟩)[i]?=some d:=hd;rw[j0R]at hd'
  cases e2:z.cps.toList[i]? with
  |none=>rw[e2]at hd';cases hd'
  |some c=>
   rw[e2]at hd';cases hd';have hi:i<z.cps.size:=by
    have:=(j0g.mp e2).1;simpa using this
   refine⟨hi,fun x H3 y=>?_⟩;obtain⟨rfl,c',hc',rfl⟩:=y;have:z.cps[i]?=some c:=by
    rw[<- Array.getElem?_toList];exact e2
   rw[this]at hc';cases hc';exact⟨w2,Ext.refl _ _,R2,by unfold Den;rfl⟩
def jAa (K:PySem.W.Frag)(tg:Tg)(g:TG):Prop:=∀(w:Wd) (μ:M) (H:Hp) (ρ ρ':S3) (σ:_L2.St) (d:D) (v:V) (Q:_L2.St->Hp->Prop),Rep K w μ H->jb1 K w μ.length ρ σ->Den K w μ.length d v->jqa tg d ρ=some ρ'->(∀σ',jb1 K w μ.length ρ' σ'->Q σ' H)->g v σ H Q
theorem jmm {α:Type}{xs:List α}{i:Nat}(h:i<xs.length):∃d,xs[i]?=some d/\xs.drop i=d::xs.drop (i+1):=⟨xs[i],by simp[h],List.drop_eq_getElem_cons h⟩
theorem juc {ok:M->Bool}{tg:Tg}{cond:S3->M->Out Bool}{elt:S3->M->Out D}{ρ:S3}{xs ys:List D}{μ μ':M}(e:jbq ok tg cond elt ρ xs μ=.ok ys μ'):ok μ=true:=by
 cases xs<;>(unfold jbq at e;split at e<;>first|assumption|cases e)
def jDQ (K:PySem.W.Frag)(w1:Wd)(n1:Nat)(ok:M->Bool)(tg:Tg)(cond:S3->M->Out Bool)(elt:S3->M->Out D)(ρ:S3)(xs ys:List D)(μ2:M)(i:Nat)(vs:List V)(H:Hp):Prop:=
 i<=xs.length/\vs.length<=i/\∃(w2:Wd) (μ:M) (acc rest:List D),Ext w1 w2 n1 μ.length/\Rep K w2 μ H/\DenL K w2 μ.length acc vs/\jbq ok tg cond elt ρ (xs.drop i) μ=.ok rest μ2/\acc++rest=ys
theorem jt4 {ok:M->Bool}{tg:Tg}{g:TG}{cond:S3->M->Out Bool}{elt:S3->M->Out D}{ρ:S3}{σ:_L2.St}{J:It}{k:Nat}{m:Bool}{xs ys:List D}{w1:Wd}{μ1 μ2 μ3:M}{H1:Hp}{d:D}{Q:VK}(hT:jAa K tg g)(R1:Rep K w1 μ1 H1)(S1:jb1 K w1 μ1.length ρ σ)
  (hJ:jzJ K w1 μ1.length ok xs J) (hz:xs.length<=sizeLine) (e:jbq ok tg cond elt (List.replicate k none++ρ) xs μ1=.ok ys μ2) (em:mkL m ys μ2=.ok d μ3) (q:jo1 K w1 μ1.length d μ3 Q):Cmp J k g (T3T K cond) (T3E K elt) σ Q H1:=by
 refine⟨fun i n ys' H=>n=xs.length - i/\jDQ K w1 μ1.length ok tg cond elt (List.replicate k none++ρ) xs ys μ2 i ys' H,
  ⟨xs.length,by simp,j0J _,j0l _,w1,μ1,[],ys,Ext.refl _ _,R1,by unfold DenL;rfl,e,rfl⟩,?_⟩
 rintro i n ys' H ⟨rfl,hi,hy,w2,μ,acc,rest,x2,R2,l2,ec,ea⟩;have hok:=juc ec;obtain⟨hstop,hgo⟩:=hJ w2 μ H x2 R2 hok;by_cases hlt:i<xs.length
 ·obtain⟨d0,hd0,hdr⟩:=jmm hlt;obtain⟨g1,g2⟩:=hgo i d0 hd0;rw[hdr]at ec;unfold jbq at ec;rw[if_pos hok]at ec;split at ec
  ·rename_i ρ1 has;obtain⟨b,μa,eb,ec⟩:=Out.bind_ok ec;refine .inr ⟨g1,by omega,fun y H'=>jDQ K w1 μ1.length ok tg cond elt (List.replicate k none++ρ) xs ys μ2 (i+1) (ys'++[y]) H',jDQ K w1 μ1.length ok tg cond elt (List.replicate k none++ρ) xs ys μ2 (i+1) ys',
    fun y H' r=>⟨xs.length - (i+1),by omega,rfl,r⟩,fun H' r=>⟨xs.length - (i+1),by omega,rfl,r⟩,fun x H3 hyl=>?_⟩
   obtain⟨w3,x3,R3,d3⟩:=g2 x H3 hyl;refine hT w3 μ H3 _ ρ1 _ d0 x _ R3 ((S1.mono (x2.trans x3)).blank k) d3 has fun σ2 S2=>?_;refine⟨w3,μ,ρ1,b,μa,R3,S2,eb,fun w4 H4 x4 R4=>?_⟩;have x14:=(x2.trans x3).trans x4;dsimp only
   cases b with
   |false=>
    rw[if_neg j0e];rw[if_neg j0e]at ec;exact⟨hlt,by omega,w4,μa,acc,rest,x14,R4,l2.mono (x3.trans x4),ec,ea⟩
   |true=>
    rw[if_pos rfl];rw[if_pos rfl]at ec;obtain⟨y,μb,ey,ec⟩:=Out.bind_ok ec;obtain⟨zs,μc,ez,ec⟩:=Out.bind_ok ec;cases ec;refine⟨w4,μa,ρ1,y,μb,R4,S2.mono x4,ey,fun w5 H5 v5 x5 R5 d5=>?_⟩;exact⟨hlt,by simp;omega,w5,μb,acc++[y],zs,x14.trans x5,R5,(l2.mono ((x3.trans x4).trans x5)).append (DenL.one d5),ez,by rw[j0n];exact ea⟩
  ·cases ec
 ·have ei:i=xs.length:=by omega
  subst ei;rw[List.drop_length]at ec;unfold jbq at ec;rw[if_pos hok]at ec;cases ec;rw[j0x]at ea;subst ea;exact .inl ⟨hstop,jfv R2 l2 em fun w3 H3 v x3 R3 d3=>q w3 H3 v (x2.trans x3) R3 d3⟩
theorem jwJ (e:jf4 ok tg body fg xs ρ μ=.ok fl μ'):ok μ=true:=by
 cases xs<;>(unfold jf4 at e;split at e<;>first|assumption|cases e)
def jEP (K:PySem.W.Frag)(w1:Wd)(n1:Nat)(ok:M->Bool)(tg:Tg)(body:S3->M->Out Fl)(fg:List Nat)(xs:List D)(fl:Fl)(μ2:M)(i:Nat)(σ:_L2.St)(H:Hp):Prop:=
 i<=xs.length/\∃(w2:Wd) (μ:M) (ρ':S3),Ext w1 w2 n1 μ.length/\Rep K w2 μ H/\jb1 K w2 μ.length ρ' σ/\jf4 ok tg body fg (xs.drop i) ρ' μ=.ok fl μ2
theorem jyL {ok:M->Bool}{tg:Tg}{g:TG}{body:S3->M->Out Fl}{fg:List Nat}{ρ:S3}{σ:_L2.St}{J:It}{xs:List D}{w1:Wd}{μ1 μ2:M}{H1:Hp}{fl:Fl}{E:Ends}(hT:jAa K tg g)(R1:Rep K w1 μ1 H1)(S1:jb1 K w1 μ1.length ρ σ)
  (hJ:jzJ K w1 μ1.length ok xs J) (e:jf4 ok tg body fg xs ρ μ1=.ok fl μ2) (q:∀w' H',Ext w1 w' μ1.length μ2.length->Rep K w' μ2 H'->jEH K w' μ2.length H' E fl):Lop J g (T3S K body) E σ H1:=by
 refine⟨fun i n σ' H=>n=xs.length - i/\jEP K w1 μ1.length ok tg body fg xs fl μ2 i σ' H,
  ⟨xs.length,by simp,j0J _,w1,μ1,ρ,Ext.refl _ _,R1,S1,e⟩,?_⟩
 rintro i n σ' H ⟨rfl,hi,w2,μ,ρ',x2,R2,S2,ef⟩;have hok:=jwJ ef;obtain⟨hstop,hgo⟩:=hJ w2 μ H x2 R2 hok;by_cases hlt:i<xs.length
 ·obtain⟨d0,hd0,hdr⟩:=jmm hlt;obtain⟨g1,g2⟩:=hgo i d0 hd0;rw[hdr]at ef;unfold jf4 at ef;rw[if_pos hok]at ef;split at ef
  ·rename_i ρ1 has;refine .inr ⟨g1,jEP K w1 μ1.length ok tg body fg xs fl μ2 (i+1),
    fun σ'' H' r=>⟨xs.length - (i+1),by omega,rfl,r⟩,fun x H3 hyl=>?_⟩
   obtain⟨w3,x3,R3,d3⟩:=g2 x H3 hyl;refine hT w3 μ H3 _ ρ1 _ d0 x _ R3 (S2.mono x3) d3 has fun σ2 S3'=>?_;split at ef
   ·rename_i ρ2 μa eb;refine⟨w3,μ,ρ1,.nx ρ2,μa,R3,S3',eb,fun w4 H4 x4 R4 σ4 S4=>?_⟩;exact⟨hlt,w4,μa,_,(x2.trans x3).trans x4,R4,S4.forget fg,ef⟩
   ·rename_i ρ2 μa eb;refine⟨w3,μ,ρ1,.ct ρ2,μa,R3,S3',eb,fun w4 H4 x4 R4 σ4 S4=>?_⟩;exact⟨hlt,w4,μa,_,(x2.trans x3).trans x4,R4,S4.forget fg,ef⟩
   ·rename_i ρ2 μa eb;cases ef;refine⟨w3,μ,ρ1,.bk ρ2,_,R3,S3',eb,fun w4 H4 x4 R4 σ4 S4=>?_⟩;exact q w4 H4 ((x2.trans x3).trans x4) R4 σ4 (S4.forget fg)
   ·rename_i d μa eb;cases ef;refine⟨w3,μ,ρ1,.rt d,_,R3,S3',eb,fun w4 H4 x4 R4 v4 d4=>?_⟩;exact q w4 H4 ((x2.trans x3).trans x4) R4 v4 d4
   ·cases ef
   ·cases ef
  ·cases ef
 ·have ei:i=xs.length:=by omega
  subst ei;rw[List.drop_length]at ef;unfold jf4 at ef;rw[if_pos hok]at ef;cases ef;exact .inl ⟨hstop,q w2 H x2 R2 σ' (S2.forget fg)⟩
end
mutual
noncomputable def Bel (n:Nat):D->Prop
 |.tup ds=>BelL n ds
 |.lst ds=>BelL n ds
 |.scr ds=>BelL n ds
 |.stt ds=>BelL n ds
 |.dK _ vs=>BelL n vs
 |.dT _ vs=>BelL n vs
 |.dF _ vs=>BelL n vs
 |.obj _ _ ds=>BelL n ds
 |.cel k=>k<n
 |.non=>True
 |.bl _=>True
 |.int _=>True
 |.str _=>True
 |.ty _=>True
noncomputable def BelL (n:Nat):List D->Prop
 |[]=>True
 |d::ds=>Bel n d/\BelL n ds
end
section
variable {K:PySem.W.Frag}
mutual
theorem jxq:∀{d:D} {v:V},Den K w n d v->Bel n d
 |.non,_,_=>by unfold Bel;trivial
 |.bl _,_,_=>by unfold Bel;trivial
 |.int _,_,_=>by unfold Bel;trivial
 |.str _,_,_=>by unfold Bel;trivial
 |.ty _,_,_=>by unfold Bel;trivial
 |.tup ds,_,h=>by unfold Den at h;unfold Bel;obtain⟨_,_,_,_,h⟩:=h;exact denL_bel h
 |.lst ds,_,h=>by unfold Den at h;unfold Bel;obtain⟨_,_,_,_,h⟩:=h;exact denL_bel h
 |.scr ds,_,h=>by unfold Den at h;unfold Bel;obtain⟨_,_,_,_,h⟩:=h;exact denL_bel h
 |.stt ds,_,h=>by unfold Den at h;unfold Bel;obtain⟨_,_,_,_,h⟩:=h;exact denL_bel h
 |.dK _ ds,_,h=>by unfold Den at h;unfold Bel;obtain⟨_,_,_,_,_,h⟩:=h;exact denL_bel h
 |.dT _ ds,_,h=>by unfold Den at h;unfold Bel;obtain⟨_,_,_,_,_,h⟩:=h;exact denL_bel h
 |.dF _ ds,_,h=>by unfold Den at h;unfold Bel;obtain⟨_,_,_,_,_,_,_,_,_,h⟩:=h;exact denL_bel h
 |.obj _ _ ds,_,h=>by unfold Den at h;unfold Bel;obtain⟨_,_,_,_,_,_,h⟩:=h;exact denL_bel h
 |.cel k,_,h=>by unfold Den at h;unfold Bel;exact h.1
theorem denL_bel:∀{ds:List D} {vs:List V},DenL K w n ds vs->BelL n ds
 |[],_,_=>by unfold BelL;trivial
 |d::ds,_,h=>by unfold DenL at h;unfold BelL;obtain⟨_,_,_,h1,h2⟩:=h;exact⟨jxq h1,denL_bel h2⟩
end
section
variable {w' w'':Wd} {n' n0 n'':Nat} (hz:jgH w'.Z w''.Z) (hg:∀i,i<n0->w''.γ i=w'.γ i) (hn:n0<=n'')
include hz hg hn
mutual
theorem jyT:∀{d:D} {v:V},Den K w' n' d v->Bel n0 d->Den K w'' n'' d v
 |.non,_,h,_=>by unfold Den at h ⊢;exact h
 |.bl _,_,h,_=>by unfold Den at h ⊢;exact h
 |.int _,_,h,_=>by unfold Den at h ⊢;exact h
 |.str _,_,h,_=>by unfold Den at h ⊢;exact h
 |.ty _,_,h,_=>by unfold Den at h ⊢;exact h
 |.tup ds,_,h,b=>by unfold Den at h ⊢;unfold Bel at b;obtain⟨a,xs,h1,h2,h3⟩:=h;exact⟨a,xs,h1,hz _ _ h2,denL_shr h3 b⟩
 |.lst ds,_,h,b=>by unfold Den at h ⊢;unfold Bel at b;obtain⟨a,xs,h1,h2,h3⟩:=h;exact⟨a,xs,h1,hz _ _ h2,denL_shr h3 b⟩
 |.scr ds,_,h,b=>by unfold Den at h ⊢;unfold Bel at b;obtain⟨a,xs,h1,h2,h3⟩:=h;exact⟨a,xs,h1,hz.seq h2,denL_shr h3 b⟩
 |.stt ds,_,h,b=>by unfold Den at h ⊢;unfold Bel at b;obtain⟨a,xs,h1,h2,h3⟩:=h;exact⟨a,xs,h1,jrH hz h2,denL_shr h3 b⟩
 |.dK _ ds,_,h,b=>by unfold Den at h ⊢;unfold Bel at b;obtain⟨a,xs,h1,h2,h3,h4⟩:=h;exact⟨a,xs,h1,h2,hz _ _ h3,denL_shr h4 b⟩
 |.dT _ ds,_,h,b=>by unfold Den at h ⊢;unfold Bel at b;obtain⟨a,xs,h1,h2,h3,h4⟩:=h;exact⟨a,xs,h1,h2,hz _ _ h3,denL_shr h4 b⟩
 |.dF _ ds,_,h,b=>by unfold Den at h ⊢;unfold Bel at b;obtain⟨a,o,es,ep,xs,h1,h2,h3,h4,h5⟩:=h;exact⟨a,o,es,ep,xs,h1,h2,h3,hz _ _ h4,denL_shr h5 b⟩
 |.obj _ _ ds,_,h,b=>by unfold Den at h ⊢;unfold Bel at b;obtain⟨a,dx,xs,h1,h2,h3,h4⟩:=h;exact⟨a,dx,xs,h1,h2,hz _ _ h3,denL_shr h4 b⟩
 |.cel k,_,h,b=>by unfold Den at h ⊢;unfold Bel at b;exact⟨j0m b hn,by rw[hg k b];exact h.2⟩
theorem denL_shr:∀{ds:List D} {vs:List V},DenL K w' n' ds vs->BelL n0 ds->DenL K w'' n'' ds vs
 |[],_,h,_=>by unfold DenL at h ⊢;exact h
 |d::ds,_,h,b=>by unfold DenL at h ⊢;unfold BelL at b;obtain⟨v,ws,h1,h2,h3⟩:=h;exact⟨v,ws,h1,jyT h2 b.1,denL_shr h3 b.2⟩
end
end
theorem jaQ (h:o.map f=some b):∃a,o=some a/\b=f a:=by
 cases o with
 |none=>cases h
 |some a=>exact⟨a,rfl,by cases h;rfl⟩
section
variable {w' w'':Wd} {n' n'':Nat} {h:Nat->Option D} (hz:jgH w'.Z w''.Z) (hk:∀k d',h k=some d'->k<n'->Den K w'' n'' d' (.ref (w'.γ k)))
include hz hk
mutual
theorem job:∀{d d':D} {v:V},jbn h d=some d'->Den K w' n' d v->Den K w'' n'' d' v
 |.non,_,_,e,q=>by unfold jbn at e;cases e;unfold Den at q ⊢;exact q
 |.bl _,_,_,e,q=>by unfold jbn at e;cases e;unfold Den at q ⊢;exact q
 |.int _,_,_,e,q=>by unfold jbn at e;cases e;unfold Den at q ⊢;exact q
 |.str _,_,_,e,q=>by unfold jbn at e;cases e;unfold Den at q ⊢;exact q
 |.ty _,_,_,e,q=>by unfold jbn at e;cases e;unfold Den at q ⊢;exact q
 |.tup ds,_,_,e,q=>by
  unfold jbn at e;obtain⟨es,e1,rfl⟩:=jaQ e;unfold Den at q ⊢;obtain⟨a,xs,h1,h2,h3⟩:=q;exact⟨a,xs,h1,hz _ _ h2,frzGs_den e1 h3⟩
 |.lst ds,_,_,e,q=>by
  unfold jbn at e;obtain⟨es,e1,rfl⟩:=jaQ e;unfold Den at q ⊢;obtain⟨a,xs,h1,h2,h3⟩:=q;exact⟨a,xs,h1,hz _ _ h2,frzGs_den e1 h3⟩
 |.scr ds,_,_,e,q=>by
  unfold jbn at e;obtain⟨es,e1,rfl⟩:=jaQ e;unfold Den at q ⊢;obtain⟨a,xs,h1,h2,h3⟩:=q;exact⟨a,xs,h1,hz.seq h2,frzGs_den e1 h3⟩
 |.stt ds,_,_,e,q=>by
  unfold jbn at e;obtain⟨es,e1,rfl⟩:=jaQ e;unfold Den at q ⊢;obtain⟨a,xs,h1,h2,h3⟩:=q;exact⟨a,xs,h1,jrH hz h2,frzGs_den e1 h3⟩
 |.dK ks ds,_,_,e,q=>by
  unfold jbn at e;obtain⟨es,e1,rfl⟩:=jaQ e;unfold Den at q ⊢;obtain⟨a,xs,h1,h2,h3,h4⟩:=q;have h5:=frzGs_den e1 h4;exact⟨a,xs,h1,by rw[h2,jad h4,jad h5],hz _ _ h3,h5⟩
 |.dT ks ds,_,_,e,q=>by
  unfold jbn at e;obtain⟨es,e1,rfl⟩:=jaQ e;unfold Den at q ⊢;obtain⟨a,xs,h1,h2,h3,h4⟩:=q;have h5:=frzGs_den e1 h4;exact⟨a,xs,h1,by rw[h2,jad h4,jad h5],hz _ _ h3,h5⟩
 |.dF ks ds,_,_,e,q=>by
  unfold jbn at e;obtain⟨es,e1,rfl⟩:=jaQ e;unfold Den at q ⊢;obtain⟨a,o,es,ep,xs,h1,h2,h3,h4,h5⟩:=q;have h6:=frzGs_den e1 h5;exact⟨a,o,es,ep,xs,h1,by rw[h2,jad h5,jad h6],h3,hz _ _ h4,h6⟩
 |.obj C fs ds,_,_,e,q=>by
  unfold jbn at e;obtain⟨es,e1,rfl⟩:=jaQ e;unfold Den at q ⊢;obtain⟨a,dx,xs,h1,h2,h3,h4⟩:=q;have h5:=frzGs_den e1 h4;exact⟨a,dx,xs,h1,by rw[h2,jad h4,jad h5],hz _ _ h3,h5⟩
 |.cel k,_,_,e,q=>by
  unfold jbn at e;unfold Den at q;rw[q.2];exact hk k _ e q.1
theorem frzGs_den:∀{ds es:List D} {vs:List V},frzGs h ds=some es->DenL K w' n' ds vs->DenL K w'' n'' es vs
 |[],_,_,e,q=>by unfold frzGs at e;cases e;unfold DenL at q ⊢;exact q
 |d::ds,_,_,e,q=>by
  unfold frzGs at e;split at e
  ·rename_i e1 es1 q1 q2;cases e;unfold DenL at q ⊢;obtain⟨v,ws,h1,h2,h3⟩:=q;exact⟨v,ws,h1,job q1 h2,frzGs_den q2 h3⟩
  ·cases e
end
end
theorem jrh (h:Holds K w n H a c):(match c with|.lst ds=>BelL n ds|.dK _ vs=>BelL n vs|.dT _ vs=>BelL n vs|.obj _ _ ds=>BelL n ds):=by
 cases c with
 |lst ds=>obtain⟨_,_,h⟩:=h;exact denL_bel h
 |dK ks vs=>obtain⟨_,_,_,h⟩:=h;exact denL_bel h
 |dT ks vs=>obtain⟨_,_,_,h⟩:=h;exact denL_bel h
 |obj C fs ds=>obtain⟨_,_,_,_,h⟩:=h;exact denL_bel h
theorem jl0:∀{r:List Nat} {cs:List (List D)},jq4 μ n0 ks r=some cs->r.length=cs.length/\∀(j k:Nat),r[j]?=some k->∃ds c,μ[k]?=some (some (.lst ds))/\frzGs (jht μ n0 ks 4) ds=some c/\cs[j]?=some c
 |[],_,e=>by unfold jq4 at e;cases e;exact⟨rfl,fun j k h=>by simp at h⟩
 |k::r,_,e=>by
  unfold jq4 at e;split at e
  ·rename_i ds hk;split at e
   ·rename_i c cs e1 e2;cases e;obtain⟨i1,i2⟩:=jl0 e2;refine⟨by rw[j0j,j0j,i1],fun j k' h=>?_⟩
    cases j with
    |zero=>
     simp only[j0K,j0w]at h;subst h;exact⟨ds,c,hk,e1,rfl⟩
    |succ j=>
     obtain⟨ds',c',g1,g2,g3⟩:=i2 j k' (by simpa using h);exact⟨ds',c',g1,g2,by simpa using g3⟩
   ·cases e
  ·cases e
theorem joX:∀{l:List Nat} {i j k:Nat},l.Nodup->l[i]?=some k->l[j]?=some k->i=j
 |[],_,_,_,_,h,_=>by simp at h
 |x::l,0,0,_,_,_,_=>rfl
 |x::l,0,j+1,k,nd,h1,h2=>by
  simp only[j0K,j0w]at h1;subst h1;exact absurd (j0C (by simpa using h2)) (j01.mp nd).1
 |x::l,i+1,0,k,nd,h1,h2=>by
  simp only[j0K,j0w]at h2;subst h2;exact absurd (j0C (by simpa using h1)) (j01.mp nd).1
 |x::l,i+1,j+1,k,nd,h1,h2=>congrArg (· + 1) (joX (i:=i) (j:=j) (k:=k) (j01.mp nd).2 (by simpa using h1) (by simpa using h2))
open Classical in
theorem jB {w w':Wd}{μ μ':M}{H H' H2:Hp}{L:List Addr}{keep:List Nat}{cs:List (List D)}(R:Rep K w μ H)(x:Ext w w' μ.length μ'.length)(R':Rep K w' μ' H')(ht:μ'.take μ.length=μ)(nd:keep.Nodup)(ge:∀k∈keep,μ.length<=k)
  (hc:jq4 μ' μ.length keep keep=some cs) (U:Upg L H' H2) (uL:∀a,a∈L ↔ ∃k ks vs,μ.length<=k/\k∉keep/\μ'[k]?=some (some (Cl.dK ks vs))/\w'.γ k=a):∃w'':Wd,Ext w w'' μ.length (μ++cs.map fun xs=>some (Cl.lst xs)).length/\Rep K w'' (μ++cs.map fun xs=>some (Cl.lst xs)) H2 /\
   (∀d d' v,Den K w' μ'.length d v->jbn (jht μ' μ.length keep 4) d=some d'->Den K w'' (μ++cs.map fun xs=>some (Cl.lst xs)).length d' v) /\
   (∀k d',k<μ'.length->jCb μ.length keep k=some d'->Den K w'' (μ++cs.map fun xs=>some (Cl.lst xs)).length d' (.ref (w'.γ k)))/\jgH w'.Z w''.Z:=by
 obtain⟨kl,kg⟩:=jl0 hc;have hlen:(μ++cs.map fun xs=>some (Cl.lst xs)).length=μ.length+cs.length:=by simp
 have hpre:∀i,i<μ.length->μ'[i]?=μ[i]?:=fun i hi=>by
  have:=congrArg (fun l=>l[i]?) ht;simp only[List.getElem?_take,hi,if_true]at this;exact this
 have hg:∀i,(if i<μ.length then w'.γ i else w'.γ (keep.getD (i - μ.length) 0))=(fun i=>if i<μ.length then w'.γ i else w'.γ (keep.getD (i - μ.length) 0)) i:=fun _=>rfl;generalize hw:(⟨fun a=>match w'.Z a with
   |some o=>some o
   |none=>if(∃k c,μ.length<=k/\k∉keep/\μ'[k]?=some (some c)/\w'.γ k=a)then H2 a else none,fun i=>if i<μ.length then w'.γ i else w'.γ (keep.getD (i - μ.length) 0)⟩:Wd)=w''
 have gLo:∀i,i<μ.length->w''.γ i=w'.γ i:=fun i hi=>by subst hw;exact if_pos hi
 have gHi:∀j k,keep[j]?=some k->w''.γ (μ.length+j)=w'.γ k:=fun j k hj=>by
  subst hw;show(if μ.length+j<μ.length then _ else w'.γ (keep.getD (μ.length+j - μ.length) 0))=_;rw[if_neg (by omega),Nat.add_sub_cancel_left];simp[hj]
 have zs:jgH w'.Z w''.Z:=fun a o h=>by
  subst hw;show(match w'.Z a with|some o=>some o|none=>_)=some o;rw[h]
 have offZ:∀a o,w'.Z a=some o->H2 a=H' a:=fun a o h=>U.off a fun hm=>by
  obtain⟨k,ks,vs,_,_,h3,rfl⟩:=(uL a).mp hm;rw[(R'.liv k _ h3).1]at h;cases h
 have offC:∀j c,(j<μ.length∨j∈keep)->μ'[j]?=some (some c)->H2 (w'.γ j)=H' (w'.γ j):=fun j c h1 h3=>U.off _ fun hm=>by
  obtain⟨k,ks,vs,g1,g2,g3,g4⟩:=(uL _).mp hm;have:=R'.inj k j _ c g3 h3 g4;subst this;rcases h1 with h1|h1
  ·omega
  ·exact g2 h1
 have zH:∀a o,w''.Z a=some o->H2 a=some o:=fun a o h=>by
  subst hw;replace h:(match w'.Z a with|some o=>some o|none=>if(∃k c,μ.length<=k/\k∉keep/\μ'[k]?=some (some c)/\w'.γ k=a)then H2 a else none)=some o:=h
  cases e:w'.Z a with
  |some o'=>
   rw[e]at h;cases h;exact(offZ _ _ e).trans (R'.sub _ _ e)
  |none=>
   rw[e]at h;dsimp only at h;split at h
   ·exact h
   ·cases h
 have zF:∀k c,μ.length<=k->k∉keep->μ'[k]?=some (some c)->w''.Z (w'.γ k)=H2 (w'.γ k):=fun k c h1 h2 h3=>by
  subst hw;show(match w'.Z (w'.γ k)with|some o=>some o|none=>if(∃k' c,μ.length<=k'/\k'∉keep/\μ'[k']?=some (some c)/\w'.γ k'=w'.γ k)then H2 (w'.γ k)else none)=_;rw[(R'.liv k c h3).1];exact if_pos ⟨k,c,h1,h2,h3,rfl⟩
 have zN:∀j c,(j<μ.length∨j∈keep)->μ'[j]?=some (some c)->w''.Z (w'.γ j)=none:=fun j c h1 h3=>by
  subst hw;show(match w'.Z (w'.γ j)with|some o=>some o|none=>if(∃k' c,μ.length<=k'/\k'∉keep/\μ'[k']?=some (some c)/\w'.γ k'=w'.γ j)then H2 (w'.γ j)else none)=_;rw[(R'.liv j c h3).1];refine if_neg ?_;rintro⟨k,c',g1,g2,g3,g4⟩;have:=R'.inj k j c' c g3 h3 g4;subst this;rcases h1 with h1|h1
  ·omega
  ·exact g2 h1
 have nle:μ.length<=(μ++cs.map fun xs=>some (Cl.lst xs)).length:=by rw[hlen];exact Nat.le_add_right _ _
 have fK:∀(f k:Nat) (d':D),jht μ' μ.length keep f k=some d'->k<μ'.length->Den K w'' (μ++cs.map fun xs=>some (Cl.lst xs)).length d' (.ref (w'.γ k)):=by
  intro f
  induction f with
  |zero=>
   intro k d' e hk;unfold jht at e;split at e
   ·rename_i h0;cases e;unfold Den;exact⟨j0m h0 nle,by rw[gLo k h0]⟩
   ·split at e
    ·cases e
    ·cases e
  |succ f ih=>
   intro k d' e hk;unfold jht at e;split at e
   ·rename_i h0;cases e;unfold Den;exact⟨j0m h0 nle,by rw[gLo k h0]⟩
   ·rename_i h0;split at e
    ·cases e
    ·rename_i h1;dsimp only at e;split at e
     ·rename_i ds hk';obtain⟨es,e1,rfl⟩:=jaQ e;obtain⟨xs,g1,g2⟩:=(R'.liv k _ hk').2;have g3:=frzGs_den zs ih e1 g2;unfold Den;exact⟨_,xs,rfl,(zF k _ (by omega) h1 hk').trans (U.same g1 fun _ z=>by cases z),g3⟩
     ·rename_i ks ds hk';obtain⟨es,e1,rfl⟩:=jaQ e;obtain⟨xs,g0,g1,g2⟩:=(R'.liv k _ hk').2;have g3:=frzGs_den zs ih e1 g2;obtain⟨kvs,o,et,ep,u1,u2,u3⟩:=U.on _ ((uL _).mpr ⟨k,_,_,by omega,h1,hk',rfl⟩);rw[g1]at u1;cases u1;unfold Den;exact⟨_,o,et,ep,xs,rfl,by rw[g0,jad g2,jad g3],u2,(zF k _ (by omega) h1 hk').trans u3,g3⟩
     ·rename_i ks ds hk';obtain⟨es,e1,rfl⟩:=jaQ e;obtain⟨xs,g0,g1,g2⟩:=(R'.liv k _ hk').2;have g3:=frzGs_den zs ih e1 g2;unfold Den;exact⟨_,xs,rfl,by rw[g0,jad g2,jad g3],(zF k _ (by omega) h1 hk').trans (U.same g1 fun _ z=>by cases z),g3⟩
     ·rename_i C fs ds hk';obtain⟨es,e1,rfl⟩:=jaQ e;obtain⟨dx,xs,g0,g1,g2⟩:=(R'.liv k _ hk').2;have g3:=frzGs_den zs ih e1 g2;unfold Den;exact⟨_,dx,xs,rfl,by rw[g0,jad g2,jad g3],(zF k _ (by omega) h1 hk').trans (U.same g1 fun _ z=>by cases z),g3⟩
     ·cases e
 have hcell:∀(i:Nat) (c:Cl),(μ++cs.map fun xs=>some (Cl.lst xs))[i]?=some (some c)->(i<μ.length/\μ'[i]?=some (some c))∨∃j k ds es,i=μ.length+j/\keep[j]?=some k/\μ'[k]?=some (some (.lst ds))/\frzGs (jht μ' μ.length keep 4) ds=some es/\c=.lst es:=fun i c h=>by
  by_cases hi:i<μ.length
  ·rw[j0X hi]at h;exact .inl ⟨hi,by rw[hpre i hi];exact h⟩
  ·rw[j06 (by omega),j0R]at h
   cases e:cs[i - μ.length]? with
   |none=>rw[e]at h;cases h
   |some es=>
    rw[e]at h;have hj:i - μ.length<keep.length:=by
     rw[kl];exact(j0g.mp e).1
    obtain⟨ds,es',g1,g2,g3⟩:=kg (i - μ.length) keep[i - μ.length] (by simp[hj]);rw[e]at g3;cases g3;exact .inr ⟨i - μ.length,_,ds,es,by omega,by simp[hj],g1,g2,by simpa using h.symm⟩
 refine⟨w'',⟨x.z.trans zs,fun i hi=>(gLo i hi).trans (x.g i hi),nle⟩,⟨fun a o h=>zH a o h,fun i c h=>?_,fun i j ci cj hi hj e=>?_⟩,fun d d' v hd e=>job zs (fK 4) e hd,fun k d' hk e=>?_,zs⟩
 ·rcases hcell i c h with⟨hi,h'⟩|⟨j,k,ds,es,rfl,g1,g2,g3,rfl⟩
  ·rw[gLo i hi];refine⟨zN i c (.inl hi) h',?_⟩;have b:=jrh (R.liv i c (by rw[<- hpre i hi];exact h')).2;have hh:=(R'.liv i c h').2;have ho:=offC i c (.inl hi) h'
   cases c with
   |lst ds=>obtain⟨xs,g1,g2⟩:=hh;exact⟨xs,ho.trans g1,denL_shr zs gLo nle g2 b⟩
   |dK ks vs=>obtain⟨xs,g0,g1,g2⟩:=hh;exact⟨xs,g0,ho.trans g1,denL_shr zs gLo nle g2 b⟩
   |dT ks vs=>obtain⟨xs,g0,g1,g2⟩:=hh;exact⟨xs,g0,ho.trans g1,denL_shr zs gLo nle g2 b⟩
   |obj C fs ds=>obtain⟨dx,xs,g0,g1,g2⟩:=hh;exact⟨dx,xs,g0,ho.trans g1,denL_shr zs gLo nle g2 b⟩
  ·rw[gHi j k g1];have hk:k∈keep:=j0C g1;obtain⟨xs,q1,q2⟩:=(R'.liv k _ g2).2;exact⟨zN k _ (.inr hk) g2,xs,(offC k _ (.inr hk) g2).trans q1,frzGs_den zs (fK 4) g3 q2⟩
 ·rcases hcell i ci hi with⟨hi',h1⟩|⟨j1,k1,ds1,es1,rfl,a1,a2,_,_⟩<;>rcases hcell j cj hj with⟨hj',h2⟩|⟨j2,k2,ds2,es2,rfl,b1,b2,_,_⟩
  ·rw[gLo i hi',gLo j hj']at e;exact R'.inj i j _ _ h1 h2 e
  ·rw[gLo i hi',gHi j2 k2 b1]at e;have:=R'.inj i k2 _ _ h1 b2 e;have:=ge k2 (j0C b1);omega
  ·rw[gHi j1 k1 a1,gLo j hj']at e;have:=R'.inj k1 j _ _ a2 h2 e;have:=ge k1 (j0C a1);omega
  ·rw[gHi j1 k1 a1,gHi j2 k2 b1]at e;have hk:=R'.inj k1 k2 _ _ a2 b2 e;subst hk;rw[joX nd a1 b1]
 ·unfold jCb at e;obtain⟨j,e1,rfl⟩:=jaQ e;have hj:keep[j]?=some k:=by
   have:=List.idxOf?_eq_some_iff.mp e1;obtain⟨h1,h2,_⟩:=this;exact j0g.mpr ⟨h1,by simpa using h2⟩
  unfold Den;refine⟨?_,by rw[gHi j k hj]⟩;rw[hlen,<- kl];have:=(j0g.mp hj).1;omega
end
structure Stt where
 N:List Str
 sc:Scope
 cmp:Bool
noncomputable def jcj:List Str:=["len","sum","min","max","list","tuple","int","all","isinstance","range","str","enumerate","zip","bool","dict","set","sorted"]
noncomputable def jpA (c:Stt)(i:Nat)(e:Expr):Bool:=
 match e with
 |.Name x _=>if c.cmp then jt5 c.N c.sc i x else jnB c.N c.sc i x
 |_=>false
noncomputable def jtv (c:Stt):List Nat->List Expr->Bool
 |[],[]=>true
 |i::is,e::es=>jpA c i e&&jtv c is es
 |_,_=>false
noncomputable def jjo (c:Stt)(tg:Tg)(e:Expr):Bool:=
 match tg,e with
 |.nm i,e=>jpA c i e
 |.tp is,.Tuple es _ _=>jtv c is es&&jaf es
 |_,_=>false
noncomputable def jCd:Expr->Bool
 |.Tuple ..=>true
 |_=>false
noncomputable def jd5:Expr->Option Str
 |.Name x _=>some x
 |_=>none
theorem jbH (h:jd5 e=some x):∃p,e=.Name x p:=by
 unfold jd5 at h;split at h
 ·cases h;exact⟨_,rfl⟩
 ·cases h
noncomputable def jkc:Expr->Option (Str×List Expr)
 |.Call f as ks _=>match ks with
  |[]=>match jd5 f with
   |some x=>some (x,as)
   |none=>none
  |_=>none
 |_=>none
theorem jge (h:jkc e=some (x,as)):∃p q,e=.Call (.Name x p) as [] q:=by
 unfold jkc at h;split at h
 ·split at h
  ·split at h
   ·rename_i y hy;cases h;obtain⟨p,rfl⟩:=jbH hy;exact⟨p,_,rfl⟩
   ·cases h
  ·cases h
 ·cases h
noncomputable def jgx:Expr->Option (Expr×Str×Pos×Pos)
 |.Call f as ks q=>match f,as,ks with
  |.Attribute z n p,[],[]=>some (z,n,p,q)
  |_,_,_=>none
 |_=>none
theorem jg2 (h:jgx e=some (z,n,p,q)):e=.Call (.Attribute z n p) [] [] q:=by
 unfold jgx at h;split at h
 ·split at h
  ·cases h;rfl
  ·cases h
 ·cases h
noncomputable def jCc:Expr->Option (Str×Expr×Str×Expr)
 |.Call f as ks _=>match jd5 f,as,ks with
  |some x,[y],[kw]=>match kw.arg with
   |some k=>some (x,y,k,kw.value)
   |none=>none
  |_,_,_=>none
 |_=>none
theorem jBy {w:Keyword}{k:Str}(h:w.arg=some k):∃kp,w=⟨some k,w.value,kp⟩:=by
 cases w;dsimp only at h;subst h;exact⟨_,rfl⟩
theorem jyw {e y v:Expr}{x k:Str}(h:jCc e=some (x,y,k,v)):∃p kp q,e=.Call (.Name x p) [y] [⟨some k,v,kp⟩] q:=by
 unfold jCc at h;split at h
 ·split at h
  ·rename_i hx;split at h
   ·rename_i hk;cases h;obtain⟨p,rfl⟩:=jbH hx;obtain⟨kp,hkp⟩:=jBy hk;exact⟨p,kp,_,by rw[<- hkp]⟩
   ·cases h
  ·cases h
 ·cases h
noncomputable def jnN:Expr->Bool
 |.Dict ks vs _=>ks.isEmpty&&vs.isEmpty
 |_=>false
theorem jpB (h:jnN e=true):∃p,e=.Dict [] [] p:=by
 unfold jnN at h;split at h
 ·rename_i ks vs p
  cases ks with
  |nil=>
   cases vs with
   |nil=>exact⟨p,rfl⟩
   |cons _ _=>cases h
  |cons _ _=>cases h
 ·cases h
noncomputable def jfY (c:Stt)(ik:IK)(tg it:Expr):Option (List Expr):=
 match ik with
 |.seq=>some [it]
 |.str=>some [it]
 |.items=>match jgx it with
  |some (z,n,p,q)=>if n == "items" && jcr z&&(p.endLine==q.line)&&jCd tg then some [z]else none
  |none=>none
 |.enm=>none
 |.zip=>none
 |.rng1=>match jkc it with
  |some (x,[a])=>if x == "range" && jbl c.sc "range" && jaw a then some [a]else none
  |_=>none
 |.rng2=>match jkc it with
  |some (x,[a,b])=>if x == "range" && jbl c.sc "range" && jaf [a,b]then some [a,b]else none
  |_=>none
noncomputable def jos:Bi->Str
 |.len=>"len" |.sum=>"sum" |.min2=>"min" |.max2=>"max" |.list=>"list" |.tuple=>"tuple" |.int=>"int" |.all=>"all" |.isT _=>"isinstance" |.isT2 _ _=>"isinstance" |.listRange=>"list" |.str=>"str" |.lenSet=>"len" |.dictZip=>"dict" |.dict=>"dict" |.maxL=>"max" |.sortD=>"sorted"
noncomputable def jrS:Expr->Option (Str×Str)
 |.Tuple es _ _=>match es with
  |[a,b]=>match jd5 a with
   |some x=>match jd5 b with
    |some y=>some (x,y)
    |none=>none
   |none=>none
  |_=>none
 |_=>none
theorem jqH (h:jrS e=some (x,y)):∃p q k r,e=.Tuple [.Name x p,.Name y q] k r:=by
 unfold jrS at h;split at h
 ·split at h
  ·split at h
   ·rename_i hx;split at h
    ·rename_i hy;cases h;obtain⟨p,rfl⟩:=jbH hx;obtain⟨q,rfl⟩:=jbH hy;exact⟨_,_,_,_,rfl⟩
    ·cases h
   ·cases h
  ·cases h
 ·cases h
noncomputable def jcE (c:Stt)(b:Bi)(as:List Expr):Option (List Expr):=
 match b with
 |.isT n=>match as with
  |[a,t]=>match jd5 t with
   |some x=>if x==Str.ofString n&&jbl c.sc x&&isTn n&&jaw a then some [a]else none
   |none=>none
  |_=>none
 |.isT2 n m=>match as with
  |[a,t]=>match jrS t with
   |some (x,y)=>if x==Str.ofString n&&y==Str.ofString m&&jbl c.sc x&&jbl c.sc y&&isTn n&&isTn m&&jaw a then some [a]else none
   |none=>none
  |_=>none
 |.listRange=>none
 |.lenSet=>match as with
  |[e]=>match jkc e with
   |some (x,[a])=>if x == "set" && jbl c.sc "set" && jaw a then some [a]else none
   |_=>none
  |_=>none
 |.dictZip=>match as with
  |[e]=>match jkc e with
   |some (x,[a,b])=>if x == "zip" && jbl c.sc "zip" && jaf [a,b]then some [a,b]else none
   |_=>none
  |_=>none
 |_=>some as
where isTn (n:String):Bool:=n == "int" ||n == "bool" ||n == "str" ||n == "list" ||n == "tuple" ||n == "dict"
noncomputable def joJ:Mt->Str
 |.append=>"append" |.extend=>"extend" |.join=>"join" |.split=>"split"
noncomputable def jaK:Expr->List Str
 |.Name x _=>[x]
 |.Tuple es _ _=>es.filterMap fun e=>match e with
  |.Name x _=>some x
  |_=>none
 |_=>[]
noncomputable def jei (own N:List Str):List Str:=own++N.map fun x=>if own.contains x then Str.ofString "?" ++ x else x
noncomputable def jij (c:Stt)(tg:Expr)(scope:Scope):Stt:=⟨jei (jaK tg) c.N,jhy scope c.sc,true⟩
noncomputable def tst:Expr->Bool
 |.IfExp ..=>false
 |_=>true
noncomputable def jD6 (d:D)(k:Const):Bool:=
 match d,k with
 |.int i,.int j=>i==j
 |.bl a,.bool b=>a==b
 |.non,.none=>true
 |.str x,.str y=>x==y
 |_,_=>false
noncomputable def jdq:Expr->Bool
 |.Slice ..=>false
 |_=>true
theorem jia (h:jdq b=true):jsG b:=by
 intro o i;cases b<;>first|rfl|cases h
noncomputable def jgM:Expr->Bool
 |.Constant k _ _=>match k with
  |.none=>true
  |_=>false
 |_=>false
theorem jj3 (h:jgM e=true):∃k p,e=.Constant .none k p:=by
 unfold jgM at h;split at h
 ·split at h
  ·exact⟨_,_,rfl⟩
  ·cases h
 ·cases h
theorem joc {P:Str->Pos->Bool}{e:Expr}(h:(match e with
  |.Name x p=>P x p
  |_=>false)=true):∃x p,e=.Name x p/\P x p=true:=by
 split at h
 ·exact⟨_,_,rfl,h⟩
 ·cases h
theorem jqI {P:Const->Nat->Pos->Bool}{e:Expr}(h:(match e with
  |.Constant k n p=>P k n p
  |_=>false)=true):∃k n p,e=.Constant k n p/\P k n p=true:=by
 split at h
 ·exact⟨_,_,_,rfl,h⟩
 ·cases h
theorem jy {P:Expr->Operator->Expr->Pos->Bool}{e:Expr}(h:(match e with
  |.BinOp x o y p=>P x o y p
  |_=>false)=true):∃x o y p,e=.BinOp x o y p/\P x o y p=true:=by
 split at h
 ·exact⟨_,_,_,_,rfl,h⟩
 ·cases h
theorem jyu {P:Expr->Bool}{e:Expr}(h:(match e with
  |.UnaryOp .USub x _=>P x
  |_=>false)=true):∃x p,e=.UnaryOp .USub x p/\P x=true:=by
 split at h
 ·exact⟨_,_,rfl,h⟩
 ·cases h
theorem jwY {P:Expr->Bool}{e:Expr}(h:(match e with
  |.UnaryOp .Not x _=>P x
  |_=>false)=true):∃x p,e=.UnaryOp .Not x p/\P x=true:=by
 split at h
 ·exact⟨_,_,rfl,h⟩
 ·cases h
theorem jyQ {P:Expr->Expr->Bool}{R:Expr->Expr->Expr->List Expr->Pos->Bool}{e:Expr}(h:(match e with
  |.BoolOp .And [x,y] _=>P x y
  |.BoolOp .And (x::y::z::rest) p=>R x y z rest p
  |_=>false)=true):(∃x y p,e=.BoolOp .And [x,y] p/\P x y=true)∨∃x y z rest p,e=.BoolOp .And (x::y::z::rest) p/\R x y z rest p=true:=by
 split at h
 ·exact .inl ⟨_,_,_,rfl,h⟩
 ·exact .inr ⟨_,_,_,_,_,rfl,h⟩
 ·cases h
theorem jAO {P:Expr->Expr->Bool}{R:Expr->Expr->Expr->List Expr->Pos->Bool}{e:Expr}(h:(match e with
  |.BoolOp .Or [x,y] _=>P x y
  |.BoolOp .Or (x::y::z::rest) p=>R x y z rest p
  |_=>false)=true):(∃x y p,e=.BoolOp .Or [x,y] p/\P x y=true)∨∃x y z rest p,e=.BoolOp .Or (x::y::z::rest) p/\R x y z rest p=true:=by
 split at h
 ·exact .inl ⟨_,_,_,rfl,h⟩
 ·exact .inr ⟨_,_,_,_,_,rfl,h⟩
 ·cases h
theorem jnG {P:Expr->CmpOp->Expr->Bool}{e:Expr}(h:(match e with
  |.Compare x [o] [y] _=>P x o y
  |_=>false)=true):∃x o y p,e=.Compare x [o] [y] p/\P x o y=true:=by
 split at h
 ·exact⟨_,_,_,_,rfl,h⟩
 ·cases h
theorem js3 {P:Expr->CmpOp->CmpOp->Expr->Expr->Bool}{e:Expr}(h:(match e with
  |.Compare x [p,q] [y,z] _=>P x p q y z
  |_=>false)=true):∃x p q y z r,e=.Compare x [p,q] [y,z] r/\P x p q y z=true:=by
 split at h
 ·exact⟨_,_,_,_,_,_,rfl,h⟩
 ·cases h
theorem jx8 {P:Expr->Expr->Expr->Bool}{e:Expr}(h:(match e with
  |.IfExp z x y _=>P z x y
  |_=>false)=true):∃z x y p,e=.IfExp z x y p/\P z x y=true:=by
 split at h
 ·exact⟨_,_,_,_,rfl,h⟩
 ·cases h
theorem jwV {P:List Expr->Bool}{e:Expr}(h:(match e with
  |.Tuple xs _ _=>P xs
  |_=>false)=true):∃xs k p,e=.Tuple xs k p/\P xs=true:=by
 split at h
 ·exact⟨_,_,_,rfl,h⟩
 ·cases h
theorem jwn {P:List Expr->Bool}{e:Expr}(h:(match e with
  |.List xs _=>P xs
  |_=>false)=true):∃xs p,e=.List xs p/\P xs=true:=by
 split at h
 ·exact⟨_,_,rfl,h⟩
 ·cases h
theorem jsl {P:Expr->Expr->Bool}{e:Expr}(h:(match e with
  |.Subscript x y _=>P x y
  |_=>false)=true):∃x y p,e=.Subscript x y p/\P x y=true:=by
 split at h
 ·exact⟨_,_,_,rfl,h⟩
 ·cases h
theorem jBd {P:Expr->Option Expr->Option Expr->Bool}{e:Expr}(h:(match e with
  |.Subscript x (.Slice l u none _) _=>P x l u
  |_=>false)=true):∃x l u p q,e=.Subscript x (.Slice l u none p) q/\P x l u=true:=by
 split at h
 ·exact⟨_,_,_,_,_,rfl,h⟩
 ·cases h
theorem jzi {P:Expr->Str->Bool}{e:Expr}(h:(match e with
  |.Attribute x n _=>P x n
  |_=>false)=true):∃x n p,e=.Attribute x n p/\P x n=true:=by
 split at h
 ·exact⟨_,_,_,rfl,h⟩
 ·cases h
theorem joy {P:Str->Pos->Expr->List Expr->Pos->Bool}{e:Expr}(h:(match e with
  |.Call (.Name x q) (y::ys) [] p=>P x q y ys p
  |_=>false)=true):∃x q y ys p,e=.Call (.Name x q) (y::ys) [] p/\P x q y ys p=true:=by
 split at h
 ·exact⟨_,_,_,_,_,rfl,h⟩
 ·cases h
theorem jqf {P:Expr->Str->Pos->Expr->List Expr->Pos->Bool}{e:Expr}(h:(match e with
  |.Call (.Attribute z n q) (y::ys) [] p=>P z n q y ys p
  |_=>false)=true):∃z n q y ys p,e=.Call (.Attribute z n q) (y::ys) [] p/\P z n q y ys p=true:=by
 split at h
 ·exact⟨_,_,_,_,_,_,rfl,h⟩
 ·cases h
theorem jhw {P:Expr->Comprehension->Scope->Bool}{e:Expr}(h:(match e with
  |.ListComp el [g] scope _=>P el g scope
  |_=>false)=true):∃el g scope p,e=.ListComp el [g] scope p/\P el g scope=true:=by
 split at h
 ·exact⟨_,_,_,_,rfl,h⟩
 ·cases h
noncomputable def jyC (G:List FnE)(i:Nat)(f:Str):Bool:=
 match G[i]? with
 |some g=>match g.dat with
  |some (.cls _ _ fs)=>fs.contains f
  |_=>false
 |none=>false
noncomputable def jEv (G:List FnE)(j:Nat)(c:Stt)(f:Nat)(x:Str):Bool:=
 match G[f]? with
 |some g=>g.name==x&&jbl c.sc x&&g.dat.isNone&&decide (g.lv+2<=j)
 |none=>false
noncomputable def nmG (G:List FnE)(c:Stt)(f:Nat)(x:Str):Bool:=
 match G[f]? with
 |some g=>g.name==x&&jbl c.sc x
 |none=>false
section
variable (G:List FnE) (j:Nat)
mutual
noncomputable def chk:E->Stt->Expr->Bool
 |.var i,c,e=>match e with
  |.Name x _=>jtm c.N c.sc i x
  |_=>false
 |.cst d,_,e=>match e with
  |.Constant k _ _=>jD6 d k
  |_=>false
 |.bin op _ a b,c,e=>match e with
  |.BinOp x o y _=>o==op&&chk a c x&&chk b c y
  |_=>false
 |.neg a,c,e=>match e with
  |.UnaryOp .USub x _=>chk a c x
  |_=>false
 |.not_ a,c,e=>match e with
  |.UnaryOp .Not x _=>chk a c x&&tst x
  |_=>false
 |.and_ a b,c,e=>match e with
  |.BoolOp .And [x,y] _=>chk a c x&&tst x&&(chk b c y&&tst y)
  |.BoolOp .And (x::y::z::rest) p=>chk a c x&&tst x&&chk b c (.BoolOp .And (y::z::rest) p)
  |_=>false
 |.or_ a b,c,e=>match e with
  |.BoolOp .Or [x,y] _=>chk a c x&&tst x&&(chk b c y&&tst y)
  |.BoolOp .Or (x::y::z::rest) p=>chk a c x&&tst x&&chk b c (.BoolOp .Or (y::z::rest) p)
  |_=>false
 |.cmp op a b,c,e=>match e with
  |.Compare x [o] [y] _=>o==op&&chk a c x&&chk b c y&&!(behindInMarks o y)
  |_=>false
 |.chain o1 o2 a b d,c,e=>match e with
  |.Compare x [p,q] [y,z] _=>p==o1&&q==o2&&chk a c x&&chk b c y&&chk d c z&&!(lastMarks [p,q] [y,z])
  |_=>false
 |.isN a,c,e=>match e with
  |.Compare x [o] [y] _=>o==.Is&&jgM y&&chk a c x
  |_=>false
 |.notN a,c,e=>match e with
  |.Compare x [o] [y] _=>o==.IsNot&&jgM y&&chk a c x
  |_=>false
 |.ife k a b,c,e=>match e with
  |.IfExp z x y _=>chk k c z&&tst z&&chk a c x&&chk b c y
  |_=>false
 |.tup es,c,e=>match e with
  |.Tuple xs _ _=>chkL es c xs&&jaf xs
  |_=>false
 |.lst _ es,c,e=>match e with
  |.List xs _=>chkL es c xs&&jaf xs
  |_=>false
 |.ix a b,c,e=>match e with
  |.Subscript x y _=>chk a c x&&chk b c y&&jdq y
  |_=>false
 |.sl _ a lo hi,c,e=>match e with
  |.Subscript x (.Slice l h none _) _=>chk a c x&&chkL lo c l.toList&&chkL hi c h.toList
  |_=>false
 |.stp _ _ _ _,_,_=>false
 |.fld a i f,c,e=>match e with
  |.Attribute x n _=>n==f&&jcr x&&jyC G i f&&chk a c x
  |_=>false
 |.call f _ es,c,e=>match e with
  |.Call (.Name x _) (y::ys) [] _=>(match G[f]? with
   |some g=>g.name==x&&jbl c.sc x&&es.length==g.ps.length&&decide (g.lv<=j)
   |none=>false)&&chkL es c (y::ys)&&jaf (y::ys)
  |_=>false
 |.bi b _ es,c,e=>match e with
  |.Call (.Name x _) (y::ys) [] _=>jos b==x&&jbl c.sc x&&jaf (y::ys)&&(match jcE c b (y::ys)with
   |some as=>chkL es c as
   |none=>false)
  |_=>false
 |.mt b o es,c,e=>match e with
  |.Call (.Attribute z name apos) (y::ys) [] cpos=>joJ b==name&&chk o c z&&jaN z&&jaf (y::ys)&&decide (ys.length<28)&&(apos.endLine==cpos.line)&&chkL es c (y::ys)
  |_=>false
 |.clr _,_,_=>false
 |.dget _ _,_,_=>false
 |.isC _ _,_,_=>false
 |.comp _ own tg ik es ifs elt,c,e=>match e with
  |.ListComp el [g] scope _=>g.is_async==0&&own==(jaK g.target).length&&jwz c.N c.sc (jaK g.target) (jei (jaK g.target) c.N) scope&&decide (jei (jaK g.target) c.N).Nodup&&jhQ g.iter&&(match jfY c ik g.target g.iter with
   |some as=>chkL es c as
   |none=>false)&&jjo (jij c g.target scope) tg g.target&&chkTs ifs (jij c g.target scope) g.ifs&&chk elt (jij c g.target scope) el
  |_=>false
 |.dnew _,_,e=>jnN e
 |.dget2 o a f,c,e=>match e with
  |.Call (.Attribute z n q) (y::ys) [] p=>n == "get" && (match ys with
   |[u]=>chk f c u&&jaf [y,u]
   |_=>false)&&chk o c z&&chk a c y&&jaN z&&(q.endLine==p.line)
  |_=>false
 |.tix a b,c,e=>match e with
  |.Subscript x y _=>chk a c x&&chk b c y&&jdq y
  |_=>false
 |.sortK f _ a,c,e=>match jCc e with
  |some (x,y,k,v)=>x == "sorted" && jbl c.sc "sorted" && k == "key" && (match jd5 v with
   |some z=>jEv G j c f z
   |none=>false)&&chk a c y&&jaw y
  |none=>false
 |.vals0 _ a,c,e=>match e with
  |.ListComp _ [g] scope _=>g.is_async==0&&jwz c.N c.sc (jaK g.target) (jei (jaK g.target) c.N) scope&&(match jgx g.iter with
   |some (z,n,p,q)=>n == "values" && jcr z&&(p.endLine==q.line)&&chk a c z
   |none=>false)
  |_=>false
 |.maxDf a b,c,e=>match jCc e with
  |some (x,y,k,v)=>x == "max" && jbl c.sc "max" && k == "default" && chk a c y&&jaw y&&chk b c v
  |none=>false
 |.gl f,c,e=>match e with
  |.Name x _=>nmG G c f x
  |_=>false
 |.gget f a d,c,e=>match e with
  |.Call (.Attribute z0 name apos) (y::ys) [] cpos=>name == "get" && (match jd5 z0,ys with
   |some x,[z]=>nmG G c f x&&chk d c z&&jaf [y,z]
   |_,_=>false)&&chk a c y&&jaN z0&&(apos.endLine==cpos.line)
  |_=>false
 |.gin _ _ _,_,_=>false
 |.gix _ _,_,_=>false
noncomputable def chkL:List E->Stt->List Expr->Bool
 |[],_,[]=>true
 |e::es,c,x::xs=>chk e c x&&jaw x&&chkL es c xs
 |_,_,_=>false
noncomputable def chkTs:List E->Stt->List Expr->Bool
 |[],_,[]=>true
 |[e],c,[x]=>chk e c x&&tst x
 |_,_,_=>false
end
end
structure ClsI (K:PySem.W.Frag) (C:Addr):Prop where
 ha:PySem.W.findIn K (.ref C) "__class__" =some (some (.builtin "object.__class__"))
 hn:PySem.W.specialIn K (.builtin "object.__class__") "__get__" =some (some (.builtin "getset_descriptor.__get__"))
 ht:PySem.W.takesIn K (.builtin "object.__class__")=some true
 hm:PySem.W.mroIn K C (.type "object")=some true
noncomputable def jgO (K:PySem.W.Frag)(W:World)(mg:Str->Option Value)(x:Str):Dat->Prop
 |.cst d=>∃u v,mg x=some u/\jaB v u/\∀wd n,Den K wd n d v
 |.dct kvs=>∃a xs,mg x=some (.ref a)/\MD K W a ((kvs.map (·.1)).zip xs)/\∀wd n,DenL K wd n (kvs.map (·.2)) xs
 |.cls C _ fs=>mg x=some (.ref C)/\Cls K C/\ClsI K C/\∀f∈fs,jhb K C f
structure DefG (CX:CXT) (P:Program) (w:World) (K:PySem.W.Frag) (mg:Str->Option Value) (base:Heap) (k:Nat) (x:Str) (ps:List Str) (sp:Sp):Prop where
 ex:∃(f:Addr) (fd:FuncData),FnOk P w K mg base CX k f fd ps sp/\mg x=some (.ref f)/\PySem.W.keepIn K (.ref f)=true/\jdF K fd ps []
theorem DefG.cal {CX:CXT}{P:Program}{w:World}{K:PySem.W.Frag}{mg:Str->Option Value}{base:Heap}{k:Nat}{x:Str}{ps:List Str}{sp:Sp}(h:DefG CX P w K mg base k x ps sp):CalG CX P w K mg base k x ps sp:=⟨.inl h.ex⟩
structure Ok (G:List FnE) (j:Nat) (c:Stt) (X:Cx):Prop where
 hN:X.N=c.N
 nd:c.N.Nodup
 sc:X.env.scope=c.sc
 calm:X.calm=true
 room:Room j X.A
 mg:∀x∈jcj,X.mg x=none
 fns:∀(i:Nat) (g:FnE),G[i]?=some g->g.lv<=j->CalG CX0 X.prog X.w X.K X.mg X.base g.lv g.name g.ps (jmZ X.K g.ps.length g.F)
 dts:∀(i:Nat) (g:FnE) (d:Dat),G[i]?=some g->g.dat=some d->jgO X.K X.w X.mg g.name d
 dfs:∀(i:Nat) (g:FnE),G[i]?=some g->g.lv<=j->g.dat=none->DefG CX0 X.prog X.w X.K X.mg X.base g.lv g.name g.ps (jmZ X.K g.ps.length g.F)
 fn:c.cmp=false->∀x,X.fn x=true
noncomputable def jEX:Expr->Bool
 |.BoolOp ..=>true
 |_=>false
structure Snd (G:List FnE) (X:Cx) (ir:E) (e:Expr):Prop where
 v:PE X e (T3E X.K (ev G ir).v)
 t:tst e=true->PT X e (T3T X.K (ev G ir).t)
 w:jEX e=true->PW X e (T3T X.K (ev G ir).t)
section
variable {K:PySem.W.Frag} {X:Cx} {G:List FnE} {j:Nat} {c:Stt}
theorem jz4:T3T K (toB r) σ H Q->T3E K r σ H fun x H'=>∃k,jAx K x H' k/\Q k H':=by
 rintro⟨w,μ,ρ,b,μ',R,S,e,q⟩;obtain⟨d,μ1,e1,e⟩:=Out.bind_ok e;split at e
 ·rename_i b' hb;cases e;exact⟨w,μ,ρ,d,_,R,S,e1,fun w1 H1 v x1 R1 d1=>⟨b,jw8 R1 d1 hb,q w1 H1 x1 R1⟩⟩
 ·cases e
theorem jaj (v:PE X e (T3E X.K r))(h:jry e=true):(tst e=true->PT X e (T3T X.K (toB r)))/\(jEX e=true->PW X e (T3T X.K (toB r))):=
 ⟨fun _=>imT (jBj ⟨v⟩ h).h fun σ H Q q=>jz4 q,fun hb=>by cases e<;>first|(cases hb;done)|(cases h;done)⟩
theorem jtQ (hb:∀ρ μ d μ',r ρ μ=.ok d μ'->∃b,d=.bl b){σ:_L2.St}{H:Hp}{Q:Bool->Hp->Prop}:T3T K (toB r) σ H Q->T3E K r σ H fun x H'=>∃k,x=.bl k/\Q k H':=by
 rintro⟨w,μ,ρ,b,μ',R,S,e,q⟩;obtain⟨d,μ1,e1,e⟩:=Out.bind_ok e;obtain⟨b',rfl⟩:=hb _ _ _ _ e1;have e':Out.ok b' μ1=.ok b μ':=e;cases e';refine⟨w,μ,ρ,.bl b,_,R,S,e1,fun w1 H1 v x1 R1 d1=>?_⟩;unfold Den at d1;exact⟨b,d1,q w1 H1 x1 R1⟩
theorem jnU (o:Ok G j c X):X.A.units+16<cLine:=by
 have:=o.room.un;omega
noncomputable def jjW:D->Bool
 |.non=>true
 |_=>false
theorem jrz (h:Den K w n d v):decide (v=.non)=jjW d:=by
 cases d with
 |non=>unfold Den at h;subst h;rfl
 |bl b=>unfold Den at h;subst h;rfl
 |int i=>unfold Den at h;subst h;rfl
 |str x=>unfold Den at h;subst h;rfl
 |ty t=>unfold Den at h;subst h;rfl
 |tup ds=>unfold Den at h;obtain⟨a,xs,rfl,_⟩:=h;rfl
 |lst ds=>unfold Den at h;obtain⟨a,xs,rfl,_⟩:=h;rfl
 |scr ds=>unfold Den at h;obtain⟨a,xs,rfl,_⟩:=h;rfl
 |stt ds=>unfold Den at h;obtain⟨a,xs,rfl,_⟩:=h;rfl
 |dK ks ds=>unfold Den at h;obtain⟨a,xs,rfl,_⟩:=h;rfl
 |dT ks ds=>unfold Den at h;obtain⟨a,xs,rfl,_⟩:=h;rfl
 |dF ks ds=>unfold Den at h;obtain⟨a,_,_,_,xs,rfl,_⟩:=h;rfl
 |obj C fs ds=>unfold Den at h;obtain⟨a,dx,xs,rfl,_⟩:=h;rfl
 |cel k=>unfold Den at h;obtain⟨_,rfl⟩:=h;rfl
theorem jzq (o:Ok G j c X)(h:chk G j (.var i) c e=true):Snd G X (.var i) e:=by
 have hh:=joc (P:=fun x _=>jtm c.N c.sc i x) h;clear h;obtain⟨x,pos,rfl,h⟩:=hh
 ·have hv:PE X (.Name x pos) (T3E X.K (ev G (.var i)).v):=by
   refine imE (pvk i (by rw[o.hN,o.sc];exact h)) fun σ H Q=>?_;rintro⟨w,μ,ρ,d,μ',R,S,e,q⟩;have e':(match ρ[i]? with|some (some d)=>Out.ok d μ|_=>.bad)=.ok d μ':=e;split at e'
   ·rename_i d' hd;cases e';obtain⟨v,h1,h2⟩:=S.get hd;exact⟨v,h1,jai R q h2⟩
   ·cases e'
  exact⟨hv,(jaj hv rfl).1,(jaj hv rfl).2⟩
theorem jxF (h:chk G j (.cst d) c e=true):Snd G X (.cst d) e:=by
 have hh:=jqI (P:=fun k _ _=>jD6 d k) h;clear h;obtain⟨k,kk,pos,rfl,h⟩:=hh
 ·have key:∀v:V,(∀w n,Den X.K w n d v)->PE X (.Constant k kk pos) (nC v)->Snd G X (.cst d) (.Constant k kk pos):=fun v hd hp=>by
   have hv:PE X (.Constant k kk pos) (T3E X.K (ev G (.cst d)).v):=by
    refine imE hp fun σ H Q=>?_;rintro⟨w,μ,ρ,d',μ',R,S,e,q⟩;have e':Out.ok d μ=.ok d' μ':=e;cases e';exact jai R q (hd _ _)
   exact⟨hv,(jaj hv rfl).1,(jaj hv rfl).2⟩
  unfold jD6 at h;split at h
  ·have:=eq_of_beq h;subst this;exact key _ (fun w n=>by unfold Den;rfl) (jAb).h
  ·have:=eq_of_beq h;subst this;exact key _ (fun w n=>by unfold Den;rfl) (jDM).h
  ·exact key _ (fun w n=>by unfold Den;rfl) (jBm).h
  ·have:=eq_of_beq h;subst this;exact key _ (fun w n=>by unfold Den;rfl) (jBl).h
  ·cases h
theorem jya (ha:Snd G X a x)(hb:Snd G X b y):Snd G X (.bin op m a b) (.BinOp x op y pos):=by
 obtain⟨r,ho,hs⟩:=jBE (X:=X) (op:=op) (m:=m);have hv:PE X (.BinOp x op y pos) (T3E X.K (ev G (.bin op m a b)).v):=imE (jDP ho ha.v hb.v) fun σ H Q q=>jvd hs q;exact⟨hv,(jaj hv rfl).1,(jaj hv rfl).2⟩
theorem jx1 (ha:Snd G X a x):Snd G X (.neg a) (.UnaryOp .USub x pos):=by
 have hv:PE X (.UnaryOp .USub x pos) (T3E X.K (ev G (.neg a)).v):=by
  refine imE (jDW jAY ⟨ha.v⟩).h fun σ H Q q=>juq (r:=rU fun i=>.int (-i)) (fun w μ H d1 d μ' v1 Q R h e q=>?_) q;split at e
  ·cases e;unfold Den at h;exact⟨_,h,jai R q (by unfold Den;rfl)⟩
  ·cases e
 exact⟨hv,(jaj hv rfl).1,(jaj hv rfl).2⟩
theorem jxT (ht:tst x=true)(ha:Snd G X a x):Snd G X (.not_ a) (.UnaryOp .Not x pos):=by
 refine⟨?_,fun _=>?_,fun h=>by cases h⟩
 ·refine imE (jCP ⟨ha.v⟩).h fun σ H Q q=>juq (r:=fun x H Q=>∃c,x=.bl c/\Q (.bl (!c)) H) (fun w μ H d1 d μ' v1 Q R h e q=>?_) q;split at e
  ·cases e;unfold Den at h;exact⟨_,h,jai R q (by unfold Den;rfl)⟩
  ·cases e
 ·refine imT (jBF ⟨ha.t ht⟩).h fun σ H Q=>?_;rintro⟨w,μ,ρ,b,μ',R,S,e,q⟩;obtain⟨k,μ1,e1,e⟩:=Out.bind_ok e;cases e;exact⟨w,μ,ρ,k,_,R,S,e1,q⟩
theorem jBa:T3E K (ev G (.and_ a b)).v σ H Q->jw7 (T3E K (ev G a).v) (T3E K (ev G b).v) σ H Q:=by
 rintro⟨w,μ,ρ,d,μ',R,S,e,q⟩;obtain⟨x,μ1,e1,e⟩:=Out.bind_ok e;split at e
 ·rename_i k;refine⟨w,μ,ρ,_,μ1,R,S,e1,fun w1 H1 v x1 R1 d1=>?_⟩;unfold Den at d1;refine⟨k,d1,?_⟩
  cases k with
  |true=>
   rw[if_pos rfl]at e ⊢;exact⟨w1,μ1,ρ,d,μ',R1,S.mono x1,e,fun w2 H2 v2 x2 R2 d2=>q w2 H2 v2 (x1.trans x2) R2 d2⟩
  |false=>
   rw[if_neg j0e]at e ⊢;cases e;exact q w1 H1 _ x1 R1 (by unfold Den;rfl)
 ·cases e
theorem jEB:T3E K (ev G (.or_ a b)).v σ H Q->jDH (T3E K (ev G a).v) (T3E K (ev G b).v) σ H Q:=by
 rintro⟨w,μ,ρ,d,μ',R,S,e,q⟩;obtain⟨x,μ1,e1,e⟩:=Out.bind_ok e;split at e
 ·rename_i k;refine⟨w,μ,ρ,_,μ1,R,S,e1,fun w1 H1 v x1 R1 d1=>?_⟩;unfold Den at d1;refine⟨k,d1,?_⟩
  cases k with
  |true=>
   rw[if_pos rfl]at e ⊢;cases e;exact q w1 H1 _ x1 R1 (by unfold Den;rfl)
  |false=>
   rw[if_neg j0e]at e ⊢;exact⟨w1,μ1,ρ,d,μ',R1,S.mono x1,e,fun w2 H2 v2 x2 R2 d2=>q w2 H2 v2 (x1.trans x2) R2 d2⟩
 ·cases e
theorem jAP:T3T K (ev G (.and_ a b)).t σ H Q->jDx (T3T K (ev G a).t) (T3T K (ev G b).t) σ H Q:=by
 rintro⟨w,μ,ρ,d,μ',R,S,e,q⟩;obtain⟨k,μ1,e1,e⟩:=Out.bind_ok e;refine⟨w,μ,ρ,k,μ1,R,S,e1,fun w1 H1 x1 R1=>?_⟩;dsimp only
 cases k with
 |true=>
  rw[if_pos rfl]at e ⊢;exact⟨w1,μ1,ρ,d,μ',R1,S.mono x1,e,fun w2 H2 x2 R2=>q w2 H2 (x1.trans x2) R2⟩
 |false=>
  rw[if_neg j0e]at e ⊢;cases e;exact q w1 H1 x1 R1
theorem jEG:T3T K (ev G (.or_ a b)).t σ H Q->tOr (T3T K (ev G a).t) (T3T K (ev G b).t) σ H Q:=by
 rintro⟨w,μ,ρ,d,μ',R,S,e,q⟩;obtain⟨k,μ1,e1,e⟩:=Out.bind_ok e;refine⟨w,μ,ρ,k,μ1,R,S,e1,fun w1 H1 x1 R1=>?_⟩;dsimp only
 cases k with
 |true=>
  rw[if_pos rfl]at e ⊢;cases e;exact q w1 H1 x1 R1
 |false=>
  rw[if_neg j0e]at e ⊢;exact⟨w1,μ1,ρ,d,μ',R1,S.mono x1,e,fun w2 H2 x2 R2=>q w2 H2 (x1.trans x2) R2⟩
theorem juY (h1:tst x=true)(h2:tst y=true)(ha:Snd G X a x)(hb:Snd G X b y):Snd G X (.and_ a b) (.BoolOp .And [x,y] pos):=by
 have hw:PW X (.BoolOp .And [x,y] pos) (T3T X.K (ev G (.and_ a b)).t):=imW (jvT ⟨ha.t h1⟩ (jxD ⟨hb.t h2⟩)).h fun σ H Q q=>jAP q;exact⟨imE (jvW ⟨ha.v⟩ (jvR ⟨hb.v⟩)).h fun σ H Q q=>jBa q,fun _=>hw.pt,fun _=>hw⟩
theorem juR {a b:E}{x y:Expr}{rest:List Expr}{pos:Pos}(h1:tst x=true)(ha:Snd G X a x)(hb:Snd G X b (.BoolOp .And (y::rest) pos)):Snd G X (.and_ a b) (.BoolOp .And (x::y::rest) pos):=by
 have hw:PW X (.BoolOp .And (x::y::rest) pos) (T3T X.K (ev G (.and_ a b)).t):=imW (jvT ⟨ha.t h1⟩ ⟨hb.w rfl⟩).h fun σ H Q q=>jAP q;exact⟨imE (jvW ⟨ha.v⟩ ⟨hb.v⟩).h fun σ H Q q=>jBa q,fun _=>hw.pt,fun _=>hw⟩
theorem jxm (h1:tst x=true)(h2:tst y=true)(ha:Snd G X a x)(hb:Snd G X b y):Snd G X (.or_ a b) (.BoolOp .Or [x,y] pos):=by
 have hw:PW X (.BoolOp .Or [x,y] pos) (T3T X.K (ev G (.or_ a b)).t):=imW (jAi ⟨ha.t h1⟩ (jA3 ⟨hb.t h2⟩)).h fun σ H Q q=>jEG q;exact⟨imE (jCz ⟨ha.v⟩ (jvR ⟨hb.v⟩)).h fun σ H Q q=>jEB q,fun _=>hw.pt,fun _=>hw⟩
theorem jyk {a b:E}{x y:Expr}{rest:List Expr}{pos:Pos}(h1:tst x=true)(ha:Snd G X a x)(hb:Snd G X b (.BoolOp .Or (y::rest) pos)):Snd G X (.or_ a b) (.BoolOp .Or (x::y::rest) pos):=by
 have hw:PW X (.BoolOp .Or (x::y::rest) pos) (T3T X.K (ev G (.or_ a b)).t):=imW (jAi ⟨ha.t h1⟩ ⟨hb.w rfl⟩).h fun σ H Q q=>jEG q;exact⟨imE (jCz ⟨ha.v⟩ ⟨hb.v⟩).h fun σ H Q q=>jEB q,fun _=>hw.pt,fun _=>hw⟩
theorem jv5 (o:Ok G j c X)(hm:behindInMarks op y=false)(ha:Snd G X a x)(hb:Snd G X b y):Snd G X (.cmp op a b) (.Compare x [op] [y] pos):=by
 obtain⟨r,ho,hs⟩:=jsV (X:=X) (op:=op) (jnU o);refine⟨imE (jCE ho ⟨ha.v⟩ ⟨hb.v⟩ hm).h fun σ H Q q=>jvd hs q,fun _=>?_,fun h=>by cases h⟩;refine imT (jCx ho ⟨ha.v⟩ ⟨hb.v⟩ hm).h fun σ H Q q=>jvd hs (jtQ (fun ρ μ d μ' e=>?_) q);obtain⟨_,_,_,e⟩:=Out.bind_ok e;obtain⟨_,_,_,e⟩:=Out.bind_ok e;obtain⟨b,h,_⟩:=jfZ _ _ _ _ _ e;exact⟨b,h⟩
theorem jrc (hs:js6 K (jeT o1) r)(hs':js6 K (jeT o2) r'){σ:_L2.St}{H:Hp}{Q:VK}:T3E K (ev G (.chain o1 o2 a b d)).v σ H Q->jlR r r' (T3E K (ev G a).v) (T3E K (ev G b).v) (T3E K (ev G d).v) σ H Q:=by
 rintro⟨w,μ,ρ,d0,μ',R,S,e,q⟩;obtain⟨x,μ1,e1,e⟩:=Out.bind_ok e;obtain⟨y,μ2,e2,e⟩:=Out.bind_ok e;obtain⟨z,μ3,e3,eB⟩:=Out.bind_ok e;clear e;obtain⟨k,rfl,rfl⟩:=jfZ _ _ _ _ _ e3;refine⟨w,μ,ρ,x,μ1,R,S,e1,fun w1 H1 v1 x1 R1 d1=>⟨w1,μ1,ρ,y,μ3,R1,S.mono x1,e2,fun w2 H2 v2 x2 R2 d2=>?_⟩⟩;refine hs w2 μ3 H2 x y (.bl k) μ3 v1 v2 _ R2 (d1.mono x2) d2 e3 fun w3 H3 v3 x3 R3 d3=>?_;unfold Den at d3;refine⟨k,d3,?_⟩;have e':(if k then((ev G d).v ρ μ3).bind fun u μ4=>jeT o2 y u μ4 else Out.ok (.bl false) μ3)=.ok d0 μ':=eB
 cases k with
 |true=>
  rw[if_pos rfl]at e' ⊢;obtain⟨u,μ4,e4,e'⟩:=Out.bind_ok e';exact⟨w3,μ3,ρ,u,μ4,R3,S.mono ((x1.trans x2).trans x3),e4,fun w4 H4 v4 x4 R4 d4=>hs' w4 μ4 H4 y u d0 μ' v2 v4 Q R4 (d2.mono (x3.trans x4)) d4 e' fun w5 H5 v5 x5 R5 d5=>q w5 H5 v5 ((((x1.trans x2).trans x3).trans x4).trans x5) R5 d5⟩
 |false=>
  rw[if_neg j0e]at e' ⊢;cases e';exact q w3 H3 _ ((x1.trans x2).trans x3) R3 (by unfold Den;rfl)
theorem jsb (o:Ok G j c X)(hm:lastMarks [o1,o2] [y,z]=false)(ha:Snd G X a x)(hb:Snd G X b y)(hd:Snd G X d z):Snd G X (.chain o1 o2 a b d) (.Compare x [o1,o2] [y,z] pos):=by
 obtain⟨r,ho,hs⟩:=jsV (X:=X) (op:=o1) (jnU o);obtain⟨r',ho',hs'⟩:=jsV (X:=X) (op:=o2) (jnU o);refine⟨imE (jvo ho ho' ⟨ha.v⟩ ⟨hb.v⟩ ⟨hd.v⟩ hm).h fun σ H Q q=>jrc hs hs' q,fun _=>?_,fun h=>by cases h⟩;refine imT (jv ho ho' ⟨ha.v⟩ ⟨hb.v⟩ ⟨hd.v⟩ hm).h fun σ H Q q=>jrc hs hs' (jtQ (fun ρ μ d μ' e=>?_) q);obtain⟨_,_,_,e⟩:=Out.bind_ok e;obtain⟨_,_,_,e⟩:=Out.bind_ok e;obtain⟨z,_,e3,e⟩:=Out.bind_ok e;split at e
 ·split at e
  ·obtain⟨_,_,_,e⟩:=Out.bind_ok e;obtain⟨b,h,_⟩:=jfZ _ _ _ _ _ e;exact⟨b,h⟩
  ·cases e;exact⟨_,rfl⟩
 ·cases e
theorem jAm:T3E K (ev G (.isN a)).v σ H Q->jDg (T3E K (ev G a).v) σ H Q:=fun q=>juq (r:=fun x H Q=>Q (.bl (decide (x=.non))) H) (fun w μ H d1 d μ' v1 Q R h e q=>by
 rw[jrz h];split at e
 ·cases e;exact jai R q (by unfold Den;rfl)
 ·rename_i hn;cases e;have:jjW d1=false:=by
   cases d1<;>first|rfl|exact absurd rfl hn
  rw[this];exact jai R q (by unfold Den;rfl)) q
theorem jvS:T3E K (ev G (.notN a)).v σ H Q->ju2 (T3E K (ev G a).v) σ H Q:=fun q=>juq (r:=fun x H Q=>Q (.bl (!decide (x=.non))) H) (fun w μ H d1 d μ' v1 Q R h e q=>by
 rw[jrz h];split at e
 ·cases e;exact jai R q (by unfold Den;rfl)
 ·rename_i hn;cases e;have:jjW d1=false:=by
   cases d1<;>first|rfl|exact absurd rfl hn
  rw[this];exact jai R q (by unfold Den;rfl)) q
theorem jyl (ha:Snd G X a x):Snd G X (.isN a) (.Compare x [.Is] [.Constant .none k p] pos):=by
 refine⟨imE (jCT ⟨ha.v⟩).h fun σ H Q q=>jAm q,fun _=>?_,fun h=>by cases h⟩;refine imT (jAw ⟨ha.v⟩).h fun σ H Q q=>jAm (jtQ (fun ρ μ d μ' e=>?_) q);obtain⟨_,_,_,e⟩:=Out.bind_ok e;split at e<;>(cases e;exact⟨_,rfl⟩)
theorem jvb (ha:Snd G X a x):Snd G X (.notN a) (.Compare x [.IsNot] [.Constant .none k p] pos):=by
 refine⟨imE (jwS ⟨ha.v⟩).h fun σ H Q q=>jvS q,fun _=>?_,fun h=>by cases h⟩;refine imT (jxr ⟨ha.v⟩).h fun σ H Q q=>jvS (jtQ (fun ρ μ d μ' e=>?_) q);obtain⟨_,_,_,e⟩:=Out.bind_ok e;split at e<;>(cases e;exact⟨_,rfl⟩)
theorem jxo (ht:tst z=true)(hk:Snd G X k z)(ha:Snd G X a x)(hb:Snd G X b y):Snd G X (.ife k a b) (.IfExp z x y pos):=by
 refine⟨imE (juA ⟨hk.t ht⟩ ⟨ha.v⟩ ⟨hb.v⟩).h fun σ H Q=>?_,(fun h=>by cases h),(fun h=>by cases h)⟩;rintro⟨w,μ,ρ,d,μ',R,S,e,q⟩;obtain⟨k',μ1,e1,e⟩:=Out.bind_ok e;refine⟨w,μ,ρ,k',μ1,R,S,e1,fun w1 H1 x1 R1=>?_⟩;dsimp only
 cases k' with
 |true=>
  rw[if_pos rfl]at e ⊢;exact⟨w1,μ1,ρ,d,μ',R1,S.mono x1,e,fun w2 H2 v2 x2 R2 d2=>q w2 H2 v2 (x1.trans x2) R2 d2⟩
 |false=>
  rw[if_neg j0e]at e ⊢;exact⟨w1,μ1,ρ,d,μ',R1,S.mono x1,e,fun w2 H2 v2 x2 R2 d2=>q w2 H2 v2 (x1.trans x2) R2 d2⟩
theorem jtL (h:PA X xs (T3A X.K (evL G es))):Snd G X (.tup es) (.Tuple xs k pos):=by
 have hv:PE X (.Tuple xs k pos) (T3E X.K (ev G (.tup es)).v):=imE (jvw h) fun σ H Q q=>jgD jwp q;exact⟨hv,(jaj hv rfl).1,(jaj hv rfl).2⟩
theorem juW (h:PA X xs (T3A X.K (evL G es))):Snd G X (.lst m es) (.List xs pos):=by
 have hv:PE X (.List xs pos) (T3E X.K (ev G (.lst m es)).v):=imE (jAu h) fun σ H Q q=>jgD jxt q;exact⟨hv,(jaj hv rfl).1,(jaj hv rfl).2⟩
theorem jzS (o:Ok G j c X)(hp:jdq y=true)(ha:Snd G X a x)(hb:Snd G X b y):Snd G X (.ix a b) (.Subscript x y pos):=by
 have hv:PE X (.Subscript x y pos) (T3E X.K (ev G (.ix a b)).v):=imE (jD9 (jzQ.or (jDp (by have:=jnU o;omega))) ha.v hb.v (jia hp)) fun σ H Q q=>jvd jDD q;exact⟨hv,(jaj hv rfl).1,(jaj hv rfl).2⟩
end
section
variable {K:PySem.W.Frag} {X:Cx} {G:List FnE} {j:Nat} {c:Stt}
noncomputable def T3O (K:PySem.W.Frag)(r:S3->M->Out (Option Int)):TO:=fun σ H Q=>∃(w:Wd) (μ:M) (ρ:S3) (o:Option Int) (μ':M),Rep K w μ H/\jb1 K w μ.length ρ σ/\r ρ μ=.ok o μ'/\∀w' H',Ext w w' μ.length μ'.length->Rep K w' μ' H'->Q o H'
theorem imO (h:PO X e t)(k:∀σ H Q,t' σ H Q->t σ H Q):PO X e t':=fun pins s σ H Q I hw=>h pins s σ H Q I (k σ H Q hw)
theorem jC (h:∀e x,es=[e]->l=some x->PE X x (T3E X.K (ev G e).v))(hl:es.length=l.toList.length):PO X l (T3O X.K fun ρ μ=>jpx (evL G es ρ μ)):=by
 cases l with
 |none=>
  have:es=[]:=List.length_eq_zero_iff.mp hl;subst this;refine imO jwX fun σ H Q=>?_;rintro⟨w,μ,ρ,o,μ',R,S,e,q⟩;have e':Out.ok none μ=.ok o μ':=by
   have:evL G [] ρ μ=.ok [] μ:=rfl;unfold jpx at e;dsimp only at e;rw[this]at e;exact e
  cases e';exact q w H (Ext.refl _ _) R
 |some x=>
  obtain⟨e1,rfl⟩:∃e1,es=[e1]:=j0W.mp hl;refine imO (jwj (h e1 x rfl rfl)) fun σ H Q=>?_;rintro⟨w,μ,ρ,o,μ',R,S,e,q⟩
  have e':(((ev G e1).v ρ μ).bind fun d μ1=>Out.ok [d] μ1).bind (fun ds μ=>match ds with
    |[]=>.ok none μ
    |[.int i]=>.ok (some i) μ
    |_=>.bad)=.ok o μ':=by
   have:evL G [e1] ρ μ=(((ev G e1).v ρ μ).bind fun d μ1=>Out.ok [d] μ1):=rfl;unfold jpx at e;dsimp only at e;rw[this]at e;exact e
  obtain⟨ds,μ1,e1',e2⟩:=Out.bind_ok e';obtain⟨d,μ2,e3,e4⟩:=Out.bind_ok e1';cases e4;split at e2
  ·rename_i hh;cases hh
  ·rename_i i hh;cases hh;cases e2;refine⟨w,μ,ρ,.int i,_,R,S,e3,fun w1 H1 v x1 R1 d1=>?_⟩;unfold Den at d1;exact⟨i,d1,q w1 H1 x1 R1⟩
  ·cases e2
theorem jC0 {m:Bool}{a:E}{lo hi:List E}{x:Expr}{l h:Option Expr}{p pos:Pos}(ha:Snd G X a x)(hl:PO X l (T3O X.K fun ρ μ=>jpx (evL G lo ρ μ)))(hh:PO X h (T3O X.K fun ρ μ=>jpx (evL G hi ρ μ))):Snd G X (.sl m a lo hi) (.Subscript x (.Slice l h none p) pos):=by
 have hv:PE X (.Subscript x (.Slice l h none p) pos) (T3E X.K (ev G (.sl m a lo hi)).v):=by
  refine imE (juw jCB ha.v hl hh) fun σ H Q=>?_;rintro⟨w,μ,ρ,d,μ',R,S,e,q⟩;obtain⟨d1,μ1,e1,e⟩:=Out.bind_ok e;obtain⟨o1,μ2,e2,e⟩:=Out.bind_ok e;obtain⟨o2,μ3,e3,e⟩:=Out.bind_ok e;exact⟨w,μ,ρ,d1,μ1,R,S,e1,fun w1 H1 v1 x1 R1 k1=>⟨w1,μ1,ρ,o1,μ2,R1,S.mono x1,e2,fun w2 H2 x2 R2=>⟨w2,μ2,ρ,o2,μ3,R2,S.mono (x1.trans x2),e3,fun w3 H3 x3 R3=>jBs R3 (k1.mono (x2.trans x3)) e fun w4 H4 v4 x4 R4 k4=>q w4 H4 v4 (((x1.trans x2).trans x3).trans x4) R4 k4⟩⟩⟩
 exact⟨hv,(jaj hv rfl).1,(jaj hv rfl).2⟩
theorem jrE:∀{es:List E} {ρ:S3} {μ μ':M} {ds:List D},evL G es ρ μ=.ok ds μ'->ds.length=es.length
 |[],ρ,μ,μ',ds,e=>by
  have e':Out.ok [] μ=.ok ds μ':=e;cases e';rfl
 |x::es,ρ,μ,μ',ds,e=>by
  obtain⟨d,μ1,e1,e⟩:=Out.bind_ok e;obtain⟨ds',μ2,e2,e⟩:=Out.bind_ok e;cases e;rw[j0j,j0j,jrE e2]
noncomputable def Gho (Q:VK):VK:=fun v H'=>∃L:List Addr,(∀a∈L,∃kvs,H' a=some (.dK kvs))/\∀H2,Upg L H' H2->Q v H2
theorem jFk (h:Q v H):Gho Q v H:=by
 refine⟨[],(fun a z=>absurd z j1A),fun H2 U=>?_⟩;have:H2=H:=funext fun a=>U.off a (by simp);rw[this];exact h
noncomputable def jEa (w:Wd)(μ:M)(n0:Nat)(keep:List Nat):List Addr:=((List.range μ.length).filter fun k=>decide (n0<=k)&&!(keep.contains k)&&match μ[k]? with
 |some (some (.dK _ _))=>true
 |_=>false).map w.γ
theorem joC (a:Addr):a∈jEa w μ n0 keep ↔ ∃k ks vs,n0<=k/\k∉keep/\μ[k]?=some (some (Cl.dK ks vs))/\w.γ k=a:=by
 unfold jEa;rw[j0s];constructor
 ·rintro⟨k,h1,h2⟩;rw[j0u,j0a,j0a]at h1;obtain⟨_,⟨g1,g2⟩,g3⟩:=h1;split at g3
  ·rename_i ks vs hk;exact⟨k,ks,vs,by simpa using g1,by simpa using g2,hk,h2⟩
  ·cases g3
 ·rintro⟨k,ks,vs,h1,h2,h3,h4⟩;refine⟨k,?_,h4⟩;rw[j0u,j0a,j0a,h3];exact⟨j1o.mpr (j0g.mp h3).1,⟨by simpa using h1,by simpa using h2⟩,rfl⟩
theorem jwB (R:Rep K w μ H):∀a∈jEa w μ n0 keep,∃kvs,H a=some (.dK kvs):=fun a h=>by
 obtain⟨k,ks,vs,_,_,h3,rfl⟩:=(joC a).mp h;obtain⟨xs,_,g1,_⟩:=(R.liv k _ h3).2;exact⟨_,g1⟩
theorem jtV (hl:ds.length=np)(R1:Rep K w1 μ1 H1)(l1:DenL K w1 μ1.length ds vs)(e:jah md F ds μ1=.ok d μ')(q:jo1 K w1 μ1.length d μ' Q):jmZ K np F vs H1 (Gho Q) EX:=by
 refine⟨by rw[<- jad l1];exact hl,?_⟩
 cases md with
 |raw=>exact⟨w1,μ1,ds,d,μ',R1,l1,e,fun w2 H2 v x2 R2 d2=>jFk (q w2 H2 v x2 R2 d2)⟩
 |frz=>
  simp only[jah]at e;split at e
  ·rename_i d0 μ0 e0;split at e
   ·rename_i ht;split at e
    ·rename_i d' hd';cases e;refine⟨w1,_,ds,d0,μ0,R1,l1,e0,fun w2 H2 v x2 R2 d2=>?_⟩;refine⟨_,jwB (n0:=μ1.length) (keep:=[]) R2,fun H3 U=>?_⟩;obtain⟨w3,x3,R3,f3,_,_⟩:=jB (keep:=[]) (cs:=[]) R1 x2 R2 ht List.nodup_nil (fun k h=>by cases h) rfl U joC;simp only[j0B,j0x]at x3 R3 f3;exact q w3 H3 v x3 R3 (f3 _ _ _ d2 hd')
    ·cases e
   ·cases e
  ·split at e
   ·split at e<;>cases e
   ·cases e
  ·cases e
 |new=>cases e
theorem juT (o:Ok G j c X)(hf:G[f]?=some g)(hn:g.name=x)(hg:jbl c.sc x=true)(hp:es.length=g.ps.length)(hlv:g.lv<=j)(hst:jaf (y::ys)=true)(h:PA X (y::ys) (T3A X.K (evL G es))) :
  Snd G X (.call f md es) (.Call (.Name x p) (y::ys) [] pos):=by
 subst hn;have hv:PE X (.Call (.Name g.name p) (y::ys) [] pos) (T3E X.K (ev G (.call f md es)).v):=by
  refine imE (jAZ (jz5 (o.fns f g hf hlv) o.room hlv (by rw[o.sc];exact hg) jEp T3A.mono h hst)) fun σ H Q=>?_;rintro⟨w,μ,ρ,d,μ',R,S,e,q⟩;obtain⟨ds,μ1,e1,e⟩:=Out.bind_ok e;unfold jpw at e;rw[hf]at e;refine⟨w,μ,ρ,ds,μ1,R,S,e1,fun w1 H1 vs x1 R1 d1=>?_⟩;show jmZ X.K g.ps.length g.F (vs++[]) H1 (Gho Q) E0;rw[j0x];exact jtV ((jrE e1).trans hp) R1 d1 e fun w2 H2 v x2 R2 d2=>q w2 H2 v (x1.trans x2) R2 d2
 exact⟨hv,(jaj hv rfl).1,(jaj hv rfl).2⟩
theorem jg:∀ks:List Int,DenL K w n (ks.map D.int) (ks.map V.int)
 |[]=>by unfold DenL;rfl
 |k::ks=>by rw[j0c,j0c];unfold DenL;exact⟨_,_,rfl,by unfold Den;rfl,jg ks⟩
end
section
variable {K:PySem.W.Frag} {X:Cx} {G:List FnE} {j:Nat} {c:Stt}
theorem mg_of (o:Ok G j c X){x:Str}(h:x∈jcj):X.mg x=none:=o.mg x h
theorem jaP (o:Ok G j c X){x:Str}(h:jbl c.sc x=true):jbl X.env.scope x=true:=by rw[o.sc];exact h
theorem jw1:∀{ds:List D} {vs:List V} {ks:List Key},DenL K w n ds vs->ksD ds=some ks->vs=ks.map kV
 |[],vs,ks,h,e=>by
  cases e;unfold DenL at h;exact h
 |d::ds,vs,ks,h,e=>by
  unfold DenL at h;obtain⟨v,ws,rfl,h1,h2⟩:=h;unfold ksD at e;split at e
  ·rename_i k r h3 h4;cases e;rw[jn6 h1 h3,jw1 h2 h4];rfl
  ·cases e
theorem jpv:jmq X.K jll (jsX X.K):=by
 intro w μ H ds d μ' vs Q R h e q;unfold jll at e;split at e
 ·split at e
  ·rename_i xs hs;split at e
   ·rename_i zs hz;split at e
    ·rename_i hl;cases e;obtain⟨v,rfl,h1⟩:=jnS h;obtain⟨a,us,rfl,s1,l1⟩:=jfV R h1 hs;have:=jhN l1 hz;subst this;refine⟨a,_,_,rfl,s1,⟨zs,rfl,hl,rfl⟩,fun l hn=>⟨l,_,rfl,jag,j0A (jvE zs) hl,?_⟩⟩;obtain⟨R',x⟩:=R.frz hn (jz9 l (ddS zs).length);exact q _ _ _ x R' (by unfold Den;rfl)
    ·cases e
   ·cases e
  ·cases e
 ·cases e
theorem jvK:∀{ds:List D} {vs:List V} {as bs:List D},DenL K w n ds vs->jzD ds=some (as,bs)->∃xs ys,DenL K w n as xs/\DenL K w n bs ys/\Paired (fun p x=>∃T,x=V.ref T/\w.Z T=some (.tup [p.1,p.2])) (xs.zip ys) vs/\xs.length=ys.length
 |[],vs,as,bs,h,e=>by
  cases e;unfold DenL at h;subst h;exact⟨[],[],by unfold DenL;rfl,by unfold DenL;rfl,.nil,rfl⟩
 |d::ds,vs,as,bs,h,e=>by
  unfold jzD at e;split at e
  ·rename_i z;cases z
  ·rename_i k v r z;cases z;obtain⟨⟨as',bs'⟩,h3,h4⟩:=jaQ e;cases h4;unfold DenL at h;obtain⟨u,ws,rfl,h1,h2⟩:=h;unfold Den at h1;obtain⟨T,xs,rfl,hz,hd⟩:=h1;obtain⟨x,y,rfl,d1,d2⟩:=jzI hd;obtain⟨us,ys,k1,k2,k3,k4⟩:=jvK h2 h3;exact⟨x::us,y::ys,by unfold DenL;exact⟨x,us,rfl,d1,k1⟩,by unfold DenL;exact⟨y,ys,rfl,d2,k2⟩,.cons ⟨T,rfl,hz⟩ k3,by simp[k4]⟩
  ·cases e
theorem jkb:∀{xs:List α} {ys:List β},Paired F (xs.map f) ys->Paired (fun a b=>F (f a) b) xs ys
 |[],_,h=>by cases h;exact .nil
 |_::_,_,h=>by
  cases h with
  |cons r t=>exact .cons r (jkb t)
theorem jzw (R:Rep K w μ H)(h:DenL K w μ.length ds xs)(hl:ks.length=ds.length)(e:mkK m ks ds μ=.ok d μ')(q:jo1 K w μ.length d μ' Q):∀p,H p=none->Q (.ref p) (upd H p (.dK (ks.zip xs))):=by
 intro p hp
 cases m with
 |false=>
  simp only[mkK,j0H,if_false]at e;cases e;exact jeR R q hp fun w' x hz=>by unfold Den;exact⟨p,xs,rfl,hl,hz,h.mono x⟩
 |true=>
  simp only[mkK,if_true]at e;cases e;obtain⟨w',R',x,hg⟩:=R.cell hp (.dK (ks.zip xs)) (.dK ks ds) (fun w' x=>⟨xs,hl,jag,h.mono x⟩);have hl:(μ++[some (Cl.dK ks ds)]).length=μ.length+1:=by simp
  refine q w' _ _ (by rw[hl];exact x) R' ?_;unfold Den;exact⟨by rw[hl];exact j0Y _,by rw[hg]⟩
theorem jtd:jmq K (jnC m) jA4:=by
 intro w μ H ds d μ' vs Q R h e q;unfold jnC at e;split at e
 ·rename_i d0;split at e
  ·rename_i xs hp;split at e
   ·rename_i as bs hpr;obtain⟨v,rfl,h1⟩:=jnS h;obtain⟨a,us,rfl,s1,l1⟩:∃a us,v=V.ref a/\(H a=some (.lst us)∨H a=some (.tup us))/\DenL K w μ.length xs us:=by
     cases d0 with
     |lst ys=>
      cases hp;unfold Den at h1;obtain⟨a,us,h2,h3,h4⟩:=h1;exact⟨a,us,h2,.inl (R.sub _ _ h3),h4⟩
     |tup ys=>
      cases hp;unfold Den at h1;obtain⟨a,us,h2,h3,h4⟩:=h1;exact⟨a,us,h2,.inr (R.sub _ _ h3),h4⟩
     |_=>cases hp
    obtain⟨xs',ys',k1,k2,k3,k4⟩:=jvK l1 hpr;have lb:=jad k2;split at e
    ·rename_i ks hk;split at e
     ·rename_i hc;have hx:=jw1 k1 hk;subst hx;rw[j0d]at k4;refine⟨a,us,rfl,s1,⟨ks.zip ys',by rw[j1u];omega,by rw[List.map_fst_zip (by omega)];exact hc.2,?_,fun l hn=>?_⟩⟩
      ·have e1:(ks.map kV).zip ys'=(ks.zip ys').map fun p=>(kV p.1,p.2):=by rw[List.zip_map_left];rfl
       rw[e1]at k3;exact Paired.imp' (fun ku x ⟨T,e1,e2⟩=>⟨T,e1,R.sub _ _ e2⟩) (jkb k3)
      ·exact jzw R k2 (by omega) e q l hn
     ·cases e
    ·cases e
   ·cases e
  ·cases e
 ·cases e
theorem jwT (R:Rep K w μ H)(h:Den K w μ.length a v)(e:(je9 μ a).bind jkF=some ns):∃p,v=.ref p/\SqL K H p (ns.map V.int):=by
 cases e1:je9 μ a with
 |none=>rw[e1]at e;cases e
 |some xs=>
  rw[e1]at e;obtain⟨p,us,rfl,s1,l1⟩:=jaU R h e1;have:=ji6 l1 e;subst this;exact⟨p,rfl,s1⟩
theorem juv:jmq K jtw (jB3 K):=by
 intro w μ H ds d μ' vs Q R h e q;unfold jtw at e;split at e
 ·split at e
  ·rename_i ns hn;split at e
   ·rename_i hne;cases e;obtain⟨v,rfl,h1⟩:=jnS h;obtain⟨p,rfl,s1⟩:=jwT R h1 hn;exact⟨p,ns,rfl,s1,hne,jai R q (by unfold Den;rfl)⟩
   ·cases e
  ·cases e
 ·cases e
noncomputable def jqd (w:Wd)(H:Hp):Hp:=fun a=>match w.Z a with
 |some o=>some o
 |none=>match H a with
  |some (.tup xs)=>some (.tup xs)
  |_=>none
theorem Rep.tups (R:Rep K w μ H):Rep K ⟨jqd w H,w.γ⟩ μ H/\Ext w ⟨jqd w H,w.γ⟩ μ.length μ.length/\∀b xs,H b=some (.tup xs)->jqd w H b=some (.tup xs):=by
 have hx:Ext w ⟨jqd w H,w.γ⟩ μ.length μ.length:=by
  refine⟨fun b o h=>?_,fun _ _=>rfl,j0l _⟩;show jqd w H b=some o;unfold jqd;rw[h]
 refine⟨⟨fun b o h=>?_,fun k cl h=>?_,R.inj⟩,hx,fun b xs h=>?_⟩
 ·replace h:jqd w H b=some o:=h;unfold jqd at h
  cases e:w.Z b with
  |some o'=>rw[e]at h;cases h;exact R.sub _ _ e
  |none=>
   rw[e]at h;dsimp only at h;split at h
   ·rename_i xs hb;cases h;exact hb
   ·cases h
 ·obtain⟨h1,h2⟩:=R.liv k cl h;refine⟨?_,h2.mono hx rfl⟩;show jqd w H (w.γ k)=none;unfold jqd;rw[h1];dsimp only;split
  ·rename_i xs hb
   cases cl with
   |lst ds=>obtain⟨_,g,_⟩:=h2;rw[hb]at g;cases g
   |dK ks vs=>obtain⟨_,_,g,_⟩:=h2;rw[hb]at g;cases g
   |dT ks vs=>obtain⟨_,_,g,_⟩:=h2;rw[hb]at g;cases g
   |obj C fs ds=>obtain⟨_,_,_,g,_⟩:=h2;rw[hb]at g;cases g
  ·rfl
 ·unfold jqd
  cases e:w.Z b with
  |some o=>exact(R.sub _ _ e).symm.trans h
  |none=>dsimp only;rw[h]
theorem jB9:∀{ks:List (List Key)} {ts:List T3},t3D ks=some ts->ks=ts.map k3
 |[],ts,e=>by cases e;rfl
 |k::ks,ts,e=>by
  unfold t3D at e;split at e
  ·obtain⟨tr,h1,rfl⟩:=jaQ e;rw[j0c,<- jB9 h1];rfl
  ·cases e
theorem jrF (h1:jBI ts us)(h2:jBI ts vs):us=vs:=
 List.Perm.eq_of_pairwise (fun a b _ _ x y=>by rw[jeQ x]at y;cases y) h1.2 h2.2 (h1.1.trans h2.1.symm)
theorem jk5 (R:Rep K w μ H)(h:Den K w μ.length d v)(e:jjq μ d=some (ks,vs)):∃a xs,v=.ref a/\ks.length=vs.length/\H a=some (.dT (ks.zip xs))/\DenL K w μ.length vs xs:=by
 cases d with
 |dT ks' vs'=>
  simp only[jjq,j0w,Prod.mk.injEq]at e;obtain⟨rfl,rfl⟩:=e;unfold Den at h;obtain⟨a,xs,h1,h2,h3,h4⟩:=h;exact⟨a,xs,h1,h2,R.sub _ _ h3,h4⟩
 |cel k=>
  simp only[jjq]at e;split at e
  ·rename_i ks' vs' hk;simp only[j0w,Prod.mk.injEq]at e;obtain⟨rfl,rfl⟩:=e;unfold Den at h;obtain⟨xs,h0,h1,h2⟩:=(R.liv k _ hk).2;exact⟨_,xs,h.2,h0,h1,h2⟩
  ·cases e
 |_=>cases e
theorem joG (ht:∀b xs,H b=some (.tup xs)->w.Z b=some (.tup xs)):∀{vs:List V} {us:List T3},Paired (jyS v3 H) vs us->DenL K w n (us.map fun t=>.tup [.int t.1,.str t.2.1,.str t.2.2]) vs
 |_,_,.nil=>by unfold DenL;rfl
 |_,_,.cons (b:=t) ⟨p,e,hp⟩ r=>by
  rw[j0c];unfold DenL;refine⟨_,_,rfl,?_,joG ht r⟩;unfold Den;refine⟨p,_,e,ht _ _ hp,?_⟩;unfold v3 DenL;refine⟨_,_,rfl,by unfold Den;rfl,?_⟩;unfold DenL;refine⟨_,_,rfl,by unfold Den;rfl,?_⟩;unfold DenL;exact⟨_,_,rfl,by unfold Den;rfl,by unfold DenL;rfl⟩
theorem jrR:jmq K (jka m) jvZ:=by
 intro w μ H ds d μ' vs Q R h e q;unfold jka at e;split at e
 ·rename_i ts hts;split at hts
  ·rename_i d0;split at e
   ·rename_i hc;obtain⟨v,rfl,h1⟩:=jnS h
    cases hp:jjq μ d0 with
    |none=>rw[hp]at hts;cases hts
    |some p=>
     obtain⟨ks,ws⟩:=p;rw[hp]at hts;obtain⟨a,xs,rfl,hl,hz,l2⟩:=jk5 R h1 hp;refine⟨a,_,ts,rfl,hz,?_,hc.1,fun p vs us hpn hpm hpw hrow=>?_⟩
     ·rw[List.map_fst_zip (by rw[<- jad l2];omega)];exact jB9 hts
     ·have hu:=jrF (ts:=ts) ⟨hpm,hpw⟩ hc.2.choose_spec;obtain⟨R',x,ht⟩:=R.tups;have hd:=joG (K:=K) (w:=⟨jqd w H,w.γ⟩) (n:=μ.length) ht hrow;rw[hu]at hd;exact jfv R' hd e (fun w2 H2 v x2 R2 d2=>q w2 H2 v (x.trans x2) R2 d2) p hpn
   ·cases e
  ·cases hts
 ·cases e
theorem jvU (h:SqL K H a xs∨SqT K H a xs):∃b,SqB b K H a xs:=by
 rcases h with h|h
 ·exact⟨false,h⟩
 ·exact⟨true,h⟩
theorem jnY:jmq K (jdm m) (jo9 K):=by
 intro w μ H ds d μ' vs Q R h e q;unfold jdm at e;split at e
 ·split at e
  ·rename_i xs ys hx hy;split at e
   ·rename_i zs hz;split at e
    ·rename_i hc;obtain⟨v,u,rfl,h1,h2⟩:=jzI h;obtain⟨a,us,rfl,s1,l1⟩:=jfV R h1 hx;obtain⟨b,ws,rfl,s2,l2⟩:=jfV R h2 hy;have:=jhN l1 hz;subst this;obtain⟨b1,s1⟩:=jvU s1;obtain⟨b2,s2⟩:=jvU s2;have hk:(zs.map (Sum.inr:Str->Key)).length=ys.length:=by rw[j0d];exact hc.1
     refine⟨a,b,b1,b2,zs,ws,rfl,s1,s2,by rw[<- jad l2,hc.1],hc.2.1,hc.2.2,?_⟩
     cases m with
     |false=>
      rw[if_neg j0e]at e;cases e;exact .inr fun l o es ep hl ho=>jeR R q hl fun w' x hz=>by unfold Den;exact⟨l,o,es,ep,ws,rfl,hk,ho,hz,l2.mono x⟩
     |true=>
      refine .inl fun l hl=>?_;rw[if_pos rfl]at e;cases e;obtain⟨w',R',x,hg⟩:=R.cell hl (.dK ((zs.map Sum.inr).zip ws)) (.dK (zs.map Sum.inr) ys) (fun w' x=>⟨ws,hk,jag,l2.mono x⟩);have hlen:(μ++[some (Cl.dK (zs.map Sum.inr) ys)]).length=μ.length+1:=by simp
      refine q w' _ _ (by rw[hlen];exact x) R' ?_;unfold Den;exact⟨by rw[hlen];exact j0Y _,by rw[hg]⟩
    ·cases e
   ·cases e
  ·cases e
 ·cases e
theorem jbE {x:Str}{id:String}{f:List D->M->Out D}{r:List V->Hp->VK->Prop}{es:List E}{y:Expr}{ys:List Expr}{p pos:Pos}(o:Ok G j c X)(hc:jbe X (.builtin id) r)(hs:jmq X.K f r)(hg:jbl c.sc x=true)(hm:x∈jcj)(hv:bootBuiltins x=some (.builtin id))(hst:jaf (y::ys)=true)(h:PA X (y::ys) (T3A X.K (evL G es))) :
  PE X (.Call (.Name x p) (y::ys) [] pos) (T3E X.K fun ρ μ=>(evL G es ρ μ).bind fun ds μ1=>f ds μ1):=imE (jf0 hc (jaP o hg) (mg_of o hm) hv h hst) fun σ H Q q=>jgD hs q
theorem jg3 (o:Ok G j c X)(hc:jbe X (.type T) r)(hs:jmq X.K f r)(hg:jbl c.sc x=true)(hm:x∈jcj)(hv:bootBuiltins x=some (.type T))(hst:jaf (y::ys)=true)(h:PA X (y::ys) (T3A X.K (evL G es))) :
  PE X (.Call (.Name x p) (y::ys) [] pos) (T3E X.K fun ρ μ=>(evL G es ρ μ).bind fun ds μ1=>f ds μ1):=imE (jjP hc (jaP o hg) (mg_of o hm) hv h hst) fun σ H Q q=>jgD hs q
theorem jqx (e:evL G [e1] ρ μ=.ok ds μ'):∃d,ds=[d]/\(ev G e1).v ρ μ=.ok d μ':=by
 obtain⟨d,μ1,e1',e⟩:=Out.bind_ok e;cases e;exact⟨d,rfl,e1'⟩
theorem jCq (o:Ok G j c X) (hg:jbl c.sc "isinstance" =true) (hx:x=Str.ofString n) (hgx:jbl c.sc x=true) (hn:jcE.isTn n=true) (ha:jaw a=true) (h:PE X a (T3E X.K (ev G e1).v)) :
  PE X (.Call (.Name "isinstance" p) [a,.Name x q] [] pos) (T3E X.K fun ρ μ=>(evL G [e1] ρ μ).bind fun ds μ1=>jDf n ds μ1):=by
 subst hx;have hb':bootBuiltins (Str.ofString n)=some (.type n)/\Str.ofString n∈jcj:=by
  unfold jcE.isTn at hn;simp only[j1r,beq_iff_eq]at hn;rcases hn with((((rfl|rfl)|rfl)|rfl)|rfl)|rfl
  ·exact⟨jv0,by decide +kernel⟩
  ·exact⟨jri,by decide +kernel⟩
  ·exact⟨jvs,by decide +kernel⟩
  ·exact⟨jns,by decide +kernel⟩
  ·exact⟨jkO,by decide +kernel⟩
  ·exact⟨jlc,by decide +kernel⟩
 have h2:PE X (.Name (Str.ofString n) q) (nC (.ty n)):=(jm7 (v:=.ty n) (jaP o hgx) (mg_of o hb'.2) hb'.1 rfl).h;have hA:PA X [a,.Name (Str.ofString n) q] (jp5 (T3E X.K (ev G e1).v) (jp5 (nC (.ty n)) jDV)):=pac h (pac h2 ji7) ha;refine imE (jf0 (r:=jDz X.K n) ju1 (jaP o hg) (mg_of o (by decide +kernel)) jgh hA (by unfold jaf;simp[ha];rfl)) fun σ H Q=>?_;rintro⟨w,μ,ρ,d,μ',R,S,e,q⟩;obtain⟨ds,μ1,e1,e⟩:=Out.bind_ok e;obtain⟨d0,rfl,e2⟩:=jqx e1;exact⟨w,μ,ρ,d0,μ1,R,S,e2,fun w1 H1 v x1 R1 d1=>jxJ R1 (DenL.one d1) e fun w3 H3 v x3 R3 d3=>q w3 H3 v (x1.trans x3) R3 d3⟩
theorem juL (hn:jcE.isTn n=true):bootBuiltins (Str.ofString n)=some (.type n)/\Str.ofString n∈jcj:=by
 unfold jcE.isTn at hn;simp only[j1r,beq_iff_eq]at hn;rcases hn with((((rfl|rfl)|rfl)|rfl)|rfl)|rfl
 ·exact⟨jv0,by decide +kernel⟩
 ·exact⟨jri,by decide +kernel⟩
 ·exact⟨jvs,by decide +kernel⟩
 ·exact⟨jns,by decide +kernel⟩
 ·exact⟨jkO,by decide +kernel⟩
 ·exact⟨jlc,by decide +kernel⟩
theorem jyj (o:Ok G j c X) (hg:jbl c.sc "isinstance" =true) (hx:x=Str.ofString n) (hy:y=Str.ofString m) (hgx:jbl c.sc x=true) (hgy:jbl c.sc y=true) (hn:jcE.isTn n=true) (hm:jcE.isTn m=true) (ha:jaw a=true) (h:PE X a (T3E X.K (ev G e1).v)) :
  PE X (.Call (.Name "isinstance" p) [a,.Tuple [.Name x q,.Name y q'] k r] [] pos) (T3E X.K fun ρ μ=>(evL G [e1] ρ μ).bind fun ds μ1=>jxV n m ds μ1):=by
 subst hx hy;have h2:PE X (.Name (Str.ofString n) q) (nC (.ty n)):=(jm7 (v:=.ty n) (jaP o hgx) (mg_of o (juL hn).2) (juL hn).1 rfl).h;have h3:PE X (.Name (Str.ofString m) q') (nC (.ty m)):=(jm7 (v:=.ty m) (jaP o hgy) (mg_of o (juL hm).2) (juL hm).1 rfl).h;have hA:PA X [a,.Tuple [.Name (Str.ofString n) q,.Name (Str.ofString m) q'] k r] _:=pac h (pac (jvw (pac h2 (pac h3 ji7))) ji7) ha;refine imE (jf0 (r:=jBC X.K n m) jro (jaP o hg) (mg_of o (by decide +kernel)) jgh hA (by unfold jaf;simp[ha];rfl)) fun σ H Q=>?_;rintro⟨w,μ,ρ,d,μ',R,S,e,q⟩;obtain⟨ds,μ1,e1,e⟩:=Out.bind_ok e;obtain⟨d0,rfl,e2⟩:=jqx e1;refine⟨w,μ,ρ,d0,μ1,R,S,e2,fun w1 H1 v x1 R1 d1=>⟨by show 2<=sizeLine;decide,fun p1 hp1=>?_⟩⟩;obtain⟨R2,x2⟩:=R1.frz hp1 (.tup [.ty n,.ty m]);unfold jxV at e;dsimp only at e;split at e
 ·rename_i t ht;split at e
  ·rename_i b hb;cases e;exact⟨v,p1,_,_,d0,t,b,rfl,SqT.of jag,R2,d1.mono x2,ht,hb,q _ _ _ (x1.trans x2) R2 (by unfold Den;rfl)⟩
  ·cases e
 ·cases e
theorem jn2 {e:Expr}{r:S3->M->Out (List D)}:PE X e (T3E X.K fun ρ μ=>(r ρ μ).bind fun _ _=>Out.bad):=fun pins s σ H Q I ⟨w,μ,ρ,d,μ',R,S,e,q⟩=>by
 obtain⟨_,_,_,e⟩:=Out.bind_ok e;cases e
theorem jB5 (o:Ok G j c X)(hx:jos b=x)(hg:jbl c.sc x=true)(hst:jaf (y::ys)=true)(hb:jcE c b (y::ys)=some as)(hA:PA X as (T3A X.K (evL G es)))(h1:∀e a,es=[e]->as=[a]->PE X a (T3E X.K (ev G e).v))(hl:es.length=as.length) :
  Snd G X (.bi b m es) (.Call (.Name x p) (y::ys) [] pos):=by
 subst hx;have hv:PE X (.Call (.Name (jos b) p) (y::ys) [] pos) (T3E X.K (ev G (.bi b m es)).v):=by
  cases b with
  |len=>cases hb;exact jbE o (jmI.or jlH) jyZ hg (by decide +kernel) jv2 hst hA
  |sum=>cases hb;exact jbE o (jt7 o.calm) jzz hg (by decide +kernel) jzZ hst hA
  |min2=>cases hb;exact jbE o (jrx o.calm) jxe hg (by decide +kernel) jCw hst hA
  |max2=>cases hb;exact jbE o (jqv o.calm) jzC hg (by decide +kernel) jsE hst hA
  |sortD=>cases hb;exact jbE o (jmr o.calm) jrR hg (by decide +kernel) jmz hst hA
  |maxL=>cases hb;exact jbE o (jqG o.calm) juv hg (by decide +kernel) jsE hst hA
  |dict=>cases hb;exact jg3 o (jqh o.calm (by have:=o.room.un;omega)) jtd hg (by decide +kernel) jlc hst hA
  |list=>cases hb;exact jg3 o jlZ jtX hg (by decide +kernel) jns hst hA
  |tuple=>cases hb;exact jg3 o jlb jqN hg (by decide +kernel) jkO hst hA
  |int=>cases hb;exact jn2
  |all=>cases hb;exact jbE o jtb (jv7 o.calm) hg (by decide +kernel) jCl hst hA
  |str=>cases hb;exact jn2
  |isT n=>
   simp only[jcE]at hb;split at hb
   ·rename_i a t heq;split at hb
    ·rename_i x hx;split at hb
     ·rename_i hc;cases hb;cases heq;obtain⟨q,rfl⟩:=jbH hx;simp only[j0a,beq_iff_eq]at hc;obtain⟨⟨⟨c1,c2⟩,c3⟩,c4⟩:=hc;obtain⟨e1,rfl⟩:∃e1,es=[e1]:=j0W.mp hl;exact jCq o hg c1 c2 c3 c4 (h1 e1 _ rfl rfl)
     ·cases hb
    ·cases hb
   ·cases hb
  |isT2 n m=>
   simp only[jcE]at hb;split at hb
   ·rename_i a t heq;split at hb
    ·rename_i x y hx;split at hb
     ·rename_i hc;cases hb;cases heq;obtain⟨q,q',k,r,rfl⟩:=jqH hx;simp only[j0a,beq_iff_eq]at hc;obtain⟨⟨⟨⟨⟨⟨c1,c2⟩,c3⟩,c4⟩,c5⟩,c6⟩,c7⟩:=hc;obtain⟨e1,rfl⟩:∃e1,es=[e1]:=j0W.mp hl;exact jyj o hg c1 c2 c3 c4 c5 c6 c7 (h1 e1 _ rfl rfl)
     ·cases hb
    ·cases hb
   ·cases hb
  |listRange=>cases hb
  |lenSet=>
   simp only[jcE]at hb;split at hb
   ·rename_i e heq;split at hb
    ·rename_i x a hx;split at hb
     ·rename_i hc;cases hb;cases heq;obtain⟨p2,q2,rfl⟩:=jge hx;simp only[j0a,beq_iff_eq]at hc;obtain⟨⟨c1,c2⟩,c3⟩:=hc;subst c1;exact imE (jqM o.calm (by have:=o.room.un;omega) (jaP o hg) (mg_of o (by decide +kernel)) (jaP o c2) (mg_of o (by decide +kernel)) hA c3) fun σ H Q q=>jgD jpv q
     ·cases hb
    ·cases hb
   ·cases hb
  |dictZip=>
   simp only[jcE]at hb;split at hb
   ·rename_i e heq;split at hb
    ·rename_i x a b hx;split at hb
     ·rename_i hc;cases hb;cases heq;obtain⟨p2,q2,rfl⟩:=jge hx;simp only[j0a,beq_iff_eq]at hc;obtain⟨⟨c1,c2⟩,c3⟩:=hc;subst c1;exact imE (jpl o.calm (jaP o hg) (mg_of o (by decide +kernel)) (jaP o c2) (mg_of o (by decide +kernel)) hA c3) fun σ H Q q=>jgD jnY q
     ·cases hb
    ·cases hb
   ·cases hb
 exact⟨hv,(jaj hv rfl).1,(jaj hv rfl).2⟩
theorem jAC (o:Ok G j c X)(hz:Snd G X ob z)(hp:jaN z=true)(hst:jaf (y::ys)=true)(hl:ys.length<28)(hline:(apos.endLine==cpos.line)=true)(hA:PA X (y::ys) (T3A X.K (evL G es))) :
  Snd G X (.mt b ob es) (.Call (.Attribute z (joJ b) apos) (y::ys) [] cpos):=by
 have hv:PE X (.Call (.Attribute z (joJ b) apos) (y::ys) [] cpos) (T3E X.K (ev G (.mt b ob es)).v):=by
  cases b with
  |append=>exact imE (jzX PySem.F.plainAttrs_list PySem.F.slot_list_append PySem.F.type_list_append jrM ⟨hz.v⟩ ⟨hA⟩ hp hst hl hline).h fun σ H Q q=>jrP jzv (fun w μ H ob x R h e=>jmv (.inl rfl) R h e) q
  |extend=>exact imE (jzX PySem.F.plainAttrs_list PySem.F.slot_list_extend PySem.F.type_list_extend jqQ ⟨hz.v⟩ ⟨hA⟩ hp hst hl hline).h fun σ H Q q=>jrP jxL (fun w μ H ob x R h e=>jmv (.inr rfl) R h e) q
  |split=>
   intro pins s σ H Q I hw;obtain⟨w,μ,ρ,d,μ',R,S,e,q⟩:=hw;obtain⟨x,μ1,e1,e⟩:=Out.bind_ok e;split at e
   ·obtain⟨_,_,_,e⟩:=Out.bind_ok e;cases e
   ·cases e
  |join=>
   intro pins s σ H Q I hw;obtain⟨w,μ,ρ,d,μ',R,S,e,q⟩:=hw;obtain⟨x,μ1,e1,e⟩:=Out.bind_ok e;split at e
   ·obtain⟨_,_,_,e⟩:=Out.bind_ok e;cases e
   ·cases e
 exact⟨hv,(jaj hv rfl).1,(jaj hv rfl).2⟩
theorem joD (o:Ok G j c X)(h:jpA c i e=true):PG X e (jeW i)/\jaw e=true:=by
 unfold jpA at h;split at h
 ·rename_i x pos;refine⟨?_,rfl⟩;split at h
  ·exact jzr (by rw[o.hN];exact o.nd) (by rw[o.hN,o.sc];exact h)
  ·rename_i hc;exact jtj (by rw[o.hN];exact o.nd) (by rw[o.hN,o.sc];exact h) (o.fn (by simpa using hc) x)
 ·cases h
noncomputable def gNs:List Nat->TGs
 |[]=>jER
 |i::is=>jBo (jeW i) (gNs is)
theorem joT (o:Ok G j c X):∀{is:List Nat} {es:List Expr},jtv c is es=true->PGs X es (gNs is)/\es.length=is.length
 |[],[],_=>⟨jwZ,rfl⟩
 |[],_::_,h=>by cases h
 |_::_,[],h=>by cases h
 |i::is,e::es,h=>by
  unfold jtv at h;simp only[j0a]at h;obtain⟨h1,h2⟩:=h;obtain⟨p1,p2⟩:=joD o h1;obtain⟨q1,q2⟩:=joT o h2;exact⟨jvf p1 q1 (by rw[jkx p2];rfl),by simp[q2]⟩
theorem jo2:∀{is:List Nat} {ds:List D} {vs:List V} {ρ ρ':S3} {σ:_L2.St} {H:Hp} {Q:_L2.St->Hp->Prop},DenL K w n ds vs->jb1 K w n ρ σ->juQ is ds ρ=some ρ'->(∀σ',jb1 K w n ρ' σ'->Q σ' H)->gNs is vs σ H Q/\ds.length=is.length
 |[],[],vs,ρ,ρ',σ,H,Q,h,S,e,q=>by
  unfold DenL at h;cases e;exact⟨⟨h,q σ S⟩,rfl⟩
 |[],_::_,_,_,_,_,_,_,_,_,e,_=>by cases e
 |_::_,[],_,_,_,_,_,_,_,_,e,_=>by cases e
 |i::is,d::ds,vs,ρ,ρ',σ,H,Q,h,S,e,q=>by
  unfold DenL at h;obtain⟨v,ws,rfl,h1,h2⟩:=h;obtain⟨g1,g2⟩:=jo2 (is:=is) (H:=H) (Q:=Q) h2 (S.set h1 i) e q;exact⟨⟨v,ws,rfl,g1⟩,by simp[g2]⟩
noncomputable def gOf (K:PySem.W.Frag):Tg->TG
 |.nm i=>jeW i
 |.tp is=>jEF K is.length (gNs is)
theorem jf9 (tg:Tg):jAa K tg (gOf K tg):=by
 intro w μ H ρ ρ' σ d v Q R S hd e q
 cases tg with
 |nm i=>
  cases e;exact q _ (S.set hd i)
 |tp is=>
  cases d with
  |tup ds=>
   obtain⟨a,xs,rfl,s1,l1⟩:=jjd R hd;obtain⟨g1,g2⟩:=jo2 (H:=H) (Q:=Q) l1 S e q;exact⟨a,xs,rfl,s1,by rw[<- jad l1,g2],g1⟩
  |_=>cases e
theorem jt0 (o:Ok G j c X)(h:jjo c tg t=true):PG X t (gOf X.K tg)/\jaw t=true:=by
 unfold jjo at h;split at h
 ·exact joD o h
 ·rename_i is es k pos;simp only[j0a]at h;obtain⟨h1,h2⟩:=h;obtain⟨p1,p2⟩:=joT o h1;exact⟨jzT o.calm p1 ((jmV h2).1.trans p2) (jmV h2).2,rfl⟩
 ·cases h
theorem jym:evL G []=fun _ μ=>.ok [] μ:=rfl
theorem ju7:evL G (e::es)=fun ρ μ=>((ev G e).v ρ μ).bind fun d μ1=>(evL G es ρ μ1).bind fun ds μ2=>.ok (d::ds) μ2:=rfl
theorem jur:evTs G []=fun _ μ=>.ok true μ:=rfl
theorem juO:evTs G [e]=(ev G e).t:=rfl
end
section
variable {K:PySem.W.Frag} {X:Cx} {G:List FnE} {j:Nat} {c:Stt}
theorem jvL (h:nmG G c f x=true):∃g,G[f]?=some g/\g.name=x/\jbl c.sc x=true:=by
 unfold nmG at h;split at h
 ·rename_i g hg;simp only[j0a,beq_iff_eq]at h;exact⟨g,hg,h.1,h.2⟩
 ·cases h
theorem jdI (h:G[f]?=some g):jj4 G f=g.dat:=by unfold jj4;rw[h];rfl
theorem jo6 (z:Str):∀{kvs:List (Str×D)} {xs:List V},DenL K wd n (kvs.map (·.2)) xs->(∀d,jeV z kvs=some d->∃v,jeZ ((kvs.map (·.1)).zip xs) z=some v/\Den K wd n d v)/\(jeV z kvs=none->jeZ ((kvs.map (·.1)).zip xs) z=none)
 |[],xs,h=>⟨fun d e=>(by cases e),fun _=>rfl⟩
 |p::kvs,xs,h=>by
  rw[j0c]at h;unfold DenL at h;obtain⟨v,ws,rfl,h1,h2⟩:=h;obtain⟨i1,i2⟩:=jo6 z h2;rw[j0c,j1n];by_cases c:p.1=z
  ·have a1:jeV z (p::kvs)=some p.2:=by unfold jeV;rw[if_pos c]
   have a2:jeZ ((p.1,v)::(kvs.map (·.1)).zip ws) z=some v:=by simp[jeZ,j0O,c]
   rw[a1,a2];exact⟨fun d e=>by cases e;exact⟨v,rfl,h1⟩,fun e=>by cases e⟩
  ·have a1:jeV z (p::kvs)=jeV z kvs:=by rw[jeV,if_neg c]
   have a2:jeZ ((p.1,v)::(kvs.map (·.1)).zip ws) z=jeZ ((kvs.map (·.1)).zip ws) z:=by simp[jeZ,j0O,c]
   rw[a1,a2];exact⟨i1,i2⟩
theorem jrI (o:Ok G j c X)(h:jyC G i f=true):∃g C k fs,G[i]?=some g/\g.dat=some (.cls C k fs)/\X.mg g.name=some (.ref C)/\Cls X.K C/\jhb X.K C f:=by
 unfold jyC at h;split at h
 ·rename_i g hg;split at h
  ·rename_i C k fs hd;obtain⟨h1,h2,_,h3⟩:=o.dts i g _ hg hd;exact⟨g,C,k,fs,hg,hd,h1,h2,h3 f (by simpa using h)⟩
  ·cases h
 ·cases h
theorem jnc:∀{fs:List Str} {ds:List D} {xs:List V} {d:D},DenL K w n ds xs->joY f fs ds=some d->∃v,(fs.zip xs).lookup f=some v/\Den K w n d v
 |[],_,_,_,_,e=>by unfold joY at e;cases e
 |_::_,[],_,_,_,e=>by unfold joY at e;cases e
 |g::fs,a::ds,xs,d,h,e=>by
  unfold DenL at h;obtain⟨v,ws,rfl,h1,h2⟩:=h;unfold joY at e;split at e
  ·rename_i hg;subst hg;cases e;exact⟨v,by simp[List.lookup],h1⟩
  ·rename_i hg;obtain⟨u,e1,e2⟩:=jnc h2 e;refine⟨u,?_,e2⟩;have:(f==g)=false:=by simpa using hg
   rw[j1n,List.lookup_cons,this];exact e1
theorem jwc (o:Ok G j c X)(hp:jcr x=true)(hf:jyC G i f=true)(ha:Snd G X a x):Snd G X (.fld a i f) (.Attribute x f pos):=by
 obtain⟨g,C,k,fs,hg,hd,hm,hC,hN⟩:=jrI o hf;have hv:PE X (.Attribute x f pos) (T3E X.K (ev G (.fld a i f)).v):=by
  refine imE (jBP ha.v (jhI hp)) fun σ H Q=>?_;rintro⟨w,μ,ρ,d,μ',R,S,e,q⟩;obtain⟨d1,μ1,e1,e⟩:=Out.bind_ok e;rw[jdI hg,hd]at e;refine⟨w,μ,ρ,d1,μ1,R,S,e1,fun w1 H1 v1 x1 R1 k1=>?_⟩;have e':jAF C f d1 μ1=.ok d μ':=e;unfold jAF at e';split at e'
  ·rename_i C' fs' ds';split at e'
   ·rename_i d0 hg0;cases e';split at hg0
    ·rename_i hcc;subst hcc;unfold Den at k1;obtain⟨b,dx,xs,rfl,h2,h3,h4⟩:=k1;obtain⟨v,l1,l2⟩:=jnc h4 hg0;exact⟨b,C',dx,_,v,rfl,R1.sub _ _ h3,hC,hN,l1,q w1 H1 v x1 R1 l2⟩
    ·cases hg0
   ·cases e'
  ·rename_i kc;split at e'
   ·rename_i C' fs' ds' hk;split at e'
    ·rename_i d0 hg0;cases e';split at hg0
     ·rename_i hcc;subst hcc;unfold Den at k1;obtain⟨dx,xs,h2,h3,h4⟩:=(R1.liv kc _ hk).2;obtain⟨v,l1,l2⟩:=jnc h4 hg0;exact⟨w1.γ kc,C',dx,_,v,k1.2,h3,hC,hN,l1,q w1 H1 v x1 R1 l2⟩
     ·cases hg0
    ·cases e'
   ·cases e'
  ·cases e'
 exact⟨hv,(jaj hv rfl).1,(jaj hv rfl).2⟩
theorem jwW (h:∀σ H Q,¬ t σ H Q):PE X e t:=fun pins s σ H Q I hw=>(h σ H Q hw).elim
theorem jBN (o:Ok G j c X)(h:nmG G c f x=true):Snd G X (.gl f) (.Name x pos):=by
 obtain⟨g,hg,rfl,hok⟩:=jvL h;have hv:PE X (.Name g.name pos) (T3E X.K (ev G (.gl f)).v):=by
  cases hd:g.dat with
  |none=>
   intro pins s σ H Q I hw;obtain⟨w,μ,ρ,d,μ',R,S,e,q⟩:=hw;have e':glD (jj4 G f) μ=.ok d μ':=e;rw[jdI hg,hd]at e';cases e'
  |some t=>
   cases t with
   |dct kvs=>
    intro pins s σ H Q I hw;obtain⟨w,μ,ρ,d,μ',R,S,e,q⟩:=hw;have e':glD (jj4 G f) μ=.ok d μ':=e;rw[jdI hg,hd]at e';cases e'
   |cls C k fs=>
    intro pins s σ H Q I hw;obtain⟨w,μ,ρ,d,μ',R,S,e,q⟩:=hw;have e':glD (jj4 G f) μ=.ok d μ':=e;rw[jdI hg,hd]at e';cases e'
   |cst d0=>
    obtain⟨u,v,hm,rv,hden⟩:=o.dts f g _ hg hd;refine imE (jon (jaP o hok) hm rv) fun σ H Q=>?_;rintro⟨w,μ,ρ,d,μ',R,S,e,q⟩;have e':glD (jj4 G f) μ=.ok d μ':=e;rw[jdI hg,hd]at e';cases e';exact jai R q (hden _ _)
 exact⟨hv,(jaj hv rfl).1,(jaj hv rfl).2⟩
theorem jue (o:Ok G j c X)(h:nmG G c f x=true)(ha:Snd G X a y)(hd:Snd G X d z)(hp:jaN (.Name x p)=true)(hst:jaf [y,z]=true)(hl:(apos.endLine==cpos.line)=true) :
  Snd G X (.gget f a d) (.Call (.Attribute (.Name x p) "get" apos) [y,z] [] cpos):=by
 obtain⟨g,hg,rfl,hok⟩:=jvL h;have hv:PE X (.Call (.Attribute (.Name g.name p) "get" apos) [y,z] [] cpos) (T3E X.K (ev G (.gget f a d)).v):=by
  have bad:(∀kvs,g.dat≠some (.dct kvs))->PE X (.Call (.Attribute (.Name g.name p) "get" apos) [y,z] [] cpos) (T3E X.K (ev G (.gget f a d)).v):=fun hn=>jwW fun σ H Q=>by
   rintro⟨w,μ,ρ,d0,μ',R,S,e,q⟩;obtain⟨d1,μ1,e1,e⟩:=Out.bind_ok e;obtain⟨d2,μ2,e2,e⟩:=Out.bind_ok e;rw[jdI hg]at e;have hb:jrW g.dat d1 d2 μ2=.bad:=by
    unfold jrW
    cases hq:g.dat with
    |none=>rfl
    |some t=>
     cases t with
     |cst _=>rfl
     |cls _ _ _=>rfl
     |dct kvs=>exact absurd hq (hn kvs)
   rw[hb]at e;cases e
  cases hdt:g.dat with
  |none=>exact bad fun kvs e=>by rw[hdt]at e;cases e
  |some t=>
   cases t with
   |cst d0=>exact bad fun kvs e=>by rw[hdt]at e;cases e
   |cls _ _ _=>exact bad fun kvs e=>by rw[hdt]at e;cases e
   |dct kvs=>
    obtain⟨A,xs,hm,hmd,hden⟩:=o.dts f g _ hg hdt;refine imE (jvh ⟨jon (v:=.ref A) (jaP o hok) hm rfl⟩ ⟨ha.v⟩ ⟨hd.v⟩ hp hst hl).h fun σ H Q=>?_;rintro⟨w,μ,ρ,d0,μ',R,S,e,q⟩;obtain⟨d1,μ1,e1,e⟩:=Out.bind_ok e;obtain⟨d2,μ2,e2,e⟩:=Out.bind_ok e;rw[jdI hg,hdt]at e;refine⟨A,_,rfl,hmd,w,μ,ρ,d1,μ1,R,S,e1,fun w1 H1 v1 x1 R1 k1=>⟨w1,μ1,ρ,d2,μ2,R1,S.mono x1,e2,fun w2 H2 v2 x2 R2 k2=>?_⟩⟩
    cases d1 with
    |str zz=>
     have e':Out.ok ((jeV zz kvs).getD d2) μ2=.ok d0 μ':=e;simp only[Out.ok.injEq]at e';obtain⟨rfl,rfl⟩:=e';have k1':=k1;unfold Den at k1';refine⟨zz,k1',?_⟩;obtain⟨l1,l2⟩:=jo6 zz (hden w2 μ2.length);have q':∀w' H' v,Ext w2 w' μ2.length μ2.length->Rep X.K w' μ2 H'->Den X.K w' μ2.length ((jeV zz kvs).getD d2) v->Q v H':=fun w3 H3 v x3 R3 d3=>q w3 H3 v ((x1.trans x2).trans x3) R3 d3
     cases hlk:jeV zz kvs with
     |none=>
      rw[hlk]at q';rw[l2 hlk];exact q' w2 H2 v2 (Ext.refl _ _) R2 k2
     |some dd=>
      rw[hlk]at q';obtain⟨v,hv,hdv⟩:=l1 dd hlk;rw[hv];exact q' w2 H2 v (Ext.refl _ _) R2 hdv
    |_=>cases e
 exact⟨hv,(jaj hv rfl).1,(jaj hv rfl).2⟩
end
section
variable {K:PySem.W.Frag} {X:Cx} {G:List FnE} {j:Nat} {c:Stt}
theorem jvp (R:Rep K w μ H)(h:Den K w μ.length d v)(e:jzH d=some k):∃b,v=.ref b/\H b=some (.tup (k.map kV)):=by
 cases d with
 |tup ds=>
  unfold Den at h;obtain⟨a,xs,h1,h2,h3⟩:=h;have:=jw1 h3 e;subst this;exact⟨a,h1,R.sub _ _ h2⟩
 |_=>cases e
theorem jud (R:Rep K w μ H)(h:Den K w μ.length d v)(e:jyq μ d=true):∃a,v=.ref a/\IsD H a:=by
 unfold jyq at e;rw[j1r]at e;rcases e with e|e
 ·obtain⟨p,hp⟩:=Option.isSome_iff_exists.mp e;obtain⟨a,xs,h1,_,h2,_⟩:=jhz R h hp;exact⟨a,h1,.inl ⟨_,h2⟩⟩
 ·obtain⟨p,hp⟩:=Option.isSome_iff_exists.mp e;obtain⟨a,xs,h1,_,h2,_⟩:=jk5 R h hp;exact⟨a,h1,.inr ⟨_,.inl h2⟩⟩
theorem jmo {w:Wd}{μ:M}{H:Hp}{d x:D}{v1 v2:V}{o:Option D}(R:Rep K w μ H)(h1:Den K w μ.length d v1)(h2:Den K w μ.length x v2)(e:jlL μ d x=some o):∃a r,v1=.ref a/\jpr H a v2 r/\(o=none->r=none)/\∀y,o=some y->∃v,r=some v/\Den K w μ.length y v:=by
 unfold jlL at e;split at e
 ·rename_i k hk;obtain⟨⟨ks,vs⟩,h3,rfl⟩:=jaQ e;obtain⟨a,xs,rfl,hl,hz,l2⟩:=jhz R h1 h3;obtain⟨i1,i2⟩:=jf8 k l2 hl;exact⟨a,_,rfl,.inl ⟨_,k,hz,jn6 h2 hk,rfl⟩,i2,i1⟩
 ·split at e
  ·rename_i k p hk hp;cases e;obtain⟨ks,vs⟩:=p;obtain⟨a,xs,rfl,hl,hz,l2⟩:=jk5 R h1 hp;obtain⟨b,rfl,hb⟩:=jvp R h2 hk;obtain⟨i1,i2⟩:=jf8 k l2 hl;exact⟨a,_,rfl,jpr.t hz hb,i2,i1⟩
  ·cases e
theorem jxg (o:Ok G j c X)(ha:Snd G X a x)(hb:Snd G X b y)(hp:jdq y=true):Snd G X (.tix a b) (.Subscript x y pos):=by
 have hv:PE X (.Subscript x y pos) (T3E X.K (ev G (.tix a b)).v):=by
  refine imE (jxE (by have:=jnU o;omega) ha.v hb.v (fun o i=>jia hp o i)) fun σ H Q=>?_;rintro⟨w,μ,ρ,d,μ',R,S,e,q⟩;obtain⟨d1,μ1,e1,e⟩:=Out.bind_ok e;obtain⟨d2,μ2,e2,e⟩:=Out.bind_ok e;refine⟨w,μ,ρ,d1,μ1,R,S,e1,fun w1 H1 v1 x1 R1 k1=>⟨w1,μ1,ρ,d2,μ2,R1,S.mono x1,e2,fun w2 H2 v2 x2 R2 k2=>?_⟩⟩;unfold jBG at e;split at e
  ·rename_i d0 hd;cases e;obtain⟨a,r,h1,h2,_,h3⟩:=jmo R2 (k1.mono x2) k2 hd;obtain⟨v,rfl,h4⟩:=h3 _ rfl;exact⟨a,v,h1,h2,q w2 H2 v (x1.trans x2) R2 h4⟩
  ·cases e
 exact⟨hv,(jaj hv rfl).1,(jaj hv rfl).2⟩
theorem jsB (o:Ok G j c X)(hz:Snd G X ob z)(ha:Snd G X a y)(hf:Snd G X f u)(hp:jaN z=true)(hs:jaf [y,u]=true)(hline:(apos.endLine==cpos.line)=true):Snd G X (.dget2 ob a f) (.Call (.Attribute z "get" apos) [y,u] [] cpos):=by
 have hv:PE X (.Call (.Attribute z "get" apos) [y,u] [] cpos) (T3E X.K (ev G (.dget2 ob a f)).v):=by
  have hs':=hs;unfold jaf at hs';simp only[j0S,j0a]at hs';have e1:starEach [y,u] X.env=[(false,eval y X.env),(false,eval u X.env)]:=by rw[jam hs'.1,jam hs'.2.1];rfl
  refine imE (js9 (by have:=jnU o;omega) hz.v ha.v hf.v ⟨jnP hp,jqX hs (by show 1<28;decide),hline,by rw[e1];rfl⟩) fun σ H Q=>?_;rintro⟨w,μ,ρ,d,μ',R,S,e,q⟩;obtain⟨d1,μ1,e1,e⟩:=Out.bind_ok e;refine⟨w,μ,ρ,d1,μ1,R,S,e1,fun w1 H1 v1 x1 R1 k1=>?_⟩;split at e
  ·rename_i hD;obtain⟨a0,rfl,hI⟩:=jud R1 k1 hD;obtain⟨d2,μ2,e2,e⟩:=Out.bind_ok e;obtain⟨d3,μ3,e3,e⟩:=Out.bind_ok e;refine⟨a0,rfl,hI,w1,μ1,ρ,d2,μ2,R1,S.mono x1,e2,fun w2 H2 v2 x2 R2 k2=>⟨w2,μ2,ρ,d3,μ3,R2,S.mono (x1.trans x2),e3,fun w3 H3 v3 x3 R3 k3=>?_⟩⟩;split at e
   ·rename_i o0 ho;cases e;obtain⟨a,r,h1,h2,h3,h4⟩:=jmo R3 (k1.mono (x2.trans x3)) (k2.mono x3) ho;cases h1;refine⟨r,h2,?_⟩;have x13:=(x1.trans x2).trans x3
    cases o0 with
    |none=>
     rw[h3 rfl];exact q w3 H3 _ x13 R3 k3
    |some y=>
     obtain⟨v,rfl,h5⟩:=h4 y rfl;exact q w3 H3 _ x13 R3 h5
   ·cases e
  ·cases e
 exact⟨hv,(jaj hv rfl).1,(jaj hv rfl).2⟩
theorem jtl:Snd G X (.dnew t) (.Dict [] [] pos):=by
 have hv:PE X (.Dict [] [] pos) (T3E X.K (ev G (.dnew t)).v):=by
  cases t with
  |true=>
   refine imE jte fun σ H Q=>?_;rintro⟨w,μ,ρ,d,μ',R,S,e,q⟩ p hp;cases e;obtain⟨w',R',x,hg⟩:=R.cell hp (.dT []) (.dT [] []) (fun w' x=>⟨[],rfl,jag,by unfold DenL;rfl⟩);have hl:(μ++[some (Cl.dT [] [])]).length=μ.length+1:=by simp
   refine q w' _ _ (by show Ext w w' μ.length (μ++[some (Cl.dT [] [])]).length;rw[hl];exact x) R' ?_;show Den X.K w' (μ++[some (Cl.dT [] [])]).length (.cel μ.length) (.ref p);unfold Den;exact⟨by rw[hl];exact j0Y _,by rw[hg]⟩
  |false=>
   refine imE juK fun σ H Q=>?_;rintro⟨w,μ,ρ,d,μ',R,S,e,q⟩ p hp;cases e;obtain⟨w',R',x,hg⟩:=R.cell hp (.dK []) (.dK [] []) (fun w' x=>⟨[],rfl,jag,by unfold DenL;rfl⟩);have hl:(μ++[some (Cl.dK [] [])]).length=μ.length+1:=by simp
   refine q w' _ _ (by show Ext w w' μ.length (μ++[some (Cl.dK [] [])]).length;rw[hl];exact x) R' ?_;show Den X.K w' (μ++[some (Cl.dK [] [])]).length (.cel μ.length) (.ref p);unfold Den;exact⟨by rw[hl];exact j0Y _,by rw[hg]⟩
 exact⟨hv,(jaj hv rfl).1,(jaj hv rfl).2⟩
theorem T3E.mono:jsH (T3E K r):=fun σ H P P' h ⟨w,μ,ρ,d,μ',R,S,e,q⟩=>⟨w,μ,ρ,d,μ',R,S,e,fun w' H' v x R' d=>h _ _ (q w' H' v x R' d)⟩
theorem jov:T3E K (ev G (.vals0 m a)).v σ H Q->jsx (T3E K (ev G a).v) σ H Q:=by
 rintro⟨w,μ,ρ,d,μ',R,S,e,q⟩;obtain⟨d1,μ1,e1,e⟩:=Out.bind_ok e;refine⟨w,μ,ρ,d1,μ1,R,S,e1,fun w1 H1 v1 x1 R1 k1=>?_⟩;unfold jm at e;split at e
 ·rename_i k;split at e
  ·rename_i ks vs hk;split at e
   ·rename_i h0;subst h0;unfold Den at k1;obtain⟨xs,g0,g1,g2⟩:=(R1.liv k _ hk).2;exact⟨_,k1.2,by simpa using g1,jfv R1 (by unfold DenL;rfl) e fun w2 H2 v x2 R2 d2=>q w2 H2 v (x1.trans x2) R2 d2⟩
   ·cases e
  ·cases e
 ·cases e
theorem jr6 (o:Ok G j c X)(hz:Snd G X a z)(hs:jwz c.N c.sc (jaK t) (jei (jaK t) c.N) scope=true)(hp:jcr z=true)(hl:(apos.endLine==cpos.line)=true):Snd G X (.vals0 m a) (.ListComp el [⟨t,.Call (.Attribute z "values" apos) [] [] cpos,fs,0⟩] scope pos):=by
 have hv:PE X (.ListComp el [⟨t,.Call (.Attribute z "values" apos) [] [] cpos,fs,0⟩] scope pos) (T3E X.K (ev G (.vals0 m a)).v):=
  imE (jux o.calm (csk (by rw[o.hN,o.sc];exact hs)) hz.v (jhI hp) hl T3E.mono) fun σ H Q q=>jov q
 exact⟨hv,(jaj hv rfl).1,(jaj hv rfl).2⟩
theorem jsz (o:Ok G j c X) (ha:Snd G X a y) (hb:Snd G X b v) (hg:jbl c.sc "max" =true) (hs:jaw y=true):Snd G X (.maxDf a b) (.Call (.Name "max" p) [y] [⟨some "default",v,kp⟩] pos):=by
 have hv:PE X (.Call (.Name "max" p) [y] [⟨some "default",v,kp⟩] pos) (T3E X.K (ev G (.maxDf a b)).v):=by
  refine imE (jyr o.calm (jaP o hg) (mg_of o (by decide +kernel)) ⟨ha.v⟩ ⟨hb.v⟩ hs).h fun σ H Q=>?_;rintro⟨w,μ,ρ,d,μ',R,S,e,q⟩;obtain⟨d1,μ1,e1,e⟩:=Out.bind_ok e;obtain⟨d2,μ2,e2,e⟩:=Out.bind_ok e;refine⟨w,μ,ρ,d1,μ1,R,S,e1,fun w1 H1 v1 x1 R1 k1=>⟨w1,μ1,ρ,d2,μ2,R1,S.mono x1,e2,fun w2 H2 v2 x2 R2 k2=>?_⟩⟩;unfold joa at e;split at e
  ·rename_i hn;cases e;obtain⟨pp,us,rfl,s1,l1⟩:=jaU R2 (k1.mono x2) hn;unfold DenL at l1;subst l1;unfold Den at k2;exact⟨pp,_,rfl,k2,s1,q w2 H2 _ (x1.trans x2) R2 (by unfold Den;rfl)⟩
  ·cases e
 exact⟨hv,(jaj hv rfl).1,(jaj hv rfl).2⟩
theorem jlN:∀{l1 l2:List α},(∀a∈l1,∀b∈l2,f a=f b->a=b)->l1.map f=l2.map f->l1=l2
 |[],[],_,_=>rfl
 |[],_::_,_,e=>by cases e
 |_::_,[],_,e=>by cases e
 |a::l1,b::l2,h,e=>by
  rw[j0c,j0c]at e;have e':=List.cons.inj e;rw[h a j0v b j0v e'.1,jlN (fun x hx y hy=>h x (j0p _ hx) y (j0p _ hy)) e'.2]
theorem joO (nd:ts.Nodup){q1 q2:List Nat}(h1:jmQ ts q1)(h2:jmQ ts q2):q1=q2:=by
 have hm:(q1.map fun i=>ts.getD i (0,⟨#[]⟩))=q2.map fun i=>ts.getD i (0,⟨#[]⟩):=
  List.Perm.eq_of_pairwise (fun a b _ _ x y=>by rw[jeQ x]at y;cases y) h1.2 h2.2 ((h1.1.map _).trans (h2.1.map _).symm)
 refine jlN (fun a ha b hb e=>?_) hm;have ha':=j1o.mp (h1.1.mem_iff.mp ha);have hb':=j1o.mp (h2.1.mem_iff.mp hb);have ea:ts[a]?=some (ts.getD a (0,⟨#[]⟩)):=by simp[List.getD,ha']
 have eb:ts[b]?=some (ts.getD b (0,⟨#[]⟩)):=by simp[List.getD,hb']
 exact(List.getElem?_inj ha' nd).mp (by rw[ea,eb,e])
theorem joe:∀{ds:List D} {ts:List T2} {w:Wd} {H:Hp} {xs:List V},jld F μ ds=some ts->Rep K w μ H->DenL K w μ.length ds xs->(∀w' H',Ext w w' μ.length μ.length->Rep K w' μ H'->Kt H')->jlq (jmZ K 1 F) xs ts H Kt
 |[],ts,w,H,xs,e,R,h,q=>by
  cases e;unfold DenL at h;subst h;exact⟨rfl,q w H (Ext.refl _ _) R⟩
 |d::ds,ts,w,H,xs,e,R,h,q=>by
  unfold jld at e;split at e
  ·rename_i i z μ1 hF;split at e
   ·rename_i hμ;subst hμ;obtain⟨tr,h1,rfl⟩:=jaQ e;unfold DenL at h;obtain⟨v,ws,rfl,d1,d2⟩:=h;refine⟨(i,z),tr,rfl,rfl,w,μ1,[d],_,μ1,R,DenL.one d1,hF,fun w' H' u x R' du=>?_⟩;unfold Den at du;obtain⟨b,ys,rfl,hz,hd⟩:=du;obtain⟨y1,y2,rfl,g1,g2⟩:=jzI hd;unfold Den at g1 g2;subst g1 g2;exact⟨b,rfl,R'.sub _ _ hz,joe h1 R' (d2.mono x) fun w2 H2 x2 R2=>q w2 H2 (x.trans x2) R2⟩
   ·cases e
  ·cases e
theorem jlD:∀{ds:List D} {ts:List T2},jld F μ ds=some ts->ds.length=ts.length
 |[],ts,e=>by cases e;rfl
 |d::ds,ts,e=>by
  unfold jld at e;split at e
  ·split at e
   ·obtain⟨tr,h1,rfl⟩:=jaQ e;rw[j0j,j0j,jlD h1]
   ·cases e
  ·cases e
theorem jjV (h:DenL K w n ds xs):∀q:List Nat,DenL K w n (q.map fun i=>ds.getD i .non) (q.map fun i=>xs.getD i .non)
 |[]=>by unfold DenL;rfl
 |i::q=>by
  rw[j0c,j0c];unfold DenL;refine⟨_,_,rfl,?_,jjV h q⟩
  cases e:ds[i]? with
  |none=>
   have e2:xs[i]?=none:=by
    rw[List.getElem?_eq_none_iff]at e ⊢;rw[<- jad h];exact e
   simp only[List.getD,e,e2,Option.getD_none];unfold Den;rfl
  |some d=>
   obtain⟨v,e2,hd⟩:=jgd h e;simp only[List.getD,e,e2,Option.getD_some];exact hd
theorem jsN (o:Ok G j c X) (ha:Snd G X a y) (hgf:G[f]?=some g) (hn:g.name=x) (hgx:jbl c.sc x=true) (hdat:g.dat=none) (hlv:g.lv+2<=j) (hg:jbl c.sc "sorted" =true) (hs:jaw y=true):Snd G X (.sortK f m a) (.Call (.Name "sorted" p) [y] [⟨some "key",.Name x q,kp⟩] pos):=by
 subst hn;have hv:PE X (.Call (.Name "sorted" p) [y] [⟨some "key",.Name g.name q,kp⟩] pos) (T3E X.K (ev G (.sortK f m a)).v):=by
  by_cases h1:g.ps.length=1
  ·obtain⟨pn,hpn⟩:=j0W.mp h1;obtain⟨fa,fd,F,hm,hk,hb⟩:=(o.dfs f g hgf (by omega) hdat).ex;rw[h1,hpn]at F;rw[hpn]at hb;refine imE (ju4 F (o.room.mono hlv) hb (jaP o hgx) hm (jav (jaP o hg)).1 (mg_of o (by decide +kernel)) ha.v (jam hs) (by rw[jam hs];rfl) (jaJ (by unfold jaf;simp[hs]))) fun σ H Q=>?_;rintro⟨w,μ,ρ,d,μ',R,S,e,q⟩;obtain⟨d1,μ1,e1,e⟩:=Out.bind_ok e;refine⟨w,μ,ρ,d1,μ1,R,S,e1,fun w1 H1 v1 x1 R1 k1=>?_⟩;unfold jlV at e;rw[hgf]at e;dsimp only at e;rw[if_pos ⟨h1,by rw[hdat];rfl⟩]at e;unfold jmL at e;split at e
   ·rename_i ds hds;split at e
    ·rename_i ts hts;split at e
     ·rename_i hc;obtain⟨l,xs,rfl,s1,l1⟩:=jaU R1 k1 hds;refine⟨l,xs,ts,rfl,s1,by rw[<- jad l1,jlD hts],hc.1.1,hc.1.2,joe hts R1 l1 fun w2 H2 x2 R2 p q' hp hq1 hq2=>?_⟩;have hu:=joO hc.1.1 (⟨hq1,hq2⟩:jmQ ts q') hc.2.choose_spec;rw[hu];exact jfv R2 (jjV (l1.mono x2) _) e (fun w3 H3 v x3 R3 d3=>q w3 H3 v ((x1.trans x2).trans x3) R3 d3) p hp
     ·cases e
    ·cases e
   ·cases e
  ·intro pins s σ H Q I hq;obtain⟨w,μ,ρ,d,μ',R,S,e,q⟩:=hq;obtain⟨d1,μ1,e1,e⟩:=Out.bind_ok e;unfold jlV at e;rw[hgf]at e;dsimp only at e;rw[if_neg (fun z=>h1 z.1)]at e;cases e
 exact⟨hv,(jaj hv rfl).1,(jaj hv rfl).2⟩
end
section
variable {K:PySem.W.Frag} {X:Cx} {G:List FnE} {j:Nat} {c:Stt}
theorem jwt (o:Ok G j c X)(h:jfY c ik tg it=some as)(hA:PA X as (T3A X.K (evL G es)))(h1:∀e a,es=[e]->as=[a]->PE X a (T3E X.K (ev G e).v))(hl:es.length=as.length):PI X tg it (T3I X.K ik (evL G es)):=by
 have e1:∀e,(fun ρ μ=>((ev G e).v ρ μ).bind fun d μ1=>(Out.ok [] μ1).bind fun ds μ2=>Out.ok (d::ds) μ2)=evL G [e]:=fun e=>rfl
 cases ik with
 |seq=>
  cases h;obtain⟨e0,rfl⟩:∃e0,es=[e0]:=j0W.mp hl;rw[<- e1];exact jwm (h1 e0 _ rfl rfl)
 |str=>
  cases h;obtain⟨e0,rfl⟩:∃e0,es=[e0]:=j0W.mp hl;rw[<- e1];exact jxi (h1 e0 _ rfl rfl)
 |items=>
  simp only[jfY]at h;split at h
  ·rename_i z n p q hx;split at h
   ·rename_i hc;cases h;have hx':=jg2 hx;subst hx';simp only[j0a,beq_iff_eq]at hc;obtain⟨⟨⟨rfl,c2⟩,c3⟩,c4⟩:=hc;obtain⟨e0,rfl⟩:∃e0,es=[e0]:=j0W.mp hl;rw[<- e1]
    cases tg with
    |Tuple elts k tp=>exact jq5 c2 (by simpa using c3) (h1 e0 _ rfl rfl)
    |_=>cases c4
   ·cases h
  ·cases h
 |enm=>cases h
 |zip=>cases h
 |rng1=>
  simp only[jfY]at h;split at h
  ·rename_i x a hx;split at h
   ·rename_i hc;cases h;obtain⟨p,q,rfl⟩:=jge hx;simp only[j0a,beq_iff_eq]at hc;obtain⟨⟨rfl,c2⟩,c3⟩:=hc;exact jw2 (jaP o c2) (mg_of o (by decide +kernel)) hA c3
   ·cases h
  ·cases h
 |rng2=>
  simp only[jfY]at h;split at h
  ·rename_i x a b hx;split at h
   ·rename_i hc;cases h;obtain⟨p,q,rfl⟩:=jge hx;simp only[j0a,beq_iff_eq]at hc;obtain⟨⟨rfl,c2⟩,c3⟩:=hc;exact jyK (jaP o c2) (mg_of o (by decide +kernel)) hA c3
   ·cases h
  ·cases h
theorem jod (o:Ok G j c X)(hnd:(jei (jaK t) c.N).Nodup)(C:Addr)(fp:List Addr)(s:Shared)(H:Hp):Ok G j (jij c t scope) (jaR X (jei (jaK t) c.N) scope C fp s H) where
 hN:=rfl
 nd:=hnd
 sc:=by
  show relabel scope X.env=jhy scope c.sc;rw[jqV,o.sc]
 calm:=o.calm
 room:=o.room
 mg:=o.mg
 fns:=o.fns
 dts:=o.dts
 dfs:=o.dfs
 fn:=fun h=>by cases h
structure CompOk (G:List FnE) (X:Cx) (tg:Tg) (ik:IK) (es ifs:List E) (elt:E) (own:List Str) (N':List Str) (scope:Scope) (t it:Expr) (fs:List Expr) (el:Expr):Prop where
 cs:CompScope X own N' scope
 hit:PI X t it (T3I X.K ik (evL G es))
 hg:∀C fp s H,PG (jaR X N' scope C fp s H) t (gOf X.K tg)
 ht:(∀C fp s H,PTs (jaR X N' scope C fp s H) fs (T3T X.K (evTs G ifs)))
 he:∀C fp s H,PE (jaR X N' scope C fp s H) el (T3E X.K (ev G elt).v)
 ns:jhQ it=true
theorem jrN (hT:jAa K tg g){σ:_L2.St}{H:Hp}{Q:VK}:T3E K (ev G (.comp m own tg ik es ifs elt)).v σ H Q->jxw own (T3I K ik (evL G es)) g (T3T K (evTs G ifs)) (T3E K (ev G elt).v) σ H Q:=by
 rintro⟨w,μ,ρ,d,μ',R,S,e,q⟩;obtain⟨ds,μ1,e1,e⟩:=Out.bind_ok e;split at e
 ·rename_i xs hx;split at e
  ·rename_i hz;obtain⟨ys,μ2,e2,e3⟩:=Out.bind_ok e;exact⟨w,μ,ρ,ds,μ1,xs,R,S,e1,hx,fun w1 H1 J x1 R1 hJ=>jt4 hT R1 (S.mono x1) hJ hz e2 e3 fun w2 H2 v x2 R2 d2=>q w2 H2 v (x1.trans x2) R2 d2⟩
  ·cases e
 ·cases e
theorem jtT (o:Ok G j c X)(h:CompOk G X tg ik es ifs elt own N' scope t it fs el):Snd G X (.comp m own.length tg ik es ifs elt) (.ListComp el [⟨t,it,fs,0⟩] scope pos):=by
 have hv:PE X (.ListComp el [⟨t,it,fs,0⟩] scope pos) (T3E X.K (ev G (.comp m own.length tg ik es ifs elt)).v):=imE (jrj o.calm h.cs h.hit h.hg h.ht h.he (jiv h.ns)) fun σ H Q q=>jrN (jf9 tg) q;exact⟨hv,(jaj hv rfl).1,(jaj hv rfl).2⟩
end
theorem jvQ {P:Str->Expr->Str->Expr->Bool}{e:Expr}(h:(match jCc e with
  |some (x,y,k,v)=>P x y k v
  |none=>false)=true):∃x y k v p kp q,e=.Call (.Name x p) [y] [⟨some k,v,kp⟩] q/\P x y k v=true:=by
 split at h
 ·rename_i x y k v hx;obtain⟨p,kp,q,he⟩:=jyw hx;exact⟨x,y,k,v,p,kp,q,he,h⟩
 ·cases h
noncomputable def jDd (G:List FnE)(j:Nat)(own:Nat)(tg:Tg)(ik:IK)(es ifs:List E)(elt:E)(c:Stt):Expr->Comprehension->Scope->Bool:=fun el g scope=>g.is_async==0&&own==(jaK g.target).length&&jwz c.N c.sc (jaK g.target) (jei (jaK g.target) c.N) scope&&decide (jei (jaK g.target) c.N).Nodup&&jhQ g.iter&&(match jfY c ik g.target g.iter with
   |some as=>chkL G j es c as
   |none=>false)&&jjo (jij c g.target scope) tg g.target&&chkTs G j ifs (jij c g.target scope) g.ifs&&chk G j elt (jij c g.target scope) el
section
variable {G:List FnE} {j:Nat}
mutual
theorem snd:∀(ir:E) {c:Stt} {X:Cx} {e:Expr},Ok G j c X->chk G j ir c e=true->Snd G X ir e
 |.var i,c,X,e,o,h=>jzq o h
 |.cst d,c,X,e,o,h=>jxF h
 |.bin op m a b,c,X,e,o,h=>by
  have hh:=jy (P:=fun x o y _=>o==op&&chk G j a c x&&chk G j b c y) h;clear h;obtain⟨x,o',y,p,rfl,h⟩:=hh;simp only[j0a,beq_iff_eq]at h;obtain⟨⟨rfl,h1⟩,h2⟩:=h;exact jya (snd a o h1) (snd b o h2)
 |.neg a,c,X,e,o,h=>by
  have hh:=jyu (P:=fun x=>chk G j a c x) h;clear h;obtain⟨x,p,rfl,h⟩:=hh;exact jx1 (snd a o h)
 |.not_ a,c,X,e,o,h=>by
  have hh:=jwY (P:=fun x=>chk G j a c x&&tst x) h;clear h;obtain⟨x,p,rfl,h⟩:=hh;simp only[j0a]at h;exact jxT h.2 (snd a o h.1)
 |.and_ a b,c,X,e,o,h=>by
  have hh:=jyQ (P:=fun x y=>chk G j a c x&&tst x&&(chk G j b c y&&tst y)) (R:=fun x y z rest p=>chk G j a c x&&tst x&&chk G j b c (.BoolOp .And (y::z::rest) p)) h;clear h;rcases hh with⟨x,y,p,rfl,h⟩|⟨x,y,z,rest,p,rfl,h⟩
  ·simp only[j0a]at h;exact juY h.1.2 h.2.2 (snd a o h.1.1) (snd b o h.2.1)
  ·simp only[j0a]at h;exact juR h.1.2 (snd a o h.1.1) (snd b o h.2)
 |.or_ a b,c,X,e,o,h=>by
  have hh:=jAO (P:=fun x y=>chk G j a c x&&tst x&&(chk G j b c y&&tst y)) (R:=fun x y z rest p=>chk G j a c x&&tst x&&chk G j b c (.BoolOp .Or (y::z::rest) p)) h;clear h;rcases hh with⟨x,y,p,rfl,h⟩|⟨x,y,z,rest,p,rfl,h⟩
  ·simp only[j0a]at h;exact jxm h.1.2 h.2.2 (snd a o h.1.1) (snd b o h.2.1)
  ·simp only[j0a]at h;exact jyk h.1.2 (snd a o h.1.1) (snd b o h.2)
 |.cmp op a b,c,X,e,o,h=>by
  have hh:=jnG (P:=fun x o y=>o==op&&chk G j a c x&&chk G j b c y&&!(behindInMarks o y)) h;clear h;obtain⟨x,o',y,p,rfl,h⟩:=hh;simp only[j0a,beq_iff_eq,j00]at h;obtain⟨⟨⟨rfl,h1⟩,h2⟩,h3⟩:=h;exact jv5 o h3 (snd a o h1) (snd b o h2)
 |.chain o1 o2 a b d,c,X,e,o,h=>by
  have hh:=js3 (P:=fun x p q y z=>p==o1&&q==o2&&chk G j a c x&&chk G j b c y&&chk G j d c z&&!(lastMarks [p,q] [y,z])) h;clear h;obtain⟨x,p,q,y,z,r,rfl,h⟩:=hh;simp only[j0a,beq_iff_eq,j00]at h;obtain⟨⟨⟨⟨⟨rfl,rfl⟩,h1⟩,h2⟩,h3⟩,h4⟩:=h;exact jsb o h4 (snd a o h1) (snd b o h2) (snd d o h3)
 |.isN a,c,X,e,o,h=>by
  have hh:=jnG (P:=fun x o y=>o==.Is&&jgM y&&chk G j a c x) h;clear h;obtain⟨x,o',y,p,rfl,h⟩:=hh;simp only[j0a,beq_iff_eq]at h;obtain⟨⟨rfl,h1⟩,h2⟩:=h;obtain⟨k,q,rfl⟩:=jj3 h1;exact jyl (snd a o h2)
 |.notN a,c,X,e,o,h=>by
  have hh:=jnG (P:=fun x o y=>o==.IsNot&&jgM y&&chk G j a c x) h;clear h;obtain⟨x,o',y,p,rfl,h⟩:=hh;simp only[j0a,beq_iff_eq]at h;obtain⟨⟨rfl,h1⟩,h2⟩:=h;obtain⟨k,q,rfl⟩:=jj3 h1;exact jvb (snd a o h2)
 |.ife k a b,c,X,e,o,h=>by
  have hh:=jx8 (P:=fun z x y=>chk G j k c z&&tst z&&chk G j a c x&&chk G j b c y) h;clear h;obtain⟨z,x,y,p,rfl,h⟩:=hh;simp only[j0a]at h;obtain⟨⟨⟨h1,h2⟩,h3⟩,h4⟩:=h;exact jxo h2 (snd k o h1) (snd a o h3) (snd b o h4)
 |.tup es,c,X,e,o,h=>by
  have hh:=jwV (P:=fun xs=>chkL G j es c xs&&jaf xs) h;clear h;obtain⟨xs,k,p,rfl,h⟩:=hh;simp only[j0a]at h;exact jtL (sndL es o h.1).1
 |.lst m es,c,X,e,o,h=>by
  have hh:=jwn (P:=fun xs=>chkL G j es c xs&&jaf xs) h;clear h;obtain⟨xs,p,rfl,h⟩:=hh;simp only[j0a]at h;exact juW (sndL es o h.1).1
 |.ix a b,c,X,e,o,h=>by
  have hh:=jsl (P:=fun x y=>chk G j a c x&&chk G j b c y&&jdq y) h;clear h;obtain⟨x,y,p,rfl,h⟩:=hh;simp only[j0a]at h;exact jzS o h.2 (snd a o h.1.1) (snd b o h.1.2)
 |.sl m a lo hi,c,X,e,o,h=>by
  have hh:=jBd (P:=fun x l u=>chk G j a c x&&chkL G j lo c l.toList&&chkL G j hi c u.toList) h;clear h;obtain⟨x,l,u,p,q,rfl,h⟩:=hh;simp only[j0a]at h;obtain⟨⟨h1,h2⟩,h3⟩:=h;have k1:=sndL lo o h2;have k2:=sndL hi o h3;exact jC0 (snd a o h1) (jC (fun e x e1 e2=>k1.2.1 e x e1 (by rw[e2];rfl)) k1.2.2) (jC (fun e x e1 e2=>k2.2.1 e x e1 (by rw[e2];rfl)) k2.2.2)
 |.stp m a lo st,c,X,e,o,h=>by
  have h':false=true:=h;cases h'
 |.fld a i f,c,X,e,o,h=>by
  have hh:=jzi (P:=fun x n=>n==f&&jcr x&&jyC G i f&&chk G j a c x) h;clear h;obtain⟨x,n,p,rfl,h⟩:=hh;simp only[j0a,beq_iff_eq]at h;obtain⟨⟨⟨rfl,h1⟩,h2⟩,h3⟩:=h;exact jwc o h1 h2 (snd a o h3)
 |.call f md es,c,X,e,o,h=>by
  have hh:=joy (P:=fun x _ y ys _=>(match G[f]? with
   |some g=>g.name==x&&jbl c.sc x&&es.length==g.ps.length&&decide (g.lv<=j)
   |none=>false)&&chkL G j es c (y::ys)&&jaf (y::ys)) h
  clear h;obtain⟨x,q,y,ys,p,rfl,h⟩:=hh;simp only[j0a]at h;obtain⟨⟨h1,h2⟩,h3⟩:=h;split at h1
  ·rename_i g hg;simp only[j0a,beq_iff_eq,decide_eq_true_eq]at h1;obtain⟨⟨⟨a1,a2⟩,a3⟩,a4⟩:=h1;exact juT o hg a1 a2 a3 a4 h3 (sndL es o h2).1
  ·cases h1
 |.bi b m es,c,X,e,o,h=>by
  have hh:=joy (P:=fun x _ y ys _=>jos b==x&&jbl c.sc x&&jaf (y::ys)&&(match jcE c b (y::ys)with
   |some as=>chkL G j es c as
   |none=>false)) h
  clear h;obtain⟨x,q,y,ys,p,rfl,h⟩:=hh;simp only[j0a,beq_iff_eq]at h;obtain⟨⟨⟨h1,h2⟩,h3⟩,h4⟩:=h;split at h4
  ·rename_i as ha;have k:=sndL es o h4;exact jB5 o h1 h2 h3 ha k.1 k.2.1 k.2.2
  ·cases h4
 |.mt b ob es,c,X,e,o,h=>by
  have hh:=jqf (P:=fun z n q y ys p=>joJ b==n&&chk G j ob c z&&jaN z&&jaf (y::ys)&&decide (ys.length<28)&&(q.endLine==p.line)&&chkL G j es c (y::ys)) h;clear h;obtain⟨z,n,q,y,ys,p,rfl,h⟩:=hh;simp only[j0a,beq_iff_eq,decide_eq_true_eq]at h;obtain⟨⟨⟨⟨⟨⟨rfl,h1⟩,h2⟩,h3⟩,h4⟩,h5⟩,h6⟩:=h;exact jAC o (snd ob o h1) h2 h3 h4 (by simpa using h5) (sndL es o h6).1
 |.clr ob,c,X,e,o,h=>by
  have h':false=true:=h;cases h'
 |.dget ob a,c,X,e,o,h=>by
  have h':false=true:=h;cases h'
 |.isC a i,c,X,e,o,h=>by
  have h':false=true:=h;cases h'
 |.comp m own tg ik es ifs elt,c,X,e,o,h=>by
  have hh:=jhw (P:=jDd G j own tg ik es ifs elt c) h;clear h;obtain⟨el,g,scope,p,rfl,h⟩:=hh;obtain⟨t,it,fs,kk⟩:=g;simp only[jDd,j0a,beq_iff_eq,decide_eq_true_eq]at h;obtain⟨⟨⟨⟨⟨⟨⟨⟨rfl,rfl⟩,h1⟩,h2⟩,h3⟩,h4⟩,h5⟩,h6⟩,h7⟩:=h;split at h4
  ·rename_i as ha;have k:=sndL es o h4;have oi:=jod (t:=t) (scope:=scope) o h2;exact jtT o ⟨csk (by rw[o.hN,o.sc];exact h1),jwt o ha k.1 k.2.1 k.2.2,fun C fp s H=>(jt0 (oi C fp s H) h5).1,fun C fp s H=>sndT ifs (oi C fp s H) h6,fun C fp s H=>(snd elt (oi C fp s H) h7).v,h3⟩
  ·cases h4
 |.dnew t,c,X,e,o,h=>by
  obtain⟨p,rfl⟩:=jpB h;exact jtl
 |.dget2 ob a f,c,X,e,o,h=>by
  have hh:=jqf (P:=fun z n q y ys p=>n == "get" && (match ys with
   |[u]=>chk G j f c u&&jaf [y,u]
   |_=>false)&&chk G j ob c z&&chk G j a c y&&jaN z&&(q.endLine==p.line)) h
  clear h;obtain⟨z,n,q,y,ys,p,rfl,h⟩:=hh;simp only[j0a,beq_iff_eq]at h;obtain⟨⟨⟨⟨⟨rfl,h1⟩,h2⟩,h3⟩,h4⟩,h5⟩:=h;split at h1
  ·rename_i u;rw[j0a]at h1;exact jsB o (snd ob o h2) (snd a o h3) (snd f o h1.1) h4 h1.2 (by simpa using h5)
  ·cases h1
 |.tix a b,c,X,e,o,h=>by
  have hh:=jsl (P:=fun x y=>chk G j a c x&&chk G j b c y&&jdq y) h;clear h;obtain⟨x,y,p,rfl,h⟩:=hh;simp only[j0a]at h;exact jxg o (snd a o h.1.1) (snd b o h.1.2) h.2
 |.sortK f m a,c,X,e,o,h=>by
  have hh:=jvQ (P:=fun x y k v=>x == "sorted" && jbl c.sc "sorted" && k == "key" && (match jd5 v with
   |some z=>jEv G j c f z
   |none=>false)&&chk G j a c y&&jaw y) h
  clear h;obtain⟨x,y,k,v,p,kp,q,rfl,h⟩:=hh;simp only[j0a,beq_iff_eq]at h;obtain⟨⟨⟨⟨⟨rfl,h1⟩,rfl⟩,h2⟩,h3⟩,h4⟩:=h;split at h2
  ·rename_i z hz;obtain⟨q2,rfl⟩:=jbH hz;unfold jEv at h2;split at h2
   ·rename_i g hg;simp only[j0a,beq_iff_eq,decide_eq_true_eq]at h2;exact jsN o (snd a o h3) hg h2.1.1.1 h2.1.1.2 (Option.isNone_iff_eq_none.mp h2.1.2) h2.2 h1 h4
   ·cases h2
  ·cases h2
 |.vals0 m a,c,X,e,o,h=>by
  have hh:=jhw (P:=fun _ g scope=>g.is_async==0&&jwz c.N c.sc (jaK g.target) (jei (jaK g.target) c.N) scope&&(match jgx g.iter with
   |some (z,n,p,q)=>n == "values" && jcr z&&(p.endLine==q.line)&&chk G j a c z
   |none=>false)) h
  clear h;obtain⟨el,g,scope,p,rfl,h⟩:=hh;obtain⟨t,it,fs,kk⟩:=g;simp only[j0a,beq_iff_eq]at h;obtain⟨⟨rfl,h1⟩,h2⟩:=h;split at h2
  ·rename_i z n p q hx;have hx':=jg2 hx;subst hx';simp only[j0a,beq_iff_eq]at h2;obtain⟨⟨⟨rfl,h3⟩,h4⟩,h5⟩:=h2;exact jr6 o (snd a o h5) h1 h3 (by simpa using h4)
  ·cases h2
 |.maxDf a b,c,X,e,o,h=>by
  have hh:=jvQ (P:=fun x y k v=>x == "max" && jbl c.sc "max" && k == "default" && chk G j a c y&&jaw y&&chk G j b c v) h;clear h;obtain⟨x,y,k,v,p,kp,q,rfl,h⟩:=hh;simp only[j0a,beq_iff_eq]at h;obtain⟨⟨⟨⟨⟨rfl,h1⟩,rfl⟩,h2⟩,h3⟩,h4⟩:=h;exact jsz o (snd a o h2) (snd b o h4) h1 h3
 |.gl f,c,X,e,o,h=>by
  have hh:=joc (P:=fun x _=>nmG G c f x) h;clear h;obtain⟨x,p,rfl,h⟩:=hh;exact jBN o h
 |.gget f a d,c,X,e,o,h=>by
  have hh:=jqf (P:=fun z0 name apos y ys cpos=>name == "get" && (match jd5 z0,ys with
   |some x,[z]=>nmG G c f x&&chk G j d c z&&jaf [y,z]
   |_,_=>false)&&chk G j a c y&&jaN z0&&(apos.endLine==cpos.line)) h
  clear h;obtain⟨z,n,q,y,ys,p,rfl,h⟩:=hh;simp only[j0a,beq_iff_eq]at h;obtain⟨⟨⟨⟨rfl,h1⟩,h2⟩,h4⟩,h6⟩:=h;split at h1
  ·rename_i x z' hx;obtain⟨p',rfl⟩:=jbH hx;simp only[j0a]at h1;exact jue o h1.1.1 (snd a o h2) (snd d o h1.1.2) h4 h1.2 (by simpa using h6)
  ·cases h1
 |.gin neg f a,c,X,e,o,h=>by
  have h':false=true:=h;cases h'
 |.gix f a,c,X,e,o,h=>by
  have h':false=true:=h;cases h'
theorem sndT:∀(ifs:List E) {c:Stt} {X:Cx} {xs:List Expr},Ok G j c X->chkTs G j ifs c xs=true->PTs X xs (T3T X.K (evTs G ifs))
 |[],c,X,xs,o,h=>by
  cases xs with
  |nil=>
   intro pins s σ H Q I hw;refine jyX pins s σ H Q I ?_;rw[jur]at hw;obtain⟨w,μ,ρ,b,μ',R,S,e,q⟩:=hw;cases e;exact q w H (Ext.refl _ _) R
  |cons x xs=>have h':false=true:=h;cases h'
 |[e],c,X,xs,o,h=>by
  match xs,h with
  |[x],h=>
   have h:(chk G j e c x&&tst x)=true:=h;simp only[j0a]at h;rw[juO];exact jys ((snd e o h.1).t h.2)
  |[],h=>have h':false=true:=h;cases h'
  |_::_::_,h=>have h':false=true:=h;cases h'
 |e::e'::es,c,X,xs,o,h=>by
  cases xs<;>(have h':false=true:=h;cases h')
theorem sndL:∀(es:List E) {c:Stt} {X:Cx} {xs:List Expr},Ok G j c X->chkL G j es c xs=true->PA X xs (T3A X.K (evL G es))/\(∀e a,es=[e]->xs=[a]->PE X a (T3E X.K (ev G e).v))/\es.length=xs.length
 |[],c,X,xs,o,h=>by
  cases xs with
  |nil=>exact⟨imA ji7 fun σ H Q q=>jCR (by rw[jym]at q;exact q),(fun e a h=>by cases h),rfl⟩
  |cons x xs=>have h':false=true:=h;cases h'
 |e::es,c,X,xs,o,h=>by
  cases xs with
  |nil=>have h':false=true:=h;cases h'
  |cons x xs=>
   have h:(chk G j e c x&&jaw x&&chkL G j es c xs)=true:=h;simp only[j0a]at h;have k1:=snd e o h.1.1;have k2:=sndL es o h.2;exact⟨imA (pac k1.v k2.1 h.1.2) fun σ H Q q=>jyI (by rw[ju7]at q;exact q),(fun e' a h1 h2=>by cases h1;cases h2;exact k1.v),by simp[k2.2.2]⟩
end
end
noncomputable def jrT:Expr->Bool
 |.Tuple ..=>true
 |_=>false
noncomputable def jxU (sc:Scope)(y:Str)(py:Pos)(v:Expr):Bool:=
 match v with
 |.ListComp _ _ s p=>sc.names.lookup y==some .local&&py.line==p.line&&!(s.names.any fun(n,k)=>n==y&&(k==.local||k==.cell))
 |_=>false
noncomputable def tgV (tg:Tg)(v:Expr):Bool:=
 match tg with
 |.nm _=>true
 |.tp _=>notComp v&&!(jrT v)
noncomputable def jvO:E->Bool
 |.comp ..=>true
 |.vals0 ..=>true
 |_=>false
noncomputable def juu (e:E)(v:Expr):Bool:=jvO e||notComp v
noncomputable def jsK:Expr->Option (Expr×Str)
 |.Attribute x n _=>some (x,n)
 |_=>none
theorem jqA (h:jsK e=some (x,n)):∃p,e=.Attribute x n p:=by
 unfold jsK at h;split at h
 ·cases h;exact⟨_,rfl⟩
 ·cases h
section
variable (G:List FnE) (j:Nat)
mutual
noncomputable def jC4:S->Stt->Stmt->Bool
 |.asg tg e,c,st=>match st with
  |.Assign [t] v _=>chk G j e c v&&jjo c tg t&&!c.cmp&&tgV tg v&&juu e v
  |_=>false
 |.par _ _ _ _,_,_=>false
 |.unp _ _,_,_=>false
 |.setF o i f e,c,st=>match st with
  |.Assign ts v _=>match ts with
   |[t]=>match jsK t with
    |some (x,n)=>n==f&&jyC G i f&&chk G j e c v&&chk G j o c x&&notComp v
    |none=>false
   |_=>false
  |_=>false
 |.setI _ _ _,_,_=>false
 |.setK o i e,c,st=>match st with
  |.Assign [.Subscript x y _] v _=>chk G j e c v&&chk G j o c x&&chk G j i c y
  |_=>false
 |.whl k,c,st=>match st with
  |.While x _ [] _=>chk G j k c x&&tst x
  |_=>false
 |.ex e,c,st=>match st with
  |.Expr v _=>chk G j e c v&&notComp v
  |_=>false
 |.ite k a b,c,st=>match st with
  |.If x ss tt _=>chk G j k c x&&tst x&&chkSs a c ss&&chkSs b c tt
  |_=>false
 |.for_ tg ik es body _,c,st=>match st with
  |.For t it ss [] _=>jhQ it&&(match jfY c ik t it with
   |some as=>chkL G j es c as
   |none=>false)&&jjo c tg t&&chkSs body c ss
  |_=>false
 |.ret e,c,st=>match st with
  |.Return (some v) _=>chk G j e c v
  |_=>false
 |.retN,_,st=>match st with
  |.Return none _=>true
  |_=>false
 |.pass,_,st=>match st with
  |.Pass _=>true
  |_=>false
 |.never,_,_=>true
noncomputable def chkSs:List S->Stt->List Stmt->Bool
 |[],_,[]=>true
 |s::ss,c,t::ts=>jC4 s c t&&chkSs ss c ts
 |_,_,_=>false
end
end
theorem jwU {P:Expr->Expr->Pos->Bool}{e:Stmt}(h:(match e with
  |.Assign [t] v p=>P t v p
  |_=>false)=true):∃t v p,e=.Assign [t] v p/\P t v p=true:=by
 split at h
 ·exact⟨_,_,_,rfl,h⟩
 ·cases h
theorem jtF {P:Expr->Expr->Expr->Bool}{e:Stmt}(h:(match e with
  |.Assign [.Subscript x y _] v _=>P x y v
  |_=>false)=true):∃x y p v q,e=.Assign [.Subscript x y p] v q/\P x y v=true:=by
 split at h
 ·exact⟨_,_,_,_,_,rfl,h⟩
 ·cases h
theorem jyG {P:Expr->Bool}{e:Stmt}(h:(match e with
  |.While x _ [] _=>P x
  |_=>false)=true):∃x b p,e=.While x b [] p/\P x=true:=by
 split at h
 ·exact⟨_,_,_,rfl,h⟩
 ·cases h
theorem jAs {P:Expr->Bool}{e:Stmt}(h:(match e with
  |.Expr v _=>P v
  |_=>false)=true):∃v p,e=.Expr v p/\P v=true:=by
 split at h
 ·exact⟨_,_,rfl,h⟩
 ·cases h
theorem jCs {P:Expr->List Stmt->List Stmt->Bool}{e:Stmt}(h:(match e with
  |.If x ss tt _=>P x ss tt
  |_=>false)=true):∃x ss tt p,e=.If x ss tt p/\P x ss tt=true:=by
 split at h
 ·exact⟨_,_,_,_,rfl,h⟩
 ·cases h
theorem jyN {P:Expr->Expr->List Stmt->Bool}{e:Stmt}(h:(match e with
  |.For t it ss [] _=>P t it ss
  |_=>false)=true):∃t it ss p,e=.For t it ss [] p/\P t it ss=true:=by
 split at h
 ·exact⟨_,_,_,_,rfl,h⟩
 ·cases h
theorem jwC {P:Expr->Bool}{e:Stmt}(h:(match e with
  |.Return (some v) _=>P v
  |_=>false)=true):∃v p,e=.Return (some v) p/\P v=true:=by
 split at h
 ·exact⟨_,_,rfl,h⟩
 ·cases h
theorem juV {e:Stmt}(h:(match e with
  |.Return none _=>true
  |_=>false)=true):∃p,e=.Return none p:=by
 split at h
 ·exact⟨_,rfl⟩
 ·cases h
theorem jui {e:Stmt}(h:(match e with
  |.Pass _=>true
  |_=>false)=true):∃p,e=.Pass p:=by
 split at h
 ·exact⟨_,rfl⟩
 ·cases h
structure OkS (G:List FnE) (j:Nat) (c:Stt) (X:Cx):Prop extends Ok G j c X where
 pass:PassesOwn (model X.prog X.w) X.A X.env X.xe
 kd:c.sc.kind=.function
section
variable {K:PySem.W.Frag} {X:Cx} {G:List FnE} {j:Nat} {c:Stt}
theorem jjQ (hT:jAa K tg g)(he:∀σ H Q,T3E K (ev G e).v σ H Q->te σ H Q){E:Ends}{σ:_L2.St}{H:Hp}:T3S K (run G (.asg tg e)) E σ H->jzK te g E σ H:=by
 rintro⟨w,μ,ρ,fl,μ',R,S,e1,q⟩;obtain⟨d,μ1,e2,e1⟩:=Out.bind_ok e1;refine he σ H _ ⟨w,μ,ρ,d,μ1,R,S,e2,fun w1 H1 v x1 R1 d1=>?_⟩;split at e1
 ·rename_i ρ1 ha;cases e1;exact hT w1 _ H1 ρ ρ1 σ d v E.nx R1 (S.mono x1) d1 ha fun σ' S'=>q w1 H1 x1 R1 σ' S'
 ·cases e1
theorem joS (hs:X.env.scope=sc)(hk:sc.kind=.function):swapsWith (.ListComp el gs s p) (some (.Name y py)) l X.env=pure (jxU sc y py (.ListComp el gs s p)):=by
 have hb:X.env.blockKind=.function:=by
  unfold Env.blockKind;rw[hs,hk];rfl
 have hq:X.env.kindOf y=sc.names.lookup y:=by
  rw[<- hs];rfl
 show(pure (X.env.blockKind==.function&&X.env.kindOf y==some .local&&py.line==p.line&&!(s.names.any fun(n,k)=>n==y&&(k==.local||k==.cell))):Sem Bool)=_;rw[hb,hq];rfl
theorem jpb (h:jrT v=false):swappedStores [.Tuple es k p] v env=pure none:=by
 cases v<;>first|rfl|cases h
theorem jxk (o:OkS G j c X)(he:chk G j e c v=true)(ht:jjo c tg t=true)(hcm:c.cmp=false)(hx:tgV tg v=true)(hcp:juu e v=true):PS X (.Assign [t] v pos) (T3S X.K (run G (.asg tg e))):=by
 have k:=snd e o.toOk he;obtain⟨hg,hst⟩:=jt0 o.toOk ht
 cases tg with
 |tp is=>
  simp only[tgV,j0a,j00]at hx;have hst2:swappedStores [t] v X.env=pure none:=by
   cases t with
   |Tuple es k p=>exact jpb hx.2
   |_=>cases ht
  exact imS (jA5 k.v hg (show swapsWith v (some t) pos.line X.env=pure false from jeJ hx.1) hst2 (by rw[jkx hst];rfl)) fun E σ H q=>jjQ (jf9 _) (fun _ _ _ q=>q) q
 |nm i=>
  have ht':jpA c i t=true:=ht;unfold jpA at ht';split at ht'
  ·rename_i x px;rw[hcm]at ht';have hok:jnB c.N c.sc i x=true:=ht';have hok':jnB X.N X.env.scope i x=true:=by rw[o.hN,o.sc];exact hok
   have hnd:X.N.Nodup:=by rw[o.hN];exact o.nd
   have hfn:X.fn x=true:=o.fn hcm x
   cases hI:jvO e with
   |false=>
    have hc:notComp v=true:=by simpa[juu,hI]using hcp
    exact imS (jy7 hnd hok' k.v hc hfn) fun E σ H q=>jjQ (g:=jeW i) (jf9 (.nm i)) (fun _ _ _ q=>q) q
   |true=>
    cases e with
    |comp m own tg' ik es ifs elt=>
     have hh:=jhw (P:=jDd G j own tg' ik es ifs elt c) he;clear he;obtain⟨el,g,s,p,rfl,he⟩:=hh;obtain⟨t',it,fs,kk⟩:=g;simp only[jDd,j0a,beq_iff_eq,decide_eq_true_eq]at he;obtain⟨⟨⟨⟨⟨⟨⟨⟨rfl,rfl⟩,h1⟩,h2⟩,h3⟩,h4⟩,h5⟩,h6⟩,h7⟩:=he
     ·have hs:=joS (X:=X) (sc:=c.sc) (y:=x) (py:=px) (p:=p) (el:=el) (gs:=[⟨t',it,fs,0⟩]) (s:=s) (l:=pos.line) o.sc o.kd
      cases hsw:jxU c.sc x px (.ListComp el [⟨t',it,fs,0⟩] s p)with
      |false=>
       rw[hsw]at hs;exact imS (jsJ hnd (jaM hok').1 (jaM hok').2 k.v hs (.inl hfn)) fun E σ H q=>jjQ (g:=jeW i) (jf9 (.nm i)) (fun _ _ _ q=>q) q
      |true=>
       rw[hsw]at hs;split at h4
       ·rename_i as ha;have kk:=sndL es o.toOk h4;have oi:=jod (t:=t') (scope:=s) o.toOk h2;exact imS (jjF hnd (jaM hok').1 (jaM hok').2 o.calm (csk (by rw[o.hN,o.sc];exact h1)) (jwt o.toOk ha kk.1 kk.2.1 kk.2.2) (fun C fp s H=>(jt0 (oi C fp s H) h5).1) (fun C fp s H=>sndT ifs (oi C fp s H) h6) (fun C fp s H=>(snd elt (oi C fp s H) h7).v) hs (jiv h3) (.inl hfn))
         fun E σ H q=>jjQ (g:=jeW i) (jf9 (.nm i)) (fun _ _ _ q=>jrN (jf9 tg') q) q
       ·cases h4
    |vals0 m a=>
     have hh:=jhw (P:=fun _ g scope=>g.is_async==0&&jwz c.N c.sc (jaK g.target) (jei (jaK g.target) c.N) scope&&(match jgx g.iter with
      |some (z,n,p,q)=>n == "values" && jcr z&&(p.endLine==q.line)&&chk G j a c z
      |none=>false)) he
     clear he;obtain⟨el,g,s,p,rfl,he⟩:=hh;obtain⟨t',it,fs,kk⟩:=g;simp only[j0a,beq_iff_eq]at he;obtain⟨⟨rfl,h1⟩,h2⟩:=he;have hs:=joS (X:=X) (sc:=c.sc) (y:=x) (py:=px) (p:=p) (el:=el) (gs:=[⟨t',it,fs,0⟩]) (s:=s) (l:=pos.line) o.sc o.kd
     cases hsw:jxU c.sc x px (.ListComp el [⟨t',it,fs,0⟩] s p)with
     |false=>
      rw[hsw]at hs;exact imS (jsJ hnd (jaM hok').1 (jaM hok').2 k.v hs (.inl hfn)) fun E σ H q=>jjQ (g:=jeW i) (jf9 (.nm i)) (fun _ _ _ q=>q) q
     |true=>
      rw[hsw]at hs;split at h2
      ·rename_i z n p' q hx';have hx2:=jg2 hx';subst hx2;simp only[j0a,beq_iff_eq]at h2;obtain⟨⟨⟨rfl,h3⟩,h4⟩,h5⟩:=h2;exact imS (jnk hnd (jaM hok').1 (jaM hok').2 o.calm (csk (by rw[o.hN,o.sc];exact h1)) (snd a o.toOk h5).v (jhI h3) (by simpa using h4) T3E.mono hs (.inl hfn)) fun E σ H q=>jjQ (g:=jeW i) (jf9 (.nm i)) (fun _ _ _ q=>jov q) q
      ·cases h2
    |_=>cases hI
  ·cases ht'
theorem jqY [DecidableEq κ] {k:κ}:∀{ks:List κ} {xs:List V},ks.length=xs.length->((ks.zip xs).any fun kv=>decide (kv.1=k))=decide (k∈ks)
 |[],[],_=>rfl
 |g::ks,x::xs,h=>by
  rw[j1n,j1y,jqY (by simpa using h)];by_cases e:g=k
  ·subst e;simp
  ·have:¬ k=g:=fun z=>e z.symm;simp[e,this]
theorem jrt [DecidableEq κ] {k:κ} {v:V}:∀{ks:List κ} {xs:List V},ks.length=xs.length->(ks.zip xs).map (fun kv=>if kv.1=k then(kv.1,v)else kv)=ks.zip (List.zipWith (fun g x=>if g=k then v else x) ks xs)
 |[],[],_=>rfl
 |g::ks,x::xs,h=>by
  rw[j1n,j0c,jrt (by simpa using h),List.zipWith_cons_cons,j1n];by_cases e:g=k
  ·rw[if_pos e,if_pos e]
  ·rw[if_neg e,if_neg e]
theorem jop [DecidableEq κ] {k:κ} {v:V} {ks:List κ} {xs:List V} (h:ks.length=xs.length):jok (ks.zip xs) k v=(je0 k ks).zip (jcX k v ks xs):=by
 unfold jok je0 jcX;rw[jqY h];by_cases e:k∈ks
 ·rw[if_pos (by simpa using e),if_pos e,if_pos e,jrt h]
 ·rw[if_neg (by simpa using e),if_neg e,if_neg e,List.zip_append h];rfl
theorem jqK [DecidableEq κ] {w:Wd} {n:Nat} {k:κ} {d:D} {v:V} (hd:Den K w n d v):∀{ks:List κ} {ds:List D} {xs:List V},DenL K w n ds xs->DenL K w n (List.zipWith (fun g x=>if g=k then d else x) ks ds) (List.zipWith (fun g x=>if g=k then v else x) ks xs)
 |[],ds,xs,h=>by unfold DenL;rfl
 |g::ks,[],xs,h=>by unfold DenL at h;subst h;unfold DenL;rfl
 |g::ks,d'::ds,xs,h=>by
  unfold DenL at h;obtain⟨v',ws,rfl,h1,h2⟩:=h;rw[List.zipWith_cons_cons,List.zipWith_cons_cons];unfold DenL;refine⟨_,_,rfl,?_,jqK hd h2⟩;by_cases e:g=k
  ·rw[if_pos e,if_pos e];exact hd
  ·rw[if_neg e,if_neg e];exact h1
theorem jj9 [DecidableEq κ] {w:Wd} {n:Nat} {k:κ} {d:D} {v:V} (hd:Den K w n d v) {ks:List κ} {ds:List D} {xs:List V} (h:DenL K w n ds xs):DenL K w n (jcX k d ks ds) (jcX k v ks xs):=by
 unfold jcX;by_cases e:k∈ks
 ·rw[if_pos e,if_pos e];exact jqK hd h
 ·rw[if_neg e,if_neg e];exact h.append (DenL.one hd)
theorem jrw [DecidableEq κ] {k:κ} {d:α} {ks:List κ} {ds:List α} (h:ks.length=ds.length):(je0 k ks).length=(jcX k d ks ds).length:=by
 unfold je0 jcX;by_cases e:k∈ks
 ·rw[if_pos e,if_pos e,List.length_zipWith];omega
 ·rw[if_neg e,if_neg e,j0o,j0o,h];rfl
theorem jtZ (o:OkS G j c X)(he:chk G j e c v=true)(ho:chk G j ob c x=true)(hi:chk G j ix c y=true):PS X (.Assign [.Subscript x y p] v pos) (T3S X.K (run G (.setK ob ix e))):=by
 have k1:=snd e o.toOk he;have k2:=snd ob o.toOk ho;have k3:=snd ix o.toOk hi;refine imS (jyD (by have:=jnU o.toOk;omega) k2.v k3.v k1.v (by cases v<;>rfl)) fun E σ H=>?_;rintro⟨w,μ,ρ,fl,μ',R,S,e1,q⟩;obtain⟨d,μ1,a1,e1⟩:=Out.bind_ok e1;obtain⟨d2,μ2,a2,e1⟩:=Out.bind_ok e1;obtain⟨d3,μ3,a3,e1⟩:=Out.bind_ok e1;refine⟨w,μ,ρ,d,μ1,R,S,a1,fun w1 H1 v1 x1 R1 k1=>⟨w1,μ1,ρ,d2,μ2,R1,S.mono x1,a2,fun w2 H2 v2 x2 R2 k2=>⟨w2,μ2,ρ,d3,μ3,R2,S.mono (x1.trans x2),a3,fun w3 H3 v3 x3 R3 k3=>?_⟩⟩⟩;have x13:=(x1.trans x2).trans x3;have sz:sizeLine=16777216:=sizeLine_eq;split at e1
 ·rename_i μ4 hs;cases e1;have kk2:=k2.mono x3;have kk1:=k1.mono (x2.trans x3);unfold jsa at hs;split at hs
  ·rename_i kc;unfold Den at kk2;split at hs
   ·rename_i ks vs hk;split at hs
    ·rename_i k hkk;split at hs
     ·rename_i hlt;cases hs;obtain⟨xs,g0,g1,g2⟩:=(R3.liv kc _ hk).2;have hl:(μ3.set kc (some (Cl.dK (je0 k ks) (jcX k d ks vs)))).length=μ3.length:=List.length_set;have gl:ks.length=xs.length:=g0.trans (jad g2);have R4:=R3.put hk (.dK ((je0 k ks).zip (jcX k v1 ks xs))) (c:=.dK (je0 k ks) (jcX k d ks vs)) ⟨_,jrw g0,jag,jj9 kk1 g2⟩;have hkv:=jn6 k3 hkk;subst hkv;refine⟨w3.γ kc,_,kk2.2,jvA.k g1 (by rw[j1u];omega),?_⟩;rw[jop gl];exact q w3 _ (by rw[hl];exact x13) R4 σ (by rw[hl];exact S.mono x13)
     ·cases hs
    ·cases hs
   ·rename_i ks vs hk;split at hs
    ·rename_i k hkk;split at hs
     ·rename_i hlt;cases hs;obtain⟨xs,g0,g1,g2⟩:=(R3.liv kc _ hk).2;have hl:(μ3.set kc (some (Cl.dT (je0 k ks) (jcX k d ks vs)))).length=μ3.length:=List.length_set;have gl:ks.length=xs.length:=g0.trans (jad g2);have R4:=R3.put hk (.dT ((je0 k ks).zip (jcX k v1 ks xs))) (c:=.dT (je0 k ks) (jcX k d ks vs)) ⟨_,jrw g0,jag,jj9 kk1 g2⟩;obtain⟨b,rfl,hb⟩:=jvp R3 k3 hkk;refine⟨w3.γ kc,_,kk2.2,jvA.t g1 hb (by rw[j1u];omega),?_⟩;rw[jop gl];exact q w3 _ (by rw[hl];exact x13) R4 σ (by rw[hl];exact S.mono x13)
     ·cases hs
    ·cases hs
   ·cases hs
  ·cases hs
 ·cases e1
theorem jyP (o:OkS G j c X)(hk:chk G j k c x=true)(ht:tst x=true):PS X (.While x b [] pos) (T3S X.K (run G (.whl k))):=by
 refine imS (jto (tb:=fun _ _ _=>False) o.pass ((snd k o.toOk hk).t ht) (by intro _ _ _ _ _ _ z;exact z.elim)) fun E σ H=>?_;rintro⟨w,μ,ρ,fl,μ',R,S,e1,q⟩;refine⟨fun _ σ' H'=>σ'=σ/\H'=H,⟨0,rfl,rfl⟩,?_⟩;rintro m σ' H' ⟨rfl,rfl⟩;obtain⟨b',μ1,a1,e1⟩:=Out.bind_ok e1;refine⟨w,μ,ρ,b',μ1,R,S,a1,fun w1 H1 x1 R1=>?_⟩
 cases b' with
 |true=>rw[if_pos rfl]at e1;cases e1
 |false=>
  rw[if_neg j0e]at e1 ⊢;cases e1;exact q w1 H1 x1 R1 σ' (S.mono x1)
theorem jn9:∀{fs:List Str} {xs:List V},fs.length=xs.length->jk0 f y (fs.zip xs)=(jiO f fs).zip (jeX f y fs xs)
 |[],[],_=>rfl
 |[],_::_,h=>by cases h
 |_::_,[],h=>by cases h
 |g::fs,x::xs,h=>by
  have ih:=jn9 (f:=f) (y:=y) (fs:=fs) (xs:=xs) (by simpa using h);unfold jiO jeX;show(if g=f then(g,y)::fs.zip xs else(g,x)::jk0 f y (fs.zip xs))=_;split
  ·rfl
  ·rw[ih];rfl
theorem jmA {α β:Type}{f:Str}{d:α}{e:β}:∀{fs:List Str} {xs:List α},fs.length=xs.length->(jiO f fs).length=(jeX f d fs xs).length
 |[],[],_=>rfl
 |[],_::_,h=>by cases h
 |_::_,[],h=>by cases h
 |g::fs,x::xs,h=>by
  have ih:=jmA (f:=f) (d:=d) (e:=e) (fs:=fs) (xs:=xs) (by simpa using h);unfold jiO jeX;split
  ·simpa using h
  ·simp[ih]
theorem jmb (hd:Den K w n d y):∀{fs:List Str} {ds:List D} {xs:List V},fs.length=ds.length->DenL K w n ds xs->DenL K w n (jeX f d fs ds) (jeX f y fs xs)
 |[],[],xs,_,h=>by
  unfold jeX;exact DenL.one hd
 |[],_::_,_,h,_=>by cases h
 |_::_,[],_,h,_=>by cases h
 |g::fs,e::ds,xs,h,l=>by
  unfold DenL at l;obtain⟨v,ws,rfl,h1,h2⟩:=l;have ih:=jmb hd (f:=f) (fs:=fs) (by simpa using h) h2;unfold jeX;split
  ·unfold DenL;exact⟨y,ws,rfl,hd,h2⟩
  ·unfold DenL;exact⟨v,_,rfl,h1,ih⟩
theorem juM {ob e:E}{i:Nat}{f:Str}{x v:Expr}{p pos:Pos}(o:OkS G j c X)(hf:jyC G i f=true)(he:chk G j e c v=true)(ho:chk G j ob c x=true)(hc:notComp v=true):PS X (.Assign [.Attribute x f p] v pos) (T3S X.K (run G (.setF ob i f e))):=by
 have k1:=snd e o.toOk he;have k2:=snd ob o.toOk ho;obtain⟨g,C,k,fs,hg,hd,hm,hC,hN⟩:=jrI o.toOk hf;refine imS (jCZ k2.v k1.v (jeJ hc)) fun E σ H=>?_;rintro⟨w,μ,ρ,fl,μ',R,S,e1,q⟩;obtain⟨d,μ1,a1,e1⟩:=Out.bind_ok e1;obtain⟨d2,μ2,a2,e1⟩:=Out.bind_ok e1;refine⟨w,μ,ρ,d,μ1,R,S,a1,fun w1 H1 v1 x1 R1 k1=>⟨w1,μ1,ρ,d2,μ2,R1,S.mono x1,a2,fun w2 H2 v2 x2 R2 k2=>?_⟩⟩;rw[jdI hg,hd]at e1;split at e1
 ·rename_i μ3 h3;cases e1;replace h3:jDb C f d d2 μ2=some μ':=h3;unfold jDb at h3;split at h3
  ·rename_i kc;split at h3
   ·rename_i C' fs' ds' hk;split at h3
    ·rename_i hh;obtain⟨rfl,hl⟩:=hh;cases h3;obtain⟨dx,ys,g0,g1,g2⟩:=(R2.liv kc _ hk).2;unfold Den at k2;have gl:fs'.length=ys.length:=g0.trans (jad g2);refine⟨w2.γ kc,C',dx,_,k2.2,g1,hC,hN,by rw[j1u];omega,?_⟩;have hlen:(μ2.set kc (some (Cl.obj C' (jiO f fs') (jeX f d fs' ds')))).length=μ2.length:=List.length_set;have R3:=R2.put hk (c:=Cl.obj C' (jiO f fs') (jeX f d fs' ds')) (.ins C' dx (jk0 f v1 (fs'.zip ys))) ⟨dx,jeX f v1 fs' ys,jmA (e:=()) g0,by rw[jag,jn9 gl],jmb (k1.mono x2) g0 g2⟩;have x12:=x1.trans x2;exact q w2 _ (by rw[hlen];exact x12) R3 σ (by rw[hlen];exact S.mono x12)
    ·cases h3
   ·cases h3
  ·cases h3
 ·cases e1
theorem jB8 (o:OkS G j c X)(he:chk G j e c v=true)(hc:notComp v=true):PS X (.Expr v pos) (T3S X.K (run G (.ex e))):=by
 refine imS (jyy (snd e o.toOk he).v (jeJ hc)) fun E σ H=>?_;rintro⟨w,μ,ρ,fl,μ',R,S,e1,q⟩;obtain⟨d,μ1,a1,e1⟩:=Out.bind_ok e1;cases e1;exact⟨w,μ,ρ,d,_,R,S,a1,fun w1 H1 v1 x1 R1 k1=>q w1 H1 x1 R1 σ (S.mono x1)⟩
theorem jze (o:OkS G j c X)(he:chk G j e c v=true):PS X (.Return (some v) pos) (T3S X.K (run G (.ret e))):=by
 refine imS (jAX (snd e o.toOk he).v) fun E σ H=>?_;rintro⟨w,μ,ρ,fl,μ',R,S,e1,q⟩;obtain⟨d,μ1,a1,e1⟩:=Out.bind_ok e1;cases e1;exact⟨w,μ,ρ,d,_,R,S,a1,fun w1 H1 v1 x1 R1 k1=>q w1 H1 x1 R1 v1 k1⟩
theorem jxc (o:OkS G j c X)(hk:chk G j k c x=true)(ht:tst x=true)(ha:PSs X ss (T3S X.K (runs G a)))(hb:PSs X tt (T3S X.K (runs G b))):PS X (.If x ss tt pos) (T3S X.K (run G (.ite k a b))):=by
 refine imS (jDr ((snd k o.toOk hk).t ht) ha hb) fun E σ H=>?_;rintro⟨w,μ,ρ,fl,μ',R,S,e1,q⟩;obtain⟨b',μ1,a1,e1⟩:=Out.bind_ok e1;refine⟨w,μ,ρ,b',μ1,R,S,a1,fun w1 H1 x1 R1=>?_⟩;dsimp only
 cases b' with
 |true=>
  rw[if_pos rfl]at e1 ⊢;exact⟨w1,μ1,ρ,fl,μ',R1,S.mono x1,e1,fun w2 H2 x2 R2=>q w2 H2 (x1.trans x2) R2⟩
 |false=>
  rw[if_neg j0e]at e1 ⊢;exact⟨w1,μ1,ρ,fl,μ',R1,S.mono x1,e1,fun w2 H2 x2 R2=>q w2 H2 (x1.trans x2) R2⟩
theorem jyt (o:OkS G j c X)(hn:jhQ it=true)(hi:jfY c ik t it=some as)(hes:chkL G j es c as=true)(ht:jjo c tg t=true)(hb:PSs X ss (T3S X.K (runs G body))):PS X (.For t it ss [] pos) (T3S X.K (run G (.for_ tg ik es body fg))):=by
 have k:=sndL es o.toOk hes;refine imS (jCS o.pass o.calm (jwt o.toOk hi k.1 k.2.1 k.2.2) (jt0 o.toOk ht).1 hb (jiv hn)) fun E σ H=>?_;rintro⟨w,μ,ρ,fl,μ',R,S,e1,q⟩;obtain⟨ds,μ1,a1,e1⟩:=Out.bind_ok e1;split at e1
 ·rename_i xs hx;exact⟨w,μ,ρ,ds,μ1,xs,R,S,a1,hx,fun w1 H1 J x1 R1 hJ=>jyL (jf9 tg) R1 (S.mono x1) hJ e1 fun w2 H2 x2 R2=>q w2 H2 (x1.trans x2) R2⟩
 ·cases e1
theorem jyU {s:S}{ss:List S}{st:Stmt}{sts:List Stmt}(h1:PS X st (T3S X.K (run G s)))(h2:PSs X sts (T3S X.K (runs G ss))):PSs X (st::sts) (T3S X.K (runs G (s::ss))):=by
 refine jET (jum h1 h2) fun E σ H=>?_;rintro⟨w,μ,ρ,fl,μ',R,S,e1,q⟩;replace e1:(match run G s ρ μ with
  |.ok (.nx ρ1) μ1=>runs G ss ρ1 μ1
  |r=>r)=.ok fl μ':=e1
 cases e2:run G s ρ μ with
 |exc x μ1=>rw[e2]at e1;cases e1
 |bad=>rw[e2]at e1;cases e1
 |ok f1 μ1=>
  rw[e2]at e1;refine⟨w,μ,ρ,f1,μ1,R,S,e2,fun w1 H1 x1 R1=>?_⟩
  cases f1 with
  |nx ρ1=>
   intro σ1 S1;exact⟨w1,μ1,ρ1,fl,μ',R1,S1,e1,fun w2 H2 x2 R2=>q w2 H2 (x1.trans x2) R2⟩
  |rt d=>
   cases e1;exact q w1 H1 x1 R1
  |bk ρ1=>
   cases e1;exact q w1 H1 x1 R1
  |ct ρ1=>
   cases e1;exact q w1 H1 x1 R1
end
section
variable {G:List FnE} {j:Nat}
mutual
theorem jEZ:∀(s:S) {c:Stt} {X:Cx} {st:Stmt},OkS G j c X->jC4 G j s c st=true->PS X st (T3S X.K (run G s))
 |.asg tg e,c,X,st,o,h=>by
  have hh:=jwU (P:=fun t v _=>chk G j e c v&&jjo c tg t&&!c.cmp&&tgV tg v&&juu e v) h;clear h;obtain⟨t,v,p,rfl,h⟩:=hh;simp only[j0a,j00]at h;exact jxk o h.1.1.1.1 h.1.1.1.2 h.1.1.2 h.1.2 h.2
 |.par i k a b,c,X,st,o,h=>by
  have h':false=true:=h;cases h'
 |.unp is e,c,X,st,o,h=>by
  have h':false=true:=h;cases h'
 |.setF ob i f e,c,X,st,o,h=>by
  unfold jC4 at h;split at h
  ·rename_i ts v p;split at h
   ·rename_i t;split at h
    ·rename_i x n ht;obtain⟨q,rfl⟩:=jqA ht;simp only[j0a,beq_iff_eq]at h;obtain⟨⟨⟨⟨rfl,h2⟩,h3⟩,h4⟩,h5⟩:=h;exact juM o h2 h3 h4 h5
    ·cases h
   ·cases h
  ·cases h
 |.setI _ _ _,c,X,st,o,h=>by
  have h':false=true:=h;cases h'
 |.setK ob i e,c,X,st,o,h=>by
  have hh:=jtF (P:=fun x y v=>chk G j e c v&&chk G j ob c x&&chk G j i c y) h;clear h;obtain⟨x,y,p,v,q,rfl,h⟩:=hh;simp only[j0a]at h;exact jtZ o h.1.1 h.1.2 h.2
 |.whl k,c,X,st,o,h=>by
  have hh:=jyG (P:=fun x=>chk G j k c x&&tst x) h;clear h;obtain⟨x,b,p,rfl,h⟩:=hh;rw[j0a]at h;exact jyP o h.1 h.2
 |.ex e,c,X,st,o,h=>by
  have hh:=jAs (P:=fun v=>chk G j e c v&&notComp v) h;clear h;obtain⟨v,p,rfl,h⟩:=hh;simp only[j0a]at h;exact jB8 o h.1 h.2
 |.ite k a b,c,X,st,o,h=>by
  have hh:=jCs (P:=fun x ss tt=>chk G j k c x&&tst x&&chkSs G j a c ss&&chkSs G j b c tt) h;clear h;obtain⟨x,ss,tt,p,rfl,h⟩:=hh;simp only[j0a]at h;obtain⟨⟨⟨h1,h2⟩,h3⟩,h4⟩:=h;exact jxc o h1 h2 (sndSs a o h3) (sndSs b o h4)
 |.for_ tg ik es body fg,c,X,st,o,h=>by
  have hh:=jyN (P:=fun t it ss=>jhQ it&&(match jfY c ik t it with
   |some as=>chkL G j es c as
   |none=>false)&&jjo c tg t&&chkSs G j body c ss) h
  clear h;obtain⟨t,it,ss,p,rfl,h⟩:=hh;simp only[j0a]at h;obtain⟨⟨⟨h1,h2⟩,h3⟩,h4⟩:=h;split at h2
  ·rename_i as ha;exact jyt o h1 ha h2 h3 (sndSs body o h4)
  ·cases h2
 |.ret e,c,X,st,o,h=>by
  have hh:=jwC (P:=fun v=>chk G j e c v) h;clear h;obtain⟨v,p,rfl,h⟩:=hh;exact jze o h
 |.retN,c,X,st,o,h=>by
  have hh:=juV h;clear h;obtain⟨p,rfl⟩:=hh;refine imS jxO fun E σ H=>?_;rintro⟨w,μ,ρ,fl,μ',R,S,e1,q⟩;have e2:Out.ok (Fl.rt D.non) μ=.ok fl μ':=e1;cases e2;exact q w H (Ext.refl _ _) R .non (by unfold Den;rfl)
 |.pass,c,X,st,o,h=>by
  have hh:=jui h;clear h;obtain⟨p,rfl⟩:=hh;refine imS jxb fun E σ H=>?_;rintro⟨w,μ,ρ,fl,μ',R,S,e1,q⟩;have e2:Out.ok (Fl.nx ρ) μ=.ok fl μ':=e1;cases e2;exact q w H (Ext.refl _ _) R σ S
 |.never,c,X,st,o,h=>by
  refine imS jvl fun E σ H=>?_;rintro⟨w,μ,ρ,fl,μ',R,S,e1,q⟩;have e2:(Out.bad:Out Fl)=.ok fl μ':=e1;cases e2
theorem sndSs:∀(ss:List S) {c:Stt} {X:Cx} {sts:List Stmt},OkS G j c X->chkSs G j ss c sts=true->PSs X sts (T3S X.K (runs G ss))
 |[],c,X,sts,o,h=>by
  cases sts with
  |nil=>
   refine jET jwi fun E σ H=>?_;rintro⟨w,μ,ρ,fl,μ',R,S,e1,q⟩;have e2:Out.ok (Fl.nx ρ) μ=.ok fl μ':=e1;cases e2;exact q w H (Ext.refl _ _) R σ S
  |cons _ _=>
   have h':false=true:=h;cases h'
 |s::ss,c,X,sts,o,h=>by
  cases sts with
  |nil=>
   have h':false=true:=h;cases h'
  |cons t ts=>
   have h':(jC4 G j s c t&&chkSs G j ss c ts)=true:=h;clear h;have h:=h';simp only[j0a]at h;exact jyU (jEZ s o h.1) (sndSs ss o h.2)
end
end
section
variable {P:Program} {w:World} {K:PySem.W.Frag} {mg:Str->Option Value} {base:Heap}
structure Tab (P:Program) (w:World) (K:PySem.W.Frag) (mg:Str->Option Value) (base:Heap) (j:Nat) (G:List FnE):Prop where
 hm:∀x∈jcj,mg x=none
 hf:∀(i:Nat) (g:FnE),G[i]?=some g->g.lv<=j->_L2.CalG CX0 P w K mg base g.lv g.name g.ps (jmZ K g.ps.length g.F)
 hd:∀(i:Nat) (g:FnE) (d:Dat),G[i]?=some g->g.dat=some d->jgO K w mg g.name d
 hk:∀(i:Nat) (g:FnE),G[i]?=some g->g.lv<=j->g.dat=none->DefG CX0 P w K mg base g.lv g.name g.ps (jmZ K g.ps.length g.F)
theorem jmw {x qual:Str}{st:Stmt}{f:Addr}{fd:FuncData}{N ps:List Str}{j:Nat}{G:List FnE}{body:List S}(F:Fun K x qual st f fd)(Sc:FnScope N ps (jau st))(T:Tab P w K mg base j G)(h:chkSs G j body ⟨N,jau st,false⟩ (jbp st)=true) :
  FnOk P w K mg base CX0 (j+1) f fd ps (jmZ K ps.length (fnOf G ps.length (N.length - ps.length) body)):=by
 refine F.okQ Sc (fun vs H Q E h=>h.1) (fun cdv A outer s H vs Q E hr hsp=>?_);refine⟨T3S K (runs G body),⟨sndSs body (c:=⟨N,jau st,false⟩) ⟨⟨rfl,Sc.nd,rfl,rfl,hr,T.hm,T.hf,T.hd,T.hk,fun _ _=>rfl⟩,PassesOwn.never,Sc.kind⟩ h⟩,?_⟩;obtain⟨hl,w0,μ,ds,d,μ',R,hD,e,q⟩:=hsp;unfold fnOf at e;split at e
 ·rename_i hn;have hS:jb1 K w0 μ.length (ds.map some++List.replicate (N.length - ps.length) none) (_L2.start N vs):=by
   unfold _L2.start;rw[hl];exact jb1.start hD _
  split at e
  ·rename_i d1 μ1 e1;cases e;exact⟨w0,μ,_,_,_,R,hS,e1,fun w1 H1 x1 R1 v dv=>q w1 H1 v x1 R1 dv⟩
  ·rename_i ρ1 μ1 e1;cases e;exact⟨w0,μ,_,_,_,R,hS,e1,fun w1 H1 x1 R1 σ' S'=>q w1 H1 .non x1 R1 (by unfold Den;rfl)⟩
  ·cases e
  ·cases e
  ·cases e
 ·cases e
theorem jxs (h:FnOk P w K mg base CX0 k f fd ["_law_script"] (jmZ K 1 F)) (hF:∀ns:List Int,ns.length<=63->∃μ,F [.scr (ns.map D.int)] []=.ok (.bl true) μ):FnOk P w K mg base CX0 k f fd ["_law_script"] (spLaw K):=by
 refine h.imp fun vs H Q E=>?_;rintro⟨a,ns,rfl,hS,hn,q⟩;obtain⟨μ,hm⟩:=hF ns hn;refine⟨rfl,⟨fun b=>if b=a then H a else none,fun _=>0⟩,[],_,_,μ,⟨fun b o h=>?_,fun k c h=>by simp at h,fun i j ci cj h=>by simp at h⟩,?_,hm,fun w' H' v _ _ hv=>?_⟩
 ·replace h:(if b=a then H a else none)=some o:=h;split at h
  ·rename_i e;rw[e];exact h
  ·cases h
 ·unfold DenL;refine⟨.ref a,[],rfl,?_,by unfold DenL;rfl⟩;unfold Den;refine⟨a,ns.map V.int,rfl,?_,jg ns⟩;rcases hS with hS|hS
  ·left;rcases hS with h|⟨o,h⟩
   ·exact .inl (by show(if a=a then H a else none)=_;rw[if_pos rfl];exact h)
   ·exact .inr ⟨o,by show(if a=a then H a else none)=_;rw[if_pos rfl];exact h⟩
  ·exact .inr hS
 ·unfold Den at hv;subst hv;exact q H'
end
theorem nr (h:a=b):a=b:=h
section
variable {α β:Type}
theorem jbf:(Out.ok a μ).bind f=f a μ:=rfl
theorem juB:(Out.bad:Out α).bind f=.bad:=rfl
end
noncomputable def jyY (o:Out Fl)(k:S3->M->Out Fl):Out Fl:=
 match o with
 |.ok (.nx ρ) μ=>k ρ μ
 |r=>r
noncomputable def jwF (o:Out Fl):Out D:=
 match o with
 |.ok (.rt d) μ=>.ok d μ
 |.ok (.nx _) μ=>.ok .non μ
 |.ok _ _=>.bad
 |.exc x μ=>.exc x μ
 |.bad=>.bad
theorem jwq:jyY (.ok (.nx ρ) μ) k=k ρ μ:=rfl
theorem jyp:jyY (.ok (.rt d) μ) k=.ok (.rt d) μ:=rfl
theorem jyR:jwF (.ok (.rt d) μ)=.ok d μ:=rfl
theorem jwI:jwF (.ok (.nx ρ) μ)=.ok .non μ:=rfl
section
variable {G:List FnE} {ρ:S3} {μ:M}
theorem jwu:fnOf G np nl b ds μ=if ds.length=np then jwF (runs G b (ds.map some++List.replicate nl none) μ)else .bad:=rfl
theorem jub:runs G [] ρ μ=.ok (.nx ρ) μ:=rfl
theorem jqz:runs G (s::ss) ρ μ=jyY (_L3.run G s ρ μ) (runs G ss):=rfl
noncomputable def jDk (tg:Tg)(ρ:S3)(d:D)(μ:M):Out Fl:=
 match jqa tg d ρ with
 |some ρ1=>.ok (.nx ρ1) μ
 |none=>.bad
theorem jyz:_L3.run G (.asg tg e) ρ μ=((ev G e).v ρ μ).bind fun d μ1=>jDk tg ρ d μ1:=rfl
theorem jyd:jDk (.nm i) ρ d μ=.ok (.nx (ρ.set i (some d))) μ:=rfl
theorem jAN:_L3.run G (.ex e) ρ μ=((ev G e).v ρ μ).bind fun _ μ1=>.ok (.nx ρ) μ1:=rfl
theorem jwk:_L3.run G (.ite c a b) ρ μ=((ev G c).t ρ μ).bind fun k μ1=>if k then runs G a ρ μ1 else runs G b ρ μ1:=rfl
theorem jyM:_L3.run G (.ret e) ρ μ=((ev G e).v ρ μ).bind fun d μ1=>.ok (.rt d) μ1:=rfl
noncomputable def jCX (ik:IK)(ds:List D)(tg:Tg)(body:S3->M->Out Fl)(fg:List Nat)(ρ:S3)(μ:M):Out Fl:=
 match itD ik ds μ with
 |some xs=>jf4 (jdG ik ds xs) tg body fg xs ρ μ
 |none=>.bad
theorem jaO (h:itD ik ds μ=some xs):jCX ik ds tg body fg ρ μ=jf4 (jdG ik ds xs) tg body fg xs ρ μ:=by
 unfold jCX;rw[h]
theorem jwh:_L3.run G (.for_ tg ik es body fg) ρ μ=(evL G es ρ μ).bind fun ds μ1=>jCX ik ds tg (runs G body) fg ρ μ1:=rfl
theorem jAt:(ev G (.cst d)).v ρ μ=.ok d μ:=rfl
theorem jCK:(ev G (.bin op m a b)).v ρ μ=((ev G a).v ρ μ).bind fun x μ1=>((ev G b).v ρ μ1).bind fun y μ2=>jlA op m x y μ2:=rfl
noncomputable def jEM (x:D)(μ:M):Out D:=
 match x with
 |.int i=>.ok (.int (-i)) μ
 |_=>.bad
theorem jz3:(ev G (.neg a)).v ρ μ=((ev G a).v ρ μ).bind jEM:=rfl
theorem jtc:jEM (.int i) μ=.ok (.int (-i)) μ:=rfl
noncomputable def jEO (o:Option (Option D))(μ:M):Out D:=
 match o with
 |some (some d)=>.ok d μ
 |_=>.bad
theorem jCW:(ev G (.var i)).v ρ μ=jEO ρ[i]? μ:=rfl
theorem jBz:jEO (some (some d)) μ=.ok d μ:=rfl
noncomputable def jEy (x:D)(μ:M):Out D:=
 match x with
 |.bl c=>.ok (.bl (!c)) μ
 |_=>.bad
theorem jBW:(ev G (.not_ a)).v ρ μ=((ev G a).v ρ μ).bind jEy:=rfl
theorem jAK:(ev G (.cmp op a b)).v ρ μ=((ev G a).v ρ μ).bind fun x μ1=>((ev G b).v ρ μ1).bind fun y μ2=>jeT op x y μ2:=rfl
theorem jBD:(ev G (.isN a)).v ρ μ=((ev G a).v ρ μ).bind fun x μ1=>.ok (.bl (jjW x)) μ1:=by
 show((ev G a).v ρ μ).bind _=_;congr 1
 funext x μ1
 cases x<;>rfl
theorem jwg:(ev G (.notN a)).v ρ μ=((ev G a).v ρ μ).bind fun x μ1=>.ok (.bl (!jjW x)) μ1:=by
 show((ev G a).v ρ μ).bind _=_;congr 1
 funext x μ1
 cases x<;>rfl
noncomputable def boD (k:Bool)(o:Out D)(x:D)(μ:M):Out D:=
 match x with
 |.bl c=>if c=k then o else .ok (.bl c) μ
 |_=>.bad
theorem jCU:(ev G (.and_ a b)).v ρ μ=((ev G a).v ρ μ).bind fun x μ1=>boD true ((ev G b).v ρ μ1) x μ1:=by
 show((ev G a).v ρ μ).bind _=_;congr 1
 funext x μ1
 cases x with
 |bl c=>cases c<;>rfl
 |_=>rfl
theorem jD2:(ev G (.or_ a b)).v ρ μ=((ev G a).v ρ μ).bind fun x μ1=>boD false ((ev G b).v ρ μ1) x μ1:=by
 show((ev G a).v ρ μ).bind _=_;congr 1
 funext x μ1
 cases x with
 |bl c=>cases c<;>rfl
 |_=>rfl
theorem jAI:(ev G (.ife c a b)).v ρ μ=((ev G c).t ρ μ).bind fun k μ1=>if k then(ev G a).v ρ μ1 else(ev G b).v ρ μ1:=rfl
theorem jB4:(ev G (.tup es)).v ρ μ=(evL G es ρ μ).bind fun ds μ1=>if ds.length<=sizeLine then .ok (.tup ds) μ1 else .bad:=rfl
theorem jAh:(ev G (.lst m es)).v ρ μ=(evL G es ρ μ).bind fun ds μ1=>if ds.length<=sizeLine then mkL m ds μ1 else .bad:=rfl
theorem jD8:(ev G (.ix a b)).v ρ μ=((ev G a).v ρ μ).bind fun x μ1=>((ev G b).v ρ μ1).bind fun y μ2=>ixD x y μ2:=rfl
theorem jEd {m:Bool}{a:E}{lo hi:List E}:(ev G (.sl m a lo hi)).v ρ μ=((ev G a).v ρ μ).bind fun x μ1=>(jpx (evL G lo ρ μ1)).bind fun l μ2=>(jpx (evL G hi ρ μ2)).bind fun h μ3=>slD m x l h μ3:=rfl
theorem jv6:(ev G (.call f md es)).v ρ μ=(evL G es ρ μ).bind fun ds μ1=>jpw G f md ds μ1:=rfl
theorem jEg:(ev G (.bi b m es)).v ρ μ=(evL G es ρ μ).bind fun ds μ1=>biD b m ds μ1:=rfl
theorem jDm:(ev G (.mt b o es)).v ρ μ=((ev G o).v ρ μ).bind fun x μ1=>if jp0 b x μ1 then(evL G es ρ μ1).bind fun ds μ2=>mtD b x ds μ2 else .bad:=rfl
noncomputable def jnf (m:Bool)(ik:IK)(ds:List D)(tg:Tg)(cond:S3->M->Out Bool)(elt:S3->M->Out D)(ρ:S3)(μ:M):Out D:=
 match itD ik ds μ with
 |some xs=>if xs.length<=sizeLine then(jbq (jdG ik ds xs) tg cond elt ρ xs μ).bind fun ys μ2=>mkL m ys μ2 else .bad
 |none=>.bad
theorem jf6 {m:Bool}{ik:IK}{ds xs ys:List D}{tg:Tg}{cond:S3->M->Out Bool}{elt:S3->M->Out D}{μ2:M}(h:itD ik ds μ=some xs)(hl:xs.length<=sizeLine)(hc:jbq (jdG ik ds xs) tg cond elt ρ xs μ=.ok ys μ2):jnf m ik ds tg cond elt ρ μ=mkL m ys μ2:=by
 unfold jnf;simp only[h];rw[if_pos hl,hc,jbf]
theorem jsc:(ev G (.comp m own tg ik es ifs elt)).v ρ μ=(evL G es ρ μ).bind fun ds μ1=>jnf m ik ds tg (evTs G ifs) (ev G elt).v (List.replicate own none++ρ) μ1:=rfl
theorem jtp:(ev G (.chain o1 o2 a b c)).v ρ μ=((ev G a).v ρ μ).bind fun x μ1=>((ev G b).v ρ μ1).bind fun y μ2=>(jeT o1 x y μ2).bind fun z μ3=>boD true (((ev G c).v ρ μ3).bind fun u μ4=>jeT o2 y u μ4) z μ3:=by
 show((ev G a).v ρ μ).bind _=_;congr 1
 funext x μ1
 congr 1
 funext y μ2
 congr 1
 funext z μ3
 cases z with
 |bl c=>cases c<;>rfl
 |_=>rfl
theorem jDY:evL G [] ρ μ=.ok [] μ:=rfl
theorem jDJ:evL G (e::es) ρ μ=((ev G e).v ρ μ).bind fun d μ1=>(evL G es ρ μ1).bind fun ds μ2=>.ok (d::ds) μ2:=rfl
theorem jEk:evTs G [] ρ μ=.ok true μ:=rfl
theorem jDN:evTs G [e] ρ μ=(ev G e).t ρ μ:=rfl
noncomputable def tru (μ:M)(d:D):Out Bool:=
 match jC2 μ d with
 |some b=>.ok b μ
 |none=>.bad
theorem jxM:(ev G (.cmp op a b)).t ρ μ=((ev G (.cmp op a b)).v ρ μ).bind fun d μ1=>tru μ1 d:=rfl
theorem jrv:(ev G (.chain o1 o2 a b c)).t ρ μ=((ev G (.chain o1 o2 a b c)).v ρ μ).bind fun d μ1=>tru μ1 d:=rfl
theorem jyb:(ev G (.var i)).t ρ μ=((ev G (.var i)).v ρ μ).bind fun d μ1=>tru μ1 d:=rfl
theorem ju3:(ev G (.call f md es)).t ρ μ=((ev G (.call f md es)).v ρ μ).bind fun d μ1=>tru μ1 d:=rfl
theorem jCt:(ev G (.bi b m es)).t ρ μ=((ev G (.bi b m es)).v ρ μ).bind fun d μ1=>tru μ1 d:=rfl
theorem jw9:(ev G (.isN a)).t ρ μ=((ev G (.isN a)).v ρ μ).bind fun d μ1=>tru μ1 d:=rfl
theorem juD:(ev G (.notN a)).t ρ μ=((ev G (.notN a)).v ρ μ).bind fun d μ1=>tru μ1 d:=rfl
theorem jzb:(ev G (.not_ a)).t ρ μ=((ev G a).t ρ μ).bind fun c μ1=>.ok (!c) μ1:=rfl
theorem jyF:(ev G (.and_ a b)).t ρ μ=((ev G a).t ρ μ).bind fun c μ1=>if c then(ev G b).t ρ μ1 else .ok false μ1:=rfl
theorem jAj:(ev G (.or_ a b)).t ρ μ=((ev G a).t ρ μ).bind fun c μ1=>if c then .ok true μ1 else(ev G b).t ρ μ1:=rfl
end
theorem jmG:∀zs:List Str,jjy (zs.map D.str)=some zs
 |[]=>rfl
 |z::zs=>by rw[j0c];unfold jjy;rw[jmG zs];rfl
theorem jhR:∀zs:List Int,jkF (zs.map D.int)=some zs
 |[]=>rfl
 |z::zs=>by rw[j0c];unfold jkF;rw[jhR zs];rfl
section
variable {μ:M}
theorem jAW:tru μ (.bl b)=.ok b μ:=rfl
theorem jCG:jEy (.bl b) μ=.ok (.bl (!b)) μ:=rfl
theorem jEl:boD k o (.bl c) μ=if c=k then o else .ok (.bl c) μ:=rfl
theorem jBX:jpx (.ok [] μ)=.ok none μ:=rfl
theorem jAl:jpx (.ok [.int i] μ)=.ok (some i) μ:=rfl
theorem jyW:jlA .Add m (.int i) (.int j) μ=.ok (.int (i+j)) μ:=nr rfl
theorem jx0:jlA .Sub m (.int i) (.int j) μ=.ok (.int (i - j)) μ:=if_pos trivial
theorem jkY (h : -18446744073709551616<i)(h2:i<18446744073709551616):jlA .Mult m (.int i) (.int j) μ=.ok (.int (i*j)) μ:=if_pos (.inl ⟨h,h2⟩)
theorem jgo (h : -18446744073709551616<j)(h2:j<18446744073709551616):jlA .Mult m (.int i) (.int j) μ=.ok (.int (i*j)) μ:=if_pos (.inr ⟨h,h2⟩)
theorem jzl (h:0<j)(h2:j<18446744073709551616):jlA .FloorDiv m (.int i) (.int j) μ=.ok (.int (i / j)) μ:=if_pos ⟨h,h2⟩
theorem js (h:0<j):jlA .Mod m (.int i) (.int j) μ=.ok (.int (i % j)) μ:=if_pos h
theorem jwP (h:0<=j)(h1:j<=1000000)(h2:i.natAbs<18446744073709551616):jlA .Pow m (.int i) (.int j) μ=.ok (.int (i ^ j.toNat)) μ:=if_pos ⟨h,h1,h2⟩
theorem jsS (h:0<=j)(h1:j<=1000000):jlA .Pow m (.int 10) (.int j) μ=.ok (.int (10 ^ j.toNat)) μ:=jwP h h1 (by decide)
theorem joK (h:x.length+y.length<=sizeLine):jlA .Add m (.str x) (.str y) μ=.ok (.str (x++y)) μ:=if_pos h
theorem jAf:jeT .Lt (.int i) (.int j) μ=.ok (.bl (decide (i<j))) μ:=nr rfl
theorem jBk:jeT .LtE (.int i) (.int j) μ=.ok (.bl (decide (i<=j))) μ:=nr rfl
theorem jAB:jeT .Gt (.int i) (.int j) μ=.ok (.bl (decide (j<i))) μ:=nr rfl
theorem jA0:jeT .GtE (.int i) (.int j) μ=.ok (.bl (decide (j<=i))) μ:=nr rfl
theorem jxN:jeT .Eq (.int i) (.int j) μ=.ok (.bl (decide (i=j))) μ:=by
 show Out.ok (D.bl (decide (V.int i=V.int j))) μ=_;simp
theorem jyg:jeT .Eq (.str i) (.str j) μ=.ok (.bl (decide (i=j))) μ:=by
 show Out.ok (D.bl (decide (V.str i=V.str j))) μ=_;simp
theorem jyE:jeT .NotEq (.int i) (.int j) μ=.ok (.bl (!decide (i=j))) μ:=by
 show Out.ok (D.bl (!decide (V.int i=V.int j))) μ=_;simp
theorem jxX:jeT .NotEq (.str i) (.str j) μ=.ok (.bl (!decide (i=j))) μ:=by
 show Out.ok (D.bl (!decide (V.str i=V.str j))) μ=_;simp
theorem jx4:mkL false ds μ=.ok (.lst ds) μ:=rfl
theorem jA7:mkL true ds μ=.ok (.cel μ.length) (μ++[some (.lst ds)]):=rfl
theorem jap (h:itD ik ds μ=some xs):jdG ik ds xs μ=true:=ja1.mpr h
theorem jbD:(μ++[some c])[μ.length]?=some (some c):=by simp
theorem jtO:(μ++[some c]).set μ.length (some c')=μ++[some c']:=by simp
theorem jxa:jpw (g::G) (f+1) md ds μ=jpw G f md ds μ:=rfl
theorem jzj:jpw (g::G) 0 md ds μ=jah md g.F ds μ:=rfl
theorem ja4 (h:F ds μ=.ok d (μ++ν))(hd:jqc (μ++ν) μ.length d=some d'):jah .frz F ds μ=.ok d' μ:=by
 unfold jah;simp only[h];rw[if_pos (by simp),hd]
theorem jac (h:F ds μ=.ok d μ)(hd:jqc μ μ.length d=some d):jah .frz F ds μ=.ok d μ:=by
 have:=ja4 (ν:=[]) (by rw[j0x];exact h) (by rw[j0x];exact hd);exact this
end
section
variable {μ:M}
theorem juj:jp0 .append (.cel μ.length) (μ++[some (.lst xs)])=true:=by simp[jp0]
theorem juf:jp0 .extend (.cel μ.length) (μ++[some (.lst xs)])=true:=by simp[jp0]
theorem jhH (h:xs.length<sizeLine):mtD .append (.cel μ.length) [d] (μ++[some (.lst xs)])=.ok .non (μ++[some (.lst (xs++[d]))]):=by
 simp[mtD,jzE,h]
theorem juC (h:xs.length+ys.length<=sizeLine):mtD .extend (.cel μ.length) [.lst ys] (μ++[some (.lst xs)])=.ok .non (μ++[some (.lst (xs++ys))]):=by
 simp[mtD,jC6,h]
end
theorem jaL (h:ok μ=true):jf4 ok tg body fg [] ρ μ=.ok (.nx (forget fg ρ)) μ:=by
 unfold jf4;rw[if_pos h]
theorem jaq (h:ok μ=true)(ha:jqa tg d ρ=some ρ1)(hb:body ρ1 μ=.ok (.nx ρ2) μ2):jf4 ok tg body fg (d::ds) ρ μ=jf4 ok tg body fg ds (forget fg ρ2) μ2:=by
 rw[jf4,if_pos h,ha];simp only[hb]
theorem jso {ok:M->Bool}{tg:Tg}{cond:S3->M->Out Bool}{elt:S3->M->Out D}{ρ:S3}{μ:M}(h:ok μ=true):jbq ok tg cond elt ρ [] μ=.ok [] μ:=by
 unfold jbq;rw[if_pos h]
theorem jq {ok:M->Bool}{tg:Tg}{cond:S3->M->Out Bool}{elt:S3->M->Out D}{ρ ρ1:S3}{μ:M}{d:D}{ds:List D}(h:ok μ=true)(ha:jqa tg d ρ=some ρ1):jbq ok tg cond elt ρ (d::ds) μ=(cond ρ1 μ).bind fun b μ1=>if b then(elt ρ1 μ1).bind fun y μ2=>(jbq ok tg cond elt ρ ds μ2).bind fun ys μ3=>.ok (y::ys) μ3 else jbq ok tg cond elt ρ ds μ1:=by
 rw[jbq,if_pos h,ha]
theorem jmh {α:Type}{ok:M->Bool}{tg:Tg}{cond:S3->M->Out Bool}{elt:S3->M->Out D}{ρ:S3}{μ:M}(h:ok μ=true){e:α->D}{c:α->Bool}{f:α->D}:∀(xs:List α),(∀x∈xs,∃ρ1,jqa tg (e x) ρ=some ρ1/\cond ρ1 μ=.ok (c x) μ/\(c x=true->elt ρ1 μ=.ok (f x) μ)) ->
  jbq ok tg cond elt ρ (xs.map e) μ=.ok ((xs.filter c).map f) μ
 |[],_=>jso h
 |x::xs,hx=>by
  obtain⟨ρ1,h1,h2,h3⟩:=hx x (by simp);have ih:=jmh (e:=e) (c:=c) (f:=f) h xs fun y hy=>hx y (by simp[hy]);rw[j0c,jq h h1,h2,jbf]
  cases hc:c x with
  |true=>rw[if_pos rfl,h3 hc,jbf,ih,jbf,j0t hc,j0c]
  |false=>rw[if_neg j0e,ih,j0z (by simp[hc])]
theorem jat {α:Type}{G:List FnE}{m:Bool}{own:Nat}{tg:Tg}{ik:IK}{es ifs:List E}{elt:E}{ρ:S3}{μ:M}{ds:List D}{xs:List α}{e:α->D}(c:α->Bool)(f:α->D)(he:evL G es ρ μ=.ok ds μ)(hi:itD ik ds μ=some (xs.map e))(hl:xs.length<=sizeLine)
  (h:∀x∈xs,∃ρ1,jqa tg (e x) (List.replicate own none++ρ)=some ρ1/\evTs G ifs ρ1 μ=.ok (c x) μ/\(c x=true->(ev G elt).v ρ1 μ=.ok (f x) μ)):(ev G (.comp m own tg ik es ifs elt)).v ρ μ=mkL m ((xs.filter c).map f) μ:=by
 rw[jsc,he,jbf,jf6 hi (by rw[j0d];exact hl) (jmh (jap hi) xs h)]
theorem jqt {n:Nat}{μ:M}(h:n<=1000000):itD .rng1 [.int (n:Int)] μ=some ((List.range n).map fun(k:Nat)=>D.int (k:Int)):=by
 unfold itD joi;dsimp only;rw[if_pos ⟨by omega,by omega⟩,j1t]
theorem jm2 {zs:List Int}{i:Nat}(h:i<zs.length){μ:M}:ixD (.lst (zs.map D.int)) (.int (i:Int)) μ=.ok (.int (zs.getD i 0)) μ:=by
 have e:atI (zs.map D.int) (i:Int)=some (.int (zs.getD i 0)):=jnK (by simp[h]);show(match atI (zs.map D.int) (i:Int)with|some d=>Out.ok d μ|none=>.bad)=_;rw[e]
theorem sz0:(0<=sizeLine)=True:=by rw[sizeLine_eq];simp
theorem sz1:(1<=sizeLine)=True:=by rw[sizeLine_eq];simp
theorem sz2:(2<=sizeLine)=True:=by rw[sizeLine_eq];simp
theorem sz3:(3<=sizeLine)=True:=by rw[sizeLine_eq];simp
theorem sz4:(4<=sizeLine)=True:=by rw[sizeLine_eq];simp
theorem sz5:(5<=sizeLine)=True:=by rw[sizeLine_eq];simp
theorem sz6:(6<=sizeLine)=True:=by rw[sizeLine_eq];simp
theorem sz7:(7<=sizeLine)=True:=by rw[sizeLine_eq];simp
theorem sz8:(8<=sizeLine)=True:=by rw[sizeLine_eq];simp
theorem sz9:(9<=sizeLine)=True:=by rw[sizeLine_eq];simp
theorem jFq:(10<=sizeLine)=True:=by rw[sizeLine_eq];simp
theorem jFo:(11<=sizeLine)=True:=by rw[sizeLine_eq];simp
theorem jE4:(12<=sizeLine)=True:=by rw[sizeLine_eq];simp
theorem jaC {α:Type}{h:Nat->Option D}{e:α->D}(he:∀x,jbn h (e x)=some (e x)):∀xs:List α,frzGs h (xs.map e)=some (xs.map e)
 |[]=>by unfold frzGs;rfl
 |x::xs=>by rw[j0c];unfold frzGs;rw[he x,jaC he xs]
theorem jas:jbn h (.int i)=some (.int i):=by unfold jbn;rfl
theorem jyH:jbn h (.str i)=some (.str i):=by unfold jbn;rfl
theorem jhi:jbn h (.bl i)=some (.bl i):=by unfold jbn;rfl
theorem jaX:jbn h .non=some .non:=by unfold jbn;rfl
theorem jkE (k:frzGs h ds=some es):jbn h (.tup ds)=some (.tup es):=by unfold jbn;rw[k];rfl
theorem jsj (k:frzGs h ds=some es):jbn h (.lst ds)=some (.lst es):=by unfold jbn;rw[k];rfl
theorem jak (k1:jbn h d=some e)(k2:frzGs h ds=some es):frzGs h (d::ds)=some (e::es):=by unfold frzGs;rw[k1,k2]
theorem jbV:frzGs h []=some []:=by unfold frzGs;rfl
section
variable {G:List FnE} {ρ:S3} {μ:M}
theorem jDu:(ev G (.gl f)).v ρ μ=glD (jj4 G f) μ:=rfl
theorem jxA:(ev G (.gget f a d)).v ρ μ=((ev G a).v ρ μ).bind fun x μ1=>((ev G d).v ρ μ1).bind fun y μ2=>jrW (jj4 G f) x y μ2:=rfl
theorem jBS:jj4 (g::G) (f+1)=jj4 G f:=rfl
theorem jCj:jj4 (g::G) 0=g.dat:=rfl
theorem jAD:glD (some (.cst d)) μ=.ok d μ:=rfl
theorem jut:jrW (some (.dct kvs)) (.str z) y μ=.ok ((jeV z kvs).getD y) μ:=rfl
end
noncomputable def mkF (C:Addr)(F:Fn):Fn:=fun ds μ=>match F (.cel μ.length::ds) (μ++[some (.obj C [] [])])with
 |.ok .non μ'=>.ok (.cel μ.length) μ'
 |.exc x μ'=>.exc x μ'
 |_=>.bad
theorem Rep.same {K:PySem.W.Frag}{w:Wd}{μ:M}{H H':Hp}(R:Rep K w μ H)(s:jgH H H'):Rep K w μ H':=
 ⟨R.sub.trans s,fun k c e=>⟨(R.liv k c e).1,(R.liv k c e).2.mono (Ext.refl _ _) (by obtain⟨o,q⟩:=(R.liv k c e).2.some;rw[q];exact s _ _ q)⟩,R.inj⟩
theorem jtz (h:H p=none):jgH H (upd H p o):=fun b u e=>by
 rw[jae (jar e h)];exact e
section
variable {P:Program} {w:World} {K:PySem.W.Frag} {mg:Str->Option Value} {base:Heap}
theorem jxh {C f:Addr}{fd:FuncData}{k np:Nat}{x s0:Str}{ps:List Str}{F:Fn}(M:Mk K C f)(h:FnOk P w K mg base CX0 k f fd (s0::ps) (jmZ K (np+1) F))(hm:mg x=some (.ref C))(hb:jdF K fd (s0::ps) []):CalG CX0 P w K mg base (k+1) x ps (jmZ K np (mkF C F)):=by
 refine⟨.inr ⟨C,f,fd,_,k,_,rfl,M,h,hm,hb,fun vs H Q E z x dx hx hdx ne=>?_⟩⟩;obtain⟨hl,w0,μ,ds,d,μ',R,l,e,q⟩:=z;have hx':(upd H dx (.own x)) x=none:=by rw[jae (Ne.symm ne)];exact hx
 obtain⟨w',R',x1,hg⟩:=(R.same (jtz hdx):Rep K w0 μ (upd H dx (.own x))).cell hx' (.ins C dx []) (.obj C [] []) (fun w' x=>⟨dx,[],rfl,by rw[jag];rfl,by unfold DenL;rfl⟩);have hlen:(μ++[some (Cl.obj C [] [])]).length=μ.length+1:=by simp
 unfold mkF at e;split at e
 ·rename_i μ1 e1;cases e;refine⟨by simp[hl],w',μ++[some (.obj C [] [])],.cel μ.length::ds,.non,μ',R',?_,e1,fun w2 H2 v x2 R2 dv=>?_⟩
  ·rw[hlen];unfold DenL;exact⟨.ref x,vs,rfl,by unfold Den;exact⟨j0Y _,by rw[hg]⟩,l.mono x1⟩
  ·rw[hlen]at x2;refine⟨by unfold Den at dv;exact dv,q w2 H2 (.ref x) (x1.trans x2) R2 ?_⟩;unfold Den;exact⟨j0m (j0Y _) x2.le,by rw[x2.g _ (j0Y _),hg]⟩
 ·cases e
 ·cases e
theorem jFh (h:FnOk P w K mg base CX k f fd ps sp)(hm:mg x=some (.ref f))(hk:PySem.W.keepIn K (.ref f)=true)(hb:jdF K fd ps []):DefG CX P w K mg base k x ps sp:=⟨f,fd,h,hm,hk,hb⟩
end
section
variable {G:List FnE} {ρ:S3} {μ:M}
noncomputable def jBR (o:Option Dat)(f:Str)(ρ:S3)(d x:D)(μ:M):Out Fl:=
 match jEo o f d x μ with
 |some μ1=>.ok (.nx ρ) μ1
 |none=>.bad
theorem juH:_L3.run G (.setF o i f e) ρ μ=((ev G e).v ρ μ).bind fun d μ1=>((ev G o).v ρ μ1).bind fun x μ2=>jBR (jj4 G i) f ρ d x μ2:=rfl
theorem jCY:(ev G (.fld a i f)).v ρ μ=((ev G a).v ρ μ).bind fun x μ1=>jrn (jj4 G i) f x μ1:=rfl
theorem jnh (h:joY f fs ds=some d):jrn (some (.cls C k fs0)) f (.obj C fs ds) μ=.ok d μ:=by
 unfold jrn jAF;simp only[if_true];rw[h]
theorem jw6 (h:F (.cel μ.length::ds) (μ++[some (.obj C [] [])])=.ok .non μ'):mkF C F ds μ=.ok (.cel μ.length) μ':=by
 unfold mkF;rw[h]
theorem jkX (hk:μ[kc]?=some (some (.obj C fs ds)))(hl:fs.length<1000)(h1:jiO f fs=fs')(h2:jeX f d fs ds=ds'):jBR (some (.cls C k fs0)) f ρ d (.cel kc) μ=.ok (.nx ρ) (μ.set kc (some (.obj C fs' ds'))):=by
 unfold jBR jEo jDb;simp only[hk];rw[if_pos ⟨trivial,hl⟩,h1,h2]
theorem jxl:(ev G (.dnew t)).v ρ μ=.ok (.cel μ.length) (μ++[some (if t then .dT [] []else .dK [] [])]):=nr rfl
noncomputable def jq1 (x y z:D)(μ:M):Out D:=
 match jlL μ x y with
 |some o=>.ok (o.getD z) μ
 |none=>.bad
theorem jtD:(ev G (.dget2 o a f)).v ρ μ=((ev G o).v ρ μ).bind fun x μ1=>if jyq μ1 x then((ev G a).v ρ μ1).bind fun y μ2=>((ev G f).v ρ μ2).bind fun z μ3=>jq1 x y z μ3 else .bad:=nr rfl
theorem jCy:(ev G (.tix a b)).v ρ μ=((ev G a).v ρ μ).bind fun x μ1=>((ev G b).v ρ μ1).bind fun y μ2=>jBG x y μ2:=nr rfl
theorem jup:(ev G (.sortK f m a)).v ρ μ=((ev G a).v ρ μ).bind fun x μ1=>jlV G f m x μ1:=nr rfl
theorem jts:(ev G (.vals0 m a)).v ρ μ=((ev G a).v ρ μ).bind fun x μ1=>jm m x μ1:=nr rfl
theorem jtx:(ev G (.maxDf a b)).v ρ μ=((ev G a).v ρ μ).bind fun x μ1=>((ev G b).v ρ μ1).bind fun y μ2=>joa x y μ2:=nr rfl
noncomputable def ji2 (x y d:D)(ρ:S3)(μ:M):Out Fl:=
 match jsa x y d μ with
 |some μ1=>.ok (.nx ρ) μ1
 |none=>.bad
theorem jvg:_L3.run G (.setK o i e) ρ μ=((ev G e).v ρ μ).bind fun d μ1=>((ev G o).v ρ μ1).bind fun x μ2=>((ev G i).v ρ μ2).bind fun y μ3=>ji2 x y d ρ μ3:=nr rfl
theorem jzd:_L3.run G (.whl c) ρ μ=((ev G c).t ρ μ).bind fun k μ1=>if k then .bad else .ok (.nx ρ) μ1:=nr rfl
theorem jgr (hk:μ[kc]?=some (some (.dK ks vs)))(hy:jpT y=some k)(hl:ks.length<1000):ji2 (.cel kc) y d ρ μ=.ok (.nx ρ) (μ.set kc (some (.dK (je0 k ks) (jcX k d ks vs)))):=by
 unfold ji2 jsa;simp only[hk,hy];rw[if_pos hl]
theorem jtJ (hk:μ[kc]?=some (some (.dT ks vs)))(hy:jzH y=some k)(hl:ks.length<1000):ji2 (.cel kc) y d ρ μ=.ok (.nx ρ) (μ.set kc (some (.dT (je0 k ks) (jcX k d ks vs)))):=by
 unfold ji2 jsa;simp only[hk,hy];rw[if_pos hl]
theorem jvk (h1:je9 μ d=some xs)(h2:jld F μ xs=some ts)(nd:ts.Nodup)(h64:ts.length<64)(hq:jmQ ts q):jmL F m d μ=mkL m (q.map fun i=>xs.getD i .non) μ:=by
 unfold jmL;rw[h1];dsimp only;rw[h2];dsimp only;have hc:(ts.Nodup/\ts.length<64)/\∃q,jmQ ts q:=⟨⟨nd,h64⟩,q,hq⟩;rw[dif_pos hc,joO nd hc.2.choose_spec hq]
theorem jtU (h1:jjq μ d=some (ks,vs))(h2:t3D ks=some ts)(h64:ts.length<64)(hu:jBI ts us):jka m [d] μ=mkL m (us.map fun t=>.tup [.int t.1,.str t.2.1,.str t.2.2]) μ:=by
 unfold jka;dsimp only;rw[h1];dsimp only [Option.bind];rw[h2];dsimp only;have hc:ts.length<64/\∃us,jBI ts us:=⟨h64,us,hu⟩;rw[dif_pos hc,jrF hc.2.choose_spec hu]
end
theorem jwy (h:n<100000):n<=sizeLine:=by rw[sizeLine_eq];omega
noncomputable def jiU (z:Str):Bool:=decide (1<=z.length)&&(decide (z.length<=8)&&z.cps.toList.all fun c=>decide (97<=c)&&decide (c<=122))
theorem jaa (h:n<=1000):n<=sizeLine:=jwy (by omega)
theorem jil (h:xs.length+ys.length<=sizeLine):jlA .Add false (.lst xs) (.lst ys) μ=.ok (.lst (xs++ys)) μ:=by
 show @ite _ (xs.length+ys.length<=sizeLine) (Classical.propDecidable _) (mkL false (xs++ys) μ) .bad=_;rw[if_pos h];rfl
end _L3
namespace _K42
open PySem PySem.Spec PyProof.Rows _L2 _L3
local macro_rules | `(tactic|symm)=>`(tactic|try simp only[jwu,jxl,jtD,jCy,jup,jts,jtx,jvg,jzd,juH,jCY,sz0,sz1,sz2,sz3,sz4,sz5,sz6,sz7,sz8,sz9,jFq,jFo,jE4,Nat.zero_add,j0j,j1b,Nat.reduceAdd,if_true,if_false,j0H,j0c,j0B,List.replicate,List.cons_append,j1v,jub,jqz,jyz,jAN,jwk,jyM,jwh,jyd,jCW,jAt,jCK,jz3,jBW,jAK,jBD,jwg,jCU,jD2,jAI,jB4,jAh,jD8,jEd,jv6,jEg,jDm,jsc,jtp,jDY,jDJ,jEk,jDN,jxM,jrv,jyb,ju3,jCt,jw9,juD,jzb,jyF,jAj,jbf,juB,jwq,jyp,jyR,jwI,juj,juf,jAW,jCG,jEl,jBX,jAl,jyW,jx0,js,jzl,jsS,jkY,Int.reduceLT,Int.reduceLE,Int.reduceNeg,Int.reduceToNat,Int.reducePow,Nat.reduceLT,jAf,jBk,jAB,jA0,jxN,jyg,jyE,jxX,jx4,jA7,jtc,jBz,j0K,List.getElem?_cons_succ,j0U,j0V,jxa,jzj,jDu,jxA,jBS,jCj,jAD,jut,jjW,Bool.not_true,Bool.not_false,decide_true,decide_false])
local macro_rules|`(tactic|rwa[$r,*])=>`(tactic|(rw[$r,*];symm))
local macro_rules|`(tactic|ac_rfl)=>`(tactic|decide +kernel)
local macro_rules|`(tactic|walk_at"s")=>`(tactic|exact⟨rfl,rfl,rfl,by decide +kernel,rfl,by decide +kernel,by decide +kernel⟩)
abbrev gS (N:List Str) (k:Nat) (st:Stmt):Prop:=FnScope N (N.take k) (jau st)
abbrev gK (G:List FnE) (j:Nat) (b:List S) (N:List Str) (st:Stmt):Prop:=chkSs G j b ⟨N,jau st,false⟩ (jbp st)=true
noncomputable def top (i:Nat):Stmt:=PySem.Challenge.pw_pointpurse_k42_great_spans.main.body.getD i (.Pass ⟨0,0,0,0⟩)
noncomputable def jbh:FnE:=⟨"LONGEST_NAME",[],1000000,fun _ _=>.bad,some (.cst (.int 8))⟩
theorem jjz:jbh.dat=some (.cst (.int 8)):=rfl
noncomputable def jm4:FnE:=⟨"PARTS",[],1000000,fun _ _=>.bad,some (.dct [("buy",(.stt [(.str "ref"),(.str "day"),(.str "purse"),(.str "lines")])),("spend",(.stt [(.str "ref"),(.str "day"),(.str "purse"),(.str "points"),(.str "first")])),("give",(.stt [(.str "ref"),(.str "day"),(.str "purse"),(.str "other"),(.str "points")])),("change",(.stt [(.str "ref"),(.str "day"),(.str "purse"),(.str "other"),(.str "points")])),("lend",(.stt [(.str "ref"),(.str "day"),(.str "purse"),(.str "other"),(.str "points"),(.str "end")])),("back",(.stt [(.str "ref"),(.str "day"),(.str "of")])),("fix",(.stt [(.str "ref"),(.str "of"),(.str "lines")]))])⟩
noncomputable abbrev jfi:Stmt:=top 1
abbrev jfO:List Str:=["value","least"]
theorem jlG:gS jfO 2 jfi:=by walk_at"s"
def jfe:List S:=
  [.ret (.and_ (.bi (.isT "int") false [.var 0]) (.and_ (.not_ (.bi (.isT "bool") false [.var 0])) (.cmp .GtE (.var 0) (.var 1))))]
noncomputable abbrev jig:List FnE:=[]
noncomputable def jfg:Fn:=fnOf jig 2 0 jfe
noncomputable def jaE:FnE:=⟨"is_number",jfO.take 2,1,jfg,none⟩
theorem jnE:gK jig 0 jfe jfO jfi:=by ac_rfl
noncomputable abbrev jiY:Stmt:=top 2
abbrev jj:List Str:=["value"]
theorem jpf:gS jj 1 jiY:=by walk_at"s"
def jhT:List S:=
  [.ret (.bi (.isT2 "list" "tuple") false [.var 0])]
noncomputable abbrev jmJ:List FnE:=[]
noncomputable def jid:Fn:=fnOf jmJ 1 0 jhT
noncomputable def jit:FnE:=⟨"is_list",jj.take 1,1,jid,none⟩
theorem jrr:gK jmJ 0 jhT jj jiY:=by ac_rfl
noncomputable abbrev jc8:Stmt:=top 3
abbrev jcK:List Str:=["value","many"]
theorem jjn:gS jcK 2 jc8:=by walk_at"s"
def jcN:List S:=
  [.ret (.and_ (.bi (.isT "tuple") false [.var 0]) (.cmp .Eq (.bi .len false [.var 0]) (.var 1)))]
noncomputable abbrev jf5:List FnE:=[]
noncomputable def jc1:Fn:=fnOf jf5 2 0 jcN
noncomputable def jbb:FnE:=⟨"is_tuple_of",jcK.take 2,1,jc1,none⟩
theorem jkL:gK jf5 0 jcN jcK jc8:=by ac_rfl
noncomputable abbrev jdM:Stmt:=top 4
abbrev jej:List Str:=["values"]
theorem jkD:gS jej 1 jdM:=by walk_at"s"
def jeI:List S:=
  [.ret (.cmp .Eq (.bi .lenSet false [.var 0]) (.bi .len false [.var 0]))]
noncomputable abbrev jha:List FnE:=[]
noncomputable def jd8:Fn:=fnOf jha 1 0 jeI
noncomputable def jax:FnE:=⟨"are_unlike",jej.take 1,1,jd8,none⟩
theorem jlC:gK jha 0 jeI jej jdM:=by ac_rfl
noncomputable abbrev jen:Stmt:=top 5
abbrev jd0:List Str:=["numbers","place"]
theorem jkH:gS jd0 1 jen:=by walk_at"s"
def je8:List S:=
  [.ite (.cmp .LtE (.ix (.var 0) (.var 1)) (.ix (.var 0) (.bin .Sub false (.var 1) (.cst (.int 1)))))
   [.ret (.cst (.bl false))]
   []]
def jef:List S:=
  [.for_ (.nm 1) .rng2 [.cst (.int 1),.bi .len false [.var 0]] je8 [1],
  .ret (.cst (.bl true))]
noncomputable abbrev jhh:List FnE:=[]
noncomputable def jeG:Fn:=fnOf jhh 1 1 jef
noncomputable def jeF:FnE:=⟨"are_rising",jd0.take 1,1,jeG,none⟩
theorem jmE:gK jhh 0 jef jd0 jen:=by ac_rfl
noncomputable abbrev jie:Stmt:=top 12
abbrev ji9:List Str:=["text"]
theorem jpD:gS ji9 1 jie:=by walk_at"s"
def jfa:E:=(.comp false 1 (.nm 0) .str [.var 0] [] (.chain .LtE .LtE (.cst (.str "a")) (.var 0) (.cst (.str "z"))))
def jiA:List S:=
  [.ite (.or_ (.not_ (.bi (.isT "str") false [.var 0])) (.not_ (.chain .LtE .LtE (.cst (.int 1)) (.bi .len false [.var 0]) (.gl 0))))
   [.ret (.cst (.bl false))]
   [],
  .ret (.bi .all false [jfa])]
noncomputable abbrev jiE:List FnE:=[jbh]
noncomputable def jhU:Fn:=fnOf jiE 1 0 jiA
noncomputable def jcG:FnE:=⟨"is_name",ji9.take 1,1,jhU,none⟩
theorem jq6:gK jiE 0 jiA ji9 jie:=by ac_rfl
noncomputable abbrev jbu:Stmt:=top 13
abbrev jbw:List Str:=["holds","words"]
theorem jhk:gS jbw 2 jbu:=by walk_at"s"
def jbA:List S:=
  [.ite (.not_ (.var 0))
   [.never]
   []]
noncomputable abbrev jem:List FnE:=[]
noncomputable def jbX:Fn:=fnOf jem 2 0 jbA
noncomputable def jan:FnE:=⟨"demand_houses",jbw.take 2,1,jbX,none⟩
theorem ji0:gK jem 0 jbA jbw jbu:=by ac_rfl
noncomputable abbrev ja5:Stmt:=top 15
abbrev ja9:List Str:=["value","least"]
theorem jeY:gS ja9 2 ja5:=by walk_at"s"
def ja7:List S:=
  [.ret (.or_ (.isN (.var 0)) (.call 0 .frz [.var 0,.var 1]))]
noncomputable abbrev jbT:List FnE:=[jaE]
noncomputable def ja6:Fn:=fnOf jbT 2 0 ja7
noncomputable def ja8:FnE:=⟨"is_number_or_none",ja9.take 2,2,ja6,none⟩
theorem jfM:gK jbT 1 ja7 ja9 ja5:=by ac_rfl
noncomputable abbrev jey:Stmt:=top 16
abbrev jec:List Str:=["value","many","words"]
theorem jlx:gS jec 3 jey:=by walk_at"s"
def jc:E:=(.comp false 1 (.nm 0) .seq [.var 0] [] (.call 2 .frz [.var 0,.var 2]))
def jeE:List S:=
  [.ex (.call 0 .frz [.call 1 .frz [.var 0],.var 2]),
  .ex (.call 0 .frz [.bi .all false [jc],.var 2])]
noncomputable abbrev jet:List FnE:=[jan,jit,jbb]
noncomputable def jd1:Fn:=fnOf jet 3 0 jeE
noncomputable def jaT:FnE:=⟨"check_list",jec.take 3,2,jd1,none⟩
theorem jmg:gK jet 1 jeE jec jey:=by ac_rfl
noncomputable abbrev jdy:Stmt:=top 17
abbrev jcH:List Str:=["share"]
theorem jjk:gS jcH 1 jdy:=by walk_at"s"
def jc6:List S:=
  [.ex (.call 0 .frz [.call 1 .frz [.var 0,.cst (.int 2)],.cst (.str "the share is no pair")]),
  .ex (.call 0 .frz [.call 2 .frz [.ix (.var 0) (.cst (.int 0)),.cst (.int 0)],.cst (.str "the share's top is no number, or too low")]),
  .ex (.call 0 .frz [.call 2 .frz [.ix (.var 0) (.cst (.int 1)),.cst (.int 1)],.cst (.str "the share's bottom is no number, or too low")])]
noncomputable abbrev jf2:List FnE:=[jan,jbb,jaE]
noncomputable def jcT:Fn:=fnOf jf2 1 0 jc6
noncomputable def jds:FnE:=⟨"check_share",jcH.take 1,2,jcT,none⟩
theorem jlw:gK jf2 1 jc6 jcH jdy:=by ac_rfl
noncomputable abbrev jcO:Stmt:=top 18
abbrev jc0:List Str:=["kinds","kind","factor"]
theorem jjt:gS jc0 1 jcO:=by walk_at"s"
def jih:List S:=
  [.ex (.call 1 .frz [.call 2 .frz [.var 1],.cst (.str "a kind is no name")]),
  .ex (.call 1 .frz [.call 3 .frz [.var 2,.cst (.int 0)],.cst (.str "a kind's factor is no number, or too low")])]
def jeA:E:=(.comp false 2 (.tp [0,1]) .seq [.var 0] [] (.var 0))
def jc3:List S:=
  [.ex (.call 0 .frz [.var 0,.cst (.int 2),.cst (.str "kinds is no list of pairs")]),
  .for_ (.tp [1,2]) .seq [.var 0] jih [1,2],
  .ex (.call 1 .frz [.call 4 .frz [jeA],.cst (.str "a kind is told twice")])]
noncomputable abbrev jgm:List FnE:=[jaT,jan,jcG,jaE,jax]
noncomputable def jdo:Fn:=fnOf jgm 1 2 jc3
noncomputable def jc2:FnE:=⟨"check_kinds",jc0.take 1,3,jdo,none⟩
theorem jk9:gK jgm 2 jc3 jc0 jcO:=by ac_rfl
noncomputable abbrev jcp:Stmt:=top 19
abbrev jci:List Str:=["pairs","lowest","words"]
theorem jic:gS jci 3 jcp:=by walk_at"s"
def jbo:E:=(.comp false 1 (.nm 0) .seq [.var 0] [] (.call 2 .frz [.ix (.var 0) (.cst (.int 0)),.var 2]))
def jbm:E:=(.comp false 1 (.nm 0) .seq [.var 0] [] (.ix (.var 0) (.cst (.int 0))))
def jcl:List S:=
  [.ex (.call 0 .frz [.var 0,.cst (.int 2),.var 2]),
  .ex (.call 1 .frz [.bi .all false [jbo],.var 2]),
  .ex (.call 1 .frz [.call 3 .frz [jbm],.var 2])]
noncomputable abbrev jbg:List FnE:=[jaT,jan,jaE,jeF]
noncomputable def jcz:Fn:=fnOf jbg 3 0 jcl
noncomputable def jaY:FnE:=⟨"check_leasts",jci.take 3,3,jcz,none⟩
theorem jjx:gK jbg 2 jcl jci jcp:=by ac_rfl
noncomputable abbrev jcL:Stmt:=top 20
abbrev jdj:List Str:=["steps","least","extra"]
theorem jjp:gS jdj 1 jcL:=by walk_at"s"
def jik:List S:=
  [.ex (.call 1 .frz [.call 2 .frz [.var 2,.cst (.int 0)],.cst (.str "a step's extra is no number, or too low")])]
def jc4:List S:=
  [.ex (.call 0 .frz [.var 0,.cst (.int 0),.cst (.str "the leasts of the steps are too low or don't rise")]),
  .for_ (.tp [1,2]) .seq [.var 0] jik [1,2]]
noncomputable abbrev jgb:List FnE:=[jaY,jan,jaE]
noncomputable def jcW:Fn:=fnOf jgb 1 2 jc4
noncomputable def jcS:FnE:=⟨"check_steps",jdj.take 1,4,jcW,none⟩
theorem jk7:gK jgb 3 jc4 jdj jcL:=by ac_rfl
noncomputable abbrev jbI:Stmt:=top 21
abbrev jbv:List Str:=["doubles","first","last","factor"]
theorem jhl:gS jbv 1 jbI:=by walk_at"s"
def jgB:List S:=
  [.ex (.call 1 .frz [.and_ (.call 2 .frz [.var 1,.cst (.int 0)]) (.call 2 .frz [.var 2,.cst (.int 0)]),.cst (.str "a double's day is no day")]),
  .ex (.call 1 .frz [.cmp .LtE (.var 1) (.var 2),.cst (.str "a double's first day is behind its last one")]),
  .ex (.call 1 .frz [.call 2 .frz [.var 3,.cst (.int 1)],.cst (.str "a double's factor is no number, or too low")])]
def jbZ:List S:=
  [.ex (.call 0 .frz [.var 0,.cst (.int 3),.cst (.str "doubles is no list of triples")]),
  .for_ (.tp [1,2,3]) .seq [.var 0] jgB [1,2,3]]
noncomputable abbrev jdW:List FnE:=[jaT,jan,jaE]
noncomputable def jbz:Fn:=fnOf jdW 1 3 jbZ
noncomputable def jbx:FnE:=⟨"check_doubles",jbv.take 1,3,jbz,none⟩
theorem jiz:gK jdW 2 jbZ jbv jbI:=by ac_rfl
noncomputable abbrev jd:Stmt:=top 22
abbrev jcJ:List Str:=["ranks","least","title"]
theorem jjl:gS jcJ 1 jd:=by walk_at"s"
def jep:List S:=
  [.ex (.call 1 .frz [.call 2 .frz [.var 2],.cst (.str "a rank's title is no name")])]
def jc7:List S:=
  [.ex (.call 0 .frz [.var 0,.cst (.int 1),.cst (.str "the leasts of the ranks are too low or don't rise")]),
  .for_ (.tp [1,2]) .seq [.var 0] jep [1,2]]
noncomputable abbrev jgi:List FnE:=[jaY,jan,jcG]
noncomputable def jdc:Fn:=fnOf jgi 1 2 jc7
noncomputable def jcQ:FnE:=⟨"check_ranks",jcJ.take 1,4,jdc,none⟩
theorem jko:gK jgi 3 jc7 jcJ jd:=by ac_rfl
noncomputable abbrev jcn:Stmt:=jnw (top 23) 0
abbrev jcB:List Str:=["self","name","share","kinds","steps","doubles","cap","age","rest","ranks","span","grace"]
theorem jh6:gS jcB 12 jcn:=by walk_at"s"
def jcc:List S:=
  [.ex (.call 0 .frz [.call 1 .frz [.var 1],.cst (.str "the house's name is no name")]),
  .ex (.call 2 .frz [.var 2]),
  .ex (.call 3 .frz [.var 3]),
  .ex (.call 4 .frz [.var 4]),
  .ex (.call 5 .frz [.var 5]),
  .ex (.call 0 .frz [.call 6 .frz [.var 6,.cst (.int 0)],.cst (.str "the cap is no number, or too low")]),
  .ex (.call 0 .frz [.call 6 .frz [.var 7,.cst (.int 1)],.cst (.str "the age is no number, or too low")]),
  .ex (.call 0 .frz [.call 6 .frz [.var 8,.cst (.int 1)],.cst (.str "the rest is no number, or too low")]),
  .ex (.call 7 .frz [.var 9]),
  .ex (.call 0 .frz [.call 8 .frz [.var 10,.cst (.int 1)],.cst (.str "the span is no number, or too low")]),
  .ex (.call 0 .frz [.call 8 .frz [.var 11,.cst (.int 0)],.cst (.str "the grace is no number, or too low")]),
  .setF (.var 0) 9 "name" (.var 1),
  .setF (.var 0) 9 "share" (.var 2),
  .setF (.var 0) 9 "kinds" (.bi .tuple false [.var 3]),
  .setF (.var 0) 9 "steps" (.bi .tuple false [.var 4]),
  .setF (.var 0) 9 "doubles" (.bi .tuple false [.var 5]),
  .setF (.var 0) 9 "cap" (.var 6),
  .setF (.var 0) 9 "age" (.var 7),
  .setF (.var 0) 9 "rest" (.var 8),
  .setF (.var 0) 9 "ranks" (.bi .tuple false [.var 9]),
  .setF (.var 0) 9 "span" (.var 10),
  .setF (.var 0) 9 "grace" (.var 11)]
noncomputable def jhA:FnE:=⟨"House",[],1000000,fun _ _=>.bad,some (.cls 165 1000000 ["name","share","kinds","steps","doubles","cap","age","rest","ranks","span","grace"])⟩
noncomputable abbrev je5:List FnE:=[jan,jcG,jds,jc2,jcS,jbx,ja8,jcQ,jaE,jhA]
noncomputable def ja0:Fn:=fnOf je5 12 0 jcc
theorem jjs:gK je5 4 jcc jcB jcn:=by ac_rfl
noncomputable def jaG:FnE:=⟨"House",["name","share","kinds","steps","doubles","cap","age","rest","ranks","span","grace"],6,mkF 165 ja0,some (.cls 165 5 ["name","share","kinds","steps","doubles","cap","age","rest","ranks","span","grace"])⟩
noncomputable abbrev jcA:Stmt:=top 25
abbrev jcw:List Str:=["holds","words"]
theorem jhO:gS jcw 2 jcA:=by walk_at"s"
def jcq:List S:=
  [.ite (.not_ (.var 0))
   [.never]
   []]
noncomputable abbrev je1:List FnE:=[]
noncomputable def jck:Fn:=fnOf je1 2 0 jcq
noncomputable def ja2:FnE:=⟨"demand_books",jcw.take 2,1,jck,none⟩
theorem jjE:gK je1 0 jcq jcw jcA:=by ac_rfl
noncomputable abbrev jco:Stmt:=top 27
abbrev jcu:List Str:=["purses","names","purse","name"]
theorem jh5:gS jcu 2 jco:=by walk_at"s"
def jdz:List S:=
  [.ex (.call 0 .frz [.call 1 .frz [.var 2],.cst (.str "a purse is no name")]),
  .ex (.call 0 .frz [.cmp .In (.var 3) (.var 1),.cst (.str "a purse is of a house that is not there")])]
def jdD:E:=(.comp false 2 (.tp [0,1]) .seq [.var 0] [] (.var 0))
def jcs:List S:=
  [.for_ (.tp [2,3]) .seq [.var 0] jdz [2,3],
  .ex (.call 0 .frz [.call 2 .frz [jdD],.cst (.str "a purse is told twice")])]
noncomputable abbrev je7:List FnE:=[ja2,jcG,jax]
noncomputable def jcg:Fn:=fnOf je7 2 2 jcs
noncomputable def jb5:FnE:=⟨"check_purses",jcu.take 2,2,jcg,none⟩
theorem jjw:gK je7 1 jcs jcu jco:=by ac_rfl
noncomputable abbrev jdg:Stmt:=top 28
abbrev jdp:List Str:=["rates","names","start","goal","top","bottom"]
theorem jjv:gS jdp 2 jdg:=by walk_at"s"
def jhV:List S:=
  [.ex (.call 0 .frz [.and_ (.cmp .In (.var 2) (.var 1)) (.cmp .In (.var 3) (.var 1)),.cst (.str "a rate is of a house that is not there")]),
  .ex (.call 0 .frz [.cmp .NotEq (.var 2) (.var 3),.cst (.str "a rate goes from a house to itself")]),
  .ex (.call 0 .frz [.call 1 .frz [.var 4,.cst (.int 0)],.cst (.str "a rate's top is too low")]),
  .ex (.call 0 .frz [.call 1 .frz [.var 5,.cst (.int 1)],.cst (.str "a rate's bottom is too low")])]
def jex:E:=(.comp false 1 (.nm 0) .seq [.var 0] [] (.tup [.ix (.var 0) (.cst (.int 0)),.ix (.var 0) (.cst (.int 1))]))
def jdf:List S:=
  [.for_ (.tp [2,3,4,5]) .seq [.var 0] jhV [2,3,4,5],
  .ex (.call 0 .frz [.call 2 .frz [jex],.cst (.str "two rates go from one house to the same other one")])]
noncomputable abbrev jf3:List FnE:=[ja2,jaE,jax]
noncomputable def jcP:Fn:=fnOf jf3 2 4 jdf
noncomputable def jcU:FnE:=⟨"check_rates",jdp.take 2,2,jcP,none⟩
theorem jkM:gK jf3 1 jdf jdp jdg:=by ac_rfl
noncomputable abbrev jdl:Stmt:=jnw (top 29) 0
abbrev jdt:List Str:=["self","houses","purses","rates","names"]
theorem jjB:gS jdt 4 jdl:=by walk_at"s"
def jdY:E:=(.comp false 1 (.nm 0) .seq [.var 1] [] (.fld (.var 0) 0 "name"))
def jdu:List S:=
  [.asg (.nm 4) jdY,
  .ex (.call 1 .frz [.cmp .Gt (.bi .len false [.var 4]) (.cst (.int 0)),.cst (.str "there is no house")]),
  .ex (.call 1 .frz [.call 2 .frz [.var 4],.cst (.str "two houses have one name")]),
  .ex (.call 3 .frz [.var 2,.var 4]),
  .ex (.call 4 .frz [.var 3,.var 4]),
  .setF (.var 0) 5 "houses" (.bi .tuple false [.var 1]),
  .setF (.var 0) 5 "purses" (.bi .tuple false [.var 2]),
  .setF (.var 0) 5 "rates" (.bi .tuple false [.var 3])]
noncomputable def jkN:FnE:=⟨"Book",[],1000000,fun _ _=>.bad,some (.cls 201 1000000 ["houses","purses","rates"])⟩
noncomputable abbrev jfX:List FnE:=[jaG,ja2,jax,jb5,jcU,jkN]
noncomputable def jbc:Fn:=fnOf jfX 4 1 jdu
theorem jlu:gK jfX 6 jdu jdt jdl:=by ac_rfl
noncomputable def je2:FnE:=⟨"Book",["houses","purses","rates"],8,mkF 201 jbc,some (.cls 201 7 ["houses","purses","rates"])⟩
noncomputable abbrev jgz:Stmt:=top 30
abbrev jgQ:List Str:=["book","purse","name"]
theorem jnt:gS jgQ 2 jgz:=by walk_at"s"
def jhg:E:=(.comp false 1 (.nm 0) .seq [.fld (.var 0) 0 "houses"] [.cmp .Eq (.fld (.var 0) 1 "name") (.var 3)] (.var 0))
def jg9:List S:=
  [.asg (.nm 2) (.ix (.bi .dict false [.fld (.var 0) 0 "purses"]) (.var 1)),
  .ret (.ix jhg (.cst (.int 0)))]
noncomputable abbrev jj0:List FnE:=[je2,jaG]
noncomputable def jgy:Fn:=fnOf jj0 2 1 jg9
noncomputable def jaW:FnE:=⟨"house_of",jgQ.take 2,9,jgy,none⟩
theorem jph:gK jj0 8 jg9 jgQ jgz:=by ac_rfl
noncomputable abbrev jgW:Stmt:=top 33
abbrev jg8:List Str:=["debts","points","payments","left","rest","ref","to","owed","paid"]
theorem jnF:gS jg8 2 jgW:=by walk_at"s"
def jmD:List S:=
  [.asg (.nm 8) (.bi .min2 false [.var 4,.var 7]),
  .asg (.nm 4) (.bin .Sub false (.var 4) (.var 8)),
  .ite (.cmp .Gt (.var 8) (.cst (.int 0)))
   [.ex (.mt .append (.var 2) [.tup [.var 5,.var 6,.var 8]])]
   [],
  .ite (.cmp .Lt (.var 8) (.var 7))
   [.ex (.mt .append (.var 3) [.tup [.var 5,.var 6,.bin .Sub false (.var 7) (.var 8)]])]
   []]
def jgX:List S:=
  [.asg (.nm 2) (.lst true []),
  .asg (.nm 3) (.lst true []),
  .asg (.nm 4) (.var 1),
  .for_ (.tp [5,6,7]) .seq [.var 0] jmD [5,6,7,8],
  .ret (.tup [.var 2,.var 3,.var 4])]
noncomputable abbrev jkd:List FnE:=[]
noncomputable def jg4:Fn:=fnOf jkd 2 7 jgX
noncomputable def jgV:FnE:=⟨"paid_off",jg8.take 2,1,jg4,none⟩
theorem jp8:gK jkd 0 jgX jg8 jgW:=by ac_rfl
noncomputable abbrev jgu:Stmt:=top 36
abbrev jgU:List Str:=["word"]
theorem jnM:gS jgU 1 jgu:=by walk_at"s"
def jeL:List S:=
  [.ret (.gget 0 (.var 0) (.tup []))]
noncomputable abbrev jkf:List FnE:=[jm4]
noncomputable def jcD:Fn:=fnOf jkf 1 0 jeL
noncomputable def jeN:FnE:=⟨"parts_of",jgU.take 1,1,jcD,none⟩
theorem jp1:gK jkf 0 jeL jgU jgu:=by ac_rfl
noncomputable abbrev jdw:Stmt:=top 37
abbrev jdv:List Str:=["deed"]
theorem jji:gS jdv 1 jdw:=by walk_at"s"
def jbs:List S:=
  [.ret (.bi .dictZip false [.call 0 .frz [.ix (.var 0) (.cst (.int 0))],.sl false (.var 0) [.cst (.int 1)] []])]
noncomputable abbrev jgp:List FnE:=[jeN]
noncomputable def jba:Fn:=fnOf jgp 1 0 jbs
noncomputable def jbd:FnE:=⟨"named_parts",jdv.take 1,2,jba,none⟩
theorem jle:gK jgp 1 jbs jdv jdw:=by ac_rfl
noncomputable abbrev jgZ:Stmt:=top 38
abbrev jgA:List Str:=["deed","parts"]
theorem jm9:gS jgA 1 jgZ:=by walk_at"s"
def jeP:List S:=
  [.asg (.nm 1) (.call 0 .frz [.var 0]),
  .ret (.tup [.ix (.var 1) (.cst (.str "day")),.ix (.var 1) (.cst (.str "ref"))])]
noncomputable abbrev jj7:List FnE:=[jbd]
noncomputable def jaV:Fn:=fnOf jj7 1 1 jeP
noncomputable def jcC:FnE:=⟨"place_of",jgA.take 1,3,jaV,none⟩
theorem jpR:gK jj7 2 jeP jgA jgZ:=by ac_rfl
noncomputable abbrev jft:Stmt:=top 40
abbrev jfx:List Str:=["house","kind","told","factor"]
theorem jlS:gS jfx 2 jft:=by walk_at"s"
def jlh:List S:=
  [.ite (.cmp .Eq (.var 2) (.var 1))
   [.ret (.var 3)]
   []]
def jfc:List S:=
  [.for_ (.tp [2,3]) .seq [.fld (.var 0) 0 "kinds"] jlh [2,3],
  .ret (.cst (.int 1))]
noncomputable abbrev jhY:List FnE:=[jaG]
noncomputable def jfj:Fn:=fnOf jhY 2 2 jfc
noncomputable def jfy:FnE:=⟨"factor_of",jfx.take 2,7,jfj,none⟩
theorem jm3:gK jhY 6 jfc jfx jft:=by ac_rfl
noncomputable abbrev jiq:Stmt:=top 41
abbrev jh9:List Str:=["house","lines"]
theorem jpp:gS jh9 2 jiq:=by walk_at"s"
def jii:E:=(.comp false 2 (.tp [0,1]) .seq [.var 1] [] (.bin .Mult false (.var 1) (.call 0 .frz [.var 2,.var 0])))
def jhM:List S:=
  [.ret (.bi .sum false [jii])]
noncomputable abbrev jmi:List FnE:=[jfy]
noncomputable def jif:Fn:=fnOf jmi 2 0 jhM
noncomputable def jja:FnE:=⟨"weighed",jh9.take 2,8,jif,none⟩
theorem jrd:gK jmi 7 jhM jh9 jiq:=by ac_rfl
noncomputable abbrev jeg:Stmt:=top 42
abbrev jdN:List Str:=["house","day"]
theorem jk2:gS jdN 2 jeg:=by walk_at"s"
def jf:E:=(.comp false 3 (.tp [0,1,2]) .seq [.fld (.var 0) 0 "doubles"] [.chain .LtE .LtE (.var 0) (.var 4) (.var 1)] (.var 2))
def jel:List S:=
  [.ret (.maxDf jf (.cst (.int 1)))]
noncomputable abbrev jh:List FnE:=[jaG]
noncomputable def jeb:Fn:=fnOf jh 2 0 jel
noncomputable def jdZ:FnE:=⟨"day_factor",jdN.take 2,7,jeb,none⟩
theorem jma:gK jh 6 jel jdN jeg:=by ac_rfl
noncomputable abbrev jgP:Stmt:=top 43
abbrev jg7:List Str:=["house","lines","money_in_all","reached","least","extra"]
theorem jnO:gS jg7 2 jgP:=by walk_at"s"
def jhd:E:=(.comp false 2 (.tp [0,1]) .seq [.var 1] [] (.var 1))
def jl5:List S:=
  [.ite (.cmp .LtE (.var 4) (.var 2))
   [.asg (.nm 3) (.var 5)]
   []]
def jg1:List S:=
  [.asg (.nm 2) (.bi .sum false [jhd]),
  .asg (.nm 3) (.cst (.int 0)),
  .for_ (.tp [4,5]) .seq [.fld (.var 0) 0 "steps"] jl5 [4,5],
  .ret (.var 3)]
noncomputable abbrev jke:List FnE:=[jaG]
noncomputable def jgt:Fn:=fnOf jke 2 4 jg1
noncomputable def jgG:FnE:=⟨"extra_of",jg7.take 2,7,jgt,none⟩
theorem jpM:gK jke 6 jg1 jg7 jgP:=by ac_rfl
noncomputable abbrev jkp:Stmt:=top 44
abbrev jl:List Str:=["house","day","lines","top","bottom","plain"]
theorem jq2:gS jl 3 jkp:=by walk_at"s"
def jk3:List S:=
  [.asg (.nm 3) (.ix (.fld (.var 0) 0 "share") (.cst (.int 0))),
  .asg (.nm 4) (.ix (.fld (.var 0) 0 "share") (.cst (.int 1))),
  .asg (.nm 5) (.bin .FloorDiv false (.bin .Mult false (.call 1 .frz [.var 0,.var 2]) (.var 3)) (.var 4)),
  .ret (.bin .Mult false (.bin .Add false (.var 5) (.call 2 .frz [.var 0,.var 2])) (.call 3 .frz [.var 0,.var 1]))]
noncomputable abbrev jn3:List FnE:=[jaG,jja,jgG,jdZ]
noncomputable def jlt:Fn:=fnOf jn3 3 3 jk3
noncomputable def jkk:FnE:=⟨"brings",jl.take 3,9,jlt,none⟩
theorem jtg:gK jn3 8 jk3 jl jkp:=by ac_rfl
noncomputable abbrev jre:Stmt:=top 48
abbrev jqB:List Str:=["row","piles","many","born","source","mark","points"]
theorem jzm:gS jqB 2 jre:=by walk_at"s"
def jkP:List S:=
  [.setK (.var 2) (.tup [.var 3,.var 4,.var 5]) (.bin .Add false (.dget2 (.var 2) (.tup [.var 3,.var 4,.var 5]) (.cst (.int 0))) (.var 6))]
def jlj:E:=(.comp false 3 (.tp [0,1,2]) .seq [.bi .sortD false [.var 2]] [] (.tup [.var 0,.var 1,.var 2,.tix (.var 5) (.tup [.var 0,.var 1,.var 2])]))
def jqw:List S:=
  [.asg (.nm 2) (.dnew true),
  .for_ (.tp [3,4,5,6]) .seq [.bin .Add false (.bi .list false [.var 0]) (.bi .list false [.var 1])] jkP [3,4,5,6],
  .ret jlj]
noncomputable abbrev joj:List FnE:=[]
noncomputable def jqR:Fn:=fnOf joj 2 5 jqw
noncomputable def jsW:FnE:=⟨"laid",jqB.take 2,1,jqR,none⟩
theorem jCu:gK joj 0 jqw jqB jre:=by ac_rfl
noncomputable abbrev jch:Stmt:=top 49
abbrev jb8:List Str:=["pile","own"]
theorem jiS:gS jb8 2 jch:=by walk_at"s"
def jca:List S:=
  [.ret (.or_ (.not_ (.var 1)) (.cmp .Eq (.ix (.var 0) (.cst (.int 2))) (.cst (.str ""))))]
noncomputable abbrev je4:List FnE:=[]
noncomputable def jb6:Fn:=fnOf je4 2 0 jca
noncomputable def jce:FnE:=⟨"may_be_drawn",jb8.take 2,1,jb6,none⟩
theorem jjr:gK je4 0 jca jb8 jch:=by ac_rfl
noncomputable abbrev jkz:Stmt:=top 50
abbrev jkq:List Str:=["row","own"]
theorem jrQ:gS jkq 2 jkz:=by walk_at"s"
def jgS:E:=(.comp false 1 (.nm 0) .seq [.var 0] [.call 0 .frz [.var 0,.var 2]] (.ix (.var 0) (.cst (.int 3))))
def jkj:List S:=
  [.ret (.bi .sum false [jgS])]
noncomputable abbrev jkt:List FnE:=[jce]
noncomputable def jla:Fn:=fnOf jkt 2 0 jkj
noncomputable def jlp:FnE:=⟨"sum_of",jkq.take 2,2,jla,none⟩
theorem ju8:gK jkt 1 jkj jkq jkz:=by ac_rfl
noncomputable abbrev jcd:Stmt:=jnw (top 55) 0
abbrev jct:List Str:=["self","book"]
theorem ji5:gS jct 2 jcd:=by walk_at"s"
def jdE:E:=(.comp false 2 (.tp [0,1]) .seq [.fld (.var 1) 1 "purses"] [] (.tup [.var 0,.lst false []]))
def jdA:E:=(.comp false 2 (.tp [0,1]) .seq [.fld (.var 1) 1 "purses"] [] (.tup [.var 0,.lst false []]))
def jcx:List S:=
  [.setF (.var 0) 0 "day" (.cst (.int 0)),
  .setF (.var 0) 0 "rows" (.bi .dict true [jdE]),
  .setF (.var 0) 0 "debts" (.bi .dict true [jdA]),
  .setF (.var 0) 0 "earned" (.dnew false),
  .setF (.var 0) 0 "ends" (.lst true []),
  .setF (.var 0) 0 "owed" (.lst true []),
  .setF (.var 0) 0 "odds" (.dnew false),
  .setF (.var 0) 0 "backs" (.dnew false),
  .setF (.var 0) 0 "stirs" (.dnew false),
  .setF (.var 0) 0 "lendings" (.dnew false)]
noncomputable def jhG:FnE:=⟨"State",[],1000000,fun _ _=>.bad,some (.cls 343 1000000 ["day","rows","debts","earned","ends","owed","odds","backs","stirs","lendings"])⟩
noncomputable abbrev je6:List FnE:=[jhG,je2]
noncomputable def jbi:Fn:=fnOf je6 2 0 jcx
theorem jjD:gK je6 8 jcx jct jcd:=by ac_rfl
noncomputable def jaH:FnE:=⟨"State",["book"],10,mkF 343 jbi,some (.cls 343 9 ["day","rows","debts","earned","ends","owed","odds","backs","stirs","lendings"])⟩
noncomputable abbrev jwG:Stmt:=top 56
abbrev jyB:List Str:=["state","purse","piles"]
theorem jCi:gS jyB 3 jwG:=by walk_at"s"
def jnb:E:=(.comp false 1 (.nm 0) .seq [.var 2] [(.cmp .Gt (.ix (.var 0) (.cst (.int 3))) (.cst (.int 0)))] (.var 0))
def jxz:List S:=
  [.setK (.fld (.var 0) 0 "rows") (.var 1) (.call 1 .frz [.ix (.fld (.var 0) 0 "rows") (.var 1),jnb])]
noncomputable abbrev jxd:List FnE:=[jaH,jsW]
noncomputable def jz:Fn:=fnOf jxd 3 0 jxz
noncomputable def jxZ:FnE:=⟨"lay",jyB.take 3,11,jz,none⟩
theorem jDZ:gK jxd 10 jxz jyB jwG:=by ac_rfl
noncomputable abbrev jea:Stmt:=top 57
abbrev jer:List Str:=["state","piles","what","purse","ref","born","source","mark","points"]
theorem jkm:gS jer 5 jea:=by walk_at"s"
def jb7:List S:=
  [.ex (.mt .append (.fld (.var 0) 0 "ends") [.tup [.var 6,.var 2,.var 3,.var 4,.fld (.var 0) 0 "day",.var 8]])]
def jdR:List S:=
  [.for_ (.tp [5,6,7,8]) .seq [.var 1] jb7 [5,6,7,8]]
noncomputable abbrev jeH:List FnE:=[jaH]
noncomputable def jdL:Fn:=fnOf jeH 5 4 jdR
noncomputable def jb2:FnE:=⟨"end_points",jer.take 5,11,jdL,none⟩
theorem jmc:gK jeH 10 jdR jer jea:=by ac_rfl
noncomputable abbrev jwD:Stmt:=top 58
abbrev jwM:List Str:=["state","purse","ref","to","points"]
theorem jAg:gS jwM 5 jwD:=by walk_at"s"
def jzf:List S:=
  [.ite (.cmp .Gt (.var 4) (.cst (.int 0)))
   [.never,
   .never]
   []]
noncomputable abbrev jBA:List FnE:=[]
noncomputable def jzp:Fn:=fnOf jBA 5 0 jzf
noncomputable def jx6:FnE:=⟨"owe",jwM.take 5,1,jzp,none⟩
theorem jEi:gK jBA 0 jzf jwM jwD:=by ac_rfl
noncomputable abbrev jdS:Stmt:=top 65
abbrev jes:List Str:=["book","state","purse","row","house","days"]
theorem jlo:gS jes 3 jdS:=by walk_at"s"
def jed:List S:=
  [.asg (.nm 3) (.ix (.fld (.var 1) 0 "rows") (.var 2)),
  .asg (.nm 4) (.call 1 .frz [.var 0,.var 2]),
  .asg (.nm 5) (.lst true []),
  .ite (.and_ (.cmp .Gt (.bi .len false [.var 3]) (.cst (.int 0))) (.notN (.fld (.var 4) 2 "age")))
   [.never]
   [],
  .ite (.and_ (.cmp .Gt (.bi .len false [.var 3]) (.cst (.int 0))) (.notN (.fld (.var 4) 2 "rest")))
   [.never]
   [],
  .ret (.var 5)]
noncomputable abbrev jhf:List FnE:=[jaH,jaW,jaG]
noncomputable def jeh:Fn:=fnOf jhf 3 3 jed
noncomputable def jeu:FnE:=⟨"lapse_days",jes.take 3,11,jeh,none⟩
theorem jmu:gK jhf 10 jed jes jdS:=by ac_rfl
noncomputable abbrev jcm:Stmt:=top 66
abbrev jcy:List Str:=["book","state","days","purse","name"]
theorem jiT:gS jcy 2 jcm:=by walk_at"s"
def jdB:List S:=
  [.ex (.mt .extend (.var 2) [.call 1 .frz [.var 0,.var 1,.var 3]])]
def jcv:List S:=
  [.asg (.nm 2) (.vals0 true (.fld (.var 1) 0 "lendings")),
  .for_ (.tp [3,4]) .seq [.fld (.var 0) 2 "purses"] jdB [3,4],
  .ret (.ife (.cmp .Gt (.bi .len false [.var 2]) (.cst (.int 0))) (.bi .max2 false [.bi .min2 false [.var 2],.bin .Add false (.fld (.var 1) 0 "day") (.cst (.int 1))]) (.cst .non))]
noncomputable abbrev je3:List FnE:=[jaH,jeu,je2]
noncomputable def jcb:Fn:=fnOf je3 2 3 jcv
noncomputable def jcf:FnE:=⟨"next_morning",jcy.take 2,12,jcb,none⟩
theorem jjm:gK je3 11 jcv jcy jcm:=by ac_rfl
noncomputable abbrev jbC:Stmt:=top 67
abbrev jbL:List Str:=["book","state","day","coming"]
theorem jhq:gS jbL 3 jbC:=by walk_at"s"
def jbJ:List S:=
  [.asg (.nm 3) (.call 0 .frz [.var 0,.var 1]),
  .whl (.and_ (.notN (.var 3)) (.cmp .LtE (.var 3) (.var 2))),
  .setF (.var 1) 1 "day" (.var 2)]
noncomputable abbrev jev:List FnE:=[jcf,jaH]
noncomputable def jbS:Fn:=fnOf jev 3 1 jbJ
noncomputable def jbP:FnE:=⟨"pass_mornings",jbL.take 3,13,jbS,none⟩
theorem jhK:gK jev 12 jbJ jbL jbC:=by ac_rfl
noncomputable abbrev jbM:Stmt:=top 68
abbrev jbG:List Str:=["book","state","parts","house","points","like"]
theorem jhm:gS jbG 3 jbM:=by walk_at"s"
def jbU:List S:=
  [.asg (.nm 3) (.call 0 .frz [.var 0,.ix (.var 2) (.cst (.str "purse"))]),
  .asg (.nm 4) (.call 1 .frz [.var 3,.fld (.var 1) 2 "day",.ix (.var 2) (.cst (.str "lines"))]),
  .ite (.isN (.fld (.var 3) 3 "cap"))
   [.ret (.var 4)]
   [],
  .never,
  .never]
noncomputable abbrev jdT:List FnE:=[jaW,jkk,jaH,jaG]
noncomputable def jby:Fn:=fnOf jdT 3 3 jbU
noncomputable def jbN:FnE:=⟨"points_of_buy",jbG.take 3,11,jby,none⟩
theorem jjf:gK jdT 10 jbU jbG jbM:=by ac_rfl
noncomputable abbrev jy0:Stmt:=top 69
abbrev jw:List Str:=["book","state","parts","purse","ref","points","paid","debt","to","payment","pile"]
theorem jCv:gS jw 3 jy0:=by walk_at"s"
def jwR:List S:=
  [.asg (.nm 10) (.tup [.fld (.var 1) 1 "day",.var 4,.cst (.str ""),.var 9]),
  .ite (.cmp .Eq (.var 8) (.cst (.str "")))
   [.ex (.call 3 .frz [.var 1,.lst false [.var 10],.cst (.str "paid"),.var 3,.var 7])]
   [.ex (.call 4 .raw [.var 1,.var 8,.lst false [.var 10]])]]
def jzu:List S:=
  [.asg (.nm 3) (.ix (.var 2) (.cst (.str "purse"))),
  .asg (.nm 4) (.ix (.var 2) (.cst (.str "ref"))),
  .asg (.nm 5) (.call 0 .frz [.var 0,.var 1,.var 2]),
  .setK (.fld (.var 1) 1 "earned") (.var 4) (.tup [.cst (.str "buy"),.var 3,.fld (.var 1) 1 "day",.var 5]),
  .asg (.nm 6) (.call 2 .frz [.ix (.fld (.var 1) 1 "debts") (.var 3),.var 5]),
  .setK (.fld (.var 1) 1 "debts") (.var 3) (.ix (.var 6) (.cst (.int 1))),
  .for_ (.tp [7,8,9]) .seq [.ix (.var 6) (.cst (.int 0))] jwR [7,8,9,10],
  .ex (.call 4 .raw [.var 1,.var 3,(.lst false [.tup [.fld (.var 1) 1 "day",.var 4,.cst (.str ""),.ix (.var 6) (.cst (.int 2))]])])]
noncomputable abbrev jBp:List FnE:=[jbN,jaH,jgV,jb2,jxZ]
noncomputable def jwv:Fn:=fnOf jBp 3 8 jzu
noncomputable def jyc:FnE:=⟨"buy",jw.take 3,12,jwv,none⟩
theorem jE:gK jBp 11 jzu jw jy0:=by ac_rfl
noncomputable abbrev jqj:Stmt:=top 74
abbrev jrB:List Str:=["state","parts","source","purse","taken","lapsed"]
theorem jy6:gS jrB 2 jqj:=by walk_at"s"
def jlz:E:=(.comp false 1 (.nm 0) .seq [.ix (.fld (.var 0) 0 "rows") (.var 3)] [(.and_ (.cmp .Eq (.ix (.var 0) (.cst (.int 1))) (.var 3)) (.cmp .Eq (.ix (.var 0) (.cst (.int 2))) (.cst (.str ""))))] (.var 0))
def jlr:E:=(.comp false 1 (.nm 0) .seq [.ix (.fld (.var 0) 0 "rows") (.var 3)] [(.or_ (.cmp .NotEq (.ix (.var 0) (.cst (.int 1))) (.var 3)) (.cmp .NotEq (.ix (.var 0) (.cst (.int 2))) (.cst (.str ""))))] (.var 0))
def jkw:E:=(.comp false 1 (.nm 0) .seq [.fld (.var 0) 0 "ends"] [(.and_ (.cmp .Eq (.ix (.var 0) (.cst (.int 0))) (.var 3)) (.cmp .Eq (.ix (.var 0) (.cst (.int 1))) (.cst (.str "lapsed"))))] (.ix (.var 0) (.cst (.int 5))))
def jsA:List S:=
  [.asg (.nm 2) (.ix (.var 1) (.cst (.str "of"))),
  .ite (.or_ (.cmp .NotIn (.var 2) (.fld (.var 0) 0 "earned")) (.or_ (.cmp .NotEq (.ix (.ix (.fld (.var 0) 0 "earned") (.var 2)) (.cst (.int 0))) (.cst (.str "buy"))) (.cmp .In (.var 2) (.fld (.var 0) 0 "backs"))))
   [.retN]
   [],
  .asg (.nm 3) (.ix (.ix (.fld (.var 0) 0 "earned") (.var 2)) (.cst (.int 1))),
  .asg (.nm 4) jlz,
  .setK (.fld (.var 0) 0 "rows") (.var 3) jlr,
  .ex (.call 1 .raw [.var 0,.var 4,.cst (.str "taken"),.var 3,.ix (.var 1) (.cst (.str "ref"))]),
  .asg (.nm 5) (.bi .sum false [jkw]),
  .ex (.call 2 .raw [.var 0,.var 3,.ix (.var 1) (.cst (.str "ref")),.cst (.str ""),(.bin .Sub false (.bin .Sub false (.ix (.ix (.fld (.var 0) 0 "earned") (.var 2)) (.cst (.int 3))) (.call 3 .frz [.var 4,.cst (.bl false)])) (.var 5))]),
  .setK (.fld (.var 0) 0 "backs") (.var 2) (.fld (.var 0) 0 "day")]
noncomputable abbrev jlX:List FnE:=[jaH,jb2,jx6,jlp]
noncomputable def jql:Fn:=fnOf jlX 2 4 jsA
noncomputable def jqD:FnE:=⟨"back",jrB.take 2,12,jql,none⟩
theorem jCn:gK jlX 11 jsA jrB jqj:=by ac_rfl
noncomputable abbrev jh1:Stmt:=top 75
abbrev jiX:List Str:=["book","state","deed","parts","part"]
theorem jpX:gS jiX 3 jh1:=by walk_at"s"
def jbK:List S:=
  [.ite (.cmp .In (.var 4) (.var 3))
   [.setK (.fld (.var 1) 1 "stirs") (.ix (.var 3) (.var 4)) (.fld (.var 1) 1 "day")]
   []]
def jf7:List S:=
  [.asg (.nm 3) (.call 0 .frz [.var 2]),
  .for_ (.nm 4) .seq [.tup [.cst (.str "purse"),.cst (.str "other")]] jbK [4],
  .ite (.cmp .Eq (.ix (.var 2) (.cst (.int 0))) (.cst (.str "buy")))
   [.ex (.call 2 .raw [.var 0,.var 1,.var 3])]
   [.ite (.cmp .Eq (.ix (.var 2) (.cst (.int 0))) (.cst (.str "spend")))
    [.never]
    [.ite (.cmp .Eq (.ix (.var 2) (.cst (.int 0))) (.cst (.str "give")))
     [.never]
     [.ite (.cmp .Eq (.ix (.var 2) (.cst (.int 0))) (.cst (.str "lend")))
      [.never]
      [.ite (.cmp .Eq (.ix (.var 2) (.cst (.int 0))) (.cst (.str "change")))
       [.never]
       [.ex (.call 3 .raw [.var 1,.var 3])]]]]]]
noncomputable abbrev jlO:List FnE:=[jbd,jaH,jyc,jqD]
noncomputable def jew:Fn:=fnOf jlO 3 2 jf7
noncomputable def jdV:FnE:=⟨"do_deed",jiX.take 3,13,jew,none⟩
theorem jrm:gK jlO 12 jf7 jiX jh1:=by ac_rfl
noncomputable abbrev jkn:Stmt:=top 76
abbrev jlf:List Str:=["book","deeds","day","state","deed"]
theorem jsv:gS jlf 3 jkn:=by walk_at"s"
def jeS:List S:=
  [.ite (.cmp .LtE (.ix (.call 1 .frz [.var 4]) (.cst (.int 0))) (.var 2))
   [.ex (.call 2 .raw [.var 0,.var 3,.ix (.call 1 .frz [.var 4]) (.cst (.int 0))]),
   .ex (.call 3 .raw [.var 0,.var 3,.var 4])]
   []]
def jlk:List S:=
  [.asg (.nm 3) (.call 0 .raw [.var 0]),
  .for_ (.nm 4) .seq [.sortK 1 false (.var 1)] jeS [4],
  .ex (.call 2 .raw [.var 0,.var 3,.var 2]),
  .ret (.var 3)]
noncomputable abbrev jhE:List FnE:=[jaH,jcC,jbP,jdV]
noncomputable def jk4:Fn:=fnOf jhE 3 2 jlk
noncomputable def jhC:FnE:=⟨"walked",jlf.take 3,14,jk4,none⟩
theorem jt1:gK jhE 13 jlk jlf jkn:=by ac_rfl
noncomputable abbrev jfq:Stmt:=top 78
abbrev jfp:List Str:=["state","book","purse","span","spells","ref","told","over"]
theorem jlE:gS jfp 3 jfq:=by walk_at"s"
def jcY:List S:=
  [.ite (.and_ (.cmp .Eq (.ix (.var 6) (.cst (.int 0))) (.cst (.str "buy"))) (.cmp .Eq (.ix (.var 6) (.cst (.int 1))) (.var 2)))
   [.asg (.nm 7) (.bin .Add false (.ix (.var 6) (.cst (.int 2))) (.var 3)),
   .ex (.mt .append (.var 4) [(.tup [.ix (.var 6) (.cst (.int 2)),.bi .min2 false [.var 7,.dget2 (.fld (.var 0) 2 "backs") (.var 5) (.var 7)],.ix (.var 6) (.cst (.int 3))])])]
   []]
def jfW:List S:=
  [.asg (.nm 3) (.fld (.call 0 .frz [.var 1,.var 2]) 1 "span"),
  .asg (.nm 4) (.lst true []),
  .for_ (.tp [5,6]) .items [.fld (.var 0) 2 "earned"] jcY [5,6,7],
  .ret (.var 4)]
noncomputable abbrev jfQ:List FnE:=[jaW,jaG,jaH]
noncomputable def jfK:Fn:=fnOf jfQ 3 5 jfW
noncomputable def jbQ:FnE:=⟨"spells_of",jfp.take 3,11,jfK,none⟩
theorem jn:gK jfQ 10 jfW jfp jfq:=by ac_rfl
noncomputable abbrev jfG:Stmt:=top 79
abbrev jfH:List Str:=["spells","day"]
theorem jmy:gS jfH 2 jfG:=by walk_at"s"
def jdn:E:=(.comp false 3 (.tp [0,1,2]) .seq [.var 0] [.chain .LtE .Lt (.var 0) (.var 4) (.var 1)] (.var 2))
def jfr:List S:=
  [.ret (.bi .sum false [jdn])]
noncomputable abbrev jfT:List FnE:=[]
noncomputable def jfL:Fn:=fnOf jfT 2 0 jfr
noncomputable def jbR:FnE:=⟨"points_on",jfH.take 2,1,jfL,none⟩
theorem jnv:gK jfT 0 jfr jfH jfG:=by ac_rfl
noncomputable abbrev ji4:Stmt:=top 80
abbrev jhS:List Str:=["house","points"]
theorem jpt:gS jhS 2 ji4:=by walk_at"s"
def jfd:E:=(.comp false 2 (.tp [0,1]) .seq [.fld (.var 0) 0 "ranks"] [.cmp .LtE (.var 0) (.var 3)] (.var 0))
def jiu:List S:=
  [.ret (.bi .len false [jfd])]
noncomputable abbrev ji8:List FnE:=[jaG]
noncomputable def jh0:Fn:=fnOf ji8 2 0 jiu
noncomputable def jeo:FnE:=⟨"rank_by",jhS.take 2,7,jh0,none⟩
theorem jsn:gK ji8 6 jiu jhS ji4:=by ac_rfl
noncomputable abbrev jhL:Stmt:=top 81
abbrev jiD:List Str:=["state","book","purse","day"]
theorem jpq:gS jiD 4 jhL:=by walk_at"s"
def jiG:List S:=
  [.ret (.call 0 .frz [.call 1 .frz [.var 0,.var 1,.var 2],.var 3])]
noncomputable abbrev jlF:List FnE:=[jbR,jbQ]
noncomputable def jiQ:Fn:=fnOf jlF 4 0 jiG
noncomputable def jga:FnE:=⟨"counted",jiD.take 4,12,jiQ,none⟩
theorem jsD:gK jlF 11 jiG jiD jhL:=by ac_rfl
noncomputable abbrev jd3:Stmt:=top 82
abbrev jd4:List Str:=["state","book","purse","day"]
theorem jlg:gS jd4 4 jd3:=by walk_at"s"
def jdU:List S:=
  [.ret (.call 0 .frz [.call 1 .frz [.var 1,.var 2],.call 2 .frz [.var 0,.var 1,.var 2,.var 3]])]
noncomputable abbrev jhj:List FnE:=[jeo,jaW,jga]
noncomputable def jdX:Fn:=fnOf jhj 4 0 jdU
noncomputable def jdQ:FnE:=⟨"plain_rank",jd4.take 4,13,jdX,none⟩
theorem jmH:gK jhj 12 jdU jd4 jd3:=by ac_rfl
noncomputable abbrev jra:Stmt:=top 83
abbrev jr2:List Str:=["state","book","purse","day","house","spells","start","days"]
theorem jye:gS jr2 4 jra:=by walk_at"s"
def jlv:E:=(.comp false 3 (.tp [0,1,2]) .seq [.var 5] [.chain .Lt .LtE (.var 9) (.var 0) (.var 6)] (.var 0))
def jkK:E:=(.comp false 1 (.nm 0) .seq [.var 7] [] (.call 4 .frz [.var 6,.var 0]))
def jr3:List S:=
  [.asg (.nm 4) (.call 0 .frz [.var 1,.var 2]),
  .asg (.nm 5) (.call 1 .frz [.var 0,.var 1,.var 2]),
  .asg (.nm 6) (.bi .max2 false [.bin .Sub false (.var 3) (.fld (.var 4) 2 "grace"),.cst (.int 0)]),
  .asg (.nm 7) (.bin .Add false (.lst false [.var 6]) jlv),
  .ret (.call 3 .frz [.var 4,.bi .maxL false [jkK]])]
noncomputable abbrev jou:List FnE:=[jaW,jbQ,jaG,jeo,jbR]
noncomputable def jqP:Fn:=fnOf jou 4 4 jr3
noncomputable def jj2:FnE:=⟨"rank",jr2.take 4,12,jqP,none⟩
theorem jCh:gK jou 11 jr3 jr2 jra:=by ac_rfl
noncomputable abbrev jfs:Stmt:=top 84
abbrev jfw:List Str:=["state","book","purse","now","house","spells","ebbs"]
theorem jmf:gS jfw 3 jfs:=by walk_at"s"
def jdi:E:=(.comp false 3 (.tp [0,1,2]) .seq [.var 5] [(.cmp .GtE (.call 4 .frz [.var 7,.call 5 .frz [.var 8,.bin .Sub false (.var 1) (.cst (.int 1))]]) (.var 6))] (.var 1))
def jff:List S:=
  [.asg (.nm 3) (.call 0 .frz [.var 0,.var 1,.var 2,.fld (.var 0) 1 "day"]),
  .ite (.cmp .Eq (.var 3) (.cst (.int 0)))
   [.ret (.cst .non)]
   [],
  .asg (.nm 4) (.call 2 .frz [.var 1,.var 2]),
  .asg (.nm 5) (.call 3 .frz [.var 0,.var 1,.var 2]),
  .asg (.nm 6) jdi,
  .ret (.bin .Add false (.bi .maxL false [.var 6]) (.fld (.var 4) 6 "grace"))]
noncomputable abbrev jfI:List FnE:=[jj2,jaH,jaW,jbQ,jeo,jbR,jaG]
noncomputable def jfU:Fn:=fnOf jfI 3 4 jff
noncomputable def jfC:FnE:=⟨"next_fall",jfw.take 3,13,jfU,none⟩
theorem jm5:gK jfI 12 jff jfw jfs:=by ac_rfl
noncomputable abbrev jkB:Stmt:=top 86
abbrev jk1:List Str:=["_law_script","_law_k"]
theorem jqu:gS jk1 2 jkB:=by walk_at"s"
def jku:List S:=
  [.ite (.cmp .Lt (.var 1) (.bi .len false [.var 0]))
   [.ret (.ix (.var 0) (.var 1))]
   [],
  .ret (.cst (.int 0))]
noncomputable abbrev joL:List FnE:=[]
noncomputable def jkW:Fn:=fnOf joL 2 0 jku
noncomputable def ja3:FnE:=⟨"_law_at",jk1.take 2,1,jkW,none⟩
theorem jtP:gK joL 0 jku jk1 jkB:=by ac_rfl
noncomputable abbrev jiL:Stmt:=top 87
abbrev jis:List Str:=["_law_cell","_law_k","_law_factor","_law_number"]
theorem jp9:gS jis 2 jiL:=by walk_at"s"
def jib:List S:=
  [.asg (.nm 2) (.ix (.lst false [.cst (.int 48271),.cst (.int 69621),.cst (.int 16807),.cst (.int 40692),.cst (.int 30269),.cst (.int 62089),.cst (.int 45991)]) (.bin .Mod false (.var 1) (.cst (.int 7)))),
  .asg (.nm 3) (.bin .Mod false (.bin .Mult false (.bin .Add false (.bin .Add false (.bin .Mod false (.var 0) (.cst (.int 2147483647))) (.bin .Mult false (.bin .Mult false (.cst (.int 97)) (.var 1)) (.var 1))) (.cst (.int 11))) (.var 2)) (.cst (.int 2147483629))),
  .ret (.bin .Mod false (.bin .Mult false (.var 3) (.var 3)) (.cst (.int 1999999973)))]
noncomputable abbrev jlP:List FnE:=[]
noncomputable def jiw:Fn:=fnOf jlP 2 2 jib
noncomputable def jcF:FnE:=⟨"_law_mix",jis.take 2,1,jiw,none⟩
theorem jqL:gK jlP 0 jib jis jiL:=by ac_rfl
noncomputable abbrev jjb:Stmt:=top 88
abbrev jh4:List Str:=["_law_cell","_law_k","_law_m"]
theorem jpa:gS jh4 2 jjb:=by walk_at"s"
def jhX:List S:=
  [.asg (.nm 2) (.call 0 .frz [.var 0,.var 1]),
  .ret (.ix (.lst false [.bin .Mod false (.var 2) (.cst (.int 4)),.bin .Mod false (.var 2) (.cst (.int 100)),(.bin .Mod false (.var 0) (.bin .Pow false (.cst (.int 10)) (.cst (.int 11)))),.var 2]) (.bin .Mod false (.bin .FloorDiv false (.var 2) (.cst (.int 100))) (.cst (.int 4))))]
noncomputable abbrev jl9:List FnE:=[jcF]
noncomputable def jiB:Fn:=fnOf jl9 2 1 jhX
noncomputable def jd2:FnE:=⟨"_law_far",jh4.take 2,2,jiB,none⟩
theorem jrX:gK jl9 1 jhX jh4 jjb:=by ac_rfl
noncomputable abbrev je:Stmt:=top 89
abbrev jeC:List Str:=["_law_script","_law_leasts","_law_last","_law_k"]
theorem jky:gS jeC 1 je:=by walk_at"s"
def jb9:List S:=
  [.asg (.nm 2) (.bin .Add false (.bin .Add false (.var 2) (.cst (.int 1))) (.call 0 .frz [.call 1 .frz [.var 0,.bin .Add false (.cst (.int 3)) (.var 3)],.cst (.int 2)])),
  .ex (.mt .append (.var 1) [.var 2])]
def jdJ:List S:=
  [.asg (.nm 1) (.lst true []),
  .asg (.nm 2) (.cst (.int 0)),
  .for_ (.nm 3) .rng1 [(.bin .Add false (.cst (.int 1)) (.bin .Mod false (.call 2 .frz [.call 1 .frz [.var 0,.cst (.int 2)],.cst (.int 1)]) (.cst (.int 4))))] jb9 [3],
  .ret (.var 1)]
noncomputable abbrev jdK:List FnE:=[jd2,ja3,jcF]
noncomputable def jeB:Fn:=fnOf jdK 1 3 jdJ
noncomputable def jd9:FnE:=⟨"_law_rising",jeC.take 1,3,jeB,none⟩
theorem jl2:gK jdK 2 jdJ jeC je:=by ac_rfl
noncomputable abbrev jfD:Stmt:=top 90
abbrev jfE:List Str:=["_law_script","_law_deeds_here","_law_buys","_law_day","_law_k","_law_cell","_law_money","_law_ref","_law_m","_law_back"]
theorem jme:gS jfE 1 jfD:=by walk_at"s"
def jcZ:List S:=
  [.asg (.nm 5) (.call 0 .frz [.var 0,(.bin .Add false (.cst (.int 8)) (.bin .Mult false (.cst (.int 3)) (.var 4)))]),
  .asg (.nm 3) (.bin .Add false (.var 3) (.call 1 .frz [.var 5,.cst (.int 3)])),
  .asg (.nm 6) (.call 1 .frz [.call 0 .frz [.var 0,(.bin .Add false (.cst (.int 9)) (.bin .Mult false (.cst (.int 3)) (.var 4)))],.cst (.int 4)]),
  .asg (.nm 7) (.bin .Add false (.cst (.str "buy")) (.ix (.cst (.str "abcdef")) (.var 4))),
  .ex (.mt .append (.var 1) [(.tup [.cst (.str "buy"),.var 7,.var 3,.cst (.str "purse"),(.tup [.tup [.cst (.str "tea"),.var 6]])])]),
  .asg (.nm 8) (.call 2 .frz [.call 0 .frz [.var 0,(.bin .Add false (.cst (.int 10)) (.bin .Mult false (.cst (.int 3)) (.var 4)))],.cst (.int 5)]),
  .asg (.nm 9) (.cst .non),
  .ite (.cmp .Eq (.bin .Mod false (.var 8) (.cst (.int 3))) (.cst (.int 0)))
   [.asg (.nm 9) (.bin .Add false (.var 3) (.bin .Mult false (.call 1 .frz [.call 0 .frz [.var 0,(.bin .Add false (.cst (.int 10)) (.bin .Mult false (.cst (.int 3)) (.var 4)))],.cst (.int 6)]) (.bin .Mod false (.bin .FloorDiv false (.var 8) (.cst (.int 3))) (.cst (.int 3))))),
   .ex (.mt .append (.var 1) [.tup [.cst (.str "back"),(.bin .Add false (.cst (.str "taken")) (.ix (.cst (.str "abcdef")) (.var 4))),.var 9,.var 7]])]
   [],
  .ex (.mt .append (.var 2) [.tup [.var 3,.var 6,.var 9]])]
def jfP:List S:=
  [.asg (.nm 1) (.lst true []),
  .asg (.nm 2) (.lst true []),
  .asg (.nm 3) (.cst (.int 0)),
  .for_ (.nm 4) .rng1 [(.bin .Add false (.cst (.int 1)) (.bin .Mod false (.call 2 .frz [.call 0 .frz [.var 0,.cst (.int 7)],.cst (.int 2)]) (.cst (.int 6))))] jcZ [4,5,6,7,8,9],
  .ret (.tup [.var 1,.var 2])]
noncomputable abbrev jfR:List FnE:=[ja3,jd2,jcF]
noncomputable def jfz:Fn:=fnOf jfR 1 9 jfP
noncomputable def jfA:FnE:=⟨"_law_deeds",jfE.take 1,3,jfz,none⟩
theorem jnH:gK jfR 2 jfP jfE jfD:=by ac_rfl
noncomputable abbrev jcM:Stmt:=top 91
abbrev jdd:List Str:=["_law_buys","_law_span","_law_day","_law_total","_law_bought","_law_points","_law_back"]
theorem jju:gS jdd 3 jcM:=by walk_at"s"
def jbY:List S:=
  [.ite (.and_ (.chain .Lt .LtE (.bin .Sub false (.var 2) (.var 1)) (.var 4) (.var 2)) (.or_ (.isN (.var 6)) (.cmp .Lt (.var 2) (.var 6))))
   [.asg (.nm 3) (.bin .Add false (.var 3) (.var 5))]
   []]
def jc9:List S:=
  [.asg (.nm 3) (.cst (.int 0)),
  .for_ (.tp [4,5,6]) .seq [.var 0] jbY [4,5,6],
  .ret (.var 3)]
noncomputable abbrev jdx:List FnE:=[]
noncomputable def jcV:Fn:=fnOf jdx 3 4 jc9
noncomputable def jbt:FnE:=⟨"_law_counted",jdd.take 3,1,jcV,none⟩
theorem jkr:gK jdx 0 jc9 jdd jcM:=by ac_rfl
noncomputable abbrev jfB:Stmt:=top 92
abbrev jfb:List Str:=["_law_leasts","_law_buys","_law_span","_law_day","_law_points"]
theorem jmN:gS jfb 4 jfB:=by walk_at"s"
def jdh:E:=(.comp false 1 (.nm 0) .seq [.var 0] [.cmp .GtE (.var 5) (.var 0)] (.var 0))
def jfS:List S:=
  [.asg (.nm 4) (.call 0 .frz [.var 1,.var 2,.var 3]),
  .ret (.bi .len false [jdh])]
noncomputable abbrev jfm:List FnE:=[jbt]
noncomputable def jfN:Fn:=fnOf jfm 4 1 jfS
noncomputable def jdk:FnE:=⟨"_law_plain",jfb.take 4,2,jfN,none⟩
theorem jnJ:gK jfm 1 jfS jfb jfB:=by ac_rfl
noncomputable abbrev jfJ:Stmt:=top 93
abbrev jfk:List Str:=["_law_buys","_law_span","_law_days","_law_bought","_law_points","_law_back"]
theorem jmK:gS jfk 2 jfJ:=by walk_at"s"
def jcR:List S:=
  [.asg (.nm 2) (.bin .Add true (.var 2) (.lst false [.var 3,.bin .Sub false (.bin .Add false (.var 3) (.var 1)) (.cst (.int 1)),.bin .Add false (.var 3) (.var 1)])),
  .ite (.notN (.var 5))
   [.ex (.mt .append (.var 2) [.var 5])]
   []]
def jfo:List S:=
  [.asg (.nm 2) (.lst true [.cst (.int 0)]),
  .for_ (.tp [3,4,5]) .seq [.var 0] jcR [3,4,5],
  .ret (.var 2)]
noncomputable abbrev jfF:List FnE:=[]
noncomputable def jfu:Fn:=fnOf jfF 2 4 jfo
noncomputable def jda:FnE:=⟨"_law_edges",jfk.take 2,1,jfu,none⟩
theorem jmT:gK jfF 0 jfo jfk jfJ:=by ac_rfl
noncomputable abbrev jgY:Stmt:=top 94
abbrev jgF:List Str:=["_law_leasts","_law_buys","_law_span","_law_grace","_law_day","_law_first","_law_days"]
theorem jnr:gS jgF 5 jgY:=by walk_at"s"
def jd7:E:=(.comp false 1 (.nm 0) .seq [.call 0 .frz [.var 1,.var 2]] [.chain .LtE .LtE (.var 6) (.var 0) (.var 5)] (.var 0))
def jdO:E:=(.comp false 1 (.nm 0) .seq [.var 6] [] (.call 1 .frz [.var 1,.var 2,.var 3,.var 0]))
def jgJ:List S:=
  [.asg (.nm 5) (.bi .max2 false [.cst (.int 0),.bin .Sub false (.var 4) (.var 3)]),
  .asg (.nm 6) (.bin .Add false (.lst false [.var 5,.var 4]) jd7),
  .ret (.bi .maxL false [jdO])]
noncomputable abbrev jeM:List FnE:=[jda,jdk]
noncomputable def jgR:Fn:=fnOf jeM 5 2 jgJ
noncomputable def jg0:FnE:=⟨"_law_rank",jgF.take 5,3,jgR,none⟩
theorem jpG:gK jeM 2 jgJ jgF jgY:=by ac_rfl
noncomputable abbrev jxx:Stmt:=top 95
abbrev jAd:List Str:=["_law_script","_law_span","_law_grace","_law_leasts","_law_deeds_here","_law_buys","_law_titles","_law_house","_law_book","_law_edges_here","_law_m","_law_day","_law_state","_law_done","_law_known","_law_bought","_law_points","_law_back","_law_edge","_law_found","_law_due","_law_now","_law_fall"]
theorem jCH:gS jAd 1 jxx:=by walk_at"s"
def jmY:E:=(.comp false 1 (.nm 0) .seq [.var 3] [] (.tup [.var 0,.cst (.str "rank")]))
def jnA:E:=(.comp false 1 (.nm 0) .seq [.var 4] [(.cmp .LtE (.ix (.var 0) (.cst (.int 2))) (.var 12))] (.var 0))
def jnp:List S:=
  [.ite (.cmp .LtE (.var 15) (.var 11))
   [.ex (.mt .append (.var 14) [.tup [.var 15,.var 16,(.ife (.and_ (.notN (.var 17)) (.cmp .LtE (.var 17) (.var 11))) (.var 17) (.cst .non))]])]
   []]
def jnu:List S:=
  [.asg (.nm 19) (.lst true [.call 9 .frz [.var 12,.var 8,.cst (.str "purse"),.var 18],.call 10 .frz [.var 12,.var 8,.cst (.str "purse"),.var 18]]),
  .ex (.mt .append (.var 19) [.call 11 .frz [.var 12,.var 8,.cst (.str "purse"),.var 18]]),
  .asg (.nm 20) (.lst false [.call 12 .frz [.var 14,.var 1,.var 18],.call 13 .frz [.var 3,.var 14,.var 1,.var 18]]),
  .ite (.cmp .NotEq (.var 19) (.bin .Add false (.var 20) (.lst false [.call 14 .frz [.var 3,.var 14,.var 1,.var 2,.var 18]])))
   [.ret (.cst (.bl false))]
   []]
def jnT:E:=(.comp false 1 (.nm 0) .seq [.var 9] [.cmp .Lt (.var 0) (.var 12)] (.var 0))
def jwa:List S:=
  [.asg (.nm 1) (.bin .Add false (.cst (.int 1)) (.call 0 .frz [.call 1 .frz [.var 0,.cst (.int 0)],.cst (.int 7)])),
  .asg (.nm 2) (.call 0 .frz [.call 1 .frz [.var 0,.cst (.int 1)],.cst (.int 8)]),
  .asg (.nm 3) (.call 2 .frz [.var 0]),
  .asg (.tp [4,5]) (.call 3 .frz [.var 0]),
  .asg (.nm 6) jmY,
  .asg (.nm 7) (.call 4 .frz [.cst (.str "house"),.tup [.cst (.int 1),.cst (.int 1)],.lst false [],.lst false [],.lst false [],.cst .non,.cst .non,.cst .non,.var 6,.var 1,.var 2]),
  .asg (.nm 8) (.call 5 .frz [.lst false [.var 7],(.lst false [.tup [.cst (.str "purse"),.cst (.str "house")]]),.lst false []]),
  .asg (.nm 9) (.call 6 .frz [.var 5,.var 1]),
  .asg (.nm 10) (.call 7 .frz [.call 1 .frz [.var 0,.cst (.int 26)],.cst (.int 9)]),
  .asg (.nm 11) (.bi .max2 false [.cst (.int 0),(.bin .Add false (.ix (.var 9) (.bin .Mod false (.var 10) (.bi .len false [.var 9]))) (.ix (.lst false [.cst (.int 0),.cst (.int 1),.neg (.cst (.int 1)),.cst (.int 0)]) (.bin .Mod false (.bin .FloorDiv false (.var 10) (.cst (.int 100))) (.cst (.int 4)))))]),
  .asg (.nm 12) (.call 8 .frz [.var 8,.var 4,.var 11]),
  .asg (.nm 13) jnA,
  .asg (.nm 14) (.lst true []),
  .for_ (.tp [15,16,17]) .seq [.var 5] jnp [15,16,17],
  .for_ (.nm 18) .seq [.bin .Add false jnT (.lst false [.var 11])] jnu [18,19,20],
  .asg (.nm 21) (.call 11 .frz [.var 12,.var 8,.cst (.str "purse"),.var 11]),
  .asg (.nm 22) (.call 15 .frz [.var 12,.var 8,.cst (.str "purse")]),
  .ite (.or_ (.cmp .Eq (.var 21) (.cst (.int 0))) (.isN (.var 22)))
   [.ret (.and_ (.cmp .Eq (.var 21) (.cst (.int 0))) (.isN (.var 22)))]
   [],
  .ite (.or_ (.not_ (.bi (.isT "int") false [.var 22])) (.or_ (.bi (.isT "bool") false [.var 22]) (.cmp .LtE (.var 22) (.var 11))))
   [.ret (.cst (.bl false))]
   [],
  .ite (.cmp .GtE (.call 11 .frz [.call 8 .frz [.var 8,.var 13,.var 22],.var 8,.cst (.str "purse"),.var 22]) (.var 21))
   [.ret (.cst (.bl false))]
   [],
  .ret (.cmp .GtE (.call 11 .frz [.call 8 .frz [.var 8,.var 13,.bin .Sub false (.var 22) (.cst (.int 1))],.var 8,.cst (.str "purse"),.bin .Sub false (.var 22) (.cst (.int 1))]) (.var 21))]
noncomputable abbrev jm6:List FnE:=[jd2,ja3,jd9,jfA,jaG,je2,jda,jcF,jhC,jga,jdQ,jj2,jbt,jdk,jg0,jfC]
noncomputable def jBr:Fn:=fnOf jm6 1 22 jwa
theorem jD1:gK jm6 14 jwa jAd jxx:=by ac_rfl
noncomputable def ji1 (ns:List Int):D:=.scr (ns.map D.int)
theorem jnl (ns:List Int)(k:Nat)(μ:M):jah .frz ja3.F [ji1 ns,.int (k:Int)] μ=.ok (.int (ns.getD k 0)) μ:=by
 refine jac (F:=jkW) ?_ jas;unfold jkW jku;symm;have hl:biD .len false [ji1 ns] μ=.ok (.int ns.length) μ:=by
  show Out.ok (D.int ((ns.map D.int).length:Int)) μ=_;rw[j0d]
 rwa[hl];by_cases h:k<ns.length
 ·have e:atI (ns.map D.int) (k:Int)=some (.int (ns.getD k 0)):=jnK (by simp[h]);have hx:ixD (ji1 ns) (.int (k:Int)) μ=.ok (.int (ns.getD k 0)) μ:=by
   show(match atI (ns.map D.int) (k:Int)with|some d=>Out.ok d μ|none=>.bad)=_;rw[e]
  rw[hx];simp only[show((k:Int)<(ns.length:Int))from by omega,decide_true,if_true];symm
 ·have:ns.getD k 0=0:=by simp[h]
  rw[this];simp only[show ¬ ((k:Int)<(ns.length:Int))from by omega,decide_false,if_false,j0H];symm
theorem jkU {xs:List Int}{i:Int}(h0:0<=i)(h1:i<xs.length):∃n∈xs,∀μ:M,ixD (.lst (xs.map D.int)) (.int i) μ=.ok (.int n) μ:=by
 obtain⟨k,rfl⟩:=Int.eq_ofNat_of_zero_le h0;have hk:k<xs.length:=by omega
 refine⟨xs.getD k 0,?_,fun μ=>jm2 hk⟩;rw[j0G,j0N hk];exact List.getElem_mem hk
theorem jl7 (c:Int)(k:Int)(h0:0<=k)(h1:k<=1000):∃m:Int,0<=m/\m<1999999973/\∀μ:M,jah .frz jcF.F [.int c,.int k] μ=.ok (.int m) μ:=by
 obtain⟨n,hn,hx⟩:=jkU (xs:=[48271,69621,16807,40692,30269,62089,45991]) (i:=k % 7) (by omega) (by show k % 7<7;omega);have hn:0<=n/\n<=69621:=by
  simp only[j0q,j1A,or_false]at hn;rcases hn with rfl|rfl|rfl|rfl|rfl|rfl|rfl<;>exact⟨by decide,by decide⟩
 refine⟨((c % 2147483647+97*k*k+11)*n % 2147483629)*((c % 2147483647+97*k*k+11)*n % 2147483629) % 1999999973,by omega,by omega,fun μ=>jac (F:=jiw) ?_ jas⟩;simp only[j0c,j0B]at hx;unfold jiw jib;symm;rwa[hx];rwa[jgo (i:=97*k) (by omega) (by omega)];rwa[jgo (j:=n) (by omega) (by omega)];rwa[jkY (by omega) (by omega)]
theorem jjO (c:Int)(k:Int)(h0:0<=k)(h1:k<=1000):∃m:Int,0<=m/\m<100000000000/\∀μ:M,jah .frz jd2.F [.int c,.int k] μ=.ok (.int m) μ:=by
 obtain⟨m,hm0,hm1,hm⟩:=jl7 c k h0 h1;obtain⟨n,hn,hx⟩:=jkU (xs:=[m % 4,m % 100,c % 100000000000,m]) (i:=m / 100 % 4) (by omega) (by show m / 100 % 4<4;omega);have hn:0<=n/\n<100000000000:=by
  simp only[j0q,j1A,or_false]at hn;rcases hn with rfl|rfl|rfl|rfl<;>omega
 refine⟨n,hn.1,hn.2,fun μ=>jac (F:=jiB) ?_ jas⟩;simp only[j0c,j0B]at hx;unfold jiB jhX;symm;rwa[hm];rwa[hx]
noncomputable def jqb (ref:Str)(day:Int)(lines:D):D:=.tup [.str "buy",.str ref,.int day,.str "purse",lines]
noncomputable def jhr (ref:Str)(day:Int)(of:Str):D:=.tup [.str "back",.str ref,.int day,.str of]
theorem jsr (μ:M):jah .frz jeN.F [.str "buy"] μ=.ok (.stt [.str "ref",.str "day",.str "purse",.str "lines"]) μ:=by
 refine jac (F:=jcD) ?_ (nr rfl);unfold jcD jeL;symm;rfl
theorem jpU (μ:M):jah .frz jeN.F [.str "back"] μ=.ok (.stt [.str "ref",.str "day",.str "of"]) μ:=by
 refine jac (F:=jcD) ?_ (nr rfl);unfold jcD jeL;symm;rfl
noncomputable def jaZ (m:Int):D:=.tup [.tup [.str "tea",.int m]]
noncomputable def jmP (ref:Str)(day m:Int):D:=.dF [.inr "ref",.inr "day",.inr "purse",.inr "lines"] [.str ref,.int day,.str "purse",jaZ m]
noncomputable def jfl (ref:Str)(day:Int)(of:Str):D:=.dF [.inr "ref",.inr "day",.inr "of"] [.str ref,.int day,.str of]
theorem jlM (ref:Str)(day m:Int)(μ:M):jah .frz jbd.F [jqb ref day (jaZ m)] μ=.ok (jmP ref day m) μ:=by
 refine jac (F:=jba) ?_ (nr rfl);unfold jba jbs;symm;have h1:ixD (jqb ref day (jaZ m)) (.int 0) μ=.ok (.str "buy") μ:=nr rfl;rwa[h1];rwa[jsr];have h2:slD false (jqb ref day (jaZ m)) (some 1) none μ=.ok (.tup [.str ref,.int day,.str "purse",jaZ m]) μ:=nr rfl;rwa[h2];show jdm false [.stt [.str "ref",.str "day",.str "purse",.str "lines"],.tup [.str ref,.int day,.str "purse",jaZ m]] μ=_;unfold jdm;simp only[jhc,jjy,j1w];rw[if_pos ⟨rfl,by decide,by ac_rfl⟩];rfl
theorem jjL (ref of:Str)(day:Int)(μ:M):jah .frz jbd.F [jhr ref day of] μ=.ok (jfl ref day of) μ:=by
 refine jac (F:=jba) ?_ (nr rfl);unfold jba jbs;symm;have h1:ixD (jhr ref day of) (.int 0) μ=.ok (.str "back") μ:=nr rfl;rwa[h1];rwa[jpU];have h2:slD false (jhr ref day of) (some 1) none μ=.ok (.tup [.str ref,.int day,.str of]) μ:=nr rfl;rwa[h2];show jdm false [.stt [.str "ref",.str "day",.str "of"],.tup [.str ref,.int day,.str of]] μ=_;unfold jdm;simp only[jhc,jjy,j1w];rw[if_pos ⟨rfl,by decide,by ac_rfl⟩];rfl
theorem jqT (ref:Str)(day m:Int)(μ:M):jaV [jqb ref day (jaZ m)] μ=.ok (.tup [.int day,.str ref]) μ:=by
 unfold jaV jeP;symm;rwa[jlM];have h1:ixD (jmP ref day m) (.str "day") μ=.ok (.int day) μ:=nr rfl;have h2:ixD (jmP ref day m) (.str "ref") μ=.ok (.str ref) μ:=nr rfl;rwa[h1];rwa[h2]
theorem jpu (ref of:Str)(day:Int)(μ:M):jaV [jhr ref day of] μ=.ok (.tup [.int day,.str ref]) μ:=by
 unfold jaV jeP;symm;rwa[jjL];have h1:ixD (jfl ref day of) (.str "day") μ=.ok (.int day) μ:=nr rfl;have h2:ixD (jfl ref day of) (.str "ref") μ=.ok (.str ref) μ:=nr rfl;rwa[h1];rwa[h2]
abbrev hF:List Str:=["name","share","kinds","steps","doubles","cap","age","rest","ranks","span","grace"]
noncomputable def hsD (rk:List D)(span grace:Int):D:=.obj 165 hF [.str "house",.tup [.int 1,.int 1],.tup [],.tup [],.tup [],.non,.non,.non,.tup rk,.int span,.int grace]
theorem jzc:∃k,jaG.dat=some (.cls 165 k hF):=⟨_,nr rfl⟩
theorem jgE {rk:List D} {span grace:Int} {f:Str} {d:D} (h:joY f hF [.str "house",.tup [.int 1,.int 1],.tup [],.tup [],.tup [],.non,.non,.non,.tup rk,.int span,.int grace]=some d) (μ:M):jrn jaG.dat f (hsD rk span grace) μ=.ok d μ:=by
 obtain⟨k,hk⟩:=jzc;rw[hk];exact jnh h
theorem jrK {tg:Tg}{body:S3->M->Out Fl}{fg:List Nat}{ρ:S3}{μ:M}:jCX .seq [.tup []] tg body fg ρ μ=.ok (.nx (forget fg ρ)) μ:=by
 rw[jaO (xs:=[]) rfl];unfold jf4;rw[if_pos (ja1.mpr rfl)]
theorem jth (rk:List D)(span grace:Int)(μ:M):jah .frz jfy.F [hsD rk span grace,.str "tea"] μ=.ok (.int 1) μ:=by
 refine jac (F:=jfj) ?_ jas;unfold jfj jfc;symm;rwa[jgE (d:=.tup []) (nr rfl)];rwa[jrK]
theorem jtH {m:Bool}{tg:Tg}{cond:S3->M->Out Bool}{elt:S3->M->Out D}{ρ:S3}{μ:M}:jnf m .seq [.tup []] tg cond elt ρ μ=mkL m [] μ:=by
 refine jf6 (xs:=[]) rfl (j0J _) ?_;unfold jbq;rw[if_pos (ja1.mpr rfl)]
theorem jDy (rk:List D)(span grace day:Int)(μ:M):jah .frz jdZ.F [hsD rk span grace,.int day] μ=.ok (.int 1) μ:=by
 refine jac (F:=jeb) ?_ jas;unfold jeb jel jf;symm;rwa[jgE (d:=.tup []) (nr rfl)];rwa[jtH];have h:joa (.lst []) (.int 1) μ=.ok (.int 1) μ:=nr rfl;rwa[h]
theorem jhv {m:Bool}{tg:Tg}{cond:S3->M->Out Bool}{elt:S3->M->Out D}{ρ ρ1:S3}{μ:M}{d y:D}(ha:jqa tg d ρ=some ρ1)(hc:cond ρ1 μ=.ok true μ)(he:elt ρ1 μ=.ok y μ):jnf m .seq [.tup [d]] tg cond elt ρ μ=mkL m [y] μ:=by
 refine jf6 (xs:=[d]) rfl (by show 1<=sizeLine;decide) ?_;unfold jbq;rw[if_pos (ja1.mpr rfl),ha];dsimp only;rw[hc,jbf,if_pos rfl,he,jbf];unfold jbq;rw[if_pos (ja1.mpr rfl),jbf]
theorem jpN (rk:List D)(span grace m:Int)(μ:M):jah .frz jja.F [hsD rk span grace,jaZ m] μ=.ok (.int m) μ:=by
 refine jac (F:=jif) ?_ jas;unfold jif jhM jii;symm;rw[show jaZ m=.tup [.tup [.str "tea",.int m]]from rfl];rw[jhv (y:=.int m) (ρ1:=[some (.str "tea"),some (.int m),some (hsD rk span grace),some (.tup [.tup [.str "tea",.int m]])]) rfl (by symm) (by
  symm;rwa[jth];rwa[jgo (by omega) (by omega)];rw[Int.mul_one])]
 symm;have h:biD .sum false [.lst [.int m]] μ=.ok (.int m) μ:=by
  show Out.ok (D.int ([m].sum)) μ=_;simp
 rwa[h]
theorem jxC (rk:List D)(span grace m:Int)(μ:M):jah .frz jgG.F [hsD rk span grace,jaZ m] μ=.ok (.int 0) μ:=by
 refine jac (F:=jgt) ?_ jas;unfold jgt jg1 jhd;symm;rw[show jaZ m=.tup [.tup [.str "tea",.int m]]from rfl];rwa[jhv (y:=.int m) (ρ1:=[some (.str "tea"),some (.int m),some (hsD rk span grace),some (.tup [.tup [.str "tea",.int m]]),none,none,none,none]) rfl (by symm) (by symm)];have h:biD .sum false [.lst [.int m]] μ=.ok (.int m) μ:=by
  show Out.ok (D.int ([m].sum)) μ=_;simp
 rwa[h];rwa[jgE (d:=.tup []) (nr rfl)];rwa[jrK];rfl
theorem jsP (rk:List D)(span grace day m:Int)(μ:M):jah .frz jkk.F [hsD rk span grace,.int day,jaZ m] μ=.ok (.int m) μ:=by
 refine jac (F:=jlt) ?_ jas;unfold jlt jk3;symm;rwa[jgE (d:=.tup [.int 1,.int 1]) (nr rfl)];have h1:ixD (.tup [.int 1,.int 1]) (.int 0) μ=.ok (.int 1) μ:=nr rfl;have h2:ixD (.tup [.int 1,.int 1]) (.int 1) μ=.ok (.int 1) μ:=nr rfl;rwa[h1];rwa[jgE (d:=.tup [.int 1,.int 1]) (nr rfl)];rwa[h2];rwa[jpN];rwa[jgo (by omega) (by omega)];rwa[jxC];rwa[jDy];rwa[jgo (by omega) (by omega)];simp
abbrev bF:List Str:=["houses","purses","rates"]
noncomputable def bkD (rk:List D)(span grace:Int):D:=.obj 201 bF [.tup [hsD rk span grace],.tup [.tup [.str "purse",.str "house"]],.tup []]
theorem jB6:∃k,je2.dat=some (.cls 201 k bF):=⟨_,nr rfl⟩
theorem jtk {rk:List D} {span grace:Int} {f:Str} {d:D} (h:joY f bF [.tup [hsD rk span grace],.tup [.tup [.str "purse",.str "house"]],.tup []]=some d) (μ:M):jrn je2.dat f (bkD rk span grace) μ=.ok d μ:=by
 obtain⟨k,hk⟩:=jB6;rw[hk];exact jnh h
theorem jvJ {h:Nat->Option D}(ts:List Int)(span grace:Int):jbn h (hsD (ts.map fun t=>.tup [.int t,.str "rank"]) span grace)=some (hsD (ts.map fun t=>.tup [.int t,.str "rank"]) span grace):=by
 have e:frzGs h (ts.map fun t=>.tup [.int t,.str "rank"])=some (ts.map fun t=>.tup [.int t,.str "rank"]):=jaC (fun _=>nr rfl) ts;have e2:jbn h (.tup (ts.map fun t=>.tup [.int t,.str "rank"]))=some (.tup (ts.map fun t=>.tup [.int t,.str "rank"])):=by
  unfold jbn;rw[e];rfl
 unfold hsD;unfold jbn;simp only[frzGs,e2];rfl
theorem juF (ts:List Int)(span grace:Int)(μ:M):jah .frz jaW.F [bkD (ts.map fun t=>.tup [.int t,.str "rank"]) span grace,.str "purse"] μ=.ok (hsD (ts.map fun t=>.tup [.int t,.str "rank"]) span grace) μ:=by
 refine jac (F:=jgy) ?_ (jvJ ts span grace);generalize (ts.map fun t=>D.tup [.int t,.str "rank"])=rk;unfold jgy jg9 jhg;symm;rwa[jtk (d:=.tup [.tup [.str "purse",.str "house"]]) (nr rfl)];have h1:biD .dict false [.tup [.tup [.str "purse",.str "house"]]] μ=.ok (.dK [.inr "purse"] [.str "house"]) μ:=by
  show jnC false [.tup [.tup [.str "purse",.str "house"]]] μ=_;unfold jnC;simp only[jDl,jzD,j1w,ksD,jpT];rw[if_pos ⟨by decide,by ac_rfl⟩];rfl
 rwa[h1];have h2:ixD (.dK [.inr "purse"] [.str "house"]) (.str "purse") μ=.ok (.str "house") μ:=nr rfl;rwa[h2];rwa[jtk (d:=.tup [hsD rk span grace]) (nr rfl)];rw[jhv (y:=hsD rk span grace) (ρ1:=[some (hsD rk span grace),some (bkD rk span grace),some (.str "purse"),some (.str "house")]) rfl (by
  symm;rw[jgE (d:=.str "house") (nr rfl)];symm) (by symm)]
 symm;have h3:ixD (.lst [hsD rk span grace]) (.int 0) μ=.ok (hsD rk span grace) μ:=nr rfl;rwa[h3]
theorem jxR {ds:List D}{μ:M}:biD (.isT "tuple") false [.tup ds] μ=.ok (.bl true) μ:=nr rfl
theorem jza {z:Str}{μ:M}:biD (.isT "str") false [.str z] μ=.ok (.bl true) μ:=nr rfl
theorem jrG {i:Int}{μ:M}:biD (.isT "int") false [.int i] μ=.ok (.bl true) μ:=nr rfl
theorem jo3 {i:Int}{μ:M}:biD (.isT "bool") false [.int i] μ=.ok (.bl false) μ:=nr rfl
theorem jvn {ds:List D}{μ:M}:biD (.isT2 "list" "tuple") false [.lst ds] μ=.ok (.bl true) μ:=nr rfl
theorem jxH {ds:List D}{μ:M}:biD .len false [.tup ds] μ=.ok (.int ds.length) μ:=nr rfl
theorem jeD {ds:List D}{μ:M}:biD .len false [.lst ds] μ=.ok (.int ds.length) μ:=nr rfl
theorem jh8 {ds:List D}{μ:M}:biD .tuple false [.lst ds] μ=.ok (.tup ds) μ:=nr rfl
theorem len_str {z:Str}{μ:M}(h:z.length<=sizeLine):biD .len false [.str z] μ=.ok (.int z.length) μ:=if_pos h
theorem jqn {α:Type}{xs:List α}{μ:M}:biD .all false [.lst (xs.map fun _=>D.bl true)] μ=.ok (.bl true) μ:=nr (by
 have:jx9 (xs.map fun _=>D.bl true)=some (xs.map fun _=>true):=by
  induction xs with
  |nil=>rfl
  |cons b bs ih=>rw[j0c];unfold jx9;rw[ih];rfl
 simp only[biD,jC3,je9,this];simp)
theorem le_str {x y:Str}{μ:M}:jeT .LtE (.str x) (.str y) μ=.ok (.bl (!decide (y.cps.toList<x.cps.toList))) μ:=nr rfl
theorem jsd (c:Nat)(h:97<=c/\c<=122):(!decide ([c]<(Str.ofString "a").cps.toList))=true/\(!decide ((Str.ofString "z").cps.toList<[c]))=true:=by
 have ea:(Str.ofString "a").cps.toList=[97]:=by ac_rfl
 have ez:(Str.ofString "z").cps.toList=[122]:=by ac_rfl
 rw[ea,ez];have e1:([c]<[97])↔c<97:=by simp[List.cons_lt_cons_iff]
 have e2:([122]<[c])↔122<c:=by simp[List.cons_lt_cons_iff]
 constructor
 ·simp[e1];omega
 ·simp[e2];omega
theorem jgI (z:Str)(h0:jiU z=true)(μ:M):jah .frz jcG.F [.str z] μ=.ok (.bl true) μ:=by
 refine jac (F:=jhU) ?_ jhi;unfold jiU at h0;simp only[j0a,decide_eq_true_eq,j05]at h0;obtain⟨h1,h2,h3⟩:=h0;have hq:(ev jiE jfa).v [some (.str z)] μ=.ok (.lst (z.cps.toList.map fun _=>D.bl true)) μ:=by
  unfold jfa;rw[jat (ds:=[.str z]) (xs:=z.cps.toList) (e:=fun c=>D.str ⟨#[c]⟩) (fun _=>true) (fun c=>D.bl true) (by symm) rfl (by
   have:z.cps.toList.length=z.length:=by simp[Str.length]
   rw[this];exact jaa (by omega)) fun c hc=>⟨_,rfl,by symm,fun _=>by
   symm;rwa[le_str];rwa[(jsd c (h3 c hc)).1];rw[le_str,(jsd c (h3 c hc)).2]⟩]
  rw[j0L.mpr fun _ _=>rfl];rfl
 unfold jhU jiA;symm;rwa[jza];rwa[len_str (jaa (by omega)),jjz];simp only[show((1:Int)<=(z.length:Int))from by omega,show((z.length:Int)<=8)from by omega,decide_true,if_true];symm;rwa[hq];rwa[jqn]
theorem jbj (i l:Int)(h:l<=i)(μ:M):jah .frz jaE.F [.int i,.int l] μ=.ok (.bl true) μ:=by
 refine jac (F:=jfg) ?_ jhi;unfold jfg jfe;symm;rwa[jrG];rwa[jo3];rw[decide_eq_true h]
theorem jrV (l:Int)(μ:M):jah .frz ja8.F [.non,.int l] μ=.ok (.bl true) μ:=by
 refine jac (F:=ja6) ?_ jhi;unfold ja6 ja7;symm;rfl
theorem jkR {α:Type}{ok:M->Bool}{tg:Tg}{body:S3->M->Out Fl}{fg:List Nat}{μ:M}{ρ:S3}(f:α->D)(ρb:α->S3)(ho:ok μ=true)(hf:forget fg ρ=ρ):∀xs:List α,(∀x∈xs,jqa tg (f x) ρ=some (ρb x))->(∀x∈xs,body (ρb x) μ=.ok (.nx (ρb x)) μ)->(∀x∈xs,forget fg (ρb x)=ρ) ->
  jf4 ok tg body fg (xs.map f) ρ μ=.ok (.nx ρ) μ
 |[],_,_,_=>by
  rw[j0B,jaL ho,hf]
 |x::xs,h1,h2,h3=>by
  rw[j0c,jaq (ρ1:=ρb x) (ρ2:=ρb x) (μ2:=μ) ho (h1 x (by simp)) (h2 x (by simp)),h3 x (by simp),jkR f ρb ho hf xs (fun y hy=>h1 y (by simp[hy])) (fun y hy=>h2 y (by simp[hy])) (fun y hy=>h3 y (by simp[hy]))]
theorem jj5 {tg:Tg}{body:S3->M->Out Fl}{fg:List Nat}{ρ:S3}{μ:M}:jCX .seq [.lst []] tg body fg ρ μ=.ok (.nx (forget fg ρ)) μ:=by
 rw[jaO (xs:=[]) rfl];unfold jf4;rw[if_pos (ja1.mpr rfl)]
theorem jsy {m:Bool}{tg:Tg}{cond:S3->M->Out Bool}{elt:S3->M->Out D}{ρ:S3}{μ:M}:jnf m .seq [.lst []] tg cond elt ρ μ=mkL m [] μ:=by
 refine jf6 (xs:=[]) rfl (j0J _) ?_;unfold jbq;rw[if_pos (ja1.mpr rfl)]
theorem jg5 (w:Str)(μ:M):jah .frz jan.F [.bl true,.str w] μ=.ok .non μ:=by
 refine jac (F:=jbX) ?_ jaX;unfold jbX jbA;symm
theorem jvV (ds:List D)(n:Nat)(h:ds.length=n)(μ:M):jah .frz jbb.F [.tup ds,.int (n:Int)] μ=.ok (.bl true) μ:=by
 refine jac (F:=jc1) ?_ jhi;unfold jc1 jcN;symm;rwa[jxR];rwa[jxH];simp[h]
theorem jpF (ds:List D)(μ:M):jah .frz jit.F [.lst ds] μ=.ok (.bl true) μ:=by
 refine jac (F:=jid) ?_ jhi;unfold jid jhT;symm;rwa[jvn]
theorem jf1 {ds:List D}{n:Nat}(hl:ds.length<=1000)(h:∀d∈ds,∃es,d=.tup es/\es.length=n)(w:Str)(μ:M):jah .frz jaT.F [.lst ds,.int (n:Int),.str w] μ=.ok .non μ:=by
 refine jac (F:=jd1) ?_ jaX;have hq:(ev jet jc).v [some (.lst ds),some (.int (n:Int)),some (.str w)] μ=.ok (.lst (ds.map fun _=>D.bl true)) μ:=by
  unfold jc;rw[jat (ds:=[.lst ds]) (xs:=ds) (e:=fun d=>d) (fun _=>true) (fun _=>D.bl true) (by symm) (by rw[List.map_id'];rfl) (jaa (by simpa using hl)) fun d hd=>⟨_,rfl,by symm,fun _=>by
   obtain⟨es,rfl,he⟩:=h d hd;symm;rw[jvV es n he]⟩]
  rw[j0L.mpr fun _ _=>rfl];rfl
 unfold jd1 jeE;symm;rwa[jpF];rwa[jg5];rwa[hq];rwa[jqn];rwa[jg5]
theorem jir {ds:List D}(hl:ds.length<=1000)(h:∀d∈ds,∃es,d=.tup es/\es.length=2)(w:Str)(μ:M):jah .frz jaT.F [.lst ds,.int 2,.str w] μ=.ok .non μ:=jf1 hl h w μ
theorem jnj (w:Str)(μ:M):jah .frz jaT.F [.lst [],.int 3,.str w] μ=.ok .non μ:=jf1 (n:=3) (by decide) (by simp) w μ
theorem jjC (μ:M):jah .frz jds.F [.tup [.int 1,.int 1]] μ=.ok .non μ:=by
 refine jac (F:=jcT) ?_ jaX;have i0:ixD (.tup [.int 1,.int 1]) (.int 0) μ=.ok (.int 1) μ:=nr rfl;have i1:ixD (.tup [.int 1,.int 1]) (.int 1) μ=.ok (.int 1) μ:=nr rfl;have h1:jah .frz jbb.F [.tup [.int 1,.int 1],.int 2] μ=_:=jvV [.int 1,.int 1] 2 rfl μ;unfold jcT jc6;symm;rwa[h1];rwa[jg5];rwa[i0];rwa[jbj _ _ (by decide)];rwa[jg5];rwa[i1];rwa[jbj _ _ (by decide)];rwa[jg5]
def jpE (ns:List Int):Prop:=∀k,k+1<ns.length->ns.getD k 0<ns.getD (k+1) 0
theorem jkZ (ns:List Int)(hl:ns.length<=1000)(hr:jpE ns)(μ:M):jah .frz jeF.F [.lst (ns.map D.int)] μ=.ok (.bl true) μ:=by
 refine jac (F:=jeG) ?_ jhi;have hi:∀μ:M,itD .rng2 [.int 1,.int (ns.length:Int)] μ=some ((List.range (ns.length - 1)).map fun(k:Nat)=>D.int (1+(k:Int))):=fun μ=>by
  unfold itD jn7;dsimp only;rw[if_pos (by omega),show((ns.length:Int) - 1).toNat=ns.length - 1 from by omega]
 unfold jeG jef;symm;rwa[jeD];rw[j0d,jaO (hi _)];rw[jkR (fun(k:Nat)=>D.int (1+(k:Int))) (fun k=>[some (.lst (ns.map D.int)),some (.int (1+(k:Int)))]) (jap (hi _)) rfl _ (fun x _=>rfl) (fun k hk=>?_) (fun x _=>rfl)]
 ·symm
 ·have hk':k+1<ns.length:=by have:=j1o.mp hk;omega
  have h:=hr k hk';unfold je8;symm;rwa[show(1+(k:Int))=((k+1:Nat):Int)from by omega,jm2 hk'];rwa[show((k+1:Nat):Int) - 1=((k:Nat):Int)from by omega,jm2 (by omega)];rwa[decide_eq_false (by omega)]
theorem jbr (zs:List Str)(hl:zs.length<=1000)(nd:zs.Nodup)(μ:M):jah .frz jax.F [.lst (zs.map D.str)] μ=.ok (.bl true) μ:=by
 refine jac (F:=jd8) ?_ jhi;have h1:biD .lenSet false [.lst (zs.map D.str)] μ=.ok (.int (ddS zs).length) μ:=nr (by
  simp only[biD,jll,jhc,je9,jmG,hl,if_true])
 unfold jd8 jeI;symm;rwa[h1];rwa[jeD];rw[j0d,jsL nd,decide_eq_true rfl]
theorem jjh (μ:M):jah .frz jc2.F [.lst []] μ=.ok .non μ:=by
 refine jac (F:=jdo) ?_ jaX;have u:jah .frz jax.F [.lst []] μ=_:=jbr [] (by decide) (by decide) μ;unfold jdo jc3 jeA;symm;rwa[jir (by decide) (by simp)];rwa[jj5];simp only[forget,j02,j1p,j0U,j0V];symm;rwa[jsy];rwa[u];rwa[jg5]
noncomputable def rkD (ts:List Int):List D:=ts.map fun t=>.tup [.int t,.str "rank"]
theorem jzy (ts:List Int):∀d∈rkD ts,∃es,d=.tup es/\es.length=2:=fun d hd=>by
 obtain⟨t,_,rfl⟩:=j0s.mp hd;exact⟨_,rfl,rfl⟩
theorem jeq (ts:List Int)(lo:Int)(hl:ts.length<=1000)(hn:∀x∈ts,lo<=x)(hr:jpE ts)(w:Str)(μ:M):jah .frz jaY.F [.lst (rkD ts),.int lo,.str w] μ=.ok .non μ:=by
 refine jac (F:=jcz) ?_ jaX;have hq0:(ev jbg jbo).v [some (.lst (rkD ts)),some (.int lo),some (.str w)] μ=.ok (.lst (ts.map fun _=>D.bl true)) μ:=by
  unfold jbo;rw[jat (ds:=[.lst (rkD ts)]) (xs:=ts) (e:=fun t=>.tup [.int t,.str "rank"]) (fun _=>true) (fun p=>D.bl true) (by symm) rfl (jaa hl) fun p hp=>⟨_,rfl,by symm,fun _=>by
   have i0:ixD (.tup [.int p,.str "rank"]) (.int 0) μ=.ok (.int p) μ:=nr rfl;symm;rwa[i0];rw[jbj _ _ (hn p hp)]⟩]
  rw[j0L.mpr fun _ _=>rfl];rfl
 have hq1:(ev jbg jbm).v [some (.lst (rkD ts)),some (.int lo),some (.str w)] μ=.ok (.lst (ts.map D.int)) μ:=by
  unfold jbm;rw[jat (ds:=[.lst (rkD ts)]) (xs:=ts) (e:=fun t=>.tup [.int t,.str "rank"]) (fun _=>true) (fun p=>D.int p) (by symm) rfl (jaa hl) fun p hp=>⟨_,rfl,by symm,fun _=>by
   have i0:ixD (.tup [.int p,.str "rank"]) (.int 0) μ=.ok (.int p) μ:=nr rfl;symm;rw[i0]⟩]
  rw[j0L.mpr fun _ _=>rfl];rfl
 unfold jcz jcl;symm;rwa[jir (by unfold rkD;rw[j0d];exact hl) (jzy ts)];rwa[hq0];rwa[jqn];rwa[jg5];rwa[hq1];rwa[jkZ _ hl hr];rwa[jg5]
theorem jjg (μ:M):jah .frz jcS.F [.lst []] μ=.ok .non μ:=by
 refine jac (F:=jcW) ?_ jaX;have hc:∀w,jah .frz jaY.F [.lst [],.int 0,.str w] μ=.ok .non μ:=fun w=>jeq [] 0 (by decide) (by simp) (fun k h=>by simp at h) w μ;unfold jcW jc4;symm;rwa[hc];rwa[jj5]
theorem jhp (μ:M):jah .frz jbx.F [.lst []] μ=.ok .non μ:=by
 refine jac (F:=jbz) ?_ jaX;unfold jbz jbZ;symm;rwa[jnj];rwa[jj5]
theorem jwd:jiU "house" =true/\jiU "rank" =true/\jiU "purse" =true:=by ac_rfl
theorem jjj (ts:List Int)(hl:ts.length<=1000)(hn:∀x∈ts,1<=x)(hr:jpE ts)(μ:M):jah .frz jcQ.F [.lst (rkD ts)] μ=.ok .non μ:=by
 refine jac (F:=jdc) ?_ jaX;have hi:∀μ:M,itD .seq [.lst (rkD ts)] μ=some (rkD ts):=fun μ=>rfl;unfold jdc jc7;symm;rwa[jeq ts 1 hl hn hr];unfold rkD at hi ⊢;rw[jaO (hi _),jkR (fun t=>.tup [.int t,.str "rank"]) (fun p=>[some (.lst (ts.map fun t=>.tup [.int t,.str "rank"])),some (.int p),some (.str "rank")]) (jap (hi _)) rfl _ (fun x _=>rfl) (fun p hp=>?_) (fun x _=>rfl)]
 ·symm
 ·unfold jep;symm;rwa[jgI _ jwd.2.1];rwa[jg5]
theorem jy8 {μ:M}{c c':Option Cl}:(μ++[c]).set μ.length c'=μ++[c']:=by simp
theorem jqS {μ:M}{c:Option Cl}:(μ++[c])[μ.length]?=some c:=by simp
theorem jDa {ρ:S3}{μ:M}{C:Addr}{fs0 fs:List Str}{ds:List D}{f:Str}{d:D}(hl:fs.length<1000)(h1:jiO f fs=fs++[f])(h2:jeX f d fs ds=ds++[d]):jBR (some (.cls C 1000000 fs0)) f ρ d (.cel μ.length) (μ++[some (.obj C fs ds)])=.ok (.nx ρ) (μ++[some (.obj C (fs++[f]) (ds++[d]))]):=by
 rw[jkX jqS hl h1 h2,jy8]
theorem jvX:jhA.dat=some (.cls 165 1000000 hF):=nr rfl
theorem juk (ts:List Int)(hl:ts.length<=1000)(hn:∀x∈ts,1<=x)(hr:jpE ts)(span grace:Int)(hs:1<=span)(hg:0<=grace)(μ:M):ja0 [.cel μ.length,.str "house",.tup [.int 1,.int 1],.lst [],.lst [],.lst [],.non,.non,.non,.lst (rkD ts),.int span,.int grace] (μ++[some (.obj 165 [] [])])=.ok .non (μ++[some (.obj 165 hF [.str "house",.tup [.int 1,.int 1],.tup [],.tup [],.tup [],.non,.non,.non,.tup (rkD ts),.int span,.int grace])]):=by
 unfold ja0 jcc;symm;rwa[jgI _ jwd.1];rwa[jg5];rwa[jjC];rwa[jjh];rwa[jjg];rwa[jhp]
 iterate 3
  rwa[jrV];rwa[jg5]
 rwa[jjj ts hl hn hr];rwa[jbj _ _ hs];rwa[jg5];rwa[jbj _ _ hg];rwa[jg5];simp only[jvX];rw[jDa (fs:=[]) (ds:=[]) (by decide) rfl rfl]
 iterate 10
  symm;simp only[jvX,jh8,jbf,j1v,List.cons_append];rw[jDa (by decide) (by ac_rfl) rfl]
 symm
theorem jzU {h:Nat->Option D}(ts:List Int):frzGs h (rkD ts)=some (rkD ts):=jaC (fun _=>nr rfl) ts
theorem jBT {h:Nat->Option D}(ts:List Int)(span grace:Int):frzGs h [.str "house",.tup [.int 1,.int 1],.tup [],.tup [],.tup [],.non,.non,.non,.tup (rkD ts),.int span,.int grace]=some [.str "house",.tup [.int 1,.int 1],.tup [],.tup [],.tup [],.non,.non,.non,.tup (rkD ts),.int span,.int grace]:=
 jak jyH (jak (nr rfl) (jak (nr rfl) (jak (nr rfl) (jak (nr rfl) (jak jaX (jak jaX (jak jaX (jak (jkE (jzU ts)) (jak jas (jak jas jbV))))))))))
theorem jn4 {μ:M}{C:Addr}{fs:List Str}{ds:List D}(h:∀k,frzGs k ds=some ds):jqc (μ++[some (.obj C fs ds)]) μ.length (.cel μ.length)=some (.obj C fs ds):=by
 unfold jqc;unfold jbn;unfold jht;rw[if_neg (by omega),if_neg (by simp)];dsimp only;rw[jbD];dsimp only;rw[h];rfl
theorem jkQ {μ:M}{ds:List D}(h:∀k,frzGs k ds=some ds):jqc (μ++[some (.lst ds)]) μ.length (.cel μ.length)=some (.lst ds):=by
 unfold jqc;unfold jbn;unfold jht;rw[if_neg (by omega),if_neg (by simp)];dsimp only;rw[jqS];dsimp only;rw[h];rfl
theorem jzx (ts:List Int)(hl:ts.length<=1000)(hn:∀x∈ts,1<=x)(hr:jpE ts)(span grace:Int)(hs:1<=span)(hg:0<=grace)(μ:M):jah .frz jaG.F [.str "house",.tup [.int 1,.int 1],.lst [],.lst [],.lst [],.non,.non,.non,.lst (rkD ts),.int span,.int grace] μ=.ok (hsD (rkD ts) span grace) μ:=
 ja4 (F:=mkF 165 ja0) (d:=.cel μ.length) (jw6 (F:=ja0) (juk ts hl hn hr span grace hs hg μ)) (jn4 fun _=>jBT ts span grace)
theorem jp7 (w:Str)(μ:M):jah .frz ja2.F [.bl true,.str w] μ=.ok .non μ:=by
 refine jac (F:=jck) ?_ jaX;unfold jck jcq;symm
theorem jo5 {m:Bool}{tg:Tg}{cond:S3->M->Out Bool}{elt:S3->M->Out D}{ρ ρ1:S3}{μ:M}{d y:D}(ha:jqa tg d ρ=some ρ1)(hc:cond ρ1 μ=.ok true μ)(he:elt ρ1 μ=.ok y μ):jnf m .seq [.lst [d]] tg cond elt ρ μ=mkL m [y] μ:=by
 refine jf6 (xs:=[d]) rfl (by show 1<=sizeLine;decide) ?_;unfold jbq;rw[if_pos (ja1.mpr rfl),ha];dsimp only;rw[hc,jbf,if_pos rfl,he,jbf];unfold jbq;rw[if_pos (ja1.mpr rfl),jbf]
noncomputable abbrev psD:D:=.lst [.tup [.str "purse",.str "house"]]
theorem jhJ (μ:M):jah .frz jb5.F [psD,.lst [.str "house"]] μ=.ok .non μ:=by
 refine jac (F:=jcg) ?_ jaX;have u:jah .frz jax.F [.lst [.str "purse"]] μ=_:=jbr ["purse"] (by decide) (by decide) μ;have hi:itD .seq [psD] μ=some [.tup [.str "purse",.str "house"]]:=rfl;have hin:jeT .In (.str "house") (.lst [.str "house"]) μ=.ok (.bl true) μ:=nr rfl;unfold jcg jcs jdD;symm;rw[jaO hi,jaq (ρ1:=[some psD,some (.lst [.str "house"]),some (.str "purse"),some (.str "house")]) (ρ2:=[some psD,some (.lst [.str "house"]),some (.str "purse"),some (.str "house")]) (μ2:=μ) (jap hi) rfl ?_,jaL (jap hi)]
 ·simp only[forget,j02,j1p,j0U,j0V];symm;rwa[jo5 (y:=.str "purse") (ρ1:=[some (.str "purse"),some (.str "house"),some psD,some (.lst [.str "house"]),none,none]) rfl (by symm) (by symm)];rwa[u];rwa[jp7]
 ·unfold jdz;symm;rwa[jgI _ jwd.2.2];rwa[jp7];rwa[hin];rwa[jp7]
theorem jjA (μ:M):jah .frz jcU.F [.lst [],.lst [.str "house"]] μ=.ok .non μ:=by
 refine jac (F:=jcP) ?_ jaX;have u:jah .frz jax.F [.lst []] μ=_:=jbr [] (by decide) (by decide) μ;unfold jcP jdf jex;symm;rwa[jj5];simp only[forget,j02,j1p,j0U,j0V];symm;rwa[jsy];rwa[u];rwa[jp7]
theorem jvF:jkN.dat=some (.cls 201 1000000 bF):=nr rfl
theorem jtA (rk:List D)(span grace:Int)(μ:M):jbc [.cel μ.length,.lst [hsD rk span grace],psD,.lst []] (μ++[some (.obj 201 [] [])])=.ok .non (μ++[some (.obj 201 bF [.tup [hsD rk span grace],.tup [.tup [.str "purse",.str "house"]],.tup []])]):=by
 have u:∀μ,jah .frz jax.F [.lst [.str "house"]] μ=_:=jbr ["house"] (by decide) (by decide);have l1:∀μ,biD .len false [.lst [.str "house"]] μ=.ok (.int 1) μ:=fun μ=>nr rfl;unfold jbc jdu jdY;symm;rw[jo5 (y:=.str "house") (ρ1:=[some (hsD rk span grace),some (.cel μ.length),some (.lst [hsD rk span grace]),some psD,some (.lst []),none]) rfl (by symm) (by
  symm;rw[jgE (d:=.str "house") (nr rfl)])]
 symm;rwa[l1];rwa[jp7];rwa[u];rwa[jp7];rwa[jhJ];rwa[jjA];rwa[jh8];rw[jvF,jDa (fs:=[]) (ds:=[]) (by decide) rfl rfl]
 iterate 2
  symm;rwa[jh8];rw[jvF,jDa (by decide) (by ac_rfl) rfl]
 symm
theorem jww (ts:List Int)(span grace:Int)(μ:M):jah .frz je2.F [.lst [hsD (rkD ts) span grace],psD,.lst []] μ=.ok (bkD (rkD ts) span grace) μ:=
 ja4 (F:=mkF 201 jbc) (d:=.cel μ.length) (jw6 (F:=jbc) (jtA (rkD ts) span grace μ)) (jn4 fun _=>jak (jkE (jak (jvJ ts span grace) jbV)) (jak (nr rfl) (jak (nr rfl) jbV)))
noncomputable abbrev Sp:=Int×Int×Int
noncomputable def onB (x:Int)(s:Sp):Bool:=decide (s.1<=x)&&decide (x<s.2.1)
noncomputable def jbO (sp:List Sp)(x:Int):Int:=((sp.filter (onB x)).map (·.2.2)).sum
noncomputable def jvr (ts:List Int)(p:Int):Nat:=(ts.filter fun t=>decide (t<=p)).length
def Pos (sp:List Sp):Prop:=∀s∈sp,0<=s.2.2
theorem joV (sp:List Sp)(hp:Pos sp)(c d:Sp->Bool)(h:∀s∈sp,c s=true->d s=true):((sp.filter c).map (·.2.2)).sum<=((sp.filter d).map (·.2.2)).sum:=by
 induction sp with
 |nil=>exact Int.le_refl _
 |cons s sp ih=>
  have i:=ih (fun x hx=>hp x (j0p _ hx)) fun x hx=>h x (j0p _ hx);have p:=hp s j0v;have k:=h s j0v
  cases hc:c s with
  |true=>
   rw[j0t hc,j0t (k hc),j0c,j0c,List.sum_cons,List.sum_cons];omega
  |false=>
   rw[j0z (by simp[hc])]
   cases hd:d s with
   |true=>
    rw[j0t hd,j0c,List.sum_cons];omega
   |false=>
    rw[j0z (by simp[hd])];exact i
theorem jmS (ts:List Int){p q:Int}(h:p<=q):jvr ts p<=jvr ts q:=by
 unfold jvr
 induction ts with
 |nil=>exact j0l _
 |cons t ts ih=>
  by_cases h1:t<=p
  ·rw[j0t (by simpa using h1),j0t (by simpa using Int.le_trans h1 h)];exact Nat.succ_le_succ ih
  ·rw[j0z (by simpa using h1)];by_cases h2:t<=q
   ·rw[j0t (by simpa using h2)];exact Nat.le_succ_of_le ih
   ·rw[j0z (by simpa using h2)];exact ih
theorem jiH (d:Int):∀ns:List Int,ns≠[]->mxD d ns∈ns/\∀x∈ns,x<=mxD d ns:=by
 have key:∀n,∀ns:List Int,ns.length=n+1->mxD d ns∈ns/\∀x∈ns,x<=mxD d ns:=by
  intro n
  induction n with
  |zero=>
   intro ns h
   match ns,h with
   |[x],_=>exact⟨by simp[mxD],by simp[mxD]⟩
  |succ n ih=>
   intro ns h;obtain⟨xs,y,rfl⟩:∃xs y,ns=xs++[y]:=⟨ns.dropLast,ns.getLast (by intro z;rw[z]at h;cases h),(List.dropLast_concat_getLast _).symm⟩;have hl:xs.length=n+1:=by simp at h;omega
   obtain⟨h1,h2⟩:=ih xs hl;rw[joZ (by intro z;rw[z]at hl;cases hl)];split
   ·refine⟨by simp,fun x hx=>?_⟩;rcases j0I.mp hx with e|e
    ·have:=h2 x e;omega
    ·have:x=y:=by simpa using e
     omega
   ·refine⟨by simp[h1],fun x hx=>?_⟩;rcases j0I.mp hx with e|e
    ·exact h2 x e
    ·have:x=y:=by simpa using e
     omega
 intro ns h
 match ns,h with
 |x::xs,_=>exact key xs.length (x::xs) rfl
noncomputable def plain (ts:List Int)(sp:List Sp)(x:Int):Nat:=jvr ts (jbO sp x)
def jmF (ts:List Int)(sp:List Sp)(a b:Int)(r:Nat):Prop:=(∃x,a<=x/\x<=b/\plain ts sp x=r)/\∀x,a<=x->x<=b->plain ts sp x<=r
theorem jvm {ts:List Int}{sp:List Sp}{a b:Int}{r r':Nat}(h:jmF ts sp a b r)(h':jmF ts sp a b r'):r=r':=by
 obtain⟨⟨x,x1,x2,rfl⟩,hx⟩:=h;obtain⟨⟨y,y1,y2,rfl⟩,hy⟩:=h';exact Nat.le_antisymm (hy x x1 x2) (hx y y1 y2)
theorem jqm (sp:List Sp)(hp:Pos sp)(a x:Int)(h:a<=x):∃c,(c=a∨∃s∈sp,s.1=c/\a<c)/\a<=c/\c<=x/\jbO sp x<=jbO sp c:=by
 let fs:=a::(sp.filter fun s=>decide (a<s.1)&&decide (s.1<=x)).map (·.1)
 obtain⟨h1,h2⟩:=jiH 0 fs (by simp[fs]);have hm:(mxD 0 fs=a∨∃s∈sp,s.1=mxD 0 fs/\a<mxD 0 fs)/\a<=mxD 0 fs/\mxD 0 fs<=x:=by
  rcases j0q.mp h1 with e|e
  ·exact⟨.inl e,by omega,by omega⟩
  ·obtain⟨s,hs,e⟩:=j0s.mp e;obtain⟨m,c⟩:=j0u.mp hs;simp only[j0a,decide_eq_true_eq]at c;exact⟨.inr ⟨s,m,e,by omega⟩,by omega,by omega⟩
 refine⟨mxD 0 fs,hm.1,hm.2.1,hm.2.2,joV sp hp _ _ fun s hs ho=>?_⟩;unfold onB at ho ⊢;simp only[j0a,decide_eq_true_eq]at ho ⊢;refine⟨?_,by omega⟩;by_cases ha:a<s.1
 ·exact h2 s.1 (j0p _ (j0s.mpr ⟨s,j0u.mpr ⟨hs,by simp[ha,ho.1]⟩,rfl⟩))
 ·have:=h2 a j0v;omega
theorem jul {ts:List Int}{sp:List Sp}(hp:Pos sp){a b:Int}(hab:a<=b)(ds:List Int)(h1:∀x∈ds,a<=x/\x<=b)(h2:a∈ds)(h3:∀s∈sp,a<s.1->s.1<=b->s.1∈ds):jmF ts sp a b (jvr ts (mxD 0 (ds.map (jbO sp)))):=by
 obtain⟨m1,m2⟩:=jiH 0 (ds.map (jbO sp)) (by intro z;rw[List.map_eq_nil_iff]at z;rw[z]at h2;cases h2);obtain⟨x,hx,e⟩:=j0s.mp m1;refine⟨⟨x,(h1 x hx).1,(h1 x hx).2,by unfold plain;rw[e]⟩,fun y y1 y2=>?_⟩;obtain⟨c,hc,c1,c2,c3⟩:=jqm sp hp a y y1;have:c∈ds:=by
  rcases hc with rfl|⟨s,hs,rfl,l⟩
  ·exact h2
  ·exact h3 s hs l (by omega)
 exact jmS ts (Int.le_trans c3 (m2 _ (j0s.mpr ⟨c,this,rfl⟩)))
theorem jsR {ts:List Int}{sp:List Sp}(hp:Pos sp){a b:Int}(hab:a<=b)(ds:List Int)(h1:∀x∈ds,a<=x/\x<=b)(h2:a∈ds)(h3:∀s∈sp,a<s.1->s.1<=b->s.1∈ds):∃r:Nat,mxD 0 (ds.map fun x=>(plain ts sp x:Int))=(r:Int)/\jmF ts sp a b r:=by
 obtain⟨m1,m2⟩:=jiH 0 (ds.map fun x=>(plain ts sp x:Int)) (by intro z;rw[List.map_eq_nil_iff]at z;rw[z]at h2;cases h2);obtain⟨x,hx,e⟩:=j0s.mp m1;refine⟨plain ts sp x,e.symm,⟨x,(h1 x hx).1,(h1 x hx).2,rfl⟩,fun y y1 y2=>?_⟩;obtain⟨c,hc,c1,c2,c3⟩:=jqm sp hp a y y1;have:c∈ds:=by
  rcases hc with rfl|⟨s,hs,rfl,l⟩
  ·exact h2
  ·exact h3 s hs l (by omega)
 have k:=m2 _ (j0s.mpr ⟨c,this,rfl⟩);rw[<- e]at k;exact j0A (jmS ts c3) (by unfold plain at k ⊢;omega)
theorem jAT {ts:List Int}{sp:List Sp}(hp:Pos sp)(ht:∀t∈ts,1<=t){now:Nat}(hn:1<=now){x:Int}(h:now<=plain ts sp x):∃s∈sp,x<s.2.1/\now<=plain ts sp (s.2.1 - 1):=by
 have hpos:1<=jbO sp x:=by
  have:(ts.filter fun t=>decide (t<=jbO sp x))≠[]:=by
   intro z;unfold plain jvr at h;rw[z]at h;simp at h;omega
  obtain⟨t,hmem⟩:=List.exists_mem_of_ne_nil _ this;obtain⟨m,c⟩:=j0u.mp hmem;have:=ht t m;have c':t<=jbO sp x:=by simpa using c
  omega
 let gs:=(sp.filter fun s=>decide (x<s.2.1)).map fun s=>-s.2.1
 have hne:gs≠[]:=by
  intro z;have:sp.filter (onB x)=[]:=by
   rw[List.filter_eq_nil_iff];intro s hs ho;unfold onB at ho;simp only[j0a,decide_eq_true_eq]at ho;have z':=List.map_eq_nil_iff.mp z;exact(List.filter_eq_nil_iff.mp z') s hs (by simpa using ho.2)
  unfold jbO at hpos;rw[this]at hpos;simp at hpos
 obtain⟨m1,m2⟩:=jiH 0 gs hne;obtain⟨s,hs,e⟩:=j0s.mp m1;obtain⟨hm,hc⟩:=j0u.mp hs;have hc:x<s.2.1:=by simpa using hc
 refine⟨s,hm,hc,j0A h (jmS ts (joV sp hp _ _ fun u hu ho=>?_))⟩;unfold onB at ho ⊢;simp only[j0a,decide_eq_true_eq]at ho ⊢;have:=m2 (-u.2.1) (j0s.mpr ⟨u,j0u.mpr ⟨hu,by simpa using ho.2⟩,rfl⟩);rw[<- e]at this;exact⟨by omega,by omega⟩
noncomputable def jn1 (ts:List Int)(sp:List Sp)(now:Nat):List Int:=(sp.filter fun s=>decide ((now:Int)<=(plain ts sp (s.2.1 - 1):Int))).map (·.2.1)
theorem js0 {ts:List Int}{sp:List Sp}(hp:Pos sp)(ht:∀t∈ts,1<=t){now:Nat}(hn:1<=now){grace day:Int}(hg:0<=grace)(hd:0<=day)(hr:jmF ts sp (max (day - grace) 0) day now):jn1 ts sp now≠[]/\day<mxD 0 (jn1 ts sp now)+grace/\(∀r,jmF ts sp (max (mxD 0 (jn1 ts sp now)+grace - grace) 0) (mxD 0 (jn1 ts sp now)+grace) r->r<now)/\∀r,jmF ts sp (max (mxD 0 (jn1 ts sp now)+grace - 1 - grace) 0) (mxD 0 (jn1 ts sp now)+grace - 1) r->now<=r:=by
 obtain⟨⟨x0,a1,a2,a3⟩,_⟩:=hr;have mem:∀x,now<=plain ts sp x->∃e∈jn1 ts sp now,x<e:=fun x hx=>by
  obtain⟨s,hs,s1,s2⟩:=jAT hp ht hn hx;exact⟨s.2.1,j0s.mpr ⟨s,j0u.mpr ⟨hs,by simpa using s2⟩,rfl⟩,s1⟩
 have hne:jn1 ts sp now≠[]:=by
  obtain⟨e,he,_⟩:=mem x0 (by omega);intro z;rw[z]at he;cases he
 obtain⟨m1,m2⟩:=jiH 0 _ hne;have last:now<=plain ts sp (mxD 0 (jn1 ts sp now) - 1):=by
  obtain⟨s,hs,e⟩:=j0s.mp m1;rw[<- e];simpa using(j0u.mp hs).2
 have all:∀x,now<=plain ts sp x->x<mxD 0 (jn1 ts sp now):=fun x hx=>by
  obtain⟨e,he,h⟩:=mem x hx;have:=m2 e he;omega
 have h0:=all x0 (by omega);refine⟨hne,by omega,fun r hr=>?_,fun r hr=>?_⟩
 ·obtain⟨⟨y,y1,y2,rfl⟩,_⟩:=hr;by_cases hc:now<=plain ts sp y
  ·have:=all y hc;omega
  ·omega
 ·exact j0A last (hr.2 _ (by omega) (by omega))
abbrev sF:List Str:=["day","rows","debts","earned","ends","owed","odds","backs","stirs","lendings"]
noncomputable abbrev Pl:=Int×Str×Int
noncomputable abbrev Er:=Str×Int×Int
structure Sta where
 day:Int
 row:List Pl
 ek:List Er
 en:List (Str×Str×Int×Int)
 bk:List (Str×Int)
 sk:List Int
noncomputable def plD (p:Pl):D:=.tup [.int p.1,.str p.2.1,.str "",.int p.2.2]
noncomputable def erD (e:Er):D:=.tup [.str "buy",.str "purse",.int e.2.1,.int e.2.2]
noncomputable def enD (e:Str×Str×Int×Int):D:=.tup [.str e.1,.str "taken",.str "purse",.str e.2.1,.int e.2.2.1,.int e.2.2.2]
noncomputable abbrev ekK (s:Sta):List Key:=s.ek.map fun e=>.inr e.1
noncomputable abbrev bkK (s:Sta):List Key:=s.bk.map fun e=>.inr e.1
noncomputable abbrev skK (s:Sta):List Key:=s.sk.map fun _=>.inr "purse"
noncomputable def Sta.cs (n:Nat)(s:Sta):M:=[some (.obj 343 sF [.int s.day,.cel (n+1),.cel (n+2),.cel (n+3),.cel (n+4),.cel (n+5),.cel (n+6),.cel (n+7),.cel (n+8),.cel (n+9)]),some (.dK [.inr "purse"] [.lst (s.row.map plD)]),some (.dK [.inr "purse"] [.lst []]),some (.dK (ekK s) (s.ek.map erD)),some (.lst (s.en.map enD)),some (.lst []),some (.dK [] []),some (.dK (bkK s) (s.bk.map fun e=>.int e.2)),some (.dK (skK s) (s.sk.map D.int)),some (.dK [] [])]
noncomputable def Mm (μ:M)(s:Sta):M:=μ++s.cs μ.length
def At (σ:M)(n:Nat)(s:Sta):Prop:=∀k,k<10->σ[n+k]?=(s.cs n)[k]?
theorem jvq {μ cs:M}{k:Nat}:(μ++cs)[μ.length+k]?=cs[k]?:=by
 rw[j06 (by omega)];simp
theorem jBg {μ cs:M}{k:Nat}{x:Option Cl}:(μ++cs).set (μ.length+k) x=μ++cs.set k x:=by
 rw[List.set_append_right _ _ (by omega)];simp
theorem jki (μ:M)(s:Sta):At (Mm μ s) μ.length s:=fun k _=>jvq
theorem At.app {σ ν:M}{n:Nat}{s:Sta}(h:At σ n s):At (σ++ν) n s:=fun k hk=>by
 have e:=h k hk;have hl:n+k<σ.length:=by
  have:(s.cs n)[k]?≠none:=fun z=>by
   have z':10<=k:=List.getElem?_eq_none_iff.mp z;omega
  rw[<- e]at this;exact Nat.lt_of_not_le fun z=>this (List.getElem?_eq_none z)
 rw[j0X hl,e]
theorem jmx {F:Fn}{ds:List D}{μ:M}:jah .raw F ds μ=F ds μ:=rfl
theorem jne:∃k,jaH.dat=some (.cls 343 k sF):=⟨_,nr rfl⟩
section
variable {σ:M} {n:Nat} {s:Sta}
theorem juZ {f:Str}{d:D}(h:At σ n s)(g:joY f sF [.int s.day,.cel (n+1),.cel (n+2),.cel (n+3),.cel (n+4),.cel (n+5),.cel (n+6),.cel (n+7),.cel (n+8),.cel (n+9)]=some d):jrn jaH.dat f (.cel n) σ=.ok d σ:=by
 obtain⟨k,hk⟩:=jne;rw[hk];have e:σ[n]?=some (some (.obj 343 sF _)):=h 0 (by decide);unfold jrn jAF;simp only[e,if_true];rw[g]
theorem jor (h:At σ n s):ixD (.cel (n+1)) (.str "purse") σ=.ok (.lst (s.row.map plD)) σ:=by
 have e:σ[n+1]?=some (some (.dK [.inr "purse"] _)):=h 1 (by decide);unfold ixD jwo jgv;simp only[e];rfl
theorem jwH (h:At σ n s):ixD (.cel (n+2)) (.str "purse") σ=.ok (.lst []) σ:=by
 have e:σ[n+2]?=some (some (.dK [.inr "purse"] _)):=h 2 (by decide);unfold ixD jwo jgv;simp only[e];rfl
theorem jD0 (h:At σ n s)(m:Bool):jm m (.cel (n+9)) σ=mkL m [] σ:=by
 have e:σ[n+9]?=some (some (.dK [] [])):=h 9 (by decide);unfold jm;simp only[e,if_true]
theorem jeU (ts:List Int)(span grace:Int)(μ:M):jah .frz jaW.F [bkD (rkD ts) span grace,.str "purse"] μ=.ok (hsD (rkD ts) span grace) μ:=juF ts span grace μ
variable {ts:List Int} {span grace:Int}
theorem jli (h:At σ n s):jah .frz jeu.F [bkD (rkD ts) span grace,.cel n,.str "purse"] σ=.ok (.lst []) σ:=by
 refine ja4 (F:=jeh) (ν:=[some (.lst [])]) (d:=.cel σ.length) ?_ (jkQ fun _=>jbV);unfold jeh jed;symm;rwa[juZ (d:=.cel (n+1)) h (nr rfl)];rwa[jor h];rwa[jeU];rwa[jeD];have hf:∀(f:Str) (ν:M),joY f hF [.str "house",.tup [.int 1,.int 1],.tup [],.tup [],.tup [],.non,.non,.non,.tup (rkD ts),.int span,.int grace]=some .non->jrn jaG.dat f (hsD (rkD ts) span grace) ν=.ok .non ν:=fun f ν g=>jgE g ν;by_cases hr:(0:Int)<((s.row.map plD).length:Int)
 ·rwa[decide_eq_true hr];rwa[hf "age" _ (nr rfl)];rwa[jeD];rwa[decide_eq_true hr];rwa[hf "rest" _ (nr rfl)]
 ·rwa[decide_eq_false hr];rwa[jeD];rwa[decide_eq_false hr]
theorem jix (h:At σ n s):jah .frz jcf.F [bkD (rkD ts) span grace,.cel n] σ=.ok .non σ:=by
 refine ja4 (F:=jcb) (ν:=[some (.lst [])]) (d:=.non) ?_ jaX;have hi:∀μ:M,itD .seq [.tup [.tup [.str "purse",.str "house"]]] μ=some [.tup [.str "purse",.str "house"]]:=fun μ=>rfl;unfold jcb jcv;symm;rwa[juZ (d:=.cel (n+9)) h (nr rfl)];rwa[jD0 h];rwa[jtk (d:=.tup [.tup [.str "purse",.str "house"]]) (nr rfl)];rw[jaO (hi _),jaq (ρ1:=[some (bkD (rkD ts) span grace),some (.cel n),some (.cel σ.length),some (.str "purse"),some (.str "house")]) (ρ2:=[some (bkD (rkD ts) span grace),some (.cel n),some (.cel σ.length),some (.str "purse"),some (.str "house")]) (μ2:=σ++[some (.lst [])]) (jap (hi _)) rfl ?_,jaL (jap (hi _))]
 ·simp only[forget,j02,j1p,j0U,j0V];symm;have l0:biD .len false [.cel σ.length] (σ++[some (.lst [])])=.ok (.int 0) (σ++[some (.lst [])]):=by
   simp only[biD,jDh,jhc,je9,jbD];rfl
  rwa[l0]
 ·unfold jdB;symm;rwa[jli h.app];rwa[juC (by decide)]
end
section
variable {μ:M} {s:Sta} {ts:List Int} {span grace:Int}
theorem jqJ (day:Int):jah .raw jbP.F [bkD (rkD ts) span grace,.cel μ.length,.int day] (Mm μ s)=.ok .non (Mm μ {s with day:=day}):=by
 refine(jmx (F:=jbS)).trans ?_;obtain⟨k,hk⟩:=jne;have e:(Mm μ s)[μ.length]?=some (some (.obj 343 sF _)):=jki μ s 0 (by decide);unfold jbS jbJ;symm;rwa[jix (jki μ s)];rwa[hk,jkX (ds':=[.int day,.cel (μ.length+1),.cel (μ.length+2),.cel (μ.length+3),.cel (μ.length+4),.cel (μ.length+5),.cel (μ.length+6),.cel (μ.length+7),.cel (μ.length+8),.cel (μ.length+9)]) (fs':=sF) e (by decide) (nr rfl) (nr rfl)];exact congrArg _ (jBg (k:=0))
end
noncomputable abbrev kP (p:Pl):List Key:=[.inl p.1,.inr p.2.1,.inr ""]
noncomputable abbrev tP (p:Pl):T3:=(p.1,p.2.1,"")
def Up (xs:List Pl):Prop:=xs.Pairwise fun x y=>jbB (tP x) (tP y)=true
theorem jhP {κ:Type}[DecidableEq κ]{α:Type}(kf:α->κ)(vf:α->D)(k:κ):∀xs:List α,(∀x∈xs,kf x≠k)->jhn k (xs.map kf) (xs.map vf)=none
 |[],_=>rfl
 |x::xs,h=>by
  rw[j0c,j0c];unfold jhn;rw[if_neg (h x (by simp)),jhP kf vf k xs fun y hy=>h y (by simp[hy])]
theorem jkS {κ:Type}[DecidableEq κ]{α:Type}(kf:α->κ)(vf:α->D):∀(xs:List α),(xs.map kf).Nodup->∀x∈xs,jhn (kf x) (xs.map kf) (xs.map vf)=some (vf x)
 |[],_,x,h=>nomatch h
 |y::xs,nd,x,h=>by
  rw[j0c]at nd ⊢;rw[j0c];have nd':=j01.mp nd;unfold jhn;by_cases e:kf y=kf x
  ·rw[if_pos e];rcases j0q.mp h with rfl|h
   ·rfl
   ·exact absurd (j0s.mpr ⟨x,h,rfl⟩) (e▸nd'.1)
  ·rw[if_neg e];rcases j0q.mp h with rfl|h
   ·exact absurd rfl e
   ·exact jkS kf vf xs nd'.2 x h
theorem jn0 {κ:Type}[DecidableEq κ]{α:Type}(kf:α->κ)(vf:α->D)(xs:List α)(x:α)(h:∀y∈xs,kf y≠kf x):je0 (kf x) (xs.map kf)=(xs++[x]).map kf/\jcX (kf x) (vf x) (xs.map kf) (xs.map vf)=(xs++[x]).map vf:=by
 have:kf x∉xs.map kf:=fun z=>by
  obtain⟨y,hy,e⟩:=j0s.mp z;exact h y hy e
 unfold je0 jcX;rw[if_neg this,if_neg this,j0y,j0y];exact⟨rfl,rfl⟩
theorem jCa {xs:List Pl}{x:Pl}{r:List Pl}(h:Up (xs++x::r)):∀y∈xs,kP y≠kP x:=fun y hy e=>by
 have:=(j0T.mp h).2.2 y hy x (by simp);simp only[kP,List.cons.injEq,Sum.inl.injEq,Sum.inr.injEq,and_true]at e;have e':tP y=tP x:=by
  show(y.1,y.2.1,_)=(x.1,x.2.1,_);rw[e.1,e.2]
 rw[e',jhB]at this;cases this
theorem jtW {xs:List Pl}(h:Up xs):(xs.map kP).Nodup:=by
 refine j0D.mpr (h.imp fun {a b} hl e=>?_);simp only[kP,List.cons.injEq,Sum.inl.injEq,Sum.inr.injEq,and_true]at e;have e':tP a=tP b:=by
  show(a.1,a.2.1,_)=(b.1,b.2.1,_);rw[e.1,e.2]
 rw[e',jhB]at hl;cases hl
noncomputable abbrev dP (xs:List Pl):Cl:=.dT (xs.map kP) (xs.map fun p=>.int p.2.2)
theorem jk6 {μ:M}{xs:List Pl}:jjq (μ++[some (dP xs)]) (.cel μ.length)=some (xs.map kP,xs.map fun p=>.int p.2.2):=by
 unfold jjq;simp only[jbD]
theorem jmO {ok:M->Bool}(hok:∀ν,ok ν=true)(a b:D)(μ:M):∀(xs acc:List Pl),acc.length+xs.length<=60->Up (acc++xs)->jf4 ok (.tp [3,4,5,6]) (runs joj jkP) [3,4,5,6] (xs.map plD) [some a,some b,some (.cel μ.length),none,none,none,none] (μ++[some (dP acc)])=.ok (.nx [some a,some b,some (.cel μ.length),none,none,none,none]) (μ++[some (dP (acc++xs))])
 |[],acc,_,_=>by
  rw[j0B,jaL (hok _),j0x];rfl
 |x::xs,acc,hl,hu=>by
  rw[j0j]at hl;rw[j0c,jaq (ρ1:=[some a,some b,some (.cel μ.length),some (.int x.1),some (.str x.2.1),some (.str ""),some (.int x.2.2)]) (ρ2:=[some a,some b,some (.cel μ.length),some (.int x.1),some (.str x.2.1),some (.str ""),some (.int x.2.2)]) (μ2:=μ++[some (dP (acc++[x]))]) (hok _) rfl ?_]
  ·have:=jmO hok a b μ xs (acc++[x]) (by rw[j0o,List.length_singleton];omega) (by rw[j0n];exact hu);rw[j0n]at this;exact this
  ·have hd:jyq (μ++[some (dP acc)]) (.cel μ.length)=true:=by
    unfold jyq;rw[jk6];simp
   have hlk:jq1 (.cel μ.length) (.tup [.int x.1,.str x.2.1,.str ""]) (.int 0) (μ++[some (dP acc)])=.ok (.int 0) (μ++[some (dP acc)]):=by
    unfold jq1 jlL;simp only[jpT,jzH,ksD,jk6];rw[jhP kP (fun p=>.int p.2.2) _ acc (jCa hu)];rfl
   have hpn:=jn0 kP (fun p=>.int p.2.2) acc x (jCa hu);unfold jkP;symm;rwa[if_pos hd];rwa[hlk];rwa[Int.zero_add,jtJ (k:=kP x) jbD rfl (by rw[j0d];omega),hpn.1,hpn.2,jtO]
theorem jzs (xs ys:List Pl)(hl:xs.length+ys.length<=60)(hu:Up (xs++ys))(μ:M):jah .frz jsW.F [.lst (xs.map plD),.lst (ys.map plD)] μ=.ok (.lst ((xs++ys).map plD)) μ:=by
 refine ja4 (F:=jqR) (ν:=[some (dP (xs++ys))]) (d:=.lst ((xs++ys).map plD)) ?_ (jsj (jaC (fun _=>nr rfl) _));have hi:∀ν:M,itD .seq [.lst ((xs++ys).map plD)] ν=some ((xs++ys).map plD):=fun ν=>rfl;have lp:=jmO (ok:=jdG .seq [.lst ((xs++ys).map plD)] ((xs++ys).map plD)) (fun ν=>jap (hi ν)) (.lst (xs.map plD)) (.lst (ys.map plD)) μ (xs++ys) [] (by simp;omega) hu;have l1:∀(zs:List D) (ν:M),biD .list false [.lst zs] ν=.ok (.lst zs) ν:=fun zs ν=>nr rfl;have hq:(ev joj jlj).v [some (.lst (xs.map plD)),some (.lst (ys.map plD)),some (.cel μ.length),none,none,none,none] (μ++[some (dP (xs++ys))])=.ok (.lst ((xs++ys).map plD)) (μ++[some (dP (xs++ys))]):=by
  have ht:∀zs:List Pl,t3D (zs.map kP)=some (zs.map tP):=fun zs=>by
   induction zs with
   |nil=>rfl
   |cons z zs ih=>rw[j0c];unfold t3D;rw[ih];rfl
  unfold jlj;rw[jat (ds:=[.lst (((xs++ys).map tP).map fun t=>.tup [.int t.1,.str t.2.1,.str t.2.2])]) (xs:=xs++ys) (e:=fun p=>.tup [.int p.1,.str p.2.1,.str ""]) (fun _=>true) plD (by
   symm;simp only[show ∀ds ν,biD .sortD false ds ν=jka false ds ν from fun _ _=>rfl];rw[jtU (ts:=(xs++ys).map tP) (us:=(xs++ys).map tP) jk6 (ht _) (by simp;omega) ⟨List.Perm.refl _,j0D.mpr hu⟩];symm) (by
   show some _=some _;rw[j1m];rfl) (jaa (by simp;omega)) fun p hp=>⟨_,rfl,by symm,fun _=>by
   symm;have:jBG (.cel μ.length) (.tup [.int p.1,.str p.2.1,.str ""]) (μ++[some (dP (xs++ys))])=.ok (.int p.2.2) (μ++[some (dP (xs++ys))]):=by
    unfold jBG jlL;simp only[jpT,jzH,ksD,jk6];rw[jkS kP (fun p=>.int p.2.2) _ (jtW hu) p hp]
   rwa[this];rfl⟩]
  rw[j0L.mpr fun _ _=>rfl];rfl
 unfold jqR jqw;symm;rwa[l1];rwa[l1];rwa[jil (jaa (by simp;omega)),<- j0y];rw[jaO (hi _)];rwa[show(Cl.dT [] []:Cl)=dP []from rfl,lp];rwa[hq]
section
variable {μ:M} {s:Sta}
theorem jjK {k:Nat}{x:Option Cl}{s':Sta}(h:(s.cs μ.length).set k x=s'.cs μ.length):(Mm μ s).set (μ.length+k) x=Mm μ s':=by
 unfold Mm;rw[jBg,h]
theorem joN {ρ:S3}(row:List Pl):ji2 (.cel (μ.length+1)) (.str "purse") (.lst (row.map plD)) ρ (Mm μ s)=.ok (.nx ρ) (Mm μ {s with row:=row}):=by
 rw[jgr (k:=.inr "purse") (jki μ s 1 (by decide)) rfl (by decide)];exact congrArg _ (jjK rfl)
theorem jrf {ρ:S3}:ji2 (.cel (μ.length+2)) (.str "purse") (.lst []) ρ (Mm μ s)=.ok (.nx ρ) (Mm μ s):=by
 rw[jgr (k:=.inr "purse") (jki μ s 2 (by decide)) rfl (by decide)];exact congrArg _ (jjK rfl)
theorem jpz {ρ:S3}(e:Er)(hl:s.ek.length<1000)(h:∀x∈s.ek,x.1≠e.1):ji2 (.cel (μ.length+3)) (.str e.1) (erD e) ρ (Mm μ s)=.ok (.nx ρ) (Mm μ {s with ek:=s.ek++[e]}):=by
 have hp:=jn0 (fun e:Er=>(.inr e.1:Key)) erD s.ek e fun y hy z=>h y hy (Sum.inr.inj z);rw[jgr (k:=.inr e.1) (jki μ s 3 (by decide)) rfl (by rw[j0d];exact hl),hp.1,hp.2];exact congrArg _ (jjK rfl)
theorem jsZ {ρ:S3}(e:Str×Int)(hl:s.bk.length<1000)(h:∀x∈s.bk,x.1≠e.1):ji2 (.cel (μ.length+7)) (.str e.1) (.int e.2) ρ (Mm μ s)=.ok (.nx ρ) (Mm μ {s with bk:=s.bk++[e]}):=by
 have hp:=jn0 (fun e:Str×Int=>(.inr e.1:Key)) (fun e=>D.int e.2) s.bk e fun y hy z=>h y hy (Sum.inr.inj z);rw[jgr (k:=.inr e.1) (jki μ s 7 (by decide)) rfl (by rw[j0d];exact hl),hp.1,hp.2];exact congrArg _ (jjK rfl)
theorem jr4 {ρ:S3}(d:Int)(hl:s.sk.length<=1):ji2 (.cel (μ.length+8)) (.str "purse") (.int d) ρ (Mm μ s)=.ok (.nx ρ) (Mm μ {s with sk:=[d]}):=by
 rw[jgr (k:=.inr "purse") (jki μ s 8 (by decide)) rfl (by rw[j0d];omega)];refine congrArg _ (jjK ?_);obtain⟨day,row,ek,en,bk,sk⟩:=s
 match sk,hl with
 |[],_=>rfl
 |[x],_=>rfl
theorem juy (e:Str×Str×Int×Int)(hl:s.en.length<1000):mtD .append (.cel (μ.length+4)) [enD e] (Mm μ s)=.ok .non (Mm μ {s with en:=s.en++[e]}):=by
 have h:(Mm μ s)[μ.length+4]?=some (some (.lst (s.en.map enD))):=jki μ s 4 (by decide);unfold mtD jzE;simp only[h];rw[if_pos (show(s.en.map enD).length<sizeLine from jaa (n:=(s.en.map enD).length+1) (by rw[j0d];omega))];refine congrArg _ (jjK ?_);show List.set _ 4 (some (Cl.lst (s.en.map enD++[enD e])))=_;rw[show s.en.map enD++[enD e]=(s.en++[e]).map enD from by rw[j0y];rfl];rfl
theorem jsm:jp0 .append (.cel (μ.length+4)) (Mm μ s)=true:=by
 have h:(Mm μ s)[μ.length+4]?=some (some (.lst (s.en.map enD))):=jki μ s 4 (by decide);unfold jp0;simp only[h]
theorem jb0 {f:Str}{d:D}(g:joY f sF [.int s.day,.cel (μ.length+1),.cel (μ.length+2),.cel (μ.length+3),.cel (μ.length+4),.cel (μ.length+5),.cel (μ.length+6),.cel (μ.length+7),.cel (μ.length+8),.cel (μ.length+9)]=some d):jrn jaH.dat f (.cel μ.length) (Mm μ s)=.ok d (Mm μ s):=juZ (jki μ s) g
theorem jzN (p:Pl)(hp:0<=p.2.2)(hl:s.row.length<50)(hu:Up (s.row++[p])):jah .raw jxZ.F [.cel μ.length,.str "purse",.lst [plD p]] (Mm μ s)=.ok .non (Mm μ {s with row:=s.row++if 0<p.2.2 then [p]else []}):=by
 refine(jmx (F:=jz)).trans ?_;have i3:∀ν:M,ixD (plD p) (.int 3) ν=.ok (.int p.2.2) ν:=fun ν=>nr rfl;have hq:(ev jxd jnb).v [some (.cel μ.length),some (.str "purse"),some (.lst [plD p])] (Mm μ s)=.ok (.lst ((if 0<p.2.2 then [p]else []).map plD)) (Mm μ s):=by
  unfold jnb;rw[jat (ds:=[.lst [plD p]]) (xs:=[p]) (e:=plD) (fun p=>decide (0<p.2.2)) plD (by symm) rfl (jaa (by simp)) fun x hx=>⟨_,rfl,by
   have:x=p:=by simpa using hx
   subst this;symm;rw[i3];symm,fun _=>by symm⟩]
  by_cases h:0<p.2.2
  ·rw[if_pos h,j0t (by simpa using h)];rfl
  ·rw[if_neg h,j0z (by simpa using h)];rfl
 have hu':Up (s.row++if 0<p.2.2 then [p]else []):=by
  by_cases h:0<p.2.2
  ·rw[if_pos h];exact hu
  ·rw[if_neg h,j0x];exact(j0T.mp hu).1
 unfold jz jxz;symm;rwa[jb0 (d:=.cel (μ.length+1)) (nr rfl)];rwa[jor (jki μ s)];rwa[hq];rwa[jzs _ _ (by split<;>simp<;>omega) hu'];rwa[jb0 (d:=.cel (μ.length+1)) (nr rfl)];rwa[joN]
end
section
variable {ts:List Int} {span grace:Int}
theorem joI {μ ν:M}{k:Nat}(h:ν[k]?=some (some (.lst []))):jht (μ++ν) μ.length [] 4 (μ.length+k)=some (.lst []):=by
 unfold jht;rw[if_neg (by omega),if_neg (by simp)];dsimp only;rw[jvq,h];rfl
theorem jxW (m:Int)(μ:M):jah .frz jgV.F [.lst [],.int m] μ=.ok (.tup [.lst [],.lst [],.int m]) μ:=by
 refine ja4 (F:=jg4) (ν:=[some (.lst []),some (.lst [])]) (d:=.tup [.cel μ.length,.cel (μ.length+1),.int m]) ?_ (jkE (jak ?_ (jak ?_ (jak jas jbV))))
 ·unfold jg4 jgX;symm;rw[jj5];simp only[forget,j02,j1p,j0U,j0V,j0n,j0o];symm
 ·unfold jbn;exact joI (k:=0) rfl
 ·unfold jbn;exact joI (k:=1) rfl
theorem jAA {σ:M}{n:Nat}{s:Sta}(h:At σ n s)(ref:Str)(day m:Int):jah .frz jbN.F [bkD (rkD ts) span grace,.cel n,jmP ref day m] σ=.ok (.int m) σ:=by
 refine jac (F:=jby) ?_ jas;have h1:ixD (jmP ref day m) (.str "purse") σ=.ok (.str "purse") σ:=nr rfl;have h2:ixD (jmP ref day m) (.str "lines") σ=.ok (jaZ m) σ:=nr rfl;unfold jby jbU;symm;rwa[h1];rwa[jeU];rwa[juZ (d:=.int s.day) h (nr rfl)];rwa[h2];rwa[jsP];rwa[jgE (d:=.non) (nr rfl)]
variable {μ:M} {s:Sta}
theorem jz7 (ref:Str)(day m:Int)(hm:0<=m)(hl:s.row.length<50)(he:s.ek.length<50)(hn:∀x∈s.ek,x.1≠ref)(hu:Up (s.row++[(s.day,ref,m)])):jah .raw jyc.F [bkD (rkD ts) span grace,.cel μ.length,jmP ref day m] (Mm μ s)=.ok .non (Mm μ {s with ek:=s.ek++[(ref,s.day,m)],row:=s.row++if 0<m then [(s.day,ref,m)]else []}):=by
 refine(jmx (F:=jwv)).trans ?_;have h1:∀σ:M,ixD (jmP ref day m) (.str "purse") σ=.ok (.str "purse") σ:=fun σ=>nr rfl;have h2:∀σ:M,ixD (jmP ref day m) (.str "ref") σ=.ok (.str ref) σ:=fun σ=>nr rfl;have t0:∀σ:M,ixD (.tup [.lst [],.lst [],.int m]) (.int 0) σ=.ok (.lst []) σ:=fun σ=>nr rfl;have t1:∀σ:M,ixD (.tup [.lst [],.lst [],.int m]) (.int 1) σ=.ok (.lst []) σ:=fun σ=>nr rfl;have t2:∀σ:M,ixD (.tup [.lst [],.lst [],.int m]) (.int 2) σ=.ok (.int m) σ:=fun σ=>nr rfl;have hse:=fun ρ=>jpz (μ:=μ) (s:=s) (ρ:=ρ) (ref,s.day,m) (by omega) hn;have hly:=jzN (μ:=μ) (s:={s with ek:=s.ek++[(ref,s.day,m)]}) (s.day,ref,m) hm hl hu;unfold jwv jzu;symm;rwa[h1];rwa[h2];rwa[jAA (jki μ s)];rwa[jb0 (d:=.int s.day) (nr rfl)];rwa[jb0 (d:=.cel (μ.length+3)) (nr rfl)];rwa[show D.tup [.str "buy",.str "purse",.int s.day,.int m]=erD (ref,s.day,m)from rfl,hse];rwa[jb0 (d:=.cel (μ.length+2)) (nr rfl)];rwa[jwH (jki μ _)];rwa[jxW];rwa[t1];rwa[jb0 (d:=.cel (μ.length+2)) (nr rfl)];rwa[jrf];rwa[t0];rw[jj5];simp only[forget,j02,j1p,j0U,j0V];symm;rwa[jb0 (d:=.int s.day) (nr rfl)];rwa[t2];rwa[show D.tup [.int s.day,.str ref,.str "",.int m]=plD (s.day,ref,m)from rfl,hly]
theorem jB1 (p:Pl)(σ:M):jah .frz jce.F [plD p,.bl false] σ=.ok (.bl true) σ:=by
 refine jac (F:=jb6) ?_ jhi;unfold jb6 jca;symm;rwa[if_neg (by decide)]
theorem jln (ns:List Int)(σ:M):biD .sum false [.lst (ns.map D.int)] σ=.ok (.int ns.sum) σ:=by
 simp only[biD,jC7,je9,jhR]
theorem jq8 (xs:List Pl)(hl:xs.length<=1000)(σ:M):jah .frz jlp.F [.lst (xs.map plD),.bl false] σ=.ok (.int (xs.map (·.2.2)).sum) σ:=by
 refine jac (F:=jla) ?_ jas;have i3:∀(p:Pl) (ν:M),ixD (plD p) (.int 3) ν=.ok (.int p.2.2) ν:=fun p ν=>nr rfl;have hq:(ev jkt jgS).v [some (.lst (xs.map plD)),some (.bl false)] σ=.ok (.lst ((xs.map (·.2.2)).map D.int)) σ:=by
  unfold jgS;rw[jat (ds:=[.lst (xs.map plD)]) (xs:=xs) (e:=plD) (fun _=>true) (fun p=>.int p.2.2) (by symm) rfl (jaa hl) fun p hp=>⟨_,rfl,by
   symm;rw[jB1];symm,fun _=>by
   symm;rw[i3]⟩]
  rw[j0L.mpr fun _ _=>rfl,j1m];rfl
 unfold jla jkj;symm;rwa[hq];rwa[jln]
theorem jml {ok:M->Bool}(hok:∀ν,ok ν=true)(a:D)(ref:Str)(μ:M):∀(xs:List Pl) (s:Sta),s.en.length+xs.length<=900->jf4 ok (.tp [5,6,7,8]) (runs jeH jb7) [5,6,7,8] (xs.map plD) [some (.cel μ.length),some a,some (.str "taken"),some (.str "purse"),some (.str ref),none,none,none,none] (Mm μ s)=.ok (.nx [some (.cel μ.length),some a,some (.str "taken"),some (.str "purse"),some (.str ref),none,none,none,none]) (Mm μ {s with en:=s.en++xs.map fun p=>(p.2.1,ref,s.day,p.2.2)})
 |[],s,_=>by
  rw[j0B,jaL (hok _),j0B,j0x];rfl
 |x::xs,s,hl=>by
  rw[j0j]at hl;rw[j0c,jaq (ρ1:=[some (.cel μ.length),some a,some (.str "taken"),some (.str "purse"),some (.str ref),some (.int x.1),some (.str x.2.1),some (.str ""),some (.int x.2.2)]) (ρ2:=[some (.cel μ.length),some a,some (.str "taken"),some (.str "purse"),some (.str ref),some (.int x.1),some (.str x.2.1),some (.str ""),some (.int x.2.2)]) (μ2:=Mm μ {s with en:=s.en++[(x.2.1,ref,s.day,x.2.2)]}) (hok _) rfl ?_]
  ·have:=jml hok a ref μ xs {s with en:=s.en++[(x.2.1,ref,s.day,x.2.2)]} (by simp;omega);simp only[j0n,List.singleton_append]at this;exact this
  ·unfold jb7;symm;rwa[jb0 (d:=.cel (μ.length+4)) (nr rfl)];rw[if_pos jsm];rwa[jb0 (d:=.int s.day) (nr rfl)];rwa[show D.tup [.str x.2.1,.str "taken",.str "purse",.str ref,.int s.day,.int x.2.2]=enD (x.2.1,ref,s.day,x.2.2)from rfl,juy _ (by omega)]
theorem jAc (xs:List Pl)(ref:Str)(hl:s.en.length+xs.length<=900):jah .raw jb2.F [.cel μ.length,.lst (xs.map plD),.str "taken",.str "purse",.str ref] (Mm μ s)=.ok .non (Mm μ {s with en:=s.en++xs.map fun p=>(p.2.1,ref,s.day,p.2.2)}):=by
 refine(jmx (F:=jdL)).trans ?_;have hi:∀ν:M,itD .seq [.lst (xs.map plD)] ν=some (xs.map plD):=fun ν=>rfl;unfold jdL jdR;symm;rwa[jaO (hi _),jml (fun ν=>jap (hi ν)) _ _ _ _ _ hl]
theorem jCr (ref:Str)(p:Int)(hp:p<=0)(σ:M)(d:D):jah .raw jx6.F [d,.str "purse",.str ref,.str "",.int p] σ=.ok .non σ:=by
 refine(jmx (F:=jzp)).trans ?_;unfold jzp jzf;symm;rwa[decide_eq_false (by omega)]
theorem jrb {c:Nat}{σ:M}{ks:List Key}{vs:List D}{z:Str}(h:σ[c]?=some (some (.dK ks vs))):inD σ (.str z) (.cel c)=some (jhn (.inr z) ks vs).isSome:=by
 unfold inD;simp only[jhc,je9,h,jpT,jgv]
theorem jxY (ref of:Str)(day:Int)(e:Er)(he:e∈s.ek)(ho:e.1=of)(nd:(s.ek.map (·.1)).Nodup)(hb:∀x∈s.bk,x.1≠of)(hs:((s.row.filter fun p=>decide (p.2.1=of)).map (·.2.2)).sum=e.2.2)(hl:s.row.length<=60)(hn:s.en.length<=800)(hk:s.bk.length<=60):∃en',en'.length<=s.en.length+s.row.length/\jah .raw jqD.F [.cel μ.length,jfl ref day of] (Mm μ s)=.ok .non (Mm μ {s with row:=s.row.filter fun p=>!decide (p.2.1=of),en:=en',bk:=s.bk++[(of,s.day)]}):=by
 have hfl:(s.row.filter fun p=>decide (p.2.1=of)).length<=s.row.length:=j0P _ _;refine⟨s.en++(s.row.filter fun p=>decide (p.2.1=of)).map fun p=>(p.2.1,ref,s.day,p.2.2),by simp only[j0o,j0d];omega,(jmx (F:=jql)).trans ?_⟩;have h1:∀σ:M,ixD (jfl ref day of) (.str "of") σ=.ok (.str of) σ:=fun σ=>nr rfl;have h2:∀σ:M,ixD (jfl ref day of) (.str "ref") σ=.ok (.str ref) σ:=fun σ=>nr rfl;have e0:∀σ:M,ixD (erD e) (.int 0) σ=.ok (.str "buy") σ:=fun σ=>nr rfl;have e1:∀σ:M,ixD (erD e) (.int 1) σ=.ok (.str "purse") σ:=fun σ=>nr rfl;have e3:∀σ:M,ixD (erD e) (.int 3) σ=.ok (.int e.2.2) σ:=fun σ=>nr rfl;have p1:∀(p:Pl) (ν:M),ixD (plD p) (.int 1) ν=.ok (.str p.2.1) ν:=fun p ν=>nr rfl;have p2:∀(p:Pl) (ν:M),ixD (plD p) (.int 2) ν=.ok (.str "") ν:=fun p ν=>nr rfl;have ge:jhn (.inr of) (ekK s) (s.ek.map erD)=some (erD e):=by
  subst ho;exact jkS (fun e:Er=>(.inr e.1:Key)) erD s.ek (j0D.mpr ((j0D.mp nd).imp fun h z=>h (Sum.inr.inj z))) e he
 have gb:jhn (.inr of) (bkK s) (s.bk.map fun e=>.int e.2)=none:=jhP (fun e:Str×Int=>(.inr e.1:Key)) _ _ _ fun x hx z=>hb x hx (Sum.inr.inj z);have c1:jeT .NotIn (.str of) (.cel (μ.length+3)) (Mm μ s)=.ok (.bl false) (Mm μ s):=by
  unfold jeT js5;simp only[jrb (jki μ s 3 (by decide)),ge];rfl
 have c2:jeT .In (.str of) (.cel (μ.length+7)) (Mm μ s)=.ok (.bl false) (Mm μ s):=by
  unfold jeT js5;simp only[jrb (jki μ s 7 (by decide)),gb];rfl
 have ix:∀t:Sta,t.ek=s.ek->ixD (.cel (μ.length+3)) (.str of) (Mm μ t)=.ok (erD e) (Mm μ t):=fun t ht=>by
  have h:(Mm μ t)[μ.length+3]?=some (some (.dK (ekK t) (t.ek.map erD))):=jki μ t 3 (by decide);unfold ixD jwo jgv;simp only[h];rw[show jhn (.inr of) (ekK t) (t.ek.map erD)=some (erD e)from by unfold ekK;rw[ht];exact ge]
 have q0:(ev jlX jlz).v [some (.cel μ.length),some (jfl ref day of),some (.str of),some (.str "purse"),none,none] (Mm μ s)=.ok (.lst ((s.row.filter fun p=>decide (p.2.1=of)).map plD)) (Mm μ s):=by
  unfold jlz;rw[jat (ds:=[.lst (s.row.map plD)]) (xs:=s.row) (e:=plD) (fun p=>decide (p.2.1=of)) plD (by
   symm;rwa[jb0 (d:=.cel (μ.length+1)) (nr rfl)];rw[jor (jki μ s)];symm) rfl (jaa (by omega)) fun p hp=>⟨_,rfl,by
   symm;rwa[p1];by_cases h:p.2.1=of
   ·rwa[decide_eq_true h];rwa[p2]
   ·rw[decide_eq_false h];symm,fun _=>by symm⟩]
  rfl
 have q1:∀o:D,(ev jlX jlr).v [some (.cel μ.length),some (jfl ref day of),some (.str of),some (.str "purse"),some o,none] (Mm μ s)=.ok (.lst ((s.row.filter fun p=>!decide (p.2.1=of)).map plD)) (Mm μ s):=fun o=>by
  unfold jlr;rw[jat (ds:=[.lst (s.row.map plD)]) (xs:=s.row) (e:=plD) (fun p=>!decide (p.2.1=of)) plD (by
   symm;rwa[jb0 (d:=.cel (μ.length+1)) (nr rfl)];rw[jor (jki μ s)];symm) rfl (jaa (by omega)) fun p hp=>⟨_,rfl,by
   symm;rwa[p1];by_cases h:p.2.1=of
   ·rwa[decide_eq_true h];rwa[p2]
   ·rw[decide_eq_false h];symm,fun _=>by symm⟩]
  rfl
 have q2:∀(t:Sta) (o:D),t.en.length<=1000->(ev jlX jkw).v [some (.cel μ.length),some (jfl ref day of),some (.str of),some (.str "purse"),some o,none] (Mm μ t)=.ok (.lst (([]:List Int).map D.int)) (Mm μ t):=fun t o ht=>by
  have n0:∀(x:Str×Str×Int×Int) (ν:M),ixD (enD x) (.int 0) ν=.ok (.str x.1) ν:=fun p ν=>nr rfl;have n1:∀(x:Str×Str×Int×Int) (ν:M),ixD (enD x) (.int 1) ν=.ok (.str "taken") ν:=fun p ν=>nr rfl;unfold jkw;rw[jat (ds:=[.cel (μ.length+4)]) (xs:=t.en) (e:=enD) (fun _=>false) enD (by
   symm;rw[jb0 (d:=.cel (μ.length+4)) (nr rfl)];symm) (by
   have h:(Mm μ t)[μ.length+4]?=some (some (.lst (t.en.map enD))):=jki μ t 4 (by decide);simp only[itD,jAH,jhc,je9,h]) (jaa ht) fun p hp=>⟨_,rfl,by
   symm;rwa[n0];by_cases h:p.1=of
   ·rwa[decide_eq_true h];rwa[n1];rfl
   ·rw[decide_eq_false h];symm,fun z=>nomatch z⟩]
  rw[List.filter_eq_nil_iff.mpr fun _ _=>j0e];rfl
 have hsb:∀row en ρ,ji2 (.cel (μ.length+7)) (.str of) (.int s.day) ρ (Mm μ {s with row:=row,en:=en})=.ok (.nx ρ) (Mm μ {s with row:=row,en:=en,bk:=s.bk++[(of,s.day)]}):=fun row en ρ=>jsZ (s:={s with row:=row,en:=en}) (of,s.day) (by show s.bk.length<1000;omega) hb;unfold jql jsA;symm;rwa[h1];rwa[jb0 (d:=.cel (μ.length+3)) (nr rfl)];rwa[c1];rwa[jb0 (d:=.cel (μ.length+3)) (nr rfl)];rwa[ix s rfl];rwa[e0];rwa[jb0 (d:=.cel (μ.length+7)) (nr rfl)];rwa[c2];rwa[jb0 (d:=.cel (μ.length+3)) (nr rfl)];rwa[ix s rfl];rwa[e1];rwa[q0];rwa[q1];rwa[jb0 (d:=.cel (μ.length+1)) (nr rfl)];rwa[joN];rwa[h2];rwa[jAc _ _ (by show s.en.length+_<=900;omega)];rwa[q2 _ _ (by simp only[j0o,j0d];omega)];rwa[show ∀σ,biD .sum false [.lst []] σ=.ok (.int 0) σ from fun σ=>jln [] σ];rwa[h2];rwa[jb0 (d:=.cel (μ.length+3)) (nr rfl)];rwa[show ∀row en,ixD (.cel (μ.length+3)) (.str of) (Mm μ {s with row:=row,en:=en})=.ok (erD e) (Mm μ {s with row:=row,en:=en})from fun row en=>ix _ rfl];rwa[e3];rwa[jq8 _ (by omega)];rwa[jCr _ _ (by rw[hs];simp)];rwa[jb0 (d:=.int s.day) (nr rfl)];rwa[jb0 (d:=.cel (μ.length+7)) (nr rfl)];rwa[hsb]
end
section
variable {ts:List Int} {span grace:Int} {μ:M} {s:Sta}
theorem jlI {a b:String}(h:(Str.ofString a==Str.ofString b)=false):Str.ofString a≠Str.ofString b:=fun e=>by
 rw[e]at h;simp at h
theorem jzM (ref:Str)(day m:Int)(hm:0<=m)(hl:s.row.length<50)(he:s.ek.length<50)(hk:s.sk.length<=1)(hn:∀x∈s.ek,x.1≠ref)(hu:Up (s.row++[(s.day,ref,m)])):jah .raw jdV.F [bkD (rkD ts) span grace,.cel μ.length,jqb ref day (jaZ m)] (Mm μ s)=.ok .non (Mm μ {s with sk:=[s.day],ek:=s.ek++[(ref,s.day,m)],row:=s.row++if 0<m then [(s.day,ref,m)]else []}):=by
 refine(jmx (F:=jew)).trans ?_;have h1:∀σ:M,ixD (jmP ref day m) (.str "purse") σ=.ok (.str "purse") σ:=fun σ=>nr rfl;have c1:∀σ:M,jeT .In (.str "purse") (jmP ref day m) σ=.ok (.bl true) σ:=fun σ=>nr rfl;have c2:∀σ:M,jeT .In (.str "other") (jmP ref day m) σ=.ok (.bl false) σ:=fun σ=>nr rfl;have d0:∀σ:M,ixD (jqb ref day (jaZ m)) (.int 0) σ=.ok (.str "buy") σ:=fun σ=>nr rfl;have hi:∀ν:M,itD .seq [.tup [.str "purse",.str "other"]] ν=some [.str "purse",.str "other"]:=fun ν=>rfl;unfold jew jf7;symm;rwa[jlM];rw[jaO (hi _),jaq (ρ1:=[some (bkD (rkD ts) span grace),some (.cel μ.length),some (jqb ref day (jaZ m)),some (jmP ref day m),some (.str "purse")]) (ρ2:=[some (bkD (rkD ts) span grace),some (.cel μ.length),some (jqb ref day (jaZ m)),some (jmP ref day m),some (.str "purse")]) (μ2:=Mm μ {s with sk:=[s.day]}) (jap (hi _)) rfl ?_,jaq (ρ1:=[some (bkD (rkD ts) span grace),some (.cel μ.length),some (jqb ref day (jaZ m)),some (jmP ref day m),some (.str "other")]) (ρ2:=[some (bkD (rkD ts) span grace),some (.cel μ.length),some (jqb ref day (jaZ m)),some (jmP ref day m),some (.str "other")]) (μ2:=Mm μ {s with sk:=[s.day]}) (jap (hi _)) rfl ?_,jaL (jap (hi _))]
 ·simp only[forget,j02,j1p,j0U,j0V];symm;rwa[d0];rwa[jz7 (s:={s with sk:=[s.day]}) ref day m hm hl he hn hu]
 ·unfold jbK;symm;rwa[c2]
 ·unfold jbK;symm;rwa[c1];rwa[jb0 (d:=.int s.day) (nr rfl)];rwa[jb0 (d:=.cel (μ.length+8)) (nr rfl)];rwa[h1];rwa[jr4 _ hk]
theorem jxv (ref of:Str)(day:Int)(e:Er)(he:e∈s.ek)(ho:e.1=of)(nd:(s.ek.map (·.1)).Nodup)(hb:∀x∈s.bk,x.1≠of)(hs:((s.row.filter fun p=>decide (p.2.1=of)).map (·.2.2)).sum=e.2.2)(hl:s.row.length<=60)(hn:s.en.length<=800)(hk:s.bk.length<=60):∃en',en'.length<=s.en.length+s.row.length/\jah .raw jdV.F [bkD (rkD ts) span grace,.cel μ.length,jhr ref day of] (Mm μ s)=.ok .non (Mm μ {s with row:=s.row.filter fun p=>!decide (p.2.1=of),en:=en',bk:=s.bk++[(of,s.day)]}):=by
 obtain⟨en',h1,h2⟩:=jxY (μ:=μ) ref of day e he ho nd hb hs hl hn hk;refine⟨en',h1,(jmx (F:=jew)).trans ?_⟩;have c1:∀σ:M,jeT .In (.str "purse") (jfl ref day of) σ=.ok (.bl false) σ:=fun σ=>nr rfl;have c2:∀σ:M,jeT .In (.str "other") (jfl ref day of) σ=.ok (.bl false) σ:=fun σ=>nr rfl;have d0:∀σ:M,ixD (jhr ref day of) (.int 0) σ=.ok (.str "back") σ:=fun σ=>nr rfl;have hi:∀ν:M,itD .seq [.tup [.str "purse",.str "other"]] ν=some [.str "purse",.str "other"]:=fun ν=>rfl;have n1:((Str.ofString "back")=(Str.ofString "buy"))=False:=eq_false (jlI (by ac_rfl));have n2:((Str.ofString "back")=(Str.ofString "spend"))=False:=eq_false (jlI (by ac_rfl));have n3:((Str.ofString "back")=(Str.ofString "give"))=False:=eq_false (jlI (by ac_rfl));have n4:((Str.ofString "back")=(Str.ofString "lend"))=False:=eq_false (jlI (by ac_rfl));have n5:((Str.ofString "back")=(Str.ofString "change"))=False:=eq_false (jlI (by ac_rfl));unfold jew jf7;symm;rwa[jjL];rw[jaO (hi _),jaq (ρ1:=[some (bkD (rkD ts) span grace),some (.cel μ.length),some (jhr ref day of),some (jfl ref day of),some (.str "purse")]) (ρ2:=[some (bkD (rkD ts) span grace),some (.cel μ.length),some (jhr ref day of),some (jfl ref day of),some (.str "purse")]) (μ2:=Mm μ s) (jap (hi _)) rfl ?_,jaq (ρ1:=[some (bkD (rkD ts) span grace),some (.cel μ.length),some (jhr ref day of),some (jfl ref day of),some (.str "other")]) (ρ2:=[some (bkD (rkD ts) span grace),some (.cel μ.length),some (jhr ref day of),some (jfl ref day of),some (.str "other")]) (μ2:=Mm μ s) (jap (hi _)) rfl ?_,jaL (jap (hi _))]
 ·simp only[forget,j02,j1p,j0U,j0V];symm
  repeat(rw[d0];symm;simp only[n1,n2,n3,n4,n5];symm)
  rwa[h2]
 ·unfold jbK;symm;rwa[c2]
 ·unfold jbK;symm;rwa[c1]
end
structure Dd where
 ref:Str
 day:Int
 k:Int ⊕ Str
noncomputable def Dd.dat (d:Dd):D:=match d.k with
 |.inl m=>jqb d.ref d.day (jaZ m)
 |.inr of=>jhr d.ref d.day of
noncomputable def bOf (xs:List Dd):List Er:=xs.filterMap fun d=>match d.k with
 |.inl m=>some (d.ref,d.day,m)
 |.inr _=>none
noncomputable def kOf (xs:List Dd):List (Str×Int):=xs.filterMap fun d=>match d.k with
 |.inl _=>none
 |.inr of=>some (of,d.day)
theorem jl3 (d:Dd)(μ:M):jaV [d.dat] μ=.ok (.tup [.int d.day,.str d.ref]) μ:=by
 unfold Dd.dat;split
 ·exact jqT _ _ _ μ
 ·exact jpu _ _ _ μ
theorem jim (d:Dd)(μ:M):jah .frz jcC.F [d.dat] μ=.ok (.tup [.int d.day,.str d.ref]) μ:=jac (F:=jaV) (jl3 d μ) (nr rfl)
noncomputable abbrev tE (e:Er):T3:=(e.2.1,e.1,"")
noncomputable def inB (bk:List (Str×Int))(z:Str):Bool:=bk.any fun b=>decide (b.1=z)
noncomputable def jdH (ek:List Er)(bk:List (Str×Int)):List Pl:=(ek.filter fun e=>decide (0<e.2.2)&&!inB bk e.1).map fun e=>(e.2.1,e.1,e.2.2)
theorem jxf (ek:List Er)(bk:List (Str×Int))(e:Er)(h:∀b∈bk,b.1≠e.1):jdH (ek++[e]) bk=jdH ek bk++if 0<e.2.2 then [(e.2.1,e.1,e.2.2)]else []:=by
 have hb:inB bk e.1=false:=by
  unfold inB;rw[List.any_eq_false];intro b hb;simpa using h b hb
 unfold jdH;rw[List.filter_append,j0y];by_cases hp:0<e.2.2
 ·rw[if_pos hp,j0t (by simp[hp,hb])];rfl
 ·rw[if_neg hp,j0z (by simp[hp])];rfl
theorem jvc (ek:List Er)(bk:List (Str×Int))(of:Str)(d:Int):jdH ek (bk++[(of,d)])=(jdH ek bk).filter fun p=>!decide (p.2.1=of):=by
 unfold jdH;rw[List.filter_map,List.filter_filter];congr 1;refine List.filter_congr fun e _=>?_;unfold inB;rw[List.any_append];simp only[j1y,List.any_nil,Bool.or_false,Function.comp];rw[j1a];simp only[j0a,j00,Bool.or_eq_false_iff,decide_eq_true_eq,decide_eq_false_iff_not];constructor
 ·rintro⟨a,b,c⟩;exact⟨fun z=>c z.symm,a,b⟩
 ·rintro⟨c,a,b⟩;exact⟨a,b,fun z=>c z.symm⟩
theorem jqC (bk:List (Str×Int)):∀(ek:List Er),(ek.map (·.1)).Nodup->(∀e∈ek,0<=e.2.2)->∀e∈ek,inB bk e.1=false->(((jdH ek bk).filter fun p=>decide (p.2.1=e.1)).map (·.2.2)).sum=e.2.2
 |[],_,_,e,h,_=>nomatch h
 |x::ek,nd,po,e,h,hb=>by
  rw[j0c]at nd;have nd':=j01.mp nd;have sp:jdH (x::ek) bk=(if 0<x.2.2/\inB bk x.1=false then [(x.2.1,x.1,x.2.2)]else [])++jdH ek bk:=by
   unfold jdH;by_cases c:0<x.2.2/\inB bk x.1=false
   ·rw[if_pos c,j0t (by simp[c.1,c.2])];rfl
   ·rw[if_neg c,j0z (by simpa using c)];rfl
  rw[sp,List.filter_append,j0y,List.sum_append];rcases j0q.mp h with rfl|h
  ·have z:(jdH ek bk).filter (fun p=>decide (p.2.1=e.1))=[]:=by
    rw[List.filter_eq_nil_iff];intro p hp;obtain⟨y,hy,rfl⟩:=j0s.mp hp;intro z;have z:y.1=e.1:=by simpa using z
    exact nd'.1 (j0s.mpr ⟨y,(j0u.mp hy).1,z⟩)
   rw[z];by_cases c:0<e.2.2
   ·rw[if_pos ⟨c,hb⟩,j0t (by simp)];simp
   ·have:=po e j0v;rw[if_neg fun w=>c w.1];simp;omega
  ·have ne:x.1≠e.1:=fun z=>nd'.1 (j0s.mpr ⟨e,h,z.symm⟩);have z:(if 0<x.2.2/\inB bk x.1=false then [((x.2.1,x.1,x.2.2):Pl)]else []).filter (fun p=>decide (p.2.1=e.1))=[]:=by
    split
    ·rw[j0z (by simpa using ne)];rfl
    ·rfl
   rw[z,jqC bk ek nd'.2 (fun y hy=>po y (j0p _ hy)) e h hb];simp
theorem jBv {ek:List Er}{bk:List (Str×Int)}{e:Er}(h:(ek++[e]).Pairwise fun x y=>jbB (tE x) (tE y)=true):Up (jdH ek bk++[(e.2.1,e.1,e.2.2)]):=by
 have h':=j0T.mp h;refine j0T.mpr ⟨j0D.mpr (h'.1.sublist List.filter_sublist),by simp,fun p hp q hq=>?_⟩;obtain⟨x,hx,rfl⟩:=j0s.mp hp;have:q=(e.2.1,e.1,e.2.2):=by simpa using hq
 subst this;exact h'.2.2 x (j0u.mp hx).1 e (by simp)
theorem jv4 (ek:List Er)(bk:List (Str×Int)):(jdH ek bk).length<=ek.length:=by
 unfold jdH;rw[j0d];exact j0P _ _
structure Wk (ek:List Er) (bk:List (Str×Int)) (xs:List Dd):Prop where
 up:(ek++bOf xs).Pairwise fun x y=>jbB (tE x) (tE y)=true
 nd:((ek++bOf xs).map (·.1)).Nodup
 nb:((bk++kOf xs).map (·.1)).Nodup
 po:∀e∈ek++bOf xs,0<=e.2.2
 sb:∀b∈bk,∃e∈ek,e.1=b.1
 ba:∀p d q of,xs=p++d::q->d.k=.inr of->∃e∈ek++bOf p,e.1=of
theorem jkG (d:Dd)(xs:List Dd):bOf (d::xs)=bOf [d]++bOf xs:=by
 unfold bOf;rw[<- List.filterMap_append];rfl
theorem joR (d:Dd)(xs:List Dd):kOf (d::xs)=kOf [d]++kOf xs:=by
 unfold kOf;rw[<- List.filterMap_append];rfl
theorem Wk.step {ek:List Er}{bk:List (Str×Int)}{d:Dd}{xs:List Dd}(h:Wk ek bk (d::xs)):Wk (ek++bOf [d]) (bk++kOf [d]) xs:=by
 obtain⟨a,b,c,e,f,g⟩:=h;rw[jkG,<- j0n]at a b e;rw[joR,<- j0n]at c;refine⟨a,b,c,e,fun x hx=>?_,fun p d' q of hp hk=>?_⟩
 ·rcases j0I.mp hx with hx|hx
  ·obtain⟨y,hy,z⟩:=f x hx;exact⟨y,j1q _ hy,z⟩
  ·obtain⟨y,hy,z⟩:=j1c.mp hx;have hy:y=d:=by simpa using hy
   subst hy
   cases hk:y.k with
   |inl m=>rw[hk]at z;cases z
   |inr of=>
    rw[hk]at z;cases z;obtain⟨w,hw,hz⟩:=g [] y xs of rfl hk;exact⟨w,j1q _ (by simpa[bOf]using hw),hz⟩
 ·obtain⟨w,hw,hz⟩:=g (d::p) d' q of (by rw[hp];rfl) hk;rw[jkG,<- j0n]at hw;exact⟨w,hw,hz⟩
section
variable {ts:List Int} {span grace:Int} {μ:M}
theorem jiI {ok:M->Bool}(hok:∀ν,ok ν=true)(ds:D)(day:Int):∀(xs:List Dd) (s:Sta),s.row=jdH s.ek s.bk->s.sk.length<=1->s.ek.length+xs.length<=40->s.bk.length+xs.length<=40->s.en.length+40*xs.length<=800->Wk s.ek s.bk (xs.filter fun d=>decide (d.day<=day))->∃s':Sta,s'.ek=s.ek++bOf (xs.filter fun d=>decide (d.day<=day))/\s'.bk=s.bk++kOf (xs.filter fun d=>decide (d.day<=day))/\jf4 ok (.nm 4) (runs jhE jeS) [4] (xs.map Dd.dat) [some (bkD (rkD ts) span grace),some ds,some (.int day),some (.cel μ.length),none] (Mm μ s)=.ok (.nx [some (bkD (rkD ts) span grace),some ds,some (.int day),some (.cel μ.length),none]) (Mm μ s')
 |[],s,_,_,_,_,_,_=>⟨s,by simp[bOf],by simp[kOf],by rw[j0B,jaL (hok _)];rfl⟩
 |d::xs,s,hr,hk,h1,h2,h3,hw=>by
  rw[j0j]at h1 h2 h3;have t0:∀σ:M,ixD (.tup [.int d.day,.str d.ref]) (.int 0) σ=.ok (.int d.day) σ:=fun σ=>nr rfl;by_cases hd:d.day<=day
  ·rw[j0t (by simpa using hd)]at hw ⊢;have hw':=hw.step;have hrl:=jv4 s.ek s.bk;obtain⟨s1,e1,e2,e3,e4,e5,hs1⟩:∃s1:Sta,s1.ek=s.ek++bOf [d]/\s1.bk=s.bk++kOf [d]/\s1.row=jdH s1.ek s1.bk/\s1.sk.length<=1/\s1.en.length<=s.en.length+40/\jah .raw jdV.F [bkD (rkD ts) span grace,.cel μ.length,d.dat] (Mm μ {s with day:=d.day})=.ok .non (Mm μ s1):=by
    cases hkd:d.k with
    |inl m=>
     have eb:bOf [d]=[(d.ref,d.day,m)]:=by simp[bOf,hkd]
     have ek:kOf [d]=[]:=by simp[kOf,hkd]
     rw[eb]at hw' ⊢;rw[ek]at hw' ⊢;rw[j0x]at hw' ⊢;have hn:∀x∈s.ek,x.1≠d.ref:=fun x hx z=>by
      have:=hw'.nd;rw[j0n,j0y]at this;exact(j1s.mp this).2.2 x.1 (j0s.mpr ⟨x,hx,rfl⟩) d.ref (by simp) z
     have hnb:∀b∈s.bk,b.1≠d.ref:=fun b hb z=>by
      obtain⟨e,he,q⟩:=hw.sb b hb;exact hn e he (q.trans z)
     have hm:0<=m:=hw'.po (d.ref,d.day,m) (by simp);have hup:(s.ek++[(d.ref,d.day,m)]).Pairwise fun x y=>jbB (tE x) (tE y)=true:=(j0T.mp hw'.up).1;refine⟨{s with day:=d.day,sk:=[d.day],ek:=s.ek++[(d.ref,d.day,m)],row:=s.row++if 0<m then [(d.day,d.ref,m)]else []},rfl,rfl,?_,?_,?_,?_⟩
     rotate_left 3
     ·rw[show d.dat=jqb d.ref d.day (jaZ m)from by unfold Dd.dat;rw[hkd]];exact jzM (s:={s with day:=d.day}) d.ref d.day m hm (by show s.row.length<50;rw[hr];omega) (by show s.ek.length<50;omega) hk hn (by show Up (s.row++_);rw[hr];exact jBv (e:=(d.ref,d.day,m)) hup)
     ·show s.row++_=jdH (s.ek++[(d.ref,d.day,m)]) s.bk;rw[jxf _ _ _ hnb,hr]
     ·exact j0l 1
     ·show s.en.length<=_;omega
    |inr of=>
     have eb:bOf [d]=[]:=by simp[bOf,hkd]
     have ek:kOf [d]=[(of,d.day)]:=by simp[kOf,hkd]
     rw[eb]at hw' ⊢;rw[ek]at hw' ⊢;rw[j0x]at hw' ⊢;obtain⟨e,he,ho⟩:=hw.ba [] d _ of rfl hkd;have he:e∈s.ek:=by simpa[bOf]using he
     have nd:(s.ek.map (·.1)).Nodup:=by
      have:=hw'.nd;rw[j0y]at this;exact(j1s.mp this).1
     have hb:∀x∈s.bk,x.1≠of:=fun x hx z=>by
      have:=hw'.nb;rw[j0n,j0y]at this;exact(j1s.mp this).2.2 x.1 (j0s.mpr ⟨x,hx,rfl⟩) of (by simp) z
     have hbf:inB s.bk e.1=false:=by
      unfold inB;rw[List.any_eq_false];intro b hb';rw[ho];simpa using hb b hb'
     obtain⟨en',hen,hb'⟩:=jxv (ts:=ts) (span:=span) (grace:=grace) (μ:=μ) (s:={s with day:=d.day}) d.ref of d.day e he ho nd hb (by
      show((s.row.filter _).map _).sum=_;rw[hr,<- ho];exact jqC s.bk s.ek nd (fun e he=>hw'.po e (by simp[he])) e he hbf) (by show s.row.length<=60;rw[hr];omega) (by show s.en.length<=800;omega) (by show s.bk.length<=60;omega)
     refine⟨{s with day:=d.day,row:=s.row.filter fun p=>!decide (p.2.1=of),en:=en',bk:=s.bk++[(of,d.day)]},rfl,rfl,?_,?_,?_,by rw[show d.dat=jhr d.ref d.day of from by unfold Dd.dat;rw[hkd]];exact hb'⟩
     ·show s.row.filter _=jdH s.ek (s.bk++[(of,d.day)]);rw[jvc,hr]
     ·exact hk
     ·have:en'.length<=s.en.length+s.row.length:=hen;rw[hr]at this;show en'.length<=_;omega
   obtain⟨s',i1,i2,i3⟩:=jiI hok ds day xs s1 e3 e4 (by rw[e1];have:(bOf [d]).length<=1:=List.length_filterMap_le _ _;rw[j0o];omega) (by rw[e2];have:(kOf [d]).length<=1:=List.length_filterMap_le _ _;rw[j0o];omega) (by omega) (by rw[e1,e2];exact hw');refine⟨s',by rw[i1,e1,j0n,<- jkG],by rw[i2,e2,j0n,<- joR],?_⟩;rw[j0c,jaq (ρ1:=[some (bkD (rkD ts) span grace),some ds,some (.int day),some (.cel μ.length),some d.dat]) (ρ2:=[some (bkD (rkD ts) span grace),some ds,some (.int day),some (.cel μ.length),some d.dat]) (μ2:=Mm μ s1) (hok _) rfl ?_]
   ·exact i3
   ·unfold jeS;symm;rwa[jim];rwa[t0];rwa[decide_eq_true hd];rwa[jim];rwa[t0];rwa[jqJ];rwa[hs1]
  ·rw[j0z (by simpa using hd)]at hw ⊢;obtain⟨s',i1,i2,i3⟩:=jiI hok ds day xs s hr hk (by omega) (by omega) (by omega) hw;refine⟨s',i1,i2,?_⟩;rw[j0c,jaq (ρ1:=[some (bkD (rkD ts) span grace),some ds,some (.int day),some (.cel μ.length),some d.dat]) (ρ2:=[some (bkD (rkD ts) span grace),some ds,some (.int day),some (.cel μ.length),some d.dat]) (μ2:=Mm μ s) (hok _) rfl ?_]
   ·exact i3
   ·unfold jeS;symm;rwa[jim];rwa[t0];rwa[decide_eq_false hd]
end
theorem jDC {ρ:S3}{μ cs:M}{C:Addr}{fs0 fs:List Str}{ds:List D}{f:Str}{d:D}(hl:fs.length<1000)(h1:jiO f fs=fs++[f])(h2:jeX f d fs ds=ds++[d]):jBR (some (.cls C 1000000 fs0)) f ρ d (.cel μ.length) (μ++some (.obj C fs ds)::cs)=.ok (.nx ρ) (μ++some (.obj C (fs++[f]) (ds++[d]))::cs):=by
 rw[jkX (kc:=μ.length) (jvq (k:=0)) hl h1 h2];exact congrArg _ (jBg (k:=0))
theorem jrq:jhG.dat=some (.cls 343 1000000 sF):=nr rfl
noncomputable def jC9:Sta:=⟨0,[],[],[],[],[]⟩
theorem jtI (rk:List D)(span grace:Int)(μ:M):jbi [.cel μ.length,bkD rk span grace] (μ++[some (.obj 343 [] [])])=.ok .non (Mm μ jC9):=by
 have hd:∀σ:M,biD .dict true [.lst [.tup [.str "purse",.lst []]]] σ=.ok (.cel σ.length) (σ++[some (.dK [.inr "purse"] [.lst []])]):=fun σ=>by
  show jnC true [.lst [.tup [.str "purse",.lst []]]] σ=_;unfold jnC;simp only[jDl,jzD,j1w,ksD,jpT];rw[if_pos ⟨by decide,by ac_rfl⟩];rfl
 unfold jbi jcx jdE jdA;symm;rw[jrq,jDC (fs:=[]) (ds:=[]) (by decide) rfl rfl]
 iterate 2
  symm;rwa[jtk (d:=.tup [.tup [.str "purse",.str "house"]]) (nr rfl)];rwa[jhv (y:=.tup [.str "purse",.lst []]) (ρ1:=[some (.str "purse"),some (.str "house"),some (.cel μ.length),some (bkD rk span grace)]) rfl (by symm) (by symm)];rwa[hd];simp only[j0n,List.cons_append,j1v,j0o,j0j,j1b,Nat.reduceAdd,Nat.zero_add];rw[jrq,jDC (by decide) (by ac_rfl) rfl]
 iterate 7
  symm;simp only[j0n,List.cons_append,j1v,j0o,j0j,j1b,Nat.reduceAdd,Nat.zero_add];rw[jrq,jDC (by decide) (by ac_rfl) rfl]
 symm;rfl
theorem jwK (rk:List D)(span grace:Int)(μ:M):jah .raw jaH.F [bkD rk span grace] μ=.ok (.cel μ.length) (Mm μ jC9):=jw6 (F:=jbi) (jtI rk span grace μ)
noncomputable def stD (s:Sta):D:=.obj 343 sF [.int s.day,.dF [.inr "purse"] [.lst (s.row.map plD)],.dF [.inr "purse"] [.lst []],.dF (ekK s) (s.ek.map erD),.lst (s.en.map enD),.lst [],.dF [] [],.dF (bkK s) (s.bk.map fun e=>.int e.2),.dF (skK s) (s.sk.map D.int),.dF [] []]
theorem jiK {μ ν:M}{k:Nat}{ks:List Key}{vs:List D}(h:ν[k]?=some (some (.dK ks vs)))(hv:∀h,frzGs h vs=some vs):jbn (jht (μ++ν) μ.length [] 3) (.cel (μ.length+k))=some (.dF ks vs):=by
 unfold jbn;unfold jht;rw[if_neg (by omega),if_neg (by simp)];dsimp only;rw[jvq,h];dsimp only;rw[hv];rfl
theorem jvu {μ ν:M}{k:Nat}{vs:List D}(h:ν[k]?=some (some (.lst vs)))(hv:∀h,frzGs h vs=some vs):jbn (jht (μ++ν) μ.length [] 3) (.cel (μ.length+k))=some (.lst vs):=by
 unfold jbn;unfold jht;rw[if_neg (by omega),if_neg (by simp)];dsimp only;rw[jvq,h];dsimp only;rw[hv];rfl
theorem jCF (μ:M)(s:Sta):jqc (Mm μ s) μ.length (.cel μ.length)=some (stD s):=by
 have h0:(Mm μ s)[μ.length]?=some (some (.obj 343 sF _)):=jki μ s 0 (by decide);unfold jqc;unfold jbn;unfold jht;rw[if_neg (by omega),if_neg (by simp)];dsimp only;rw[h0];dsimp only;have nl:∀h:Nat->Option D,frzGs h [.lst []]=some [.lst []]:=fun h=>nr rfl;have key:frzGs (jht (Mm μ s) μ.length [] 3) [.int s.day,.cel (μ.length+1),.cel (μ.length+2),.cel (μ.length+3),.cel (μ.length+4),.cel (μ.length+5),.cel (μ.length+6),.cel (μ.length+7),.cel (μ.length+8),.cel (μ.length+9)]=some [.int s.day,.dF [.inr "purse"] [.lst (s.row.map plD)],.dF [.inr "purse"] [.lst []],.dF (ekK s) (s.ek.map erD),.lst (s.en.map enD),.lst [],.dF [] [],.dF (bkK s) (s.bk.map fun e=>.int e.2),.dF (skK s) (s.sk.map D.int),.dF [] []]:=by
  unfold Mm;exact jak jas (jak (jiK rfl fun h=>jak (jsj (jaC (fun _=>nr rfl) _)) jbV) (jak (jiK rfl nl) (jak (jiK rfl fun h=>jaC (fun _=>nr rfl) _) (jak (jvu rfl fun h=>jaC (fun _=>nr rfl) _) (jak (jvu rfl fun h=>jbV) (jak (jiK rfl fun h=>jbV) (jak (jiK rfl fun h=>jaC (fun _=>jas) _) (jak (jiK rfl fun h=>jaC (fun _=>jas) _) (jak (jiK rfl fun h=>jbV) jbV)))))))))
 rw[key];rfl
theorem jAe (ts:List T2)(nd:ts.Nodup):∃q,jmQ ts q:=by
 let g:Nat->T3:=fun i=>t3 (ts.getD i (0,⟨#[]⟩))
 have tr:∀a b c:Nat,(!jbB (g b) (g a))=true->(!jbB (g c) (g b))=true->(!jbB (g c) (g a))=true:=fun a b c h1 h2=>by
  simp only[j00]at h1 h2 ⊢
  cases h:jbB (g c) (g a)with
  |false=>rfl
  |true=>
   by_cases e:g c=g b
   ·rw[<- e,h]at h1;cases h1
   ·have:=jkA (jly e h2) h;rw[h1]at this;cases this
 have to:∀a b:Nat,((!jbB (g b) (g a))||(!jbB (g a) (g b)))=true:=fun a b=>by
  cases h:jbB (g b) (g a)with
  |false=>rfl
  |true=>rw[jeQ h];rfl
 refine⟨(List.range ts.length).mergeSort fun i j=>!jbB (g j) (g i),List.mergeSort_perm _ _,?_⟩;have hp:=List.mergeSort_perm (List.range ts.length) fun i j=>!jbB (g j) (g i);have hn:((List.range ts.length).mergeSort fun i j=>!jbB (g j) (g i)).Nodup:=hp.nodup_iff.mpr List.nodup_range;refine j0D.mpr (((List.pairwise_mergeSort tr to (List.range ts.length)).and hn).imp_of_mem fun {a b} ha hb h=>?_);have ha:=j1o.mp (hp.mem_iff.mp ha);have hb:=j1o.mp (hp.mem_iff.mp hb);refine jly (fun e=>h.2 ?_) (by have w:=h.1;simp only[j00]at w;exact w);have ea:ts[a]?=some (ts.getD a (0,⟨#[]⟩)):=by simp[List.getD,ha]
 have eb:ts[b]?=some (ts.getD b (0,⟨#[]⟩)):=by simp[List.getD,hb]
 have e':ts.getD b (0,⟨#[]⟩)=ts.getD a (0,⟨#[]⟩):=by
  have:=congrArg (fun t:T3=>(t.1,t.2.1)) e;exact this
 exact(List.getElem?_inj ha nd).mp (by rw[ea,eb,e'])
noncomputable abbrev key (d:Dd):T3:=t3 (d.day,d.ref)
theorem jqF (ds:List Dd)(nr':(ds.map (·.ref)).Nodup)(hl:ds.length<=20)(μ:M):∃xs:List Dd,xs.Perm ds/\(xs.Pairwise fun x y=>jbB (key x) (key y)=true)/\jlV jhE 1 false (.lst (ds.map Dd.dat)) μ=.ok (.lst (xs.map Dd.dat)) μ:=by
 have kf:∀zs:List Dd,jld jaV μ (zs.map Dd.dat)=some (zs.map fun d=>(d.day,d.ref)):=fun zs=>by
  induction zs with
  |nil=>rfl
  |cons z zs ih=>
   rw[j0c];unfold jld;rw[jl3];dsimp only;rw[if_pos rfl,ih];rfl
 have nd:(ds.map fun d=>(d.day,d.ref)).Nodup:=j0D.mpr ((j0D.mp nr').imp fun h e=>h (Prod.mk.inj e).2);obtain⟨q,hq⟩:=jAe _ nd;have hm:∀i∈q,i<ds.length:=fun i hi=>by
  have:=j1o.mp (hq.1.mem_iff.mp hi);rw[j0d]at this;exact this
 have hg:∀i∈q,∃d,ds[i]?=some d:=fun i hi=>⟨ds[i]'(hm i hi),j0N (hm i hi)⟩
 let d0:Dd:=⟨"",0,.inl 0⟩
 refine⟨q.map fun i=>ds.getD i d0,?_,?_,?_⟩
 ·have h1:=hq.1.map fun i=>ds.getD i d0;rw[j0d]at h1;have h2:(List.range ds.length).map (fun i=>ds.getD i d0)=ds:=List.ext_getElem (by simp) fun i a1 a2=>by simp[a2]
  rw[h2]at h1;exact h1
 ·refine j0D.mpr ((j0D.mp hq.2).imp_of_mem fun {a b} ha hb h=>?_);obtain⟨x,hx⟩:=hg a ha;obtain⟨y,hy⟩:=hg b hb;simp only[j0G,j0R,hx,hy,j1w,Option.getD_some]at h ⊢;exact h
 ·show(if jcC.ps.length=1/\jcC.dat.isNone=true then jmL jaV false (.lst (ds.map Dd.dat)) μ else .bad)=_;rw[if_pos ⟨rfl,rfl⟩,jvk (xs:=ds.map Dd.dat) rfl (kf ds) nd (by rw[j0d];omega) hq,jx4,j1m];congr 2;refine List.map_congr_left fun i hi=>?_;obtain⟨x,hx⟩:=hg i hi;simp only[j0G,j0R,hx,j1w,Option.getD_some,Function.comp]
structure Fct (ds:List Dd):Prop where
 up:(bOf ds).Pairwise fun x y=>jbB (tE x) (tE y)=true
 nr:(ds.map (·.ref)).Nodup
 nb:((kOf ds).map (·.1)).Nodup
 po:∀e∈bOf ds,0<=e.2.2
 ba:∀d∈ds,∀of,d.k=.inr of->∃b∈ds,∃m,b.k=.inl m/\b.ref=of/\jbB (key b) (key d)=true
 ln:ds.length<=20
theorem ju {a b:T3}(h:jbB a b=true):a.1<=b.1:=by
 rw[jdb]at h;omega
theorem jyv {ds:List Dd}{e:Er}:e∈bOf ds ↔ ∃d∈ds,d.k=.inl e.2.2/\d.ref=e.1/\d.day=e.2.1:=by
 unfold bOf;rw[j1c];constructor
 ·rintro⟨d,hd,h⟩
  cases hk:d.k with
  |inl m=>
   rw[hk]at h;cases h;exact⟨d,hd,hk,rfl,rfl⟩
  |inr of=>rw[hk]at h;cases h
 ·rintro⟨d,hd,h1,h2,h3⟩;exact⟨d,hd,by rw[h1,h2,h3]⟩
theorem Fct.filter {ds:List Dd}(h:Fct ds)(day:Int):Fct (ds.filter fun d=>decide (d.day<=day)):=by
 have sb:(bOf (ds.filter fun d=>decide (d.day<=day))).Sublist (bOf ds):=List.filter_sublist.filterMap _;refine⟨h.up.sublist sb,h.nr.sublist (List.filter_sublist.map _),h.nb.sublist ((List.filter_sublist.filterMap _).map _),fun e he=>h.po e (sb.mem he),fun d hd of hk=>?_,j0A (j0P _ _) h.ln⟩;obtain⟨hm,hc⟩:=j0u.mp hd;have hc:d.day<=day:=by simpa using hc
 obtain⟨b,hb,m,h1,h2,h3⟩:=h.ba d hm of hk;have:b.day<=d.day:=ju h3;exact⟨b,j0u.mpr ⟨hb,by simp;omega⟩,m,h1,h2,h3⟩
theorem jwL {a b:Dd}(h:jbB (key a) (key b)=true):jbB (a.day,a.ref,"") (b.day,b.ref,"")=true:=by
 rw[jdb]at h ⊢;exact h
theorem jsf {ds xs:List Dd}(f:Fct ds)(hp:xs.Perm ds)(hs:xs.Pairwise fun x y=>jbB (key x) (key y)=true):Wk [] [] xs:=by
 have hb:(bOf xs).Perm (bOf ds):=hp.filterMap _;have hk:(kOf xs).Perm (kOf ds):=hp.filterMap _;refine⟨?_,?_,?_,fun e he=>f.po e (hb.mem_iff.mp (by simpa using he)),(fun b hb=>nomatch hb),fun p d q of e hkd=>?_⟩
 ·refine List.Pairwise.filterMap _ (fun a b h x hx y hy=>?_) hs
  cases ka:a.k with
  |inr _=>rw[ka]at hx;cases hx
  |inl _=>
   cases kb:b.k with
   |inr _=>rw[kb]at hy;cases hy
   |inl _=>
    rw[ka]at hx;rw[kb]at hy;cases hx;cases hy;exact jwL h
 ·refine((hb.map (·.1)).nodup_iff).mpr (j0D.mpr ?_);refine List.Pairwise.filterMap _ (fun a b (h:a.ref≠b.ref) x hx y hy=>?_) (j0D.mp f.nr)
  cases ka:a.k with
  |inr _=>rw[ka]at hx;cases hx
  |inl _=>
   cases kb:b.k with
   |inr _=>rw[kb]at hy;cases hy
   |inl _=>
    rw[ka]at hx;rw[kb]at hy;cases hx;cases hy;exact h
 ·exact((hk.map (·.1)).nodup_iff).mpr f.nb
 ·subst e;obtain⟨b,hb',m,h1,h2,h3⟩:=f.ba d (hp.mem_iff.mp (by simp)) of hkd;have hbm:=hp.mem_iff.mpr hb';refine⟨(b.ref,b.day,m),?_,h2⟩;rw[j1v];refine jyv.mpr ⟨b,?_,h1,rfl,rfl⟩;rcases j0I.mp hbm with e|e
  ·exact e
  ·exfalso;rcases j0q.mp e with e|e
   ·subst e;rw[jhB]at h3;cases h3
   ·have:=(List.pairwise_cons.mp (j0T.mp hs).2.1).1 b e;rw[jeQ this]at h3;cases h3
section
variable {ts:List Int} {span grace:Int}
theorem jms (ds:List Dd)(f:Fct ds)(day:Int)(μ:M):∃s:Sta,s.day=day/\s.ek=bOf (ds.filter fun d=>decide (d.day<=day))/\s.bk.Perm (kOf (ds.filter fun d=>decide (d.day<=day)))/\jah .frz jhC.F [bkD (rkD ts) span grace,.lst (ds.map Dd.dat),.int day] μ=.ok (stD s) μ:=by
 obtain⟨xs,hp,hs,he⟩:=jqF ds f.nr f.ln (Mm μ jC9);have hf:=f.filter day;have hp':(xs.filter fun d=>decide (d.day<=day)).Perm (ds.filter fun d=>decide (d.day<=day)):=hp.filter _;have hs':(xs.filter fun d=>decide (d.day<=day)).Pairwise fun x y=>jbB (key x) (key y)=true:=hs.sublist List.filter_sublist;have wk:=jsf hf hp' hs';have hl:xs.length<=20:=by rw[hp.length_eq];exact f.ln
 have hi:∀ν:M,itD .seq [.lst (xs.map Dd.dat)] ν=some (xs.map Dd.dat):=fun ν=>rfl;obtain⟨s,h1,h2,h3⟩:=jiI (ts:=ts) (span:=span) (grace:=grace) (μ:=μ) (ok:=jdG .seq [.lst (xs.map Dd.dat)] (xs.map Dd.dat)) (fun ν=>jap (hi ν)) (.lst (ds.map Dd.dat)) day xs jC9 rfl (by decide) (by show 0+_<=_;omega) (by show 0+_<=_;omega) (by show 0+_<=_;omega) wk;refine⟨{s with day:=day},rfl,?_,?_,ja4 (F:=jk4) (ν:=Sta.cs μ.length {s with day:=day}) (d:=.cel μ.length) ?_ (jCF μ _)⟩
 ·show s.ek=_;rw[h1];show []++_=_;rw[j1v];refine List.Perm.eq_of_pairwise (le:=fun x y=>jbB (tE x) (tE y)=true) (fun a b _ _ x y=>by rw[jeQ x]at y;cases y) wk.up hf.up (hp'.filterMap _)
 ·show s.bk.Perm _;rw[h2];exact hp'.filterMap _
 ·show _=Out.ok _ (Mm μ {s with day:=day});unfold jk4 jlk;symm;rwa[jwK];rwa[he];rwa[jaO (hi _),h3];rwa[jqJ]
end
noncomputable def spD (s:Sp):D:=.tup [.int s.1,.int s.2.1,.int s.2.2]
noncomputable def jdP (bk:List (Str×Int))(z:Str):Option Int:=(bk.find? fun b=>decide (b.1=z)).map (·.2)
noncomputable def jl8 (over:Int)(o:Option Int):Int:=if o.getD over<over then o.getD over else over
noncomputable def jc5 (span:Int)(ek:List Er)(bk:List (Str×Int)):List Sp:=ek.map fun e=>(e.2.1,jl8 (e.2.1+span) (jdP bk e.1),e.2.2)
theorem jmt (z:Str):∀bk:List (Str×Int),jhn (.inr z) (bk.map fun e=>(.inr e.1:Key)) (bk.map fun e=>D.int e.2)=(jdP bk z).map D.int
 |[]=>rfl
 |b::bk=>by
  have ih:=jmt z bk;rw[j0c,j0c];unfold jhn jdP;by_cases h:b.1=z
  ·rw[if_pos (by rw[h]),List.find?_cons_of_pos (by simpa using h)];rfl
  ·rw[if_neg fun e=>h (Sum.inr.inj e),List.find?_cons_of_neg (by simpa using h)];exact ih
theorem jrC {s:Sta} {f:Str} {d:D} {μ:M} (h:joY f sF [.int s.day,.dF [.inr "purse"] [.lst (s.row.map plD)],.dF [.inr "purse"] [.lst []],.dF (ekK s) (s.ek.map erD),.lst (s.en.map enD),.lst [],.dF [] [],.dF (bkK s) (s.bk.map fun e=>.int e.2),.dF (skK s) (s.sk.map D.int),.dF [] []]=some d):jrn jaH.dat f (stD s) μ=.ok d μ:=by
 obtain⟨k,hk⟩:=jne;rw[hk];exact jnh h
theorem jwf {h:Nat->Option D}(s:Sp):jbn h (spD s)=some (spD s):=nr rfl
section
variable {ts:List Int} {span grace:Int} {s:Sta}
theorem jiy {ok:M->Bool}(hok:∀ν,ok ν=true)(μ:M):∀(xs:List Er) (acc:List Sp),acc.length+xs.length<=100->jf4 ok (.tp [5,6]) (runs jfQ jcY) [5,6,7] (xs.map fun e=>.tup [.str e.1,erD e]) [some (stD s),some (bkD (rkD ts) span grace),some (.str "purse"),some (.int span),some (.cel μ.length),none,none,none] (μ++[some (.lst (acc.map spD))])=.ok (.nx [some (stD s),some (bkD (rkD ts) span grace),some (.str "purse"),some (.int span),some (.cel μ.length),none,none,none]) (μ++[some (.lst ((acc++jc5 span xs s.bk).map spD))])
 |[],acc,_=>by
  rw[j0B,jaL (hok _)];unfold jc5;rw[j0B,j0x];rfl
 |x::xs,acc,hl=>by
  rw[j0j]at hl;rw[j0c,jaq (ρ1:=[some (stD s),some (bkD (rkD ts) span grace),some (.str "purse"),some (.int span),some (.cel μ.length),some (.str x.1),some (erD x),none]) (ρ2:=[some (stD s),some (bkD (rkD ts) span grace),some (.str "purse"),some (.int span),some (.cel μ.length),some (.str x.1),some (erD x),some (.int (x.2.1+span))]) (μ2:=μ++[some (.lst ((acc++[(x.2.1,jl8 (x.2.1+span) (jdP s.bk x.1),x.2.2)]).map spD))]) (hok _) rfl ?_]
  ·have:=jiy hok μ xs (acc++[(x.2.1,jl8 (x.2.1+span) (jdP s.bk x.1),x.2.2)]) (by rw[j0o,List.length_singleton];omega);rw[j0n]at this;exact this
  ·have e0:∀σ:M,ixD (erD x) (.int 0) σ=.ok (.str "buy") σ:=fun σ=>nr rfl;have e1:∀σ:M,ixD (erD x) (.int 1) σ=.ok (.str "purse") σ:=fun σ=>nr rfl;have e2:∀σ:M,ixD (erD x) (.int 2) σ=.ok (.int x.2.1) σ:=fun σ=>nr rfl;have e3:∀σ:M,ixD (erD x) (.int 3) σ=.ok (.int x.2.2) σ:=fun σ=>nr rfl;have hdd:∀σ:M,jyq σ (.dF (bkK s) (s.bk.map fun e=>.int e.2))=true:=fun σ=>nr rfl;have hlk:∀(o:Int) (σ:M),jq1 (.dF (bkK s) (s.bk.map fun e=>.int e.2)) (.str x.1) (.int o) σ=.ok (.int ((jdP s.bk x.1).getD o)) σ:=fun o σ=>by
    unfold jq1 jlL;simp only[jpT,jgv,j1w];rw[jmt];cases jdP s.bk x.1<;>rfl
   have hmin:∀(i j:Int) (σ:M),biD .min2 false [.int i,.int j] σ=.ok (.int (if j<i then j else i)) σ:=fun i j σ=>nr rfl;unfold jcY;symm;rwa[e0];rwa[e1];rwa[e2];rwa[e2];rwa[jrC (d:=.dF (bkK s) (s.bk.map fun e=>.int e.2)) (nr rfl)];rwa[if_pos (hdd _)];rwa[hlk];rwa[hmin];rwa[e3];rwa[jhH (jaa (n:=_+1) (by rw[j0d];omega))];rw[j0y];rfl
theorem jvy:∀ek:List Er,jnD (ek.map fun e=>(.inr e.1:Key)) (ek.map erD)=ek.map fun e=>.tup [.str e.1,erD e]
 |[]=>rfl
 |e::ek=>by
  rw[j0c,j0c,j0c];unfold jnD;rw[jvy ek];rfl
theorem jiM (hl:s.ek.length<=50)(μ:M):jah .frz jbQ.F [stD s,bkD (rkD ts) span grace,.str "purse"] μ=.ok (.lst ((jc5 span s.ek s.bk).map spD)) μ:=by
 refine ja4 (F:=jfK) (ν:=[some (.lst ((jc5 span s.ek s.bk).map spD))]) (d:=.cel μ.length) ?_ (jkQ fun _=>jaC jwf _);have hi:∀ν:M,itD .items [.dF (ekK s) (s.ek.map erD)] ν=some (s.ek.map fun e=>.tup [.str e.1,erD e]):=fun ν=>by
  show some (jnD _ _)=_;rw[jvy]
 have lp:=jiy (ts:=ts) (span:=span) (grace:=grace) (s:=s) (ok:=jdG .items [.dF (ekK s) (s.ek.map erD)] (s.ek.map fun e=>.tup [.str e.1,erD e])) (fun ν=>jap (hi ν)) μ s.ek [] (by simp;omega);simp only[j0B,j1v]at lp;unfold jfK jfW;symm;rwa[jeU];rwa[jgE (d:=.int span) (nr rfl)];rwa[jrC (d:=.dF (ekK s) (s.ek.map erD)) (nr rfl)];rwa[jaO (hi _),lp]
theorem jek (sp:List Sp)(hl:sp.length<=1000)(x:Int)(μ:M):jah .frz jbR.F [.lst (sp.map spD),.int x] μ=.ok (.int (jbO sp x)) μ:=by
 refine jac (F:=jfL) ?_ jas;have hq:(ev jfT jdn).v [some (.lst (sp.map spD)),some (.int x)] μ=.ok (.lst (((sp.filter (onB x)).map (·.2.2)).map D.int)) μ:=by
  unfold jdn;rw[jat (ds:=[.lst (sp.map spD)]) (xs:=sp) (e:=spD) (onB x) (fun s=>.int s.2.2) (by symm) rfl (jaa hl) fun s hs=>⟨_,rfl,by
   symm;unfold onB;by_cases h:s.1<=x
   ·rwa[decide_eq_true h];rw[Bool.true_and]
   ·rwa[decide_eq_false h];rw[Bool.false_and],fun _=>by symm⟩]
  rw[j1m];rfl
 unfold jfL jfr;symm;rwa[hq];rwa[jln];rfl
theorem jgs (hl:ts.length<=1000)(p:Int)(μ:M):jah .frz jeo.F [hsD (rkD ts) span grace,.int p] μ=.ok (.int (jvr ts p:Int)) μ:=by
 refine jac (F:=jh0) ?_ jas;have hq:(ev ji8 jfd).v [some (hsD (rkD ts) span grace),some (.int p)] μ=.ok (.lst ((ts.filter fun t=>decide (t<=p)).map D.int)) μ:=by
  unfold jfd;rw[jat (ds:=[.tup (rkD ts)]) (xs:=ts) (e:=fun t=>.tup [.int t,.str "rank"]) (fun t=>decide (t<=p)) D.int (by
   symm;rw[jgE (d:=.tup (rkD ts)) (nr rfl)];symm) rfl (jaa hl) fun s hs=>⟨_,rfl,by symm,fun _=>by symm⟩]
  rfl
 unfold jh0 jiu;symm;rwa[hq];rwa[jeD];rw[j0d];rfl
theorem jsT (span:Int)(ek:List Er)(bk:List (Str×Int)):(jc5 span ek bk).length=ek.length:=by
 unfold jc5;rw[j0d]
theorem jjR (hl:s.ek.length<=50)(x:Int)(μ:M):jah .frz jga.F [stD s,bkD (rkD ts) span grace,.str "purse",.int x] μ=.ok (.int (jbO (jc5 span s.ek s.bk) x)) μ:=by
 refine jac (F:=jiQ) ?_ jas;unfold jiQ jiG;symm;rwa[jiM hl];rwa[jek _ (by rw[jsT];omega)]
theorem jkv (hl:s.ek.length<=50)(ht:ts.length<=1000)(x:Int)(μ:M):jah .frz jdQ.F [stD s,bkD (rkD ts) span grace,.str "purse",.int x] μ=.ok (.int (plain ts (jc5 span s.ek s.bk) x:Int)) μ:=by
 refine jac (F:=jdX) ?_ jas;unfold jdX jdU;symm;rwa[jeU];rwa[jjR hl];rwa[jgs ht];rfl
noncomputable def jgc (sp:List Sp)(grace x:Int):List Int:=max (x - grace) 0::(sp.filter fun s=>decide (max (x - grace) 0<s.1)&&decide (s.1<=x)).map (·.1)
noncomputable def jee (ts:List Int)(sp:List Sp)(grace x:Int):Nat:=jvr ts (mxD 0 ((jgc sp grace x).map (jbO sp)))
theorem jhD {sp:List Sp}(hp:Pos sp){x:Int}(hx:0<=x)(hg:0<=grace):jmF ts sp (max (x - grace) 0) x (jee ts sp grace x):=by
 refine jul hp (by omega) _ (fun y hy=>?_) (by simp[jgc]) fun s hs h1 h2=>j0p _ (j0s.mpr ⟨s,j0u.mpr ⟨hs,by simp[h1,h2]⟩,rfl⟩);rcases j0q.mp hy with rfl|hy
 ·omega
 ·obtain⟨s,hs,rfl⟩:=j0s.mp hy;have:=(j0u.mp hs).2;simp only[j0a,decide_eq_true_eq]at this;omega
theorem jkJ {ns:List Int}(h:ns≠[])(μ:M):biD .maxL false [.lst (ns.map D.int)] μ=.ok (.int (mxD 0 ns)) μ:=by
 simp only[biD,jtw,je9,Option.bind,jhR];rw[if_pos h]
theorem jnQ (i j:Int)(μ:M):biD .max2 false [.int i,.int j] μ=.ok (.int (max i j)) μ:=by
 have:biD .max2 false [.int i,.int j] μ=.ok (.int (if j > i then j else i)) μ:=nr rfl;rw[this];congr 2;split<;>omega
theorem jm8 (hl:s.ek.length<=50)(ht:ts.length<=1000)(x:Int)(μ:M):jah .frz jj2.F [stD s,bkD (rkD ts) span grace,.str "purse",.int x] μ=.ok (.int (jee ts (jc5 span s.ek s.bk) grace x:Int)) μ:=by
 refine jac (F:=jqP) ?_ jas;have hsl:=jsT span s.ek s.bk;generalize hsp:jc5 span s.ek s.bk=sp at hsl ⊢;have hfl:(sp.filter fun s=>decide (max (x - grace) 0<s.1)&&decide (s.1<=x)).length<=sp.length:=j0P _ _;have q0:∀o7:Option D,(ev jou jlv).v [some (stD s),some (bkD (rkD ts) span grace),some (.str "purse"),some (.int x),some (hsD (rkD ts) span grace),some (.lst (sp.map spD)),some (.int (max (x - grace) 0)),o7] μ=.ok (.lst (((sp.filter fun s=>decide (max (x - grace) 0<s.1)&&decide (s.1<=x)).map (·.1)).map D.int)) μ:=fun o7=>by
  unfold jlv;rw[jat (ds:=[.lst (sp.map spD)]) (xs:=sp) (e:=spD) (fun s=>decide (max (x - grace) 0<s.1)&&decide (s.1<=x)) (fun s=>.int s.1) (by symm) rfl (jaa (by omega)) fun s hs=>⟨_,rfl,by
   symm;by_cases h:max (x - grace) 0<s.1
   ·rwa[decide_eq_true h];rw[Bool.true_and]
   ·rwa[decide_eq_false h];rw[Bool.false_and],fun _=>by symm⟩]
  rw[j1m];rfl
 have q1:(ev jou jkK).v [some (stD s),some (bkD (rkD ts) span grace),some (.str "purse"),some (.int x),some (hsD (rkD ts) span grace),some (.lst (sp.map spD)),some (.int (max (x - grace) 0)),some (.lst ((jgc sp grace x).map D.int))] μ=.ok (.lst (((jgc sp grace x).map (jbO sp)).map D.int)) μ:=by
  unfold jkK;rw[jat (ds:=[.lst ((jgc sp grace x).map D.int)]) (xs:=jgc sp grace x) (e:=D.int) (fun _=>true) (fun y=>.int (jbO sp y)) (by symm) rfl (jaa (by unfold jgc;simp only[j0j,j0d];omega)) fun y hy=>⟨_,rfl,by symm,fun _=>by
   symm;rw[jek _ (by omega)]⟩]
  rw[j0L.mpr fun _ _=>rfl,j1m];rfl
 unfold jqP jr3;symm;rwa[jeU];rwa[jiM hl,hsp];rwa[jgE (d:=.int grace) (nr rfl)];rwa[jnQ];rwa[q0];rwa[jil (jaa (by simp only[j0j,j1b,j0d];omega))];rwa[show D.int (max (x - grace) 0)::((sp.filter fun s=>decide (max (x - grace) 0<s.1)&&decide (s.1<=x)).map (·.1)).map D.int=(jgc sp grace x).map D.int from rfl,q1];rwa[jkJ (by simp[jgc])];rwa[jgs ht];rfl
theorem jl1 (hl:s.ek.length<=50)(ht:ts.length<=1000)(hp:Pos (jc5 span s.ek s.bk))(h1:∀t∈ts,1<=t)(hg:0<=grace)(hd:0<=s.day)(μ:M):jah .frz jfC.F [stD s,bkD (rkD ts) span grace,.str "purse"] μ=.ok (if jee ts (jc5 span s.ek s.bk) grace s.day=0 then .non else .int (mxD 0 (jn1 ts (jc5 span s.ek s.bk) (jee ts (jc5 span s.ek s.bk) grace s.day))+grace)) μ:=by
 refine jac (F:=jfU) ?_ (by split;exact jaX;exact jas);have hsl:=jsT span s.ek s.bk;have hrk:=fun x μ=>jm8 (s:=s) (span:=span) (grace:=grace) hl ht x μ;have hse:=fun μ=>jiM (s:=s) (ts:=ts) (span:=span) (grace:=grace) hl μ;generalize hsp:jc5 span s.ek s.bk=sp at hsl hp hrk hse ⊢;have top:=jhD (ts:=ts) hp hd hg;generalize hnw:jee ts sp grace s.day=now at top ⊢;unfold jfU jff;symm;rwa[jrC (d:=.int s.day) (nr rfl)];rwa[hrk,hnw];by_cases h0:now=0
 ·rwa[if_pos h0,decide_eq_true (by omega)]
 ·have fo:=js0 hp h1 (by omega) hg hd top;rwa[if_neg h0,decide_eq_false (by omega)];rwa[jeU];rwa[hse];have q0:∀o6:Option D,(ev jfI jdi).v [some (stD s),some (bkD (rkD ts) span grace),some (.str "purse"),some (.int (now:Int)),some (hsD (rkD ts) span grace),some (.lst (sp.map spD)),o6] μ=.ok (.lst ((jn1 ts sp now).map D.int)) μ:=fun o6=>by
   unfold jdi;rw[jat (ds:=[.lst (sp.map spD)]) (xs:=sp) (e:=spD) (fun s=>decide ((now:Int)<=(plain ts sp (s.2.1 - 1):Int))) (fun s=>.int s.2.1) (by symm) rfl (jaa (by omega)) fun s hs=>⟨_,rfl,by
    symm;rwa[jek _ (by omega)];rwa[jgs ht];rfl,fun _=>by symm⟩]
   unfold jn1;rw[j1m];rfl
  rwa[q0];rwa[jkJ fo.1];rwa[jgE (d:=.int grace) (nr rfl)]
end
theorem jlT (ns:List Int){ok:M->Bool}(hok:∀ν,ok ν=true)(μ:M):∀(n k:Nat) (acc:List Int) (last:Int),k+n<=4->acc.length=k->0<=last->(∀x∈acc,1<=x/\x<=last)->acc.Pairwise (· < ·)->∃(acc':List Int) (last':Int),acc'.length=k+n/\(∀x∈acc',1<=x)/\acc'.Pairwise (· < ·)/\jf4 ok (.nm 3) (runs jdK jb9) [3] ((List.range' k n).map fun(i:Nat)=>D.int (i:Int)) [some (ji1 ns),some (.cel μ.length),some (.int last),none] (μ++[some (.lst (acc.map D.int))])=.ok (.nx [some (ji1 ns),some (.cel μ.length),some (.int last'),none]) (μ++[some (.lst (acc'.map D.int))])
 |0,k,acc,last,_,hk,_,ha,hp=>⟨acc,last,hk,fun x hx=>(ha x hx).1,hp,by
  rw[List.range'_zero,j0B,jaL (hok _)];rfl⟩
 |n+1,k,acc,last,hn,hk,h0,ha,hp=>by
  obtain⟨m,m0,_,hm⟩:=jjO (ns.getD (3+k) 0) 2 (by decide) (by decide);have hat:∀σ:M,jah .frz ja3.F [ji1 ns,.int (3+(k:Int))] σ=.ok (.int (ns.getD (3+k) 0)) σ:=fun σ=>by
   have:=jnl ns (3+k) σ;rw[show((3+k:Nat):Int)=3+(k:Int)from by omega]at this;exact this
  obtain⟨acc',last',h1,h2,h3,h4⟩:=jlT ns hok μ n (k+1) (acc++[last+1+m]) (last+1+m) (by omega) (by simp[hk]) (by omega) (fun x hx=>by
   rcases j0I.mp hx with e|e
   ·have:=ha x e;omega
   ·have:x=last+1+m:=by simpa using e
    omega) (j0T.mpr ⟨hp,by simp,fun x hx y hy=>by
   have:y=last+1+m:=by simpa using hy
   have:=ha x hx;omega⟩)
  refine⟨acc',last',by omega,h2,h3,?_⟩;rw[List.range'_succ,j0c,jaq (ρ1:=[some (ji1 ns),some (.cel μ.length),some (.int last),some (.int (k:Int))]) (ρ2:=[some (ji1 ns),some (.cel μ.length),some (.int (last+1+m)),some (.int (k:Int))]) (μ2:=μ++[some (.lst ((acc++[last+1+m]).map D.int))]) (hok _) rfl ?_]
  ·exact h4
  ·unfold jb9;symm;rwa[hat];rwa[hm];rwa[jhH (jaa (n:=_+1) (by rw[j0d];omega))];rw[j0y];rfl
theorem jq9 (ns:List Int)(μ:M):∃ts:List Int,ts.length<=4/\(∀t∈ts,1<=t)/\jpE ts/\jah .frz jd9.F [ji1 ns] μ=.ok (.lst (ts.map D.int)) μ:=by
 have hat:∀σ:M,jah .frz ja3.F [ji1 ns,.int 2] σ=.ok (.int (ns.getD 2 0)) σ:=jnl ns 2;obtain⟨m,m0,_,hm⟩:=jl7 (ns.getD 2 0) 1 (by decide) (by decide);obtain⟨n,hn⟩:∃n:Nat,1+m % 4=(n:Int):=⟨(1+m % 4).toNat,by omega⟩;have hi:∀ν:M,itD .rng1 [.int (n:Int)] ν=some ((List.range' 0 n).map fun(i:Nat)=>D.int (i:Int)):=fun ν=>by rw[jqt (by omega),List.range_eq_range']
 obtain⟨ts,last,h1,h2,h3,h4⟩:=jlT ns (ok:=jdG .rng1 [.int (n:Int)] ((List.range' 0 n).map fun(i:Nat)=>D.int (i:Int))) (fun ν=>jap (hi ν)) μ n 0 [] 0 (by omega) rfl (by decide) (fun x hx=>nomatch hx) List.Pairwise.nil;refine⟨ts,by omega,h2,fun k hk=>?_,ja4 (F:=jeB) (ν:=[some (.lst (ts.map D.int))]) (d:=.cel μ.length) ?_ (jkQ fun _=>jaC (fun _=>jas) _)⟩
 ·have:=List.pairwise_iff_getElem.mp h3 k (k+1) (by omega) hk (by omega);rw[j0G,j0G,j0N hk,j0N (by omega:k<ts.length)];exact this
 ·rw[j0B]at h4;unfold jeB jdJ;symm;rwa[hat];rwa[hm];rwa[hn,jaO (hi _),h4]
noncomputable abbrev Bu:=Int×Int×Option Int
noncomputable def jnq:Option Int->D
 |none=>.non
 |some i=>.int i
noncomputable def buD (b:Bu):D:=.tup [.int b.1,.int b.2.1,jnq b.2.2]
theorem jxK {h:Nat->Option D}(b:Bu):jbn h (buD b)=some (buD b):=by
 obtain⟨x,y,z⟩:=b;cases z<;>exact nr rfl
noncomputable def ab (k:Nat):Str:=⟨#[97+k]⟩
noncomputable def rf (k:Nat):Str:="buy" ++ ab k
noncomputable def tk (k:Nat):Str:="taken" ++ ab k
theorem jA9 {k:Nat}(h:k<6)(μ:M):ixD (.str "abcdef") (.int (k:Int)) μ=.ok (.str (ab k)) μ:=by
 have hz:(Str.ofString "abcdef").length<=sizeLine:=jaa (by ac_rfl);have ha:∀k:Nat,k<6->(Str.ofString "abcdef").cps.toList[k]?=some (97+k):=by ac_rfl
 have e:atI (Str.ofString "abcdef").cps.toList (k:Int)=some (97+k):=jnK (ha k h);unfold ixD;simp only[if_pos hz,e];rfl
theorem jAU (k:Nat)(m:Bool)(μ:M):jlA .Add m (.str "buy") (.str (ab k)) μ=.ok (.str (rf k)) μ:=joK (jaa (by show _+1<=1000;ac_rfl))
theorem jBU (k:Nat)(m:Bool)(μ:M):jlA .Add m (.str "taken") (.str (ab k)) μ=.ok (.str (tk k)) μ:=joK (jaa (by show _+1<=1000;ac_rfl))
noncomputable def jkg (i:Nat)(b:Bu):List Dd:=⟨rf i,b.1,.inl b.2.1⟩::match b.2.2 with
 |none=>[]
 |some d=>[⟨tk i,d,.inr (rf i)⟩]
noncomputable def jay:Nat->List Bu->List Dd
 |_,[]=>[]
 |i,b::bs=>jkg i b++jay (i+1) bs
theorem jjX:∀(bs:List Bu) (i:Nat) (b:Bu),jay i (bs++[b])=jay i bs++jkg (i+bs.length) b
 |[],i,b=>by
  show jkg i b++[]=[]++jkg (i+0) b;rw[j0x];rfl
 |x::bs,i,b=>by
  show jkg i x++jay (i+1) (bs++[b])=jkg i x++jay (i+1) bs++jkg (i+(bs.length+1)) b;rw[jjX bs (i+1) b,j0n,show i+1+bs.length=i+(bs.length+1)from by omega]
structure GoodB (bs:List Bu):Prop where
 ln:bs.length<=6
 up:bs.Pairwise fun x y=>x.1<=y.1
 d0:∀b∈bs,0<=b.1/\0<=b.2.1/\∀x,b.2.2=some x->b.1<=x
theorem jvG (bs:List Bu):∀i,(jay i bs).length<=2*bs.length:=by
 induction bs with
 |nil=>exact fun i=>j0l _
 |cons b bs ih=>
  intro i;have:=ih (i+1);show(jkg i b++jay (i+1) bs).length<=2*(bs.length+1);have h1:(jkg i b).length<=2:=by
   unfold jkg;cases b.2.2<;>simp
  rw[j0o];omega
noncomputable abbrev dsS (ns:List Int) (μ:M) (day:Int) (o4 o5 o6 o7 o8 o9:Option D):S3:=[some (ji1 ns),some (.cel μ.length),some (.cel (μ.length+1)),some (.int day),o4,o5,o6,o7,o8,o9]
noncomputable abbrev dsM (μ:M) (ds:List Dd) (bs:List Bu):M:=μ++[some (.lst (ds.map Dd.dat)),some (.lst (bs.map buD))]
theorem jx7 {σ:M}{k:Nat}{xs:List D}{d:D}(h:σ[k]?=some (some (.lst xs)))(hl:xs.length<=900):jp0 .append (.cel k) σ=true/\mtD .append (.cel k) [d] σ=.ok .non (σ.set k (some (.lst (xs++[d])))):=by
 unfold jp0 mtD jzE;simp only[h];rw[if_pos (show xs.length<sizeLine from jaa (n:=xs.length+1) (by omega))];exact⟨trivial,rfl⟩
theorem jCM {μ:M}{ds:List Dd}{bs:List Bu}(d:Dd)(h:ds.length<=900):jp0 .append (.cel μ.length) (dsM μ ds bs)=true/\mtD .append (.cel μ.length) [d.dat] (dsM μ ds bs)=.ok .non (dsM μ (ds++[d]) bs):=by
 obtain⟨h1,h2⟩:=jx7 (σ:=dsM μ ds bs) (k:=μ.length) (xs:=ds.map Dd.dat) (d:=d.dat) (jvq (k:=0)) (by rw[j0d];exact h);refine⟨h1,h2.trans ?_⟩;unfold dsM;rw[show(ds++[d]).map Dd.dat=ds.map Dd.dat++[d.dat]from by rw[j0y];rfl];exact congrArg _ (jBg (k:=0))
theorem jDU {μ:M}{ds:List Dd}{bs:List Bu}(b:Bu)(h:bs.length<=900):jp0 .append (.cel (μ.length+1)) (dsM μ ds bs)=true/\mtD .append (.cel (μ.length+1)) [buD b] (dsM μ ds bs)=.ok .non (dsM μ ds (bs++[b])):=by
 obtain⟨h1,h2⟩:=jx7 (σ:=dsM μ ds bs) (k:=μ.length+1) (xs:=bs.map buD) (d:=buD b) (jvq (k:=1)) (by rw[j0d];exact h);refine⟨h1,h2.trans ?_⟩;unfold dsM;rw[show(bs++[b]).map buD=bs.map buD++[buD b]from by rw[j0y];rfl];exact congrArg _ (jBg (k:=1))
theorem jjN (ns:List Int){ok:M->Bool}(hok:∀ν,ok ν=true)(μ:M):∀(n:Nat) (bs:List Bu) (day:Int),bs.length+n<=6->GoodB bs->0<=day->(∀b∈bs,b.1<=day)->∃(bs':List Bu) (day':Int),bs'.length=bs.length+n/\GoodB bs'/\jf4 ok (.nm 4) (runs jfR jcZ) [4,5,6,7,8,9] ((List.range' bs.length n).map fun(i:Nat)=>D.int (i:Int)) (dsS ns μ day none none none none none none) (dsM μ (jay 0 bs) bs)=.ok (.nx (dsS ns μ day' none none none none none none)) (dsM μ (jay 0 bs') bs')
 |0,bs,day,_,g,_,_=>⟨bs,day,rfl,g,by
  rw[List.range'_zero,j0B,jaL (hok _)];rfl⟩
 |n+1,bs,day,hn,g,h0,hd=>by
  have hat:∀(j:Nat) (i:Int) (σ:M),i=(j:Int)->jah .frz ja3.F [ji1 ns,.int i] σ=.ok (.int (ns.getD j 0)) σ:=fun j i σ e=>by rw[e];exact jnl ns j σ
  obtain⟨f1,a1,b1,hf1⟩:=jjO (ns.getD (8+3*bs.length) 0) 3 (by decide) (by decide);obtain⟨f2,a2,b2,hf2⟩:=jjO (ns.getD (9+3*bs.length) 0) 4 (by decide) (by decide);obtain⟨m,a3,b3,hm⟩:=jl7 (ns.getD (10+3*bs.length) 0) 5 (by decide) (by decide);obtain⟨f3,a4,b4,hf3⟩:=jjO (ns.getD (10+3*bs.length) 0) 6 (by decide) (by decide);have mulp:0<=f3*(m / 3 % 3):=Int.mul_nonneg a4 (by omega);generalize hbk:(if m % 3=0 then some (day+f1+f3*(m / 3 % 3))else none:Option Int)=bk;have hb0:∀x,bk=some x->day+f1<=x:=fun x hx=>by
   rw[<- hbk]at hx;split at hx
   ·cases hx;omega
   ·cases hx
  obtain⟨bs',day',h1,h2,h3⟩:=jjN ns hok μ n (bs++[(day+f1,f2,bk)]) (day+f1) (by simp;omega) ⟨by simp;omega,j0T.mpr ⟨g.up,by simp,fun x hx y hy=>by
   have:y=(day+f1,f2,bk):=by simpa using hy
   subst this;have:=hd x hx;show x.1<=day+f1;omega⟩,fun b hb=>by
   rcases j0I.mp hb with e|e
   ·exact g.d0 b e
   ·have:b=(day+f1,f2,bk):=by simpa using e
    subst this;exact⟨by show 0<=day+f1;omega,a2,hb0⟩⟩ (by omega) (fun b hb=>by
   rcases j0I.mp hb with e|e
   ·have:=hd b e;omega
   ·have:b=(day+f1,f2,bk):=by simpa using e
    subst this;exact Int.le_refl _)
  have hdl:=jvG bs 0;refine⟨bs',day',by rw[h1];simp;omega,h2,?_⟩;rw[List.range'_succ,j0c,jaq (ρ1:=dsS ns μ day (some (.int (bs.length:Int))) none none none none none) (ρ2:=dsS ns μ (day+f1) (some (.int (bs.length:Int))) (some (.int (ns.getD (8+3*bs.length) 0))) (some (.int f2)) (some (.str (rf bs.length))) (some (.int m)) (some (jnq bk))) (μ2:=dsM μ (jay 0 (bs++[(day+f1,f2,bk)])) (bs++[(day+f1,f2,bk)])) (hok _) rfl ?_]
  ·rw[j0o]at h3;exact h3
  ·rw[jjX,Nat.zero_add];have c1:=fun ds (hds:ds.length<=900)=>jCM (μ:=μ) (ds:=ds) (bs:=bs) ⟨rf bs.length,day+f1,.inl f2⟩ hds;have c2:=fun ds x (hds:ds.length<=900)=>jCM (μ:=μ) (ds:=ds) (bs:=bs) ⟨tk bs.length,x,.inr (rf bs.length)⟩ hds;have c3:=fun ds b=>jDU (μ:=μ) (ds:=ds) (bs:=bs) b (by omega);unfold jcZ;symm;rwa[hat (8+3*bs.length) _ _ (by omega)];rwa[hf1];rwa[hat (9+3*bs.length) _ _ (by omega)];rwa[hf2];rwa[jA9 (by omega)];rwa[jAU];rwa[if_pos (c1 _ (by omega)).1];rwa[show D.tup [.str "buy",.str (rf bs.length),.int (day+f1),.str "purse",.tup [.tup [.str "tea",.int f2]]]=Dd.dat ⟨rf bs.length,day+f1,.inl f2⟩from rfl,(c1 _ (by omega)).2];rwa[hat (10+3*bs.length) _ _ (by omega)];rwa[hm];by_cases hm3:m % 3=0
   ·rw[if_pos hm3]at hbk;subst hbk;rwa[decide_eq_true hm3];rwa[hat (10+3*bs.length) _ _ (by omega)];rwa[hf3];rwa[jkY (by omega) (by omega)];have l1:(jay 0 bs++[(⟨rf bs.length,day+f1,.inl f2⟩:Dd)]).length<=900:=by simp;omega
    rwa[if_pos (c2 _ 0 l1).1];rwa[jA9 (by omega)];rwa[jBU];rwa[show D.tup [.str "back",.str (tk bs.length),.int (day+f1+f3*(m / 3 % 3)),.str (rf bs.length)]=Dd.dat ⟨tk bs.length,day+f1+f3*(m / 3 % 3),.inr (rf bs.length)⟩from rfl,(c2 _ _ l1).2];rwa[if_pos (c3 _ (0,0,none)).1];rwa[show D.tup [.int (day+f1),.int f2,.int (day+f1+f3*(m / 3 % 3))]=buD (day+f1,f2,some (day+f1+f3*(m / 3 % 3)))from rfl,(c3 _ _).2];rw[j0n];rfl
   ·rw[if_neg hm3]at hbk;subst hbk;rwa[decide_eq_false hm3];rwa[if_pos (c3 _ (0,0,none)).1];rwa[show D.tup [.int (day+f1),.int f2,.non]=buD (day+f1,f2,none)from rfl,(c3 _ _).2];rfl
theorem jzn {h:Nat->Option D}(d:Dd):jbn h d.dat=some d.dat:=by
 unfold Dd.dat;cases d.k<;>exact nr rfl
theorem jv1 {μ ν:M}{k:Nat}{ds:List D}(h:ν[k]?=some (some (.lst ds)))(hd:∀h,frzGs h ds=some ds):jht (μ++ν) μ.length [] 4 (μ.length+k)=some (.lst ds):=by
 unfold jht;rw[if_neg (by omega),if_neg (by simp)];dsimp only;rw[jvq,h];dsimp only;rw[hd];rfl
theorem juJ (ns:List Int)(μ:M):∃bs:List Bu,GoodB bs/\jah .frz jfA.F [ji1 ns] μ=.ok (.tup [.lst ((jay 0 bs).map Dd.dat),.lst (bs.map buD)]) μ:=by
 have hat:∀σ:M,jah .frz ja3.F [ji1 ns,.int 7] σ=.ok (.int (ns.getD 7 0)) σ:=jnl ns 7;obtain⟨m,m0,_,hm⟩:=jl7 (ns.getD 7 0) 2 (by decide) (by decide);obtain⟨n,hn⟩:∃n:Nat,1+m % 6=(n:Int):=⟨(1+m % 6).toNat,by omega⟩;have hi:∀ν:M,itD .rng1 [.int (n:Int)] ν=some ((List.range' 0 n).map fun(i:Nat)=>D.int (i:Int)):=fun ν=>by rw[jqt (by omega),List.range_eq_range']
 obtain⟨bs,day,h1,h2,h3⟩:=jjN ns (ok:=jdG .rng1 [.int (n:Int)] ((List.range' 0 n).map fun(i:Nat)=>D.int (i:Int))) (fun ν=>jap (hi ν)) μ n [] 0 (by simp;omega) ⟨by decide,List.Pairwise.nil,fun x hx=>nomatch hx⟩ (by decide) (fun x hx=>nomatch hx);refine⟨bs,h2,ja4 (F:=jfz) (ν:=[some (.lst ((jay 0 bs).map Dd.dat)),some (.lst (bs.map buD))]) (d:=.tup [.cel μ.length,.cel (μ.length+1)]) ?_ (jkE (jak ?_ (jak ?_ jbV)))⟩
 ·unfold jfz jfP;symm;rwa[hat];rwa[hm];simp only[j0n,j0o];symm;rw[hn,jaO (hi _)];refine(congrArg (fun o=>jwF (jyY o _)) h3).trans ?_;symm
 ·unfold jbn;exact jv1 (k:=0) rfl fun _=>jaC jzn _
 ·unfold jbn;exact jv1 (k:=1) rfl fun _=>jaC jxK _
theorem js2:∀i,i<6->∀j,j<6->rf i=rf j->i=j:=by ac_rfl
theorem jBB:∀i,i<6->∀j,j<6->tk i=tk j->i=j:=by ac_rfl
theorem jx5:∀i,i<6->∀j,j<6->rf i≠tk j:=by ac_rfl
theorem jDs:∀i,i<6->∀j,j<6->i<j->(rf i).cps.toList<(rf j).cps.toList:=by ac_rfl
theorem jtY:∀i,i<6->(rf i).cps.toList<(tk i).cps.toList:=by ac_rfl
theorem jb3 {i:Nat}{b:Bu}{d:Dd}:d∈jkg i b↔d=⟨rf i,b.1,.inl b.2.1⟩∨∃x,b.2.2=some x/\d=⟨tk i,x,.inr (rf i)⟩:=by
 unfold jkg
 cases b.2.2 with
 |none=>simp
 |some y=>simp
theorem jbF {d:Dd}:∀{bs:List Bu} {i:Nat},d∈jay i bs ↔ ∃j b,bs[j]?=some b/\d∈jkg (i+j) b
 |[],i=>by simp[jay]
 |x::bs,i=>by
  unfold jay;rw[j0I,jbF];constructor
  ·rintro(h|⟨j,b,h1,h2⟩)
   ·exact⟨0,x,rfl,h⟩
   ·exact⟨j+1,b,h1,(by omega:i+1+j=i+(j+1))▸h2⟩
  ·rintro⟨j,b,h1,h2⟩
   cases j with
   |zero=>cases h1;exact .inl h2
   |succ j=>exact .inr ⟨j,b,h1,(by omega:i+(j+1)=i+1+j)▸h2⟩
noncomputable def jhs (D:Int):Nat->List Bu->List Er
 |_,[]=>[]
 |i,b::bs=>if b.1<=D then(rf i,b.1,b.2.1)::jhs D (i+1) bs else jhs D (i+1) bs
theorem jnV (xs ys:List Dd):bOf (xs++ys)=bOf xs++bOf ys:=List.filterMap_append
theorem jkl (D:Int):∀(bs:List Bu) (i:Nat),bOf ((jay i bs).filter fun d=>decide (d.day<=D))=jhs D i bs
 |[],_=>rfl
 |b::bs,i=>by
  unfold jay jhs;rw[List.filter_append,jnV,jkl D bs (i+1)];have h2:bOf ((jkg i b).filter fun d=>decide (d.day<=D))=if b.1<=D then [(rf i,b.1,b.2.1)]else []:=by
   unfold jkg
   cases b.2.2 with
   |none=>
    by_cases h:b.1<=D
    ·simp[h,bOf]
    ·simp[h,bOf]
   |some x=>
    by_cases h:b.1<=D<;>by_cases hx:x<=D<;>simp[h,hx,bOf]
  rw[h2];split<;>rfl
theorem jiR (D:Int){e:Er}:∀{bs:List Bu} {i:Nat},e∈jhs D i bs->∃j b,bs[j]?=some b/\e=(rf (i+j),b.1,b.2.1)
 |[],_,h=>nomatch h
 |b::bs,i,h=>by
  have key:e∈jhs D (i+1) bs->∃j b',(b::bs)[j]?=some b'/\e=(rf (i+j),b'.1,b'.2.1):=fun h=>by
   obtain⟨j,b',h1,h2⟩:=jiR D h;exact⟨j+1,b',h1,by rw[h2,show i+1+j=i+(j+1)from by omega]⟩
  unfold jhs at h;split at h
  ·rcases j0q.mp h with e|h
   ·exact⟨0,b,rfl,e⟩
   ·exact key h
  ·exact key h
theorem joF (D:Int):∀(bs:List Bu) (i:Nat),i+bs.length<=6->(bs.Pairwise fun x y=>x.1<=y.1)->(jhs D i bs).Pairwise fun x y=>jbB (tE x) (tE y)=true
 |[],_,_,_=>List.Pairwise.nil
 |b::bs,i,hl,hp=>by
  rw[j0j]at hl;have ih:=joF D bs (i+1) (by omega) (List.pairwise_cons.mp hp).2;unfold jhs;split
  ·refine List.pairwise_cons.mpr ⟨fun e he=>?_,ih⟩;obtain⟨j,b',h1,rfl⟩:=jiR D he;have hj:j<bs.length:=(j0g.mp h1).1;have hm:=(List.pairwise_cons.mp hp).1 b' (j0C h1);rw[jdb];have:=jDs i (by omega) (i+1+j) (by omega) (by omega);by_cases h:b.1=b'.1
   ·exact .inr ⟨h,.inl this⟩
   ·exact .inl (by show b.1<b'.1;omega)
  ·exact ih
theorem jnd {ds:List Dd}{z:Str}{x:Int}:(z,x)∈kOf ds ↔ ∃d∈ds,d.k=.inr z/\d.day=x:=by
 unfold kOf;rw[j1c];constructor
 ·rintro⟨d,hd,h⟩
  cases hk:d.k with
  |inl m=>rw[hk]at h;cases h
  |inr of=>
   rw[hk]at h;cases h;exact⟨d,hd,hk,rfl⟩
 ·rintro⟨d,hd,h1,h2⟩;exact⟨d,hd,by rw[h1,h2]⟩
theorem jsg (D:Int):∀(bs:List Bu) (i:Nat),(∀b∈bs,b.1<=D)->bOf (jay i bs)=jhs D i bs:=fun bs i h=>by
 rw[<- jkl D bs i]
 suffices ∀(bs:List Bu) (i:Nat),(∀b∈bs,b.1<=D)->bOf (jay i bs)=bOf ((jay i bs).filter fun d=>decide (d.day<=D))from this bs i h
 intro bs
 induction bs with
 |nil=>exact fun i _=>rfl
 |cons b bs ih=>
  intro i h;unfold jay;rw[List.filter_append,jnV,jnV,<- ih (i+1) fun x hx=>h x (j0p _ hx)];congr 1;have hb:=h b j0v;unfold jkg
  cases b.2.2 with
  |none=>simp[hb,bOf]
  |some x=>by_cases hx:x<=D<;>simp[hb,hx,bOf]
theorem jr1:∀(bs:List Bu) (i:Nat),i+bs.length<=6->((jay i bs).map (·.ref)).Nodup
 |[],_,_=>List.nodup_nil
 |b::bs,i,hl=>by
  rw[j0j]at hl;unfold jay;rw[j0y];refine j1s.mpr ⟨?_,jr1 bs (i+1) (by omega),fun x hx y hy e=>?_⟩
  ·unfold jkg
   cases b.2.2 with
   |none=>simp
   |some d=>simpa using jx5 i (by omega) i (by omega)
  ·obtain⟨d,hd,rfl⟩:=j0s.mp hx;obtain⟨d',hd',rfl⟩:=j0s.mp hy;obtain⟨j,b',h1,h2⟩:=jbF.mp hd';have hj:j<bs.length:=(j0g.mp h1).1;rcases jb3.mp hd with rfl|⟨_,_,rfl⟩<;>rcases jb3.mp h2 with rfl|⟨_,_,rfl⟩
   ·have:=js2 i (by omega) (i+1+j) (by omega) e;omega
   ·exact jx5 i (by omega) (i+1+j) (by omega) e
   ·exact jx5 (i+1+j) (by omega) i (by omega) e.symm
   ·have:=jBB i (by omega) (i+1+j) (by omega) e;omega
theorem joh:∀(bs:List Bu) (i:Nat),i+bs.length<=6->((kOf (jay i bs)).map (·.1)).Nodup
 |[],_,_=>List.nodup_nil
 |b::bs,i,hl=>by
  rw[j0j]at hl;unfold jay;rw[show kOf (jkg i b++jay (i+1) bs)=kOf (jkg i b)++kOf (jay (i+1) bs)from List.filterMap_append,j0y];refine j1s.mpr ⟨?_,joh bs (i+1) (by omega),fun x hx y hy e=>?_⟩
  ·unfold jkg
   cases b.2.2 with
   |none=>simp[kOf]
   |some d=>simp[kOf]
  ·obtain⟨⟨z,w⟩,hz,rfl⟩:=j0s.mp hx;obtain⟨⟨z',w'⟩,hz',rfl⟩:=j0s.mp hy;obtain⟨d,hd,k1,_⟩:=jnd.mp hz;obtain⟨d',hd',k2,_⟩:=jnd.mp hz';obtain⟨j,b',h1,h2⟩:=jbF.mp hd';have hj:j<bs.length:=(j0g.mp h1).1;rcases jb3.mp hd with rfl|⟨_,_,rfl⟩
   ·cases k1
   ·rcases jb3.mp h2 with rfl|⟨_,_,rfl⟩
    ·cases k2
    ·cases k1;cases k2;have:=js2 i (by omega) (i+1+j) (by omega) e;omega
theorem fct (bs:List Bu)(g:GoodB bs):Fct (jay 0 bs):=by
 have hl:0+bs.length<=6:=by have:=g.ln;omega
 obtain⟨D,hD⟩:∃D:Int,∀b∈bs,b.1<=D:=by
  clear g hl
  induction bs with
  |nil=>exact⟨0,fun b hb=>nomatch hb⟩
  |cons b bs ih=>
   obtain⟨D,h⟩:=ih;refine⟨max D b.1,fun x hx=>?_⟩;rcases j0q.mp hx with rfl|hx
   ·omega
   ·have:=h x hx;omega
 have hb:=jsg D bs 0 hD;refine⟨by rw[hb];exact joF D bs 0 hl g.up,jr1 bs 0 hl,joh bs 0 hl,fun e he=>?_,fun d hd of hk=>?_,by have:=jvG bs 0;have:=g.ln;omega⟩
 ·rw[hb]at he;obtain⟨j,b,h1,rfl⟩:=jiR D he;exact(g.d0 b (j0C h1)).2.1
 ·obtain⟨j,b,h1,h2⟩:=jbF.mp hd;have hj:j<bs.length:=(j0g.mp h1).1;rcases jb3.mp h2 with rfl|⟨x,hx,rfl⟩
  ·cases hk
  ·cases hk;refine⟨⟨rf (0+j),b.1,.inl b.2.1⟩,jbF.mpr ⟨j,b,h1,jb3.mpr (.inl rfl)⟩,b.2.1,rfl,rfl,?_⟩;rw[jdb];have h3:=(g.d0 b (j0C h1)).2.2 x hx;by_cases h:b.1=x
   ·exact .inr ⟨h,.inl (jtY (0+j) (by omega))⟩
   ·exact .inl (by show b.1<x;omega)
noncomputable def jcI (D:Int)(bs:List Bu):List Bu:=(bs.filter fun b=>decide (b.1<=D)).map fun b=>(b.1,b.2.1,b.2.2.filter fun x=>decide (x<=D))
noncomputable def jd6 (span:Int)(b:Bu):Sp:=(b.1,jl8 (b.1+span) b.2.2,b.2.1)
theorem jp2 {bk:List (Str×Int)}(nd:(bk.map (·.1)).Nodup){z:Str}{x:Int}:jdP bk z=some x↔(z,x)∈bk:=by
 unfold jdP
 induction bk with
 |nil=>simp
 |cons b bk ih=>
  rw[j0c]at nd;have nd':=j01.mp nd;by_cases h:b.1=z
  ·rw[List.find?_cons_of_pos (by simpa using h)];obtain⟨b1,b2⟩:=b;simp only at h;subst h;constructor
   ·intro e;cases e;exact j0v
   ·intro e;rcases j0q.mp e with e|e
    ·cases e;rfl
    ·exact absurd (j0s.mpr ⟨_,e,rfl⟩) nd'.1
  ·rw[List.find?_cons_of_neg (by simpa using h),ih nd'.2];constructor
   ·exact fun e=>j0p _ e
   ·intro e;rcases j0q.mp e with e|e
    ·exact absurd (by rw[<- e]) h
    ·exact e
theorem jhe (span D:Int)(bk:List (Str×Int)):∀(bs:List Bu) (i:Nat),(∀j b,bs[j]?=some b->jdP bk (rf (i+j))=b.2.2.filter fun x=>decide (x<=D))->jc5 span (jhs D i bs) bk=(jcI D bs).map (jd6 span)
 |[],_,_=>rfl
 |b::bs,i,h=>by
  have h0:jdP bk (rf i)=b.2.2.filter fun x=>decide (x<=D):=h 0 b rfl;have ih:=jhe span D bk bs (i+1) fun j b' hj=>by
   have:=h (j+1) b' hj;rw[show i+(j+1)=i+1+j from by omega]at this;exact this
  unfold jhs jcI;by_cases hb:b.1<=D
  ·rw[if_pos hb,j0t (by simpa using hb)];unfold jc5 at ih ⊢;rw[j0c,j0c,j0c,ih];unfold jd6 jcI;simp only[h0]
  ·rw[if_neg hb,j0z (by simpa using hb)];exact ih
theorem jgj {bs:List Bu}(g:GoodB bs)(span D:Int){s:Sta}(h1:s.ek=bOf ((jay 0 bs).filter fun d=>decide (d.day<=D)))(h2:s.bk.Perm (kOf ((jay 0 bs).filter fun d=>decide (d.day<=D)))):jc5 span s.ek s.bk=(jcI D bs).map (jd6 span):=by
 have hl:=g.ln;have nd:(s.bk.map (·.1)).Nodup:=((h2.map (·.1)).nodup_iff).mpr (((fct bs g).filter D).nb);rw[h1,jkl];refine jhe span D s.bk bs 0 fun j b hj=>?_;have hjl:j<bs.length:=(j0g.mp hj).1;refine Option.ext fun x=>?_;rw[jp2 nd,h2.mem_iff,jnd];constructor
 ·rintro⟨d,hd,k1,k2⟩;obtain⟨hm,hc⟩:=j0u.mp hd;obtain⟨j',b',e1,e2⟩:=jbF.mp hm;have hjl':j'<bs.length:=(j0g.mp e1).1;rcases jb3.mp e2 with rfl|⟨y,hy,rfl⟩
  ·cases k1
  ·have:j'=j:=by
    have:=js2 (0+j') (by omega) (0+j) (by omega) (Sum.inr.inj k1);omega
   subst this;rw[e1]at hj;cases hj;simp only at k2;subst k2;rw[hy];simpa[Option.filter]using hc
 ·intro h;obtain⟨hx,hc⟩:=Option.filter_eq_some_iff.mp h;exact⟨⟨tk (0+j),x,.inr (rf (0+j))⟩,j0u.mpr ⟨jbF.mpr ⟨j,b,hj,jb3.mpr (.inr ⟨x,hx,rfl⟩)⟩,hc⟩,rfl,rfl⟩
theorem jsF {bs:List Bu}(g:GoodB bs)(span D:Int):Pos ((jcI D bs).map (jd6 span)):=fun s hs=>by
 obtain⟨b,hb,rfl⟩:=j0s.mp hs;obtain⟨b',hb',rfl⟩:=j0s.mp hb;exact(g.d0 b' (j0u.mp hb').1).2.1
theorem jrZ (D:Int)(bs:List Bu):(jcI D bs).length<=bs.length:=by
 unfold jcI;rw[j0d];exact j0P _ _
def js7 (σ:M)(d:D)(xs:List D):Prop:=∀ν,jhc (σ++ν) d=some xs
theorem js7.at {σ:M}{d:D}{xs:List D}(h:js7 σ d xs):itD .seq [d] σ=some xs:=by
 have:=h [];rw[j0x]at this;exact this
theorem js7.app {σ:M}{d:D}{xs:List D}(h:js7 σ d xs)(ν:M):js7 (σ++ν) d xs:=fun ν'=>by
 rw[j0n];exact h _
theorem jy3 (x span:Int)(b:Bu):onB x (jd6 span b)=((decide (x - span<b.1)&&decide (b.1<=x))&&(match b.2.2 with|none=>true|some y=>decide (x<y))):=by
 obtain⟨d,m,o⟩:=b;unfold onB jd6 jl8;rw[j1a]
 cases o with
 |none=>
  simp only[j0a,decide_eq_true_eq,Option.getD_none,Int.lt_irrefl,if_false,and_true];constructor<;>(rintro⟨h1,h2⟩;omega)
 |some y=>
  simp only[j0a,decide_eq_true_eq,Option.getD_some];split
  ·constructor<;>intro h<;>omega
  ·constructor<;>intro h<;>omega
theorem jjG {ok:M->Bool}(a:D)(span x:Int)(σ:M)(hok:ok σ=true):∀(bs:List Bu) (t:Int),jf4 ok (.tp [4,5,6]) (runs jdx jbY) [4,5,6] (bs.map buD) [some a,some (.int span),some (.int x),some (.int t),none,none,none] σ=.ok (.nx [some a,some (.int span),some (.int x),some (.int (t+jbO (bs.map (jd6 span)) x)),none,none,none]) σ
 |[],t=>by
  rw[j0B,jaL hok,j0B,show jbO [] x=0 from rfl,Int.add_zero];rfl
 |b::bs,t=>by
  have ep:jbO ((b::bs).map (jd6 span)) x=(if onB x (jd6 span b)=true then b.2.1 else 0)+jbO (bs.map (jd6 span)) x:=by
   unfold jbO;rw[j0c]
   cases h:onB x (jd6 span b)with
   |true=>
    rw[j0t h,j0c,List.sum_cons,if_pos rfl];rfl
   |false=>
    rw[j0z (by simp[h]),if_neg (by decide),Int.zero_add]
  rw[j0c,jaq (ρ1:=[some a,some (.int span),some (.int x),some (.int t),some (.int b.1),some (.int b.2.1),some (jnq b.2.2)]) (ρ2:=[some a,some (.int span),some (.int x),some (.int (t+if onB x (jd6 span b)=true then b.2.1 else 0)),some (.int b.1),some (.int b.2.1),some (jnq b.2.2)]) (μ2:=σ) hok rfl ?_]
  ·rw[ep,<- Int.add_assoc];exact jjG a span x σ hok bs _
  ·obtain⟨d,m,o⟩:=b;have hc:=jy3 x span (d,m,o);unfold jbY;symm;by_cases h1:x - span<d
   ·rwa[decide_eq_true h1];by_cases h2:d<=x
    ·rw[decide_eq_true h2]
     cases o with
     |none=>
      rw[if_pos (hc.trans (by simp[h1,h2]))];unfold jnq;symm
     |some y=>
      by_cases h3:x<y
      ·rw[if_pos (hc.trans (by simp[h1,h2,h3]))];unfold jnq;symm;rwa[decide_eq_true h3]
      ·rw[show onB x (jd6 span _)=false from hc.trans (by simp[h3]),if_neg j0e,Int.add_zero];unfold jnq;symm;rwa[decide_eq_false h3]
    ·rwa[decide_eq_false h2,show onB x (jd6 span _)=false from hc.trans (by simp[h2])];rw[Int.add_zero]
   ·rwa[decide_eq_false h1,show onB x (jd6 span _)=false from hc.trans (by simp[h1])];rw[Int.add_zero]
theorem jmM {σ:M}{d:D}{kn:List Bu}(h:js7 σ d (kn.map buD))(span x:Int):jah .frz jbt.F [d,.int span,.int x] σ=.ok (.int (jbO (kn.map (jd6 span)) x)) σ:=by
 refine jac (F:=jcV) ?_ jas;unfold jcV jc9;symm;rwa[jaO h.at,jjG _ _ _ _ (jap h.at)];rw[Int.zero_add]
theorem jlJ {σ:M}{d:D}{kn:List Bu}(h:js7 σ d (kn.map buD)){ts:List Int}(ht:ts.length<=1000)(span x:Int):jah .frz jdk.F [.lst (ts.map D.int),d,.int span,.int x] σ=.ok (.int (plain ts (kn.map (jd6 span)) x:Int)) σ:=by
 refine jac (F:=jfN) ?_ jas;have hq:∀p:Int,(ev jfm jdh).v [some (.lst (ts.map D.int)),some d,some (.int span),some (.int x),some (.int p)] σ=.ok (.lst ((ts.filter fun t=>decide (t<=p)).map D.int)) σ:=fun p=>by
  unfold jdh;rw[jat (ds:=[.lst (ts.map D.int)]) (xs:=ts) (e:=D.int) (fun t=>decide (t<=p)) D.int (by symm) rfl (jaa ht) fun s hs=>⟨_,rfl,by symm,fun _=>by symm⟩];rfl
 unfold jfN jfS;symm;rwa[jmM h];rwa[hq];rwa[jeD];rw[j0d];rfl
noncomputable def jgC (span:Int)(b:Bu):List Int:=[b.1,b.1+span - 1,b.1+span]++b.2.2.toList
noncomputable def jb (span:Int)(bs:List Bu):List Int:=0::bs.flatMap (jgC span)
theorem jq3 (span:Int):∀bs:List Bu,(bs.flatMap (jgC span)).length<=4*bs.length
 |[]=>j0l _
 |b::bs=>by
  have:=jq3 span bs;rw[List.flatMap_cons,j0o,j0j];have h:(jgC span b).length<=4:=by
   unfold jgC;cases b.2.2<;>simp
  omega
theorem jwQ {σ:M}{k:Nat}{xs ys:List D}(h:σ[k]?=some (some (.lst xs)))(hl:xs.length+ys.length<=1000):jlA .Add true (.cel k) (.lst ys) σ=.ok (.cel σ.length) (σ++[some (.lst (xs++ys))]):=by
 unfold jlA jC1;simp only[je9,h];rw[if_pos (jaa hl),jA7]
theorem jj8 {ok:M->Bool}(a:D)(span:Int):∀(bs:List Bu) (acc:List Int) (σ:M),(∀ν,ok (σ++ν)=true)->acc.length+4*bs.length<=900->∃ν:M,jf4 ok (.tp [3,4,5]) (runs jfF jcR) [3,4,5] (bs.map buD) [some a,some (.int span),some (.cel σ.length),none,none,none] (σ++[some (.lst (acc.map D.int))])=.ok (.nx [some a,some (.int span),some (.cel (σ++ν).length),none,none,none]) (σ++ν++[some (.lst ((acc++bs.flatMap (jgC span)).map D.int))])
 |[],acc,σ,hok,_=>⟨[],by
  rw[j0B,jaL (hok _),List.flatMap_nil,j0x,j0x];rfl⟩
 |b::bs,acc,σ,hok,hl=>by
  rw[j0j]at hl;have ho:(jgC span b).length<=4:=by
   unfold jgC;cases b.2.2<;>simp
  obtain⟨ν,ih⟩:=jj8 a span bs (acc++jgC span b) (σ++[some (Cl.lst (acc.map D.int))]) (fun ν=>by rw[j0n];exact hok _) (by rw[j0o];omega);refine⟨[some (.lst (acc.map D.int))]++ν,?_⟩;rw[j0c,jaq (ρ1:=[some a,some (.int span),some (.cel σ.length),some (.int b.1),some (.int b.2.1),some (jnq b.2.2)]) (ρ2:=[some a,some (.int span),some (.cel (σ++[some (Cl.lst (acc.map D.int))]).length),some (.int b.1),some (.int b.2.1),some (jnq b.2.2)]) (μ2:=σ++[some (.lst (acc.map D.int))]++[some (.lst ((acc++jgC span b).map D.int))]) (hok _) rfl ?_]
  ·rw[List.flatMap_cons,<- j0n acc,<- j0n σ];exact ih
  ·obtain⟨d,m,o⟩:=b;unfold jcR;symm;rwa[jwQ jbD (by simp;omega)]
   cases o with
   |none=>
    unfold jnq jgC;symm;simp only[Option.toList_none,j0x,j0y];rfl
   |some y=>
    unfold jnq jgC;symm;rwa[jhH (jaa (n:=_+1) (by simp;omega))];simp only[Option.toList_some,j0y,j0n];rfl
theorem jyV {σ:M}{n0 k:Nat}{ds:List D}(h:σ[k]?=some (some (.lst ds)))(hk:n0<=k)(hd:∀h,frzGs h ds=some ds):jqc σ n0 (.cel k)=some (.lst ds):=by
 unfold jqc;unfold jbn;unfold jht;rw[if_neg (by omega),if_neg (by simp)];dsimp only;rw[h];dsimp only;rw[hd];rfl
theorem joP {σ:M}{d:D}{kn:List Bu}(h:js7 σ d (kn.map buD))(hl:kn.length<=100)(span:Int):jah .frz jda.F [d,.int span] σ=.ok (.lst ((jb span kn).map D.int)) σ:=by
 obtain⟨ν,hst⟩:=jj8 (ok:=jdG .seq [d] (kn.map buD)) d span kn [0] σ (fun ν=>jap (h.app ν).at) (by simp;omega);refine ja4 (F:=jfu) (ν:=ν++[some (.lst ((jb span kn).map D.int))]) (d:=.cel (σ++ν).length) ?_ (jyV (by rw[<- j0n];exact jbD) (by simp) fun _=>jaC (fun _=>jas) _);unfold jfu jfo;symm;rw[jaO (h.app _).at];rw[<- j0n];refine(congrArg (fun o=>jwF (jyY o _)) hst).trans ?_;symm;rfl
theorem jun {σ:M}{d:D}{kn:List Bu}(h:js7 σ d (kn.map buD))(hl:kn.length<=50){ts:List Int}(ht:ts.length<=1000){span grace x:Int}(hp:Pos (kn.map (jd6 span)))(hx:0<=x)(hg:0<=grace):jah .frz jg0.F [.lst (ts.map D.int),d,.int span,.int grace,.int x] σ=.ok (.int (jee ts (kn.map (jd6 span)) grace x:Int)) σ:=by
 refine jac (F:=jgR) ?_ jas;have hel:(jb span kn).length<=201:=by
  have:=jq3 span kn;unfold jb;rw[j0j];omega
 have hfl:((jb span kn).filter fun e=>decide (max 0 (x - grace)<=e)&&decide (e<=x)).length<=201:=j0A (j0P _ _) hel;obtain⟨r,hr,top⟩:=jsR (ts:=ts) hp (show max (x - grace) 0<=x by omega) ([max 0 (x - grace),x]++(jb span kn).filter fun e=>decide (max 0 (x - grace)<=e)&&decide (e<=x)) (fun y hy=>by
  rcases j0I.mp hy with e|e
  ·rcases j0q.mp e with e|e
   ·omega
   ·have:y=x:=by simpa using e
    omega
  ·have:=(j0u.mp e).2;simp only[j0a,decide_eq_true_eq]at this;omega) (by rw[Int.max_comm];simp) fun s hs h1 h2=>by
  obtain⟨b,hb,rfl⟩:=j0s.mp hs;refine j0r _ (j0u.mpr ⟨j0p _ (List.mem_flatMap.mpr ⟨b,hb,by simp[jgC,jd6]⟩),?_⟩);simp only[j0a,decide_eq_true_eq];omega
 have q0:∀o6:Option D,(ev jeM jd7).v [some (.lst (ts.map D.int)),some d,some (.int span),some (.int grace),some (.int x),some (.int (max 0 (x - grace))),o6] σ=.ok (.lst (((jb span kn).filter fun e=>decide (max 0 (x - grace)<=e)&&decide (e<=x)).map D.int)) σ:=fun o6=>by
  unfold jd7;rw[jat (ds:=[.lst ((jb span kn).map D.int)]) (xs:=jb span kn) (e:=D.int) (fun e=>decide (max 0 (x - grace)<=e)&&decide (e<=x)) D.int (by
   symm;rw[joP h (by omega)];symm) rfl (jaa (by omega)) fun s hs=>⟨_,rfl,by
   symm;by_cases hc:max 0 (x - grace)<=s
   ·rwa[decide_eq_true hc];rw[Bool.true_and]
   ·rwa[decide_eq_false hc];rw[Bool.false_and],fun _=>by symm⟩]
  rfl
 obtain⟨ys,hys⟩:∃ys,[max 0 (x - grace),x]++(jb span kn).filter (fun e=>decide (max 0 (x - grace)<=e)&&decide (e<=x))=ys:=⟨_,rfl⟩;have hyl:ys.length<=203:=by rw[<- hys,j0o];simp only[j0j,j1b];omega
 rw[hys]at hr;have q1:(ev jeM jdO).v [some (.lst (ts.map D.int)),some d,some (.int span),some (.int grace),some (.int x),some (.int (max 0 (x - grace))),some (.lst (ys.map D.int))] σ=.ok (.lst ((ys.map fun y=>(plain ts (kn.map (jd6 span)) y:Int)).map D.int)) σ:=by
  unfold jdO;rw[jat (ds:=[.lst (ys.map D.int)]) (xs:=ys) (e:=D.int) (fun _=>true) (fun y=>.int (plain ts (kn.map (jd6 span)) y:Int)) (by symm) rfl (jaa (by omega)) fun y hy=>⟨_,rfl,by symm,fun _=>by
   symm;rw[jlJ h ht]⟩]
  rw[j0L.mpr fun _ _=>rfl,jx4];simp only[j1m,Function.comp_def]
 unfold jgR jgJ;symm;rwa[jnQ];rwa[q0];rwa[jil (jaa (by simp only[j0j,j1b,j0d];omega))];rwa[show D.int (max 0 (x - grace))::D.int x::((jb span kn).filter fun e=>decide (max 0 (x - grace)<=e)&&decide (e<=x)).map D.int=([max 0 (x - grace),x]++(jb span kn).filter fun e=>decide (max 0 (x - grace)<=e)&&decide (e<=x)).map D.int from rfl,hys,q1];rwa[jkJ (by rw[<- hys];simp),hr,jvm top (jhD hp hx hg)]
theorem jt {i j:Nat}{ρ:S3}{a b:D}{μ:M}:jDk (.tp [i,j]) ρ (.tup [a,b]) μ=.ok (.nx ((ρ.set i (some a)).set j (some b))) μ:=nr rfl
section
variable (S0:D) (span grace:Int) (ts:List Int) (bs:List Bu) (m D0:Int) (s:Sta)
noncomputable abbrev LS (o14 o15 o16 o17 o18 o19 o20 o21 o22:Option D):S3:=[some S0,some (.int span),some (.int grace),some (.lst (ts.map D.int)),some (.lst ((jay 0 bs).map Dd.dat)),some (.lst (bs.map buD)),some (.lst (rkD ts)),some (hsD (rkD ts) span grace),some (bkD (rkD ts) span grace),some (.lst ((jb span bs).map D.int)),some (.int m),some (.int D0),some (stD s),some (.lst (((jay 0 bs).filter fun d=>decide (d.day<=D0)).map Dd.dat)),o14,o15,o16,o17,o18,o19,o20,o21,o22]
theorem jpy (D:Int)(b:Bu)(xs:List Bu):jcI D (b::xs)=(if b.1<=D then [(b.1,b.2.1,b.2.2.filter fun x=>decide (x<=D))]else [])++jcI D xs:=by
 unfold jcI;by_cases h:b.1<=D
 ·rw[if_pos h,j0t (by simpa using h)];rfl
 ·rw[if_neg h,j0z (by simpa using h)];rfl
theorem jjI {ok:M->Bool}(hok:∀ν,ok ν=true):∀(xs acc:List Bu),acc.length+xs.length<=100->jf4 ok (.tp [15,16,17]) (runs jm6 jnp) [15,16,17] (xs.map buD) (LS S0 span grace ts bs m D0 s (some (.cel 0)) none none none none none none none none) [some (.lst (acc.map buD))]=.ok (.nx (LS S0 span grace ts bs m D0 s (some (.cel 0)) none none none none none none none none)) [some (.lst ((acc++jcI D0 xs).map buD))]
 |[],acc,_=>by
  rw[j0B,jaL (hok _),show jcI D0 []=[]from rfl,j0x];rfl
 |b::xs,acc,hl=>by
  rw[j0j]at hl;have hl1:(if b.1<=D0 then [((b.1,b.2.1,b.2.2.filter fun x=>decide (x<=D0)):Bu)]else []).length<=1:=by split<;>simp
  rw[j0c,jaq (ρ1:=LS S0 span grace ts bs m D0 s (some (.cel 0)) (some (.int b.1)) (some (.int b.2.1)) (some (jnq b.2.2)) none none none none none) (ρ2:=LS S0 span grace ts bs m D0 s (some (.cel 0)) (some (.int b.1)) (some (.int b.2.1)) (some (jnq b.2.2)) none none none none none) (μ2:=[some (.lst ((acc++if b.1<=D0 then [(b.1,b.2.1,b.2.2.filter fun x=>decide (x<=D0))]else []).map buD))]) (hok _) rfl ?_]
  ·have:=jjI hok xs (acc++if b.1<=D0 then [(b.1,b.2.1,b.2.2.filter fun x=>decide (x<=D0))]else []) (by rw[j0o];omega);rw[jpy];rw[j0n]at this;exact this
  ·have ap:=fun d=>jx7 (σ:=[some (.lst (acc.map buD))]) (k:=0) (xs:=acc.map buD) (d:=d) rfl (by rw[j0d];omega);unfold jnp;symm;by_cases h:b.1<=D0
   ·rwa[decide_eq_true h,if_pos h];rw[if_pos (ap .non).1];obtain⟨d,p,o⟩:=b
    cases o with
    |none=>
     unfold jnq;symm;rwa[(ap _).2];rw[j0y];rfl
    |some y=>
     unfold jnq;symm;by_cases hy:y<=D0
     ·rwa[decide_eq_true hy];rwa[(ap _).2];rw[j0y];simp only[Option.filter,decide_eq_true hy,if_true];rfl
     ·rwa[decide_eq_false hy];rwa[(ap _).2];rw[j0y];simp only[Option.filter,decide_eq_false hy];rfl
   ·rwa[decide_eq_false h,if_neg h,j0x]
theorem ne3 {σ:M}{k:Nat}{a b c:Int}(h:σ[k]?=some (some (.lst [.int a,.int b,.int c]))):jeT .NotEq (.cel k) (.lst [.int a,.int b,.int c]) σ=.ok (.bl false) σ:=by
 unfold jeT js5 jnZ eqN;simp[jlm,je9,h,js4,eqD,eqV]
variable (kn:List Bu)
theorem jmk {ok:M->Bool}(hok:∀ν,ok ν=true)(hkn:kn.length<=50)(ht:ts.length<=1000)(hl:s.ek.length<=50)(hs:jc5 span s.ek s.bk=kn.map (jd6 span))(hp:Pos (kn.map (jd6 span)))(hg:0<=grace):∀(xs:List Int) (τ:M),(∀x∈xs,0<=x)->∃τ':M,jf4 ok (.nm 18) (runs jm6 jnu) [18,19,20] (xs.map D.int) (LS S0 span grace ts bs m D0 s (some (.cel 0)) none none none none none none none none) (some (.lst (kn.map buD))::τ)=.ok (.nx (LS S0 span grace ts bs m D0 s (some (.cel 0)) none none none none none none none none)) (some (.lst (kn.map buD))::τ')
 |[],τ,_=>⟨τ,by
  rw[j0B,jaL (hok _)];rfl⟩
 |x::xs,τ,hx=>by
  have x0:=hx x j0v;obtain⟨τ',ih⟩:=jmk hok hkn ht hl hs hp hg xs (τ++[some (.lst [.int (jbO (kn.map (jd6 span)) x),.int (plain ts (kn.map (jd6 span)) x:Int),.int (jee ts (kn.map (jd6 span)) grace x:Int)])]) fun y hy=>hx y (j0p _ hy);refine⟨τ',?_⟩;rw[j0c,jaq (ρ1:=LS S0 span grace ts bs m D0 s (some (.cel 0)) none none none (some (.int x)) none none none none) (ρ2:=LS S0 span grace ts bs m D0 s (some (.cel 0)) none none none (some (.int x)) (some (.cel (some (Cl.lst (kn.map buD))::τ).length)) (some (.lst [.int (jbO (kn.map (jd6 span)) x),.int (plain ts (kn.map (jd6 span)) x:Int)])) none none) (μ2:=some (.lst (kn.map buD))::(τ++[some (.lst [.int (jbO (kn.map (jd6 span)) x),.int (plain ts (kn.map (jd6 span)) x:Int),.int (jee ts (kn.map (jd6 span)) grace x:Int)])])) (hok _) rfl ?_]
  ·exact ih
  ·obtain⟨σ,hσ⟩:∃σ:M,some (.lst (kn.map buD))::τ=σ:=⟨_,rfl⟩;have se:js7 σ (.cel 0) (kn.map buD):=fun ν=>by rw[<- hσ];rfl
   have c1:=fun ν=>jjR (ts:=ts) (span:=span) (grace:=grace) (s:=s) hl x ν;have c2:=fun ν=>jkv (ts:=ts) (span:=span) (grace:=grace) (s:=s) hl ht x ν;have c3:=fun ν=>jm8 (ts:=ts) (span:=span) (grace:=grace) (s:=s) hl ht x ν;rw[hs]at c1 c2 c3;have add3:∀(a b c:D) (ν:M),jlA .Add false (.lst [a,b]) (.lst [c]) ν=.ok (.lst [a,b,c]) ν:=fun a b c ν=>jil (jaa (show 2+1<=1000 by decide));rw[<- List.cons_append,hσ];unfold jnu;symm;rwa[c1];rwa[c2];rwa[c3];rwa[jhH (xs:=[_,_]) (jaa (n:=3) (by decide))];rwa[jmM (se.app _)];rwa[jlJ (se.app _) ht];rwa[jun (se.app _) hkn ht hp x0 hg];rwa[add3];rwa[ne3 jbD]
end
theorem juP (ns:List Int)(hn:ns.length<=63):∃μ,jBr [.scr (ns.map D.int)] []=.ok (.bl true) μ:=by
 have at0:∀μ:M,jah .frz ja3.F [ji1 ns,.int 0] μ=.ok (.int (ns.getD 0 0)) μ:=jnl ns 0;have at1:∀μ:M,jah .frz ja3.F [ji1 ns,.int 1] μ=.ok (.int (ns.getD 1 0)) μ:=jnl ns 1;have at26:∀μ:M,jah .frz ja3.F [ji1 ns,.int 26] μ=.ok (.int (ns.getD 26 0)) μ:=jnl ns 26;obtain⟨sp',sp0,sp1,hsp⟩:=jjO (ns.getD 0 0) 7 (by decide) (by decide);obtain⟨grace,g0,g1,hgr⟩:=jjO (ns.getD 1 0) 8 (by decide) (by decide);obtain⟨ts,tl,t1,tr,hts⟩:=jq9 ns [];obtain⟨bs,gb,hbs⟩:=juJ ns [];obtain⟨m,m0,_,hm⟩:=jl7 (ns.getD 26 0) 9 (by decide) (by decide);obtain⟨span,hspan⟩:∃span:Int,1+sp'=span:=⟨_,rfl⟩;have bl:=gb.ln;have hel:(jb span bs).length<=25/\0<(jb span bs).length:=by
  have:=jq3 span bs;unfold jb;rw[j0j];omega
 obtain⟨e,_,he⟩:=jkU (xs:=jb span bs) (i:=m % ((jb span bs).length:Int)) (Int.emod_nonneg _ (by omega)) (Int.emod_lt_of_pos _ (by omega));obtain⟨dl,_,hdl⟩:=jkU (xs:=[0,1,-1,0]) (i:=m / 100 % 4) (by omega) (by show m / 100 % 4<4;omega);obtain⟨D0,hD⟩:∃D0:Int,max 0 (e+dl)=D0:=⟨_,rfl⟩;have D00:0<=D0:=by omega
 have f:=fct bs gb;obtain⟨s,s1,s2,s3,hs⟩:=jms (ts:=ts) (span:=span) (grace:=grace) (jay 0 bs) f D0 [];have hsl:∀t:Sta,t.ek=bOf ((jay 0 bs).filter fun d=>decide (d.day<=D0))->t.ek.length<=50:=fun t ht=>by
  rw[ht];have h1:(bOf ((jay 0 bs).filter fun d=>decide (d.day<=D0))).length<=_:=List.length_filterMap_le _ _;have h2:((jay 0 bs).filter fun d=>decide (d.day<=D0)).length<=_:=j0P _ _;have:=f.ln;omega
 have hpos:=jsF gb span D0;have hknl:=jrZ D0 bs;have hspl:=jgj gb span D0 s2 s3;have q0:(ev jm6 jmY).v [some (ji1 ns),some (.int span),some (.int grace),some (.lst (ts.map D.int)),some (.lst ((jay 0 bs).map Dd.dat)),some (.lst (bs.map buD)),none,none,none,none,none,none,none,none,none,none,none,none,none,none,none,none,none] []=.ok (.lst (rkD ts)) []:=by
  unfold jmY;rw[jat (ds:=[.lst (ts.map D.int)]) (xs:=ts) (e:=D.int) (fun _=>true) (fun t=>.tup [.int t,.str "rank"]) (by symm) rfl (jaa (by omega)) fun t _=>⟨_,rfl,by symm,fun _=>by symm⟩];rw[j0L.mpr fun _ _=>rfl];rfl
 have q1:(ev jm6 jnA).v [some (ji1 ns),some (.int span),some (.int grace),some (.lst (ts.map D.int)),some (.lst ((jay 0 bs).map Dd.dat)),some (.lst (bs.map buD)),some (.lst (rkD ts)),some (hsD (rkD ts) span grace),some (bkD (rkD ts) span grace),some (.lst ((jb span bs).map D.int)),some (.int m),some (.int D0),some (stD s),none,none,none,none,none,none,none,none,none,none] []=.ok (.lst (((jay 0 bs).filter fun d=>decide (d.day<=D0)).map Dd.dat)) []:=by
  have i2:∀(d:Dd) (μ:M),ixD d.dat (.int 2) μ=.ok (.int d.day) μ:=fun d μ=>by
   unfold Dd.dat;cases d.k<;>exact nr rfl
  have:=f.ln;unfold jnA;rw[jat (ds:=[.lst ((jay 0 bs).map Dd.dat)]) (xs:=jay 0 bs) (e:=Dd.dat) (fun d=>decide (d.day<=D0)) Dd.dat (by symm) rfl (jaa (by omega)) fun d _=>⟨_,rfl,by
   symm;rw[i2];symm,fun _=>by symm⟩]
  rfl
 have q2:∀σ:M,(ev jm6 jnT).v (LS (ji1 ns) span grace ts bs m D0 s (some (.cel 0)) none none none none none none none none) σ=.ok (.lst (((jb span bs).filter fun x=>decide (x<D0)).map D.int)) σ:=fun σ=>by
  unfold jnT;rw[jat (ds:=[.lst ((jb span bs).map D.int)]) (xs:=jb span bs) (e:=D.int) (fun x=>decide (x<D0)) D.int (by symm) rfl (jaa (by omega)) fun d _=>⟨_,rfl,by symm,fun _=>by symm⟩];rfl
 have hfl:((jb span bs).filter fun x=>decide (x<D0)).length<=25:=j0A (j0P _ _) hel.1;have e0:∀x∈(jb span bs).filter (fun x=>decide (x<D0))++[D0],0<=x:=fun x hx=>by
  rcases j0I.mp hx with h|h
  ·rcases j0q.mp (j0u.mp h).1 with h|h
   ·omega
   ·obtain⟨b,hb,h⟩:=List.mem_flatMap.mp h;obtain⟨b1,_,b3⟩:=gb.d0 b hb;unfold jgC at h;rcases j0I.mp h with h|h
    ·simp only[j0q,j1A,or_false]at h;omega
    ·have:=b3 x (by simpa using h);omega
  ·have:x=D0:=by simpa using h
   omega
 have hi1:∀ν:M,itD .seq [.lst (bs.map buD)] ν=some (bs.map buD):=fun ν=>rfl;have hi2:∀ν:M,itD .seq [.lst (((jb span bs).filter (fun x=>decide (x<D0))++[D0]).map D.int)] ν=some (((jb span bs).filter (fun x=>decide (x<D0))++[D0]).map D.int):=fun ν=>rfl;have lp1:=jjI (ji1 ns) span grace ts bs m D0 s (ok:=jdG .seq [.lst (bs.map buD)] (bs.map buD)) (fun ν=>jap (hi1 ν)) bs [] (by simp;omega);obtain⟨τ,lp2⟩:=jmk (ji1 ns) span grace ts bs m D0 s (jcI D0 bs) (ok:=jdG .seq [.lst (((jb span bs).filter (fun x=>decide (x<D0))++[D0]).map D.int)] (((jb span bs).filter (fun x=>decide (x<D0))++[D0]).map D.int)) (fun ν=>jap (hi2 ν)) (by omega) (by omega) (hsl s s2) hspl hpos g0 ((jb span bs).filter (fun x=>decide (x<D0))++[D0]) [] e0;refine⟨some (.lst ((jcI D0 bs).map buD))::τ,?_⟩;rw[show D.scr (ns.map D.int)=ji1 ns from rfl];have rk:∀(t:Sta) (x:Int) (μ:M),t.ek=bOf ((jay 0 bs).filter fun d=>decide (d.day<=D0))->t.bk.Perm (kOf ((jay 0 bs).filter fun d=>decide (d.day<=D0)))->jah .frz jj2.F [stD t,bkD (rkD ts) span grace,.str "purse",.int x] μ=.ok (.int (jee ts ((jcI D0 bs).map (jd6 span)) grace x:Int)) μ:=fun t x μ h1 h2=>by
  rw[jm8 (hsl t h1) (by omega),jgj gb span D0 h1 h2]
 have nf:=fun μ=>jl1 (s:=s) (ts:=ts) (span:=span) (grace:=grace) (hsl s s2) (by omega) (by rw[hspl];exact hpos) t1 g0 (by omega) μ;rw[hspl,s1]at nf;have wk:∀(x:Int) (μ:M),D0<=x->∃t:Sta,jah .frz jhC.F [bkD (rkD ts) span grace,.lst (((jay 0 bs).filter fun d=>decide (d.day<=D0)).map Dd.dat),.int x] μ=.ok (stD t) μ/\∀(x:Int) (μ:M),jah .frz jj2.F [stD t,bkD (rkD ts) span grace,.str "purse",.int x] μ=.ok (.int (jee ts ((jcI D0 bs).map (jd6 span)) grace x:Int)) μ:=fun x μ hx=>by
  obtain⟨t,t1,t2,t3,t4⟩:=jms (ts:=ts) (span:=span) (grace:=grace) ((jay 0 bs).filter fun d=>decide (d.day<=D0)) (f.filter D0) x μ;have ff:((jay 0 bs).filter fun d=>decide (d.day<=D0)).filter (fun d=>decide (d.day<=x))=(jay 0 bs).filter fun d=>decide (d.day<=D0):=by
   rw[j0L];intro d hd;have:d.day<=D0:=by simpa using(j0u.mp hd).2
   simp;omega
  rw[ff]at t2 t3;exact⟨t,t4,fun x μ=>rk t x μ t2 t3⟩
 have top:=jhD (ts:=ts) hpos D00 g0;have tops:=fun x hx=>jhD (ts:=ts) (x:=x) hpos hx g0;generalize (jcI D0 bs).map (jd6 span)=SP at *;unfold jBr jwa;symm;rwa[at0];rwa[hsp];rwa[hspan,at1];rwa[hgr];rwa[hts];rwa[hbs];rwa[jt];rwa[q0];rwa[jzx ts (by omega) t1 tr span grace (by omega) g0];rwa[jww];rwa[joP (kn:=bs) (fun ν=>rfl) (by omega)];rwa[at26];rwa[hm];rwa[jeD,j0d];rwa[js (by omega)];rwa[he];rwa[show D.lst [.int 0,.int 1,.int (-1),.int 0]=.lst ([0,1,-1,0].map D.int)from rfl,hdl];rwa[jnQ,hD];rwa[hs];rwa[q1];rw[jaO (hi1 _)];refine(congrArg (fun o=>jwF (jyY o _)) lp1).trans ?_;symm;rwa[q2];rwa[jil (jaa (by rw[j0d];simp only[j0j,j1b];omega))];rw[show((jb span bs).filter fun x=>decide (x<D0)).map D.int++[D.int D0]=((jb span bs).filter (fun x=>decide (x<D0))++[D0]).map D.int from by rw[j0y];rfl,jaO (hi2 _)];refine(congrArg (fun o=>jwF (jyY o _)) lp2).trans ?_;symm;rwa[rk s D0 _ s2 s3];rw[nf];generalize jee ts SP grace D0=now at nf top;symm;by_cases h0:now=0
 ·rwa[if_pos h0,decide_eq_true (by omega)]
 ·have fo:=js0 hpos t1 (by omega) g0 D00 top;generalize mxD 0 (jn1 ts SP now)+grace=F at fo;obtain⟨_,f1,f2,f3⟩:=fo;obtain⟨ta,wa,ra⟩:=wk F (some (.lst ((jcI D0 bs).map buD))::τ) (by omega);obtain⟨tb,wb,rb⟩:=wk (F - 1) (some (.lst ((jcI D0 bs).map buD))::τ) (by omega);have r1:=f2 _ (tops F (by omega));have r2:=f3 _ (tops (F - 1) (by omega));rwa[if_neg h0,decide_eq_false (by omega)];rwa[jrG];rwa[jo3];rwa[decide_eq_false (by omega)];rwa[wa];rwa[ra];rwa[decide_eq_false (by omega)];rwa[wb];rwa[rb];rw[decide_eq_true (by omega)]
section
variable {P:Program} {w:World} {K:PySem.W.Frag} {mg:Str->Option Value} {base:Heap} {j:Nat} {g:FnE} {G:List FnE}
theorem jab (hm:∀x∈jcj,mg x=none):Tab P w K mg base j []:=⟨hm,fun i g h=>by simp at h,fun i g d h=>by simp at h,fun i g h=>by simp at h⟩
theorem jmU (T:Tab P w K mg base j G)(h1:g.lv<=j->_L2.CalG CX0 P w K mg base g.lv g.name g.ps (jmZ K g.ps.length g.F))(h2:∀d,g.dat=some d->jgO K w mg g.name d)(h3:g.lv<=j->g.dat=none->DefG CX0 P w K mg base g.lv g.name g.ps (jmZ K g.ps.length g.F)):Tab P w K mg base j (g::G):=by
 refine⟨T.hm,fun i g' h hl=>?_,fun i g' d h hd=>?_,fun i g' h hl hn=>?_⟩<;>cases i with
 |zero=>
  simp at h;subst h
  first|exact h1 hl|exact h2 d hd|exact h3 hl hn
 |succ i=>
  have h':G[i]?=some g':=by simpa using h
  first|exact T.hf i g' h' hl|exact T.hd i g' d h' hd|exact T.hk i g' h' hl hn
abbrev gD (P:Program) (w:World) (K:PySem.W.Frag) (mg:Str->Option Value) (base:Heap) (g:FnE):Prop:=DefG CX0 P w K mg base g.lv g.name g.ps (jmZ K g.ps.length g.F)
abbrev gT (P:Program) (w:World) (K:PySem.W.Frag) (mg:Str->Option Value) (base:Heap) (g:FnE):Prop:=CalG CX0 P w K mg base g.lv g.name g.ps (jmZ K g.ps.length g.F)
theorem ja (hn:g.dat=none)(c:gD P w K mg base g)(T:Tab P w K mg base j G):Tab P w K mg base j (g::G):=jmU T (fun _=>c.cal) (fun d h=>by rw[hn]at h;cases h) fun _ _=>c
theorem jao {hs:g.dat.isSome=true}(d:jgO K w mg g.name (g.dat.get hs))(c:gT P w K mg base g)(T:Tab P w K mg base j G):Tab P w K mg base j (g::G):=jmU T (fun _=>c) (fun e h=>by
 have e:g.dat.get hs=e:=by simp[h]
 rw[<- e];exact d) fun _ h=>by rw[h]at hs;cases hs
theorem jhW {hs:g.dat.isSome=true}(hl:¬ 1000000<=j)(c:jgO K w mg g.name (g.dat.get hs))(T:Tab P w K mg base j G)(h0:g.lv=1000000:=by rfl):Tab P w K mg base j (g::G):=jmU T (fun h=>absurd (h0▸h) hl) (fun e h=>by
 have e:g.dat.get hs=e:=by simp[h]
 rw[<- e];exact c) fun _ h=>by rw[h]at hs;cases hs
abbrev gA (K:PySem.W.Frag) (x:Str) (f:Addr):Prop:=PySem.W.nsIn K mainGlobals x=some (some (.ref f))
def gX (K:PySem.W.Frag)(x n:Str)(st:Stmt)(f:Addr):Prop:=gA K x f/\∃fd,Fun K n n st f fd
abbrev gY (K:PySem.W.Frag) (x:Str) (st:Stmt) (f:Addr):Prop:=gX K x x st f
def gM (K:PySem.W.Frag)(C:Addr)(q:Str)(st:Stmt)(f:Addr):Prop:=PySem.W.findIn K (.ref C) "__init__" =some (some (.ref f))/\PySem.W.isFn K (.ref f)=true/\∃fd,Fun K "__init__" q st f fd
abbrev gC (K:PySem.W.Frag) (C:Addr):Prop:=Cls K C/\PySem.W.findIn K (.ref C) "__class__" =some (some (.builtin "object.__class__"))/\PySem.W.mroIn K C (.type "object")=some true
abbrev gN (K:PySem.W.Frag) (C:Addr) (fs:List Str):Prop:=∀f∈fs,PySem.W.findIn K (.ref C) f=some none
theorem all_nil {p:Str->Prop}:∀x∈([]:List Str),p x:=fun _ h=>nomatch h
theorem all_cons {p:Str->Prop}{z:Str}{zs:List Str}(h:p z)(t:∀x∈zs,p x):∀x∈z::zs,p x:=fun x hx=>by
 rcases j0q.mp hx with e|e
 ·rw[e];exact h
 ·exact t x e
variable {x q:Str} {st:Stmt} {f C:Addr} {oc:Value} {od an:Option Addr} {osl:Array (Option Value)} {kV doc pm cdv ct:Value}
theorem gx_of (a:PySem.W.nsIn K mainGlobals x=some (some (.ref f)))(l:K.lookup f=some ⟨oc,od,.func (PySem.W.fnOf q q (jfh st) (jbp st) (jau st) .none kV doc pm an cdv ct),osl⟩)(c:PySem.W.codeIn K cdv q=true)(k:PySem.W.keepIn K (.ref f)=true):gX K x q st f:=⟨a,_,jvH l c k⟩
theorem gm_of (a:PySem.W.findIn K (.ref C) "__init__" =some (some (.ref f))) (i:PySem.W.isFn K (.ref f)=true) (l:K.lookup f=some ⟨oc,od,.func (PySem.W.fnOf "__init__" q (jfh st) (jbp st) (jau st) .none kV doc pm an cdv ct),osl⟩) (c:PySem.W.codeIn K cdv q=true) (k:PySem.W.keepIn K (.ref f)=true):gM K C q st f:=⟨a,i,_,jvH l c k⟩
theorem mkD {h:Heap}{N:List Str}{b:List S}(X:K.In h)(Y:h.Ns mainGlobals mg)(a:gX K g.name q st f)(sc:FnScope N g.ps (jau st))(T:Tab P w K mg base j G)(c:chkSs G j b ⟨N,jau st,false⟩ (jbp st)=true)(hb:∀(kV doc pm:Value) (an:Option Addr) (cdv ct:Value) (us:List Value),us.length=g.ps.length->bindArgs (PySem.W.fnOf q q (jfh st) (jbp st) (jau st) .none kV doc pm an cdv ct) ⟨us,[]⟩=pure (g.ps.zip us))(hl:g.lv=j+1:=by rfl)(hF:g.F=fnOf G g.ps.length (N.length - g.ps.length) b:=by rfl):gD P w K mg base g:=by
 obtain⟨a1,_,F⟩:=a;unfold gD;rw[hl,hF];exact jFh (jmw F sc T c) (j1e X Y a1) F.kp (F.binds hb)
end
noncomputable def jEL {α:Type}:Nat->(List α->Prop)->Prop
 |0,p=>p []
 |n+1,p=>∀a,jEL n fun r=>p (a::r)
theorem jfn {α:Type}:∀{n:Nat} {p:List α->Prop},jEL n p->∀us:List α,us.length=n->p us
 |0,_,h,[],_=>h
 |_+1,_,h,a::r,e=>jfn (h a) r (Nat.succ.inj e)
local macro_rules | `(tactic|walk_at"b")=>`(tactic|(refine fun _ _ _ _ _ _=>?_;first|exact jfn (n:=1) fun _=>rfl|exact jfn (n:=2) fun _ _=>rfl|exact jfn (n:=3) fun _ _ _=>rfl|exact jfn (n:=4) fun _ _ _ _=>rfl|exact jfn (n:=5) fun _ _ _ _ _=>rfl|exact jfn (n:=12) fun _ _ _ _ _ _ _ _ _ _ _ _=>rfl))
set_option maxHeartbeats 4000000 in
set_option autoImplicit true in
theorem all_mk {l:PySem.W.OpenLaw} {w:World} {K:PySem.W.Frag} {h:Heap} {mg:Str->Option Value} (X:K.In h) (G:h.Ns mainGlobals mg) (hfa:mg "law" =some (.ref fa))
  (a1:gY K "is_number" jfi f1)
  (a2:gY K "is_list" jiY f2)
  (a3:gY K "is_tuple_of" jc8 f3)
  (a4:gY K "are_unlike" jdM f4)
  (a5:gY K "are_rising" jen f5)
  (a6:gY K "is_name" jie f6)
  (a7:gX K "demand_houses" "demand" jbu f7)
  (a8:gY K "is_number_or_none" ja5 f8)
  (a9:gY K "check_list" jey f9)
  (a10:gY K "check_share" jdy f10)
  (a11:gY K "check_kinds" jcO f11)
  (a12:gY K "check_leasts" jcp f12)
  (a13:gY K "check_steps" jcL f13)
  (a14:gY K "check_doubles" jbI f14)
  (a15:gY K "check_ranks" jd f15)
  (a16:gM K 165 "House.__init__" jcn f16)
  (a17:gX K "demand_books" "demand" jcA f17)
  (a18:gY K "check_purses" jco f18)
  (a19:gY K "check_rates" jdg f19)
  (a20:gM K 201 "Book.__init__" jdl f20)
  (a21:gY K "house_of" jgz f21)
  (a22:gY K "paid_off" jgW f22)
  (a23:gY K "parts_of" jgu f23)
  (a24:gY K "named_parts" jdw f24)
  (a25:gY K "place_of" jgZ f25)
  (a26:gY K "factor_of" jft f26)
  (a27:gY K "weighed" jiq f27)
  (a28:gY K "day_factor" jeg f28)
  (a29:gY K "extra_of" jgP f29)
  (a30:gY K "brings" jkp f30)
  (a31:gY K "laid" jre f31)
  (a32:gY K "may_be_drawn" jch f32)
  (a33:gY K "sum_of" jkz f33)
  (a34:gM K 343 "State.__init__" jcd f34)
  (a35:gY K "lay" jwG f35)
  (a36:gY K "end_points" jea f36)
  (a37:gY K "owe" jwD f37)
  (a38:gY K "lapse_days" jdS f38)
  (a39:gY K "next_morning" jcm f39)
  (a40:gY K "pass_mornings" jbC f40)
  (a41:gY K "points_of_buy" jbM f41)
  (a42:gY K "buy" jy0 f42)
  (a43:gY K "back" jqj f43)
  (a44:gY K "do_deed" jh1 f44)
  (a45:gY K "walked" jkn f45)
  (a46:gY K "spells_of" jfq f46)
  (a47:gY K "points_on" jfG f47)
  (a48:gY K "rank_by" ji4 f48)
  (a49:gY K "counted" jhL f49)
  (a50:gY K "plain_rank" jd3 f50)
  (a51:gY K "rank" jra f51)
  (a52:gY K "next_fall" jfs f52)
  (a53:gY K "_law_at" jkB f53)
  (a54:gY K "_law_mix" jiL f54)
  (a55:gY K "_law_far" jjb f55)
  (a56:gY K "_law_rising" je f56)
  (a57:gY K "_law_deeds" jfD f57)
  (a58:gY K "_law_counted" jcM f58)
  (a59:gY K "_law_plain" jfB f59)
  (a60:gY K "_law_edges" jfJ f60)
  (a61:gY K "_law_rank" jgY f61)
  (a62:gY K "law" jxx f62)
  (aD1:PySem.W.nsIn K mainGlobals "LONGEST_NAME" =some (some (.int 8 tD1)))
  (aD2:gA K "PARTS" pD2)
  (qD2:eD2=[⟨hD2_0,.str "buy" kD2_0,.ref pD2_0⟩,⟨hD2_1,.str "spend" kD2_1,.ref pD2_1⟩,⟨hD2_2,.str "give" kD2_2,.ref pD2_2⟩,⟨hD2_3,.str "change" kD2_3,.ref pD2_3⟩,⟨hD2_4,.str "lend" kD2_4,.ref pD2_4⟩,⟨hD2_5,.str "back" kD2_5,.ref pD2_5⟩,⟨hD2_6,.str "fix" kD2_6,.ref pD2_6⟩])
  (lD2:K.lookup pD2=some ⟨.type "dict",none,.dict (List.toArray eD2) mD2,#[]⟩) (yD2:PySem.W.KeysLit w.params eD2) (sD2:(pD2==sysModules)=false)
  (lD2_0:K.lookup pD2_0=some ⟨.type "tuple",ddD2_0,.seq #[.str "ref" tD2_0_0,.str "day" tD2_0_1,.str "purse" tD2_0_2,.str "lines" tD2_0_3] nD2_0,slD2_0⟩)
  (lD2_1:K.lookup pD2_1=some ⟨.type "tuple",ddD2_1,.seq #[.str "ref" tD2_1_0,.str "day" tD2_1_1,.str "purse" tD2_1_2,.str "points" tD2_1_3,.str "first" tD2_1_4] nD2_1,slD2_1⟩)
  (lD2_2:K.lookup pD2_2=some ⟨.type "tuple",ddD2_2,.seq #[.str "ref" tD2_2_0,.str "day" tD2_2_1,.str "purse" tD2_2_2,.str "other" tD2_2_3,.str "points" tD2_2_4] nD2_2,slD2_2⟩)
  (lD2_3:K.lookup pD2_3=some ⟨.type "tuple",ddD2_3,.seq #[.str "ref" tD2_3_0,.str "day" tD2_3_1,.str "purse" tD2_3_2,.str "other" tD2_3_3,.str "points" tD2_3_4] nD2_3,slD2_3⟩)
  (lD2_4:K.lookup pD2_4=some ⟨.type "tuple",ddD2_4,.seq #[.str "ref" tD2_4_0,.str "day" tD2_4_1,.str "purse" tD2_4_2,.str "other" tD2_4_3,.str "points" tD2_4_4,.str "end" tD2_4_5] nD2_4,slD2_4⟩)
  (lD2_5:K.lookup pD2_5=some ⟨.type "tuple",ddD2_5,.seq #[.str "ref" tD2_5_0,.str "day" tD2_5_1,.str "of" tD2_5_2] nD2_5,slD2_5⟩)
  (lD2_6:K.lookup pD2_6=some ⟨.type "tuple",ddD2_6,.seq #[.str "ref" tD2_6_0,.str "of" tD2_6_1,.str "lines" tD2_6_2] nD2_6,slD2_6⟩)
  (cg1:PySem.W.specialIn K (.builtin "object.__class__") "__get__" =some (some (.builtin "getset_descriptor.__get__"))) (cg2:PySem.W.takesIn K (.builtin "object.__class__")=some true)
  (aCHouse:gA K "House" 165) (gCHouse:gC K 165) (mkHouse:PySem.W.makesIn K 165=true) (kcHouse:PySem.W.keepIn K (.ref 165)=true) (nHouse:gN K 165 ["name","share","kinds","steps","doubles","cap","age","rest","ranks","span","grace"])
  (aCBook:gA K "Book" 201) (gCBook:gC K 201) (mkBook:PySem.W.makesIn K 201=true) (kcBook:PySem.W.keepIn K (.ref 201)=true) (nBook:gN K 201 ["houses","purses","rates"])
  (aCState:gA K "State" 343) (gCState:gC K 343) (mkState:PySem.W.makesIn K 343=true) (kcState:PySem.W.keepIn K (.ref 343)=true) (nState:gN K 343 ["day","rows","debts","earned","ends","owed","odds","backs","stirs","lendings"])
  (zz:∀x∈jcj,PySem.W.nsIn K mainGlobals x=some none) :
  ∃fd:FuncData,(∀(s:Shared) (v:Value),BindsTo s fd ⟨[v],[]⟩ [("_law_script",v)])/\∀base:Heap,K.In base->base.Ns mainGlobals mg->FnOk l.prog w K mg base CX0 15 fa fd ["_law_script"] (spLaw K):=by
 obtain⟨a0,fd,F⟩:=a62;have e:=hfa.symm.trans (j1e X G a0);cases e;have hm:∀x∈jcj,mg x=none:=fun x hx=>PySem.W.mg_none_of X G (zz x hx);have y5:jgO K w mg jbh.name (Option.get jbh.dat rfl):=⟨_,.int 8,j1e X G aD1,⟨_,rfl⟩,fun _ _=>by unfold Den;rfl⟩;subst qD2;have y23:jgO K w mg jm4.name (Option.get jm4.dat rfl):=⟨_,[.ref pD2_0,.ref pD2_1,.ref pD2_2,.ref pD2_3,.ref pD2_4,.ref pD2_5,.ref pD2_6],j1e X G aD2,⟨⟨_,_,lD2,yD2,.cons ⟨⟨_,rfl⟩,rfl⟩ (.cons ⟨⟨_,rfl⟩,rfl⟩ (.cons ⟨⟨_,rfl⟩,rfl⟩ (.cons ⟨⟨_,rfl⟩,rfl⟩ (.cons ⟨⟨_,rfl⟩,rfl⟩ (.cons ⟨⟨_,rfl⟩,rfl⟩ (.cons ⟨⟨_,rfl⟩,rfl⟩ (.nil)))))))⟩,sD2⟩,fun _ _=>by unfold DenL;exact⟨_,_,rfl,by unfold Den;exact⟨pD2_0,[.str "ref",.str "day",.str "purse",.str "lines"],rfl,.inr ⟨_,_,_,lD2_0,rfl,rfl,(by show 4<=sizeLine;decide),.cons ⟨_,rfl⟩ (.cons ⟨_,rfl⟩ (.cons ⟨_,rfl⟩ (.cons ⟨_,rfl⟩ (.nil))))⟩,by repeat(first|(unfold DenL;rfl)|(unfold DenL;refine⟨_,_,rfl,by unfold Den;rfl,?_⟩))⟩,by unfold DenL;exact⟨_,_,rfl,by unfold Den;exact⟨pD2_1,[.str "ref",.str "day",.str "purse",.str "points",.str "first"],rfl,.inr ⟨_,_,_,lD2_1,rfl,rfl,(by show 5<=sizeLine;decide),.cons ⟨_,rfl⟩ (.cons ⟨_,rfl⟩ (.cons ⟨_,rfl⟩ (.cons ⟨_,rfl⟩ (.cons ⟨_,rfl⟩ (.nil)))))⟩,by repeat(first|(unfold DenL;rfl)|(unfold DenL;refine⟨_,_,rfl,by unfold Den;rfl,?_⟩))⟩,by unfold DenL;exact⟨_,_,rfl,by unfold Den;exact⟨pD2_2,[.str "ref",.str "day",.str "purse",.str "other",.str "points"],rfl,.inr ⟨_,_,_,lD2_2,rfl,rfl,(by show 5<=sizeLine;decide),.cons ⟨_,rfl⟩ (.cons ⟨_,rfl⟩ (.cons ⟨_,rfl⟩ (.cons ⟨_,rfl⟩ (.cons ⟨_,rfl⟩ (.nil)))))⟩,by repeat(first|(unfold DenL;rfl)|(unfold DenL;refine⟨_,_,rfl,by unfold Den;rfl,?_⟩))⟩,by unfold DenL;exact⟨_,_,rfl,by unfold Den;exact⟨pD2_3,[.str "ref",.str "day",.str "purse",.str "other",.str "points"],rfl,.inr ⟨_,_,_,lD2_3,rfl,rfl,(by show 5<=sizeLine;decide),.cons ⟨_,rfl⟩ (.cons ⟨_,rfl⟩ (.cons ⟨_,rfl⟩ (.cons ⟨_,rfl⟩ (.cons ⟨_,rfl⟩ (.nil)))))⟩,by repeat(first|(unfold DenL;rfl)|(unfold DenL;refine⟨_,_,rfl,by unfold Den;rfl,?_⟩))⟩,by unfold DenL;exact⟨_,_,rfl,by unfold Den;exact⟨pD2_4,[.str "ref",.str "day",.str "purse",.str "other",.str "points",.str "end"],rfl,.inr ⟨_,_,_,lD2_4,rfl,rfl,(by show 6<=sizeLine;decide),.cons ⟨_,rfl⟩ (.cons ⟨_,rfl⟩ (.cons ⟨_,rfl⟩ (.cons ⟨_,rfl⟩ (.cons ⟨_,rfl⟩ (.cons ⟨_,rfl⟩ (.nil))))))⟩,by repeat(first|(unfold DenL;rfl)|(unfold DenL;refine⟨_,_,rfl,by unfold Den;rfl,?_⟩))⟩,by unfold DenL;exact⟨_,_,rfl,by unfold Den;exact⟨pD2_5,[.str "ref",.str "day",.str "of"],rfl,.inr ⟨_,_,_,lD2_5,rfl,rfl,(by show 3<=sizeLine;decide),.cons ⟨_,rfl⟩ (.cons ⟨_,rfl⟩ (.cons ⟨_,rfl⟩ (.nil)))⟩,by repeat(first|(unfold DenL;rfl)|(unfold DenL;refine⟨_,_,rfl,by unfold Den;rfl,?_⟩))⟩,by unfold DenL;exact⟨_,_,rfl,by unfold Den;exact⟨pD2_6,[.str "ref",.str "of",.str "lines"],rfl,.inr ⟨_,_,_,lD2_6,rfl,rfl,(by show 3<=sizeLine;decide),.cons ⟨_,rfl⟩ (.cons ⟨_,rfl⟩ (.cons ⟨_,rfl⟩ (.nil)))⟩,by repeat(first|(unfold DenL;rfl)|(unfold DenL;refine⟨_,_,rfl,by unfold Den;rfl,?_⟩))⟩,by unfold DenL;rfl⟩⟩⟩⟩⟩⟩⟩⟩;have D_House:jgO K w mg jaG.name (Option.get jaG.dat rfl):=⟨j1e X G aCHouse,gCHouse.1,⟨gCHouse.2.1,cg1,cg2,gCHouse.2.2⟩,nHouse⟩;have E_House:jgO K w mg jhA.name (Option.get jhA.dat rfl):=D_House;have D_Book:jgO K w mg je2.name (Option.get je2.dat rfl):=⟨j1e X G aCBook,gCBook.1,⟨gCBook.2.1,cg1,cg2,gCBook.2.2⟩,nBook⟩;have E_Book:jgO K w mg jkN.name (Option.get jkN.dat rfl):=D_Book;have D_State:jgO K w mg jaH.name (Option.get jaH.dat rfl):=⟨j1e X G aCState,gCState.1,⟨gCState.2.1,cg1,cg2,gCState.2.2⟩,nState⟩;have E_State:jgO K w mg jhG.name (Option.get jhG.dat rfl):=D_State;refine⟨fd,fun s v=>?_,fun base _ _=>?_⟩
 ·obtain⟨_,_,_,_,_,_,_,_,_,rfl,_⟩:=F.ex;exact .of_eq rfl
 have y0:gD l.prog w K mg base jaE:=mkD X G a1 jlG (jab hm) jnE (by walk_at"b");have y1:gD l.prog w K mg base jit:=mkD X G a2 jpf (jab hm) jrr (by walk_at"b");have y2:gD l.prog w K mg base jbb:=mkD X G a3 jjn (jab hm) jkL (by walk_at"b");have y3:gD l.prog w K mg base jax:=mkD X G a4 jkD (jab hm) jlC (by walk_at"b");have y4:gD l.prog w K mg base jeF:=mkD X G a5 jkH (jab hm) jmE (by walk_at"b");have y6:gD l.prog w K mg base jcG:=mkD X G a6 jpD (jhW (by decide) y5 (jab hm)) jq6 (by walk_at"b");have y7:gD l.prog w K mg base jan:=mkD X G a7 jhk (jab hm) ji0 (by walk_at"b");have y8:gD l.prog w K mg base ja8:=mkD X G a8 jeY (ja rfl y0 (jab hm)) jfM (by walk_at"b");have y9:gD l.prog w K mg base jaT:=mkD X G a9 jlx (ja rfl y7 (ja rfl y1 (ja rfl y2 (jab hm)))) jmg (by walk_at"b");have y10:gD l.prog w K mg base jds:=mkD X G a10 jjk (ja rfl y7 (ja rfl y2 (ja rfl y0 (jab hm)))) jlw (by walk_at"b");have y11:gD l.prog w K mg base jc2:=mkD X G a11 jjt (ja rfl y9 (ja rfl y7 (ja rfl y6 (ja rfl y0 (ja rfl y3 (jab hm)))))) jk9 (by walk_at"b");have y12:gD l.prog w K mg base jaY:=mkD X G a12 jic (ja rfl y9 (ja rfl y7 (ja rfl y0 (ja rfl y4 (jab hm))))) jjx (by walk_at"b");have y13:gD l.prog w K mg base jcS:=mkD X G a13 jjp (ja rfl y12 (ja rfl y7 (ja rfl y0 (jab hm)))) jk7 (by walk_at"b");have y14:gD l.prog w K mg base jbx:=mkD X G a14 jhl (ja rfl y9 (ja rfl y7 (ja rfl y0 (jab hm)))) jiz (by walk_at"b");have y15:gD l.prog w K mg base jcQ:=mkD X G a15 jjl (ja rfl y12 (ja rfl y7 (ja rfl y6 (jab hm)))) jko (by walk_at"b");have y16:gT l.prog w K mg base jaG:=by
  obtain⟨h1,h2,_,F⟩:=a16;exact jxh ⟨mkHouse,h1,h2,kcHouse⟩ (jmw F jh6 (ja rfl y7 (ja rfl y6 (ja rfl y10 (ja rfl y11 (ja rfl y13 (ja rfl y14 (ja rfl y8 (ja rfl y15 (ja rfl y0 (jhW (by decide) E_House (jab hm))))))))))) jjs) (j1e X G aCHouse) (F.binds (ps:=jcB.take 12) (by walk_at"b"))
 have y17:gD l.prog w K mg base ja2:=mkD X G a17 jhO (jab hm) jjE (by walk_at"b");have y18:gD l.prog w K mg base jb5:=mkD X G a18 jh5 (ja rfl y17 (ja rfl y6 (ja rfl y3 (jab hm)))) jjw (by walk_at"b");have y19:gD l.prog w K mg base jcU:=mkD X G a19 jjv (ja rfl y17 (ja rfl y0 (ja rfl y3 (jab hm)))) jkM (by walk_at"b");have y20:gT l.prog w K mg base je2:=by
  obtain⟨h1,h2,_,F⟩:=a20;exact jxh ⟨mkBook,h1,h2,kcBook⟩ (jmw F jjB (jao D_House y16 (ja rfl y17 (ja rfl y3 (ja rfl y18 (ja rfl y19 (jhW (by decide) E_Book (jab hm))))))) jlu) (j1e X G aCBook) (F.binds (ps:=jdt.take 4) (by walk_at"b"))
 have y21:gD l.prog w K mg base jaW:=mkD X G a21 jnt (jao D_Book y20 (jao D_House y16 (jab hm))) jph (by walk_at"b");have y22:gD l.prog w K mg base jgV:=mkD X G a22 jnF (jab hm) jp8 (by walk_at"b");have y24:gD l.prog w K mg base jeN:=mkD X G a23 jnM (jhW (by decide) y23 (jab hm)) jp1 (by walk_at"b");have y25:gD l.prog w K mg base jbd:=mkD X G a24 jji (ja rfl y24 (jab hm)) jle (by walk_at"b");have y26:gD l.prog w K mg base jcC:=mkD X G a25 jm9 (ja rfl y25 (jab hm)) jpR (by walk_at"b");have y27:gD l.prog w K mg base jfy:=mkD X G a26 jlS (jao D_House y16 (jab hm)) jm3 (by walk_at"b");have y28:gD l.prog w K mg base jja:=mkD X G a27 jpp (ja rfl y27 (jab hm)) jrd (by walk_at"b");have y29:gD l.prog w K mg base jdZ:=mkD X G a28 jk2 (jao D_House y16 (jab hm)) jma (by walk_at"b");have y30:gD l.prog w K mg base jgG:=mkD X G a29 jnO (jao D_House y16 (jab hm)) jpM (by walk_at"b");have y31:gD l.prog w K mg base jkk:=mkD X G a30 jq2 (jao D_House y16 (ja rfl y28 (ja rfl y30 (ja rfl y29 (jab hm))))) jtg (by walk_at"b");have y32:gD l.prog w K mg base jsW:=mkD X G a31 jzm (jab hm) jCu (by walk_at"b");have y33:gD l.prog w K mg base jce:=mkD X G a32 jiS (jab hm) jjr (by walk_at"b");have y34:gD l.prog w K mg base jlp:=mkD X G a33 jrQ (ja rfl y33 (jab hm)) ju8 (by walk_at"b");have y35:gT l.prog w K mg base jaH:=by
  obtain⟨h1,h2,_,F⟩:=a34;exact jxh ⟨mkState,h1,h2,kcState⟩ (jmw F ji5 (jhW (by decide) E_State (jao D_Book y20 (jab hm))) jjD) (j1e X G aCState) (F.binds (ps:=jct.take 2) (by walk_at"b"))
 have y36:gD l.prog w K mg base jxZ:=mkD X G a35 jCi (jao D_State y35 (ja rfl y32 (jab hm))) jDZ (by walk_at"b");have y37:gD l.prog w K mg base jb2:=mkD X G a36 jkm (jao D_State y35 (jab hm)) jmc (by walk_at"b");have y38:gD l.prog w K mg base jx6:=mkD X G a37 jAg (jab hm) jEi (by walk_at"b");have y39:gD l.prog w K mg base jeu:=mkD X G a38 jlo (jao D_State y35 (ja rfl y21 (jao D_House y16 (jab hm)))) jmu (by walk_at"b");have y40:gD l.prog w K mg base jcf:=mkD X G a39 jiT (jao D_State y35 (ja rfl y39 (jao D_Book y20 (jab hm)))) jjm (by walk_at"b");have y41:gD l.prog w K mg base jbP:=mkD X G a40 jhq (ja rfl y40 (jao D_State y35 (jab hm))) jhK (by walk_at"b");have y42:gD l.prog w K mg base jbN:=mkD X G a41 jhm (ja rfl y21 (ja rfl y31 (jao D_State y35 (jao D_House y16 (jab hm))))) jjf (by walk_at"b");have y43:gD l.prog w K mg base jyc:=mkD X G a42 jCv (ja rfl y42 (jao D_State y35 (ja rfl y22 (ja rfl y37 (ja rfl y36 (jab hm)))))) jE (by walk_at"b");have y44:gD l.prog w K mg base jqD:=mkD X G a43 jy6 (jao D_State y35 (ja rfl y37 (ja rfl y38 (ja rfl y34 (jab hm))))) jCn (by walk_at"b");have y45:gD l.prog w K mg base jdV:=mkD X G a44 jpX (ja rfl y25 (jao D_State y35 (ja rfl y43 (ja rfl y44 (jab hm))))) jrm (by walk_at"b");have y46:gD l.prog w K mg base jhC:=mkD X G a45 jsv (jao D_State y35 (ja rfl y26 (ja rfl y41 (ja rfl y45 (jab hm))))) jt1 (by walk_at"b");have y47:gD l.prog w K mg base jbQ:=mkD X G a46 jlE (ja rfl y21 (jao D_House y16 (jao D_State y35 (jab hm)))) jn (by walk_at"b");have y48:gD l.prog w K mg base jbR:=mkD X G a47 jmy (jab hm) jnv (by walk_at"b");have y49:gD l.prog w K mg base jeo:=mkD X G a48 jpt (jao D_House y16 (jab hm)) jsn (by walk_at"b");have y50:gD l.prog w K mg base jga:=mkD X G a49 jpq (ja rfl y48 (ja rfl y47 (jab hm))) jsD (by walk_at"b");have y51:gD l.prog w K mg base jdQ:=mkD X G a50 jlg (ja rfl y49 (ja rfl y21 (ja rfl y50 (jab hm)))) jmH (by walk_at"b");have y52:gD l.prog w K mg base jj2:=mkD X G a51 jye (ja rfl y21 (ja rfl y47 (jao D_House y16 (ja rfl y49 (ja rfl y48 (jab hm)))))) jCh (by walk_at"b");have y53:gD l.prog w K mg base jfC:=mkD X G a52 jmf (ja rfl y52 (jao D_State y35 (ja rfl y21 (ja rfl y47 (ja rfl y49 (ja rfl y48 (jao D_House y16 (jab hm)))))))) jm5 (by walk_at"b");have y54:gD l.prog w K mg base ja3:=mkD X G a53 jqu (jab hm) jtP (by walk_at"b");have y55:gD l.prog w K mg base jcF:=mkD X G a54 jp9 (jab hm) jqL (by walk_at"b");have y56:gD l.prog w K mg base jd2:=mkD X G a55 jpa (ja rfl y55 (jab hm)) jrX (by walk_at"b");have y57:gD l.prog w K mg base jd9:=mkD X G a56 jky (ja rfl y56 (ja rfl y54 (ja rfl y55 (jab hm)))) jl2 (by walk_at"b");have y58:gD l.prog w K mg base jfA:=mkD X G a57 jme (ja rfl y54 (ja rfl y56 (ja rfl y55 (jab hm)))) jnH (by walk_at"b");have y59:gD l.prog w K mg base jbt:=mkD X G a58 jju (jab hm) jkr (by walk_at"b");have y60:gD l.prog w K mg base jdk:=mkD X G a59 jmN (ja rfl y59 (jab hm)) jnJ (by walk_at"b");have y61:gD l.prog w K mg base jda:=mkD X G a60 jmK (jab hm) jmT (by walk_at"b");have y62:gD l.prog w K mg base jg0:=mkD X G a61 jnr (ja rfl y61 (ja rfl y60 (jab hm))) jpG (by walk_at"b");exact jxs (jmw F jCH (ja rfl y56 (ja rfl y54 (ja rfl y57 (ja rfl y58 (jao D_House y16 (jao D_Book y20 (ja rfl y61 (ja rfl y55 (ja rfl y46 (ja rfl y50 (ja rfl y51 (ja rfl y52 (ja rfl y59 (ja rfl y60 (ja rfl y62 (ja rfl y53 (jab hm))))))))))))))))) jD1) juP
end _K42
open PySem PySem.W PyProof.Rows
namespace PySem.W.Fast
 def tw7608726657557852399:=()
 def tw5117461922295214470:=()
 def tw4470993666523870047:=()
 def tw2379038599175641580:=()
 def tw4418663305208437124:=()
 def tw10629854970945273573:=()
 def tw12261056248981420160:=()
 def tw2224375965420227221:=()
 def tw4106789583828649436:=()
 def tw6533672961921240497:=()
 def tw8085666610394638893:=()
 def tw10327198496762851432:=()
 def tw5360493437994833270:=()
 def tw8914381653745818458:=()
 def tw8885983838937179479:=()
 def tw8939259176673519277:=()
 def tw2443214614121744924:=()
 def tw10988022865709263494:=()
 def tw13806380727216975235:=()
 def tw4013414528334964476:=()
 def tw16933867671069260871:=()
 def tw7004598698586910582:=()
 def tw1491768935770174929:=()
 def tw13584350321942599603:=()
 def tw15667306849225572648:=()
 def tw4705484024428960997:=()
 def tw7056992386106174833:=()
 def tw18151910265935075070:=()
 def tw2759841126140907481:=()
 def tw8858253515490507233:=()
 def tw16475148888906200930:=()
 def tw4010514560097342456:=()
 def tw4925570757004155782:=()
 def tw16864190895224268184:=()
 def tw13259669403469286867:=()
 def tw11935518491767373329:=()
 def tw5079091627559635214:=()
 def tw15935672090248097387:=()
 def tw16231690652039656639:=()
 def tw17728507302574669165:=()
 def tw18043961421644911145:=()
 def tw4336331481943718763:=()
 def tw17086107682992392422:=()
 def tw12932864872280761463:=()
 def tw8465398835609248750:=()
 def tw13179217797480299314:=()
 def tw1127265053967654186:=()
 def tw16640216182607079750:=()
 def tw6714381380149980312:=()
 def tw4427408809917162311:=()
 def tw8587823875284393612:=()
 def tw5166779229795184909:=()
 def tw10607697639374026516:=()
 def tw7022958802847256996:=()
 def tw2704516933310928696:=()
 def tw2035962815280034747:=()
 def tw8973724889921331510:=()
 def tw15036511480098767181:=()
 def tw11595955855893208657:=()
 def tw15678519561877648526:=()
 def tw18332778726852367287:=()
 def tw5206100383707361838:=()
 def tw1857160273942985371:=()
 def tw11814808157674881862:=()
 def tw12354240161793819795:=()
 def tw3781896642227418309:=()
 def tw8160667716536271816:=()
 def tw13630879078227408392:=()
 def tw5760411000854278692:=()
 def tw17677564497349516287:=()
 def tw16885189581855753231:=()
 def tw1758650249444875393:=()
 def tw16627497189125527457:=()
 def tw9464706763741715082:=()
 def tw14493377813542243380:=()
 def tw2005111539546147542:=()
 def tw1093526031102795269:=()
 def tw17015279438640654840:=()
 def tw7606869647921032702:=()
 def tw629120287852864243:=()
 def tw17853105952025172669:=()
 def tw13982240703915398084:=()
 def tw6823142236990553593:=()
 def tw7553003696404502782:=()
 def tw1260376011762923307:=()
 def tw13162410399919197547:=()
 def tw13654770369315601399:=()
 def tw7699821169849587052:=()
 def tw12718306448108880456:=()
 def tw8281193540970754833:=()
 def tw1163283173508273066:=()
 def tw9733933994333667587:=()
 def tw13733728430080096267:=()
 def tw18180451637735190082:=()
 def tw5754896552898619546:=()
 def tw17364751806231121908:=()
 def tw11252577285254699970:=()
 def tw9064096790184758566:=()
 def tw13140837672588948788:=()
 def tw13238894230629526916:=()
 def tw416890058290725613:=()
 def tw4012911270895327350:=()
 def tw5282995515684076476:=()
 def tw8490282870656327157:=()
 def tw4254691929366131331:=()
 def tw17782836138464468642:=()
 def tw239082337341333283:=()
 def tw2690800193513359225:=()
 def tw579257128470323654:=()
 def tw6124294373159737249:=()
 def tw11433971313374624840:=()
 def tw13535057695685882766:=()
 def tw13601608985502778406:=()
 def tw16073700642832832312:=()
 def tw6470260541175422988:=()
 def tw648693246246549985:=()
 def tw14698800628705331919:=()
 def tw17688459120910854311:=()
 def tw7762409362431819457:=()
 def tw5684844226420053695:=()
 def tw3794837580687372818:=()
 def tw13985445686988094674:=()
 def tw12742007909924216159:=()
 def tw1135609206929737549:=()
 def tw15613575655727905538:=()
 def tw12767428152557848552:=()
 def tw7759819904522840617:=()
 def tw27465978467870258:=()
 def tw3934687356138215267:=()
 def tw4230788761909443786:=()
 def tw9295655340763123748:=()
 def tw10573667910611541630:=()
 def tw11085869344841471477:=()
 def tw11533935732989451165:=()
 def tw8550806984686522361:=()
 def tw13619438519458376577:=()
 def tw8337532983767716123:=()
 def tw6150608176884113033:=()
 def tw6742299715476746090:=()
 def tw16862335565178743045:=()
 def tw16118769373618551339:=()
 def tw16759640549762254922:=()
 def tw12144188644887264438:=()
 def tw15986411061351264907:=()
 def tw7018284461232958520:=()
 def tw500381220991583315:=()
 def tw2187093967617215933:=()
 def tw947582477576321993:=()
 def tw9241970257975154438:=()
 def tw5706936828116484097:=()
 def tw4723335324777217689:=()
 def tw12570707394400595293:=()
 def tw9252245570025095697:=()
 def tw10871846911228112840:=()
 def tw13285165554670178171:=()
 def tw6651035952208830369:=()
 def tw7755228378004344385:=()
 def tw2550960609563474692:=()
 def tw5565933907280606452:=()
 def tw517181090885641933:=()
 def tw10578529183675889315:=()
 def tw9626623730097721994:=()
 def tw12833747786184261650:=()
 def tw876601230499665099:=()
 def tw3563083103351261767:=()
 def tw6482003678260210772:=()
 def tw6056608482044959192:=()
 def tw2358726672943634978:=()
 def tw14715478683040328754:=()
 def tw15162250885009711784:=()
 def tw5274958187986937068:=()
 def tw1303364924129865928:=()
 def tw6985499277201840505:=()
 def tw323648523385308751:=()
 def tw5575194950297422687:=()
 def tw2005901174774174608:=()
 def tw3207324823503450383:=()
 def tw10550217382963534969:=()
 def tw7483343536457937779:=()
 def tw6150361635715596672:=()
 def tw9608507231069975149:=()
 def tw14324510377223469485:=()
 def tw7052106845810798884:=()
 def tw8567022607971922107:=()
 def tw16281649829609337105:=()
 def tw11321260739770854081:=()
 def tw14562311702900965371:=()
 def tw4086880814658812668:=()
 def tw15082232923980582542:=()
 def tw9211548805102407279:=()
 def tw9412206040246808262:=()
 def tw4774069510704183901:=()
 def tw3880280457634291681:=()
 def tw6766957999670766224:=()
 def tw3620341281618346201:=()
 def tw15614390148672049985:=()
 def tw13877292235126618878:=()
 def tw10224102652721526969:=()
 def tw3270908298451669619:=()
 def tw12288113157051427966:=()
 def tw14819569557664097130:=()
 def tw16050591795294561623:=()
 def tw1987899724007661351:=()
 def tw17190612468116283144:=()
 def tw17000622320862394092:=()
 def tw13967168697718751437:=()
 def tw726691524944725844:=()
 def tw15690599473987365216:=()
 def tw3313995184212614812:=()
 def tw10103904990966708051:=()
 def tw4936603921242183458:=()
 def tw9531103425017263322:=()
 def tw14443742099585122951:=()
 def tw6914780568185744327:=()
 def tw7029447479206188636:=()
 def tw14297391640820854621:=()
 def tw4347590294163945931:=()
 def tw8291292752467219726:=()
 def tw15703622155558890609:=()
 def tw6143447989138965032:=()
 def tw2873325753961085269:=()
 def tw4319028871805073699:=()
 def tw842043007131329377:=()
 def tw16410141375573749730:=()
 def tw14445535390190569040:=()
 def tw571554838429692857:=()
 def tw14436655364583530177:=()
 def tw6999284213066945877:=()
 def tw8758342906156920835:=()
 def tw13331207530565189478:=()
 def tw16779191776919250388:=()
 def tw7301274470607249484:=()
 def tw16915092981712550436:=()
 def tw12164252730032078893:=()
 def tw9665017805480833162:=()
 def tw16257138640235220850:=()
 def tw5338610274154057858:=()
 def tw1823941520002561065:=()
 def tw10869301918558466160:=()
 def tw18177325844476676741:=()
 def tw8919038423210393777:=()
 def tw1380712144729281294:=()
 def tw11751148479383902267:=()
 def tw486243593424060473:=()
 def tw2602258827342093682:=()
 def tw14218930843198084706:=()
 def tw6174499826776883452:=()
 def tw5698410842513502340:=()
 def tw15240331953732252576:=()
 def tw7859241774521587656:=()
 def tw4429574870846159804:=()
 def tw18376222661778232715:=()
 def tw11768784303023836156:=()
 def tw17655941367135841042:=()
 def tw18235982433743274605:=()
 def tw2785160997502450342:=()
 def tw2062164792882220169:=()
 def tw1300751746606902915:=()
 def tw3369722584765624083:=()
 def tw15639711779322388717:=()
 def tw12664545191782194688:=()
 def tw17335786183549020642:=()
 def tw18217427169663587679:=()
 def tw5673246266135853158:=()
 def tw11050943159259212:=()
 def tw9010225207367934602:=()
 def tw13734845923402610228:=()
 def tw8300331791158430150:=()
 def tw14737583052716226042:=()
 def tw8154123021349632892:=()
 def tw15048002002228277292:=()
 def tw17064025875107806056:=()
 def tw15037464029171308129:=()
 def tw15744002582556339182:=()
 def tw3945443390847386090:=()
 def tw8252187584103428016:=()
 def tw9806512921395108986:=()
 def tw2667015214365465074:=()
 def tw15810409713793696312:=()
 def tw8706654002103221542:=()
 def tw1187803201574440590:=()
 def tw2722920224000368126:=()
 def tw2610742660400163415:=()
 def tw617205395882860089:=()
 def tw16741623851030249317:=()
 def tw15935232424539047199:=()
 def tw11828902547115816922:=()
 def tw2714565708194246662:=()
 def tw1201276823598397824:=()
end PySem.W.Fast
set_option compiler.extract_closed true
 def _K42.zb:List PySem.Stmt:=PySem.Challenge.pw_pointpurse_k42_great_spans.main.body
 def _K42.zN:PySem.Stmt:=.Pass ⟨0,0,0,0⟩
 def _K42.z0:=_K42.zb.getD 0 _K42.zN
 def _K42.z1:=_K42.zb.getD 1 _K42.zN
 def _K42.z2:=_K42.zb.getD 2 _K42.zN
 def _K42.z3:=_K42.zb.getD 3 _K42.zN
 def _K42.z4:=_K42.zb.getD 4 _K42.zN
 def _K42.z5:=_K42.zb.getD 5 _K42.zN
 def _K42.z6:=_K42.zb.getD 6 _K42.zN
 def _K42.z7:=_K42.zb.getD 7 _K42.zN
 def _K42.z8:=_K42.zb.getD 8 _K42.zN
 def _K42.z9:=_K42.zb.getD 9 _K42.zN
 def _K42.z10:=_K42.zb.getD 10 _K42.zN
 def _K42.z11:=_K42.zb.getD 11 _K42.zN
 def _K42.z12:=_K42.zb.getD 12 _K42.zN
 def _K42.z13:=_K42.zb.getD 13 _K42.zN
 def _K42.z14:=_K42.zb.getD 14 _K42.zN
 def _K42.z15:=_K42.zb.getD 15 _K42.zN
 def _K42.z16:=_K42.zb.getD 16 _K42.zN
 def _K42.z17:=_K42.zb.getD 17 _K42.zN
 def _K42.z18:=_K42.zb.getD 18 _K42.zN
 def _K42.z19:=_K42.zb.getD 19 _K42.zN
 def _K42.z20:=_K42.zb.getD 20 _K42.zN
 def _K42.z21:=_K42.zb.getD 21 _K42.zN
 def _K42.z22:=_K42.zb.getD 22 _K42.zN
 def _K42.z23:=_K42.zb.getD 23 _K42.zN
 def _K42.z24:=_K42.zb.getD 24 _K42.zN
 def _K42.z25:=_K42.zb.getD 25 _K42.zN
 def _K42.z26:=_K42.zb.getD 26 _K42.zN
 def _K42.z27:=_K42.zb.getD 27 _K42.zN
 def _K42.z28:=_K42.zb.getD 28 _K42.zN
 def _K42.z29:=_K42.zb.getD 29 _K42.zN
 def _K42.z30:=_K42.zb.getD 30 _K42.zN
 def _K42.z31:=_K42.zb.getD 31 _K42.zN
 def _K42.z32:=_K42.zb.getD 32 _K42.zN
 def _K42.z33:=_K42.zb.getD 33 _K42.zN
 def _K42.z34:=_K42.zb.getD 34 _K42.zN
 def _K42.z35:=_K42.zb.getD 35 _K42.zN
 def _K42.z36:=_K42.zb.getD 36 _K42.zN
 def _K42.z37:=_K42.zb.getD 37 _K42.zN
 def _K42.z38:=_K42.zb.getD 38 _K42.zN
 def _K42.z39:=_K42.zb.getD 39 _K42.zN
 def _K42.z40:=_K42.zb.getD 40 _K42.zN
 def _K42.z41:=_K42.zb.getD 41 _K42.zN
 def _K42.z42:=_K42.zb.getD 42 _K42.zN
 def _K42.z43:=_K42.zb.getD 43 _K42.zN
 def _K42.z44:=_K42.zb.getD 44 _K42.zN
 def _K42.z45:=_K42.zb.getD 45 _K42.zN
 def _K42.z46:=_K42.zb.getD 46 _K42.zN
 def _K42.z47:=_K42.zb.getD 47 _K42.zN
 def _K42.z48:=_K42.zb.getD 48 _K42.zN
 def _K42.z49:=_K42.zb.getD 49 _K42.zN
 def _K42.z50:=_K42.zb.getD 50 _K42.zN
 def _K42.z51:=_K42.zb.getD 51 _K42.zN
 def _K42.z52:=_K42.zb.getD 52 _K42.zN
 def _K42.z53:=_K42.zb.getD 53 _K42.zN
 def _K42.z54:=_K42.zb.getD 54 _K42.zN
 def _K42.z55:=_K42.zb.getD 55 _K42.zN
 def _K42.z56:=_K42.zb.getD 56 _K42.zN
 def _K42.z57:=_K42.zb.getD 57 _K42.zN
 def _K42.z58:=_K42.zb.getD 58 _K42.zN
 def _K42.z59:=_K42.zb.getD 59 _K42.zN
 def _K42.z60:=_K42.zb.getD 60 _K42.zN
 def _K42.z61:=_K42.zb.getD 61 _K42.zN
 def _K42.z62:=_K42.zb.getD 62 _K42.zN
 def _K42.z63:=_K42.zb.getD 63 _K42.zN
 def _K42.z64:=_K42.zb.getD 64 _K42.zN
 def _K42.z65:=_K42.zb.getD 65 _K42.zN
 def _K42.z66:=_K42.zb.getD 66 _K42.zN
 def _K42.z67:=_K42.zb.getD 67 _K42.zN
 def _K42.z68:=_K42.zb.getD 68 _K42.zN
 def _K42.z69:=_K42.zb.getD 69 _K42.zN
 def _K42.z70:=_K42.zb.getD 70 _K42.zN
 def _K42.z71:=_K42.zb.getD 71 _K42.zN
 def _K42.z72:=_K42.zb.getD 72 _K42.zN
 def _K42.z73:=_K42.zb.getD 73 _K42.zN
 def _K42.z74:=_K42.zb.getD 74 _K42.zN
 def _K42.z75:=_K42.zb.getD 75 _K42.zN
 def _K42.z76:=_K42.zb.getD 76 _K42.zN
 def _K42.z77:=_K42.zb.getD 77 _K42.zN
 def _K42.z78:=_K42.zb.getD 78 _K42.zN
 def _K42.z79:=_K42.zb.getD 79 _K42.zN
 def _K42.z80:=_K42.zb.getD 80 _K42.zN
 def _K42.z81:=_K42.zb.getD 81 _K42.zN
 def _K42.z82:=_K42.zb.getD 82 _K42.zN
 def _K42.z83:=_K42.zb.getD 83 _K42.zN
 def _K42.z84:=_K42.zb.getD 84 _K42.zN
 def _K42.z85:=_K42.zb.getD 85 _K42.zN
 def _K42.z86:=_K42.zb.getD 86 _K42.zN
 def _K42.z87:=_K42.zb.getD 87 _K42.zN
 def _K42.z88:=_K42.zb.getD 88 _K42.zN
 def _K42.z89:=_K42.zb.getD 89 _K42.zN
 def _K42.z90:=_K42.zb.getD 90 _K42.zN
 def _K42.z91:=_K42.zb.getD 91 _K42.zN
 def _K42.z92:=_K42.zb.getD 92 _K42.zN
 def _K42.z93:=_K42.zb.getD 93 _K42.zN
 def _K42.z94:=_K42.zb.getD 94 _K42.zN
 def _K42.z95:=_K42.zb.getD 95 _K42.zN
 def _K42.zp:PySem.Program:={PySem.Challenge.pw_pointpurse_k42_great_spans with main:={PySem.Challenge.pw_pointpurse_k42_great_spans.main with body:=[_K42.z0,_K42.z1,_K42.z2,_K42.z3,_K42.z4,_K42.z5,_K42.z6,_K42.z7,_K42.z8,_K42.z9,_K42.z10,_K42.z11,_K42.z12,_K42.z13,_K42.z14,_K42.z15,_K42.z16,_K42.z17,_K42.z18,_K42.z19,_K42.z20,_K42.z21,_K42.z22,_K42.z23,_K42.z24,_K42.z25,_K42.z26,_K42.z27,_K42.z28,_K42.z29,_K42.z30,_K42.z31,_K42.z32,_K42.z33,_K42.z34,_K42.z35,_K42.z36,_K42.z37,_K42.z38,_K42.z39,_K42.z40,_K42.z41,_K42.z42,_K42.z43,_K42.z44,_K42.z45,_K42.z46,_K42.z47,_K42.z48,_K42.z49,_K42.z50,_K42.z51,_K42.z52,_K42.z53,_K42.z54,_K42.z55,_K42.z56,_K42.z57,_K42.z58,_K42.z59,_K42.z60,_K42.z61,_K42.z62,_K42.z63,_K42.z64,_K42.z65,_K42.z66,_K42.z67,_K42.z68,_K42.z69,_K42.z70,_K42.z71,_K42.z72,_K42.z73,_K42.z74,_K42.z75,_K42.z76,_K42.z77,_K42.z78,_K42.z79,_K42.z80,_K42.z81,_K42.z82,_K42.z83,_K42.z84,_K42.z85,_K42.z86,_K42.z87,_K42.z88,_K42.z89,_K42.z90,_K42.z91,_K42.z92,_K42.z93,_K42.z94,_K42.z95]}}
 def _K42.zl:PySem.W.OpenLaw:={PySem.Challenge.rw_pointpurse_k42_great_spans with prog:=_K42.zp}
set_option maxRecDepth 100000 in
theorem _K42.zl_eq:PySem.Challenge.rw_pointpurse_k42_great_spans=_K42.zl:=rfl
set_option maxRecDepth 100000 in
set_option maxHeartbeats 0 in
theorem PySem.Challenge.cw_pointpurse_k42_great_spans_holds : PySem.Challenge.rw_pointpurse_k42_great_spans.Holds := by
 rw[_K42.zl_eq]
 w_on;o_law;k_head;(case hw=>w_witness2)
 k_fill
 refine _L2.walk_ofK (l:=_K42.zl) (n:=63) (k:=15) (x:="_law_script") (CX:=_L2.CX0) (sp:=_L2.spLaw) rfl (by decide) rfl ⟨rfl,by decide,by decide⟩ (fun w h Y=>PySem.W.kIn_of Y) ?F ?S ?C
 case F=>
  intro w mg fa h KX G hmg;apply _K42.all_mk KX G hmg
  all_goals try first|apply _K42.gx_of|apply _K42.gm_of
  all_goals try dsimp only [_K42.gA]
  all_goals try first|k_is|k_keys|rfl
  all_goals try decide
  all_goals try(refine⟨⟨by k_is,by k_is,by k_is,by k_is⟩,by k_is,by k_is⟩)
  all_goals try(repeat(first|exact _K42.all_nil|(refine _K42.all_cons (by first|k_is|(dsimp only;k_is)) ?_)))
 case S=>exact fun K H a ns hl hO hS=>⟨a,ns,rfl,hS,hl,fun _=>rfl⟩
 case C=>exact fun _ _ _ _ z=>z
#print axioms PySem.Challenge.cw_pointpurse_k42_great_spans_holds
