import PyProof.Rows.All
import Wide.All
import OpenK.AllK
import Wide.FinOn
import PyProof.EqAt
import PyProof.EqKinds
import PyProof.TupleCall
import Lean
import PySem.Challenge.RW_shutways_k09_lists_judged
set_option Elab.async false
set_option bootstrap.genMatcherCode false
set_option compiler.extract_closed false
set_option genSizeOf false
set_option linter.all false
set_option maxRecDepth 100000
theorem bAq(a b:Bool):((a&&b)=true)=(a=true∧b=true):=Bool.and_eq_true a b
abbrev qA:=@List.length_map
abbrev qB:=@List.length_cons
abbrev qC:=@List.size_toArray
abbrev qD:=@Option.map_eq_some_iff
abbrev qE:=@List.mem_cons
abbrev qF:=@List.getElem?_map
abbrev qG:=@List.map_cons
abbrev qH:=@List.getElem?_eq_getElem
abbrev qI:=@List.mem_cons_of_mem
abbrev qJ:=@List.map_append
abbrev qK:=@List.getElem?_eq_some_iff
abbrev qL:=@List.mem_append_right
abbrev qM:=@List.mem_append_left
abbrev qN:=@List.getD_eq_getElem?_getD
abbrev qO:=@List.lookup_cons
abbrev qP:=@decide_eq_false
abbrev qQ:=@decide_eq_true
abbrev qR:=@Nat.lt_of_lt_of_le
abbrev qS:=@Nat.lt_of_le_of_lt
abbrev qT:=@List.mem_cons_self
abbrev qU:=@List.length_append
abbrev qV:=@List.length_take
abbrev qW:=@List.take_add_one
abbrev qX:=@List.length_replicate
abbrev qY:=@List.mem_of_getElem?
abbrev qZ:=@List.mem_map_of_mem
abbrev q8:=@List.mem_map
abbrev q9:=@List.mem_append
abbrev zA:=@Option.bind_eq_some_iff
abbrev zB:=@Option.isSome_iff_exists
abbrev zC:=@List.take_length
abbrev zE:=@List.length_pos_iff
abbrev zF:=@List.append_nil
abbrev zG:=@Array.length_toList
abbrev zH:=@Nat.le_trans
abbrev zI:=@Nat.ne_of_lt
abbrev zJ:=@Nat.le_refl
abbrev zK:=@Int.le_antisymm
abbrev zL:=@List.mem_singleton
abbrev zM:=@List.mem_filterMap
abbrev zN:=@List.filterMap_cons
abbrev zO:=@Nat.lt_irrefl
namespace L2
open PySem PySem.Spec PyProof.Rows
noncomputable abbrev Key:=Sum Int Str
noncomputable def Wg:Key→Value→Bool
 |.inl k,v=>Value.isInt k v
 |.inr x,v=>Value.isStrOf x v
noncomputable def Lq (w:World):Key→Int
 |.inl k=>hashInt k
 |.inr x=>hashStr w x
theorem Zr:∀ {k:Key}{v:Value},Wg k v=true→(∃ i t,k=Sum.inl i∧v=Value.int i t)∨(∃ x t,k=Sum.inr x∧v=Value.str x t)
 |.inl i,v,h=>by obtain⟨t,e⟩:=Value.isInt_shape (k:=i) (v:=v) h;exact .inl ⟨i,t,rfl,e⟩
 |.inr x,v,h=>by obtain⟨t,e⟩:=Value.isStrOf_shape (x:=x) (v:=v) h;exact .inr ⟨x,t,rfl,e⟩
theorem OR(i:Int)(t:Tok):Wg (.inl i) (.int i t)=true:=by simp[Wg,Value.isInt]
theorem OF(x:Str)(t:Tok):Wg (.inr x) (.str x t)=true:=by simp[Wg,Value.isStrOf]
theorem F2(a b:Int):decide ((Sum.inl a:Key)=Sum.inl b)=(a==b):=by
 by_cases e:a=b
 ·subst e;simp
 ·have h:¬ (Sum.inl a:Key)=Sum.inl b:=fun q=>e (Sum.inl.inj q);rw[qP h];exact(beq_eq_false_iff_ne.mpr e).symm
theorem Fx(a b:Str):decide ((Sum.inr a:Key)=Sum.inr b)=decide (a=b):=by
 by_cases e:a=b
 ·subst e;simp
 ·have h:¬ (Sum.inr a:Key)=Sum.inr b:=fun q=>e (Sum.inr.inj q);rw[qP h,qP e]
theorem Ex(a:Int)(b:Str):decide ((Sum.inl a:Key)=Sum.inr b)=false:=qP (fun q=>nomatch q)
theorem Fa(a:Str)(b:Int):decide ((Sum.inr a:Key)=Sum.inl b)=false:=qP (fun q=>nomatch q)
noncomputable def Zn (prog:Program) (w:World):PySem.KeyKind prog w Key where
 is:=Wg
 hash:=Lq w
 inj:=fun v a b ha hb=>by
  rcases Zr ha with⟨i,t,rfl,rfl⟩|⟨x,t,rfl,rfl⟩
  ·rcases Zr hb with⟨j,u,rfl,e⟩|⟨y,u,rfl,e⟩
   ·injection e with e1 _;rw[e1]
   ·exact nomatch e
  ·rcases Zr hb with⟨j,u,rfl,e⟩|⟨y,u,rfl,e⟩
   ·exact nomatch e
   ·injection e with e1 _;rw[e1]
 byValue:=fun k v h=>by rcases Zr h with⟨i,t,rfl,rfl⟩|⟨x,t,rfl,rfl⟩<;>rfl
 pyHash:=fun hv h=>by
  rcases Zr hv with⟨i,t,rfl,rfl⟩|⟨x,t,rfl,rfl⟩
  ·exact wpAny_pyHash_int h
  ·exact wpAny_pyHash_str h
 eqBool:=fun hu hv h=>by
  rcases Zr hu with⟨i,t,rfl,rfl⟩|⟨x,t,rfl,rfl⟩
  ·rcases Zr hv with⟨j,u,rfl,rfl⟩|⟨y,u,rfl,rfl⟩
   ·rw[F2]at h;exact wpAny_eqBool_int h
   ·rw[Ex]at h;exact SeqAt.EqAt.int_str i t y u _ _ _ _ h
  ·rcases Zr hv with⟨j,u,rfl,rfl⟩|⟨y,u,rfl,rfl⟩
   ·rw[Fa]at h;exact SeqAt.EqAt.str_int x t j u _ _ _ _ h
   ·rw[Fx]at h;exact wpAny_eqBool_str h
 «strs»:=fun k x t v h=>by
  rcases Zr h with⟨i,u,rfl,e⟩|⟨y,u,rfl,e⟩
  ·exact nomatch e
  ·injection e with e1 _;subst e1;cases v<;>rfl
theorem Kr(prog:Program)(w:World)(i:Int)(t:Tok):(Zn prog w).is (.inl i) (.int i t)=true:=OR i t
theorem Kx(prog:Program)(w:World)(x:Str)(t:Tok):(Zn prog w).is (.inr x) (.str x t)=true:=OF x t
inductive V where
 |non|bl (b:Bool)|int (i:Int)|str (x:Str)|byt (b:Array UInt8)|flt (b:UInt64)|ref (a:Addr)|ty (n:String)
 deriving DecidableEq
def RelV:V→Value→Prop
 |.non,u=>u=Value.none
 |.bl b,u=>u=Value.bool b
 |.int i,u=>∃ t,u=Value.int i t
 |.str x,u=>∃ t,u=Value.str x t
 |.byt b,u=>∃ t,u=Value.bytes b t
 |.flt b,u=>∃ t,u=Value.float b t
 |.ref a,u=>u=Value.ref a
 |.ty n,u=>u=Value.type n
abbrev Vals:List V→List Value→Prop:=Paired RelV
theorem Vals.length{xs:List V}{us:List Value}(r:Vals xs us):xs.length=us.length:=Paired.length r
theorem Vals.get:∀ {xs:List V}{us:List Value}{i:Nat}{x:V},Vals xs us→xs[i]?=some x→∃ u,us[i]?=some u∧RelV x u
 |_,_,_,_,.nil,e=>by simp at e
 |_,_,0,_,.cons r _,e=>by simp at e;subst e;exact⟨_,rfl,r⟩
 |_,_,i+1,x,.cons _ t,e=>by obtain⟨u,h1,h2⟩:=Vals.get (i:=i) (x:=x) t (by simpa using e);exact⟨u,by simpa using h1,h2⟩
theorem Vals.set{x:V}{u:Value}(r:RelV x u):∀ {xs:List V}{us:List Value}(i:Nat),Vals xs us→Vals (xs.set i x) (us.set i u)
 |_,_,_,.nil=>.nil
 |_,_,0,.cons _ t=>.cons r t
 |_,_,i+1,.cons q t=>.cons q (Vals.set r i t)
theorem Vals.append:∀ {xs ys:List V}{us ws:List Value},Vals xs us→Vals ys ws→Vals (xs++ys) (us++ws)
 |_,_,_,_,.nil,s=>s
 |_,_,_,_,.cons r t,s=>.cons r (Vals.append t s)
theorem Vals.take:∀ {xs:List V}{us:List Value}(n:Nat),Vals xs us→Vals (xs.take n) (us.take n)
 |_,_,0,_=>.nil
 |_,_,_+1,.nil=>.nil
 |_,_,n+1,.cons r t=>.cons r (Vals.take n t)
theorem Vals.drop:∀ {xs:List V}{us:List Value}(n:Nat),Vals xs us→Vals (xs.drop n) (us.drop n)
 |_,_,0,r=>r
 |_,_,_+1,.nil=>.nil
 |_,_,n+1,.cons _ t=>Vals.drop n t
def RelO:Option V→Option Value→Prop
 |some v,some u=>RelV v u
 |none,none=>True
 |_,_=>False
def KV {κ:Type}:List (κ×V)→List (κ×Value)→Prop:=Paired fun(p:κ×V) (q:κ×Value)=>p.1=q.1∧RelV p.2 q.2
noncomputable def kV:Key→V
 |.inl i=>.int i
 |.inr x=>.str x
inductive HO where
 |lst (xs:List V)
 |tup (xs:List V)
 |dK (kvs:List (Key×V))|dT (kvs:List (List Key×V))
 |set (S:Int→Bool) (n:Nat)
 |ins (C dx:Addr) (fs:List (Str×V))
 |own (x:Addr)
 |xd (fs:List (Str×V))
 |met (f x:Addr)
 |rng (lo hi:Int)
 |frz (o:Obj) (u:HO)
 |tbl (ps:Array Value)
 |ext (φ:Heap→Prop)
noncomputable abbrev Hp:=Addr→Option HO
noncomputable def upd (H:Hp) (a:Addr) (o:HO):Hp:=fun b=>if b=a then some o else H b
theorem upd_same{H:Hp}{a:Addr}{o:HO}:upd H a o a=some o:=by unfold upd;rw[if_pos rfl]
theorem upd_ne{H:Hp}{a b:Addr}{o:HO}(h:b≠a):upd H a o b=H b:=by unfold upd;rw[if_neg h]
theorem upd_upd{H:Hp}{a:Addr}{o u:HO}:upd (upd H a o) a u=upd H a u:=by funext b;unfold upd;split<;>rfl
theorem AE{H:Hp}{a b:Addr}{o u:HO}(h:H a=some o)(h':H b=some u)(d:o≠u):a≠b:=by intro e;subst e;rw[h]at h';exact d (Option.some.inj h')
theorem Zj{H:Hp}{a b:Addr}{o:HO}(h:H a=some o)(h':H b=none):a≠b:=by intro e;subst e;rw[h]at h';cases h'
section
variable (P:Program) (w:World)
def ObjOk (H:Hp) (h:Heap) (a:Addr):HO→Prop
 |.lst xs=>xs.length≤sizeLine∧∃ (its:List Value) (n:Nat),Vals xs its∧h.get? a=some {cls:=.type "list",data:=.seq its.toArray n}
 |.tup xs=>xs.length≤sizeLine∧∃ its:List Value,Vals xs its∧IsTup h a its.toArray
 |.dK kvs=>kvs.length≤sizeLine∧(a==sysModules)=false∧∃ vs,KV kvs vs∧h.DictOf (Zn P w) a vs
 |.dT kvs=>kvs.length≤sizeLine∧(a==sysModules)=false∧∃ xs:List (List Key×Addr×Value),
   Paired (fun(p:List Key×V) (q:List Key×Addr×Value)=>p.1=q.1∧H q.2.1=some (.tup (p.1.map kV))∧RelV p.2 q.2.2) kvs xs∧
   ∃ o es ep,h.get? a=some o∧o.ExactDict∧o.data=.dict es ep∧es.toList=xs.map (entryOfKey (tupleKind (Zn P w)))∧(xs.map (·.1)).Nodup
 |.set S n=>h.SetOf (intKind P w) a S n
 |.ins C dx fs=>H dx=some (.own a)∧fs.length≤1000∧dx≠a∧h.get? a=some (PySem.W.instObj C dx)∧
   ∃ mA,h.Ns1 dx mA∧(∀ f,RelO (fs.lookup f) (mA f))∧PySem.Within mA (fs.map (·.1))
 |.own _=>∃ o,h.get? a=some o
 |.xd fs=>∃ mA,h.Ns1 a mA∧∀ f,RelO (fs.lookup f) (mA f)
 |.rng lo hi=>∃ t u v,h.get? a=some {cls:=.type "range",data:=.fields #[.int lo t,.int hi u,.int 1 v]}
 |.frz o u=>h.get? a=some o∧ObjOk H h a u
 |.tbl ps=>h.get? a=some {cls:=.none,data:=.fields ps}
 |.met f x=>h.get? a=some (PySem.W.methodObj (.ref f) (.ref x))
 |.ext φ=>φ h∧(∃ o,h.get? a=some o)∧∀ h1 h2:Heap,φ h1→(∀ o,h1.get? a=some o→h2.get? a=some o)→φ h2
def HOk (H:Hp) (h:Heap):Prop:=∀ a o,H a=some o→ObjOk P w H h a o
end
section
variable {P:Program}{w:World}{H H':Hp}{h h':Heap}{a:Addr}{o:HO}
theorem ObjOk.lt(x:ObjOk P w H h a o):a<h.objs.size:=by
 cases o with
 |lst xs=>obtain⟨_,_,_,_,e⟩:=x;exact Heap.lt_size e
 |tup xs=>obtain⟨_,_,_,p⟩:=x;exact p.lt
 |dK kvs=>obtain⟨_,_,_,_,o,_,_,e,_⟩:=x;exact Heap.lt_size e
 |dT kvs=>obtain⟨_,_,_,_,o,_,_,e,_⟩:=x;exact Heap.lt_size e
 |set S n=>obtain⟨o,_,_,_,e,_⟩:=x;exact Heap.lt_size e
 |ins C dx fs=>obtain⟨_,_,_,e,_⟩:=x;exact Heap.lt_size e
 |own y=>obtain⟨_,e⟩:=x;exact Heap.lt_size e
 |xd fs=>obtain⟨_,⟨_,_,_,e,_⟩,_⟩:=x;exact Heap.lt_size e
 |rng lo hi=>obtain⟨_,_,_,e⟩:=x;exact Heap.lt_size e
 |frz ob u=>obtain⟨e,_⟩:=x;exact Heap.lt_size e
 |tbl ps=>exact Heap.lt_size (show h.get? a=some _ from x)
 |met f y=>exact Heap.lt_size (show h.get? a=some _ from x)
 |ext φ=>obtain⟨_,⟨_,e⟩,_⟩:=x;exact Heap.lt_size e
theorem Paired.mapP{α β:Type}{F G:α→β→Prop}:∀ {l₁:List α}{l₂:List β},Paired F l₁ l₂→(∀ a b,F a b→G a b)→Paired G l₁ l₂
 |_,_,.nil,_=>.nil
 |_,_,.cons r t,f=>.cons (f _ _ r) (Paired.mapP t f)
theorem ObjOk.stay(x:ObjOk P w H h a o)(k:∀ b u,(b=a∨H b=some (.own a))→h.get? b=some u→h'.get? b=some u)
  (ho:∀ b,H b=some (.own a)→H' b=some (.own a)) (ht:∀ b xs,H b=some (.tup xs)→H' b=some (.tup xs)):ObjOk P w H' h' a o:=by
 induction o with
 |lst xs=>obtain⟨z,its,n,r,e⟩:=x;exact⟨z,its,n,r,k _ _ (.inl rfl) e⟩
 |tup xs=>obtain⟨z,its,r,ob,e,c⟩:=x;exact⟨z,its,r,ob,k _ _ (.inl rfl) e,c⟩
 |dK kvs=>obtain⟨z,y,vs,r,ob,es,ep,e,c⟩:=x;exact⟨z,y,vs,r,ob,es,ep,k _ _ (.inl rfl) e,c⟩
 |dT kvs =>obtain⟨z,y,xs,r,ob,es,ep,e,c⟩:=x;exact⟨z,y,xs,Paired.mapP r fun p q z=>⟨z.1,ht _ _ z.2.1,z.2.2⟩,ob,es,ep,k _ _ (.inl rfl) e,c⟩
 |set S n=>obtain⟨ob,es,ep,t,e,c⟩:=x;exact⟨ob,es,ep,t,k _ _ (.inl rfl) e,c⟩
 |ins C dx fs =>obtain⟨d,z,ne,e,mA,⟨od,es,ep,e2,c⟩,r⟩:=x;exact⟨ho _ d,z,ne,k _ _ (.inl rfl) e,mA,⟨od,es,ep,k _ _ (.inr d) e2,c⟩,r⟩
 |own y=>obtain⟨ob,e⟩:=x;exact⟨ob,k _ _ (.inl rfl) e⟩
 |xd fs=>obtain⟨mA,⟨od,es,ep,e,c⟩,r⟩:=x;exact⟨mA,⟨od,es,ep,k _ _ (.inl rfl) e,c⟩,r⟩
 |rng lo hi=>obtain⟨t,u,v,e⟩:=x;exact⟨t,u,v,k _ _ (.inl rfl) e⟩
 |frz ob u ih=>obtain⟨e,q⟩:=x;exact⟨k _ _ (.inl rfl) e,ih q⟩
 |tbl ps =>have e:h.get? a=some {cls:=.none,data:=.fields ps}:=x;show h'.get? a=some {cls:=.none,data:=.fields ps};exact k a _ (.inl rfl) e
 |met f y =>have e:h.get? a=some (PySem.W.methodObj (.ref f) (.ref y)):=x;show h'.get? a=some (PySem.W.methodObj (.ref f) (.ref y));exact k a _ (.inl rfl) e
 |ext φ=>obtain⟨p,⟨o,e⟩,st⟩:=x;exact⟨st _ _ p fun o q=>k _ _ (.inl rfl) q,⟨o,k _ _ (.inl rfl) e⟩,st⟩
theorem HOk.lt(x:HOk P w H h)(e:H a=some o):a<h.objs.size:=(x a o e).lt
theorem HOk.fresh(x:HOk P w H h)(e:h.objs.size≤a):H a=none:=by
 cases q:H a with
 |none=>rfl
 |some u=>exact absurd (qR (x.lt q) e) (zO _)
theorem HOk.kept(x:HOk P w H h)(k:∀ b u,h.get? b=some u→h'.get? b=some u):HOk P w H h':=fun a o e =>
 (x a o e).stay (fun b u _ q=>k b u q) (fun _ q=>q) fun _ _ q=>q
theorem HOk.laid(x:HOk P w H h)(k:∀ b u,h.get? b=some u→h'.get? b=some u)(hp:h.objs.size≤a)(new:ObjOk P w (upd H a o) h' a o):HOk P w (upd H a o) h':=fun b u e=>by
 have hn:=x.fresh hp;by_cases hb:b=a
 ·subst hb;rw[upd_same]at e;cases e;exact new
 ·rw[upd_ne hb]at e;exact(x b u e).stay (fun c v _ q=>k c v q) (fun c q=>by rw[upd_ne (Zj q hn)];exact q) fun c xs q=>by rw[upd_ne (Zj q hn)];exact q
end
def Rd (H:Hp) (a:Addr) (u:HO):Prop:=H a=some u∨∃ o,H a=some (.frz o u)
theorem Rd.of{H:Hp}{a:Addr}{u:HO}(h:H a=some u):Rd H a u:=.inl h
theorem Rd.ok{P:Program}{w:World}{H:Hp}{h:Heap}{a:Addr}{u:HO}(r:Rd H a u)(x:HOk P w H h):ObjOk P w H h a u:=by
 rcases r with r|⟨o,r⟩
 ·exact x a u r
 ·obtain⟨_,q⟩:=x a _ r;exact q
def Mut:Option HO→Prop
 |some (.lst _)=>True
 |some (.dK _)=>True
 |some (.dT _)=>True
 |some (.set _ _)=>True
 |some (.ins _ _ _)=>True
 |some (.ext _)=>True
 |_=>False
section
variable {P:Program}{w:World}{H:Hp}{h h':Heap}{x e:Addr}{o':HO}
theorem HOk.write(ok:HOk P w H h)(mu:Mut (H x))(he:e=x∨H e=some (.own x))(k:∀ b u,b≠e→h.get? b=some u→h'.get? b=some u)(heo:∃ u,h'.get? e=some u)
  (new:ObjOk P w (upd H x o') h' x o'):HOk P w (upd H x o') h':=fun b u q=>by
 have nown:∀ c y,H c=some (.own y)→c≠x:=fun c y r z=>by subst z;rw[r]at mu;exact mu
 have ntup:∀ c xs,H c=some (.tup xs)→c≠x:=fun c xs r z=>by subst z;rw[r]at mu;exact mu
 by_cases hb:b=x
 ·subst hb;rw[upd_same]at q;cases q;exact new
 ·rw[upd_ne hb]at q;by_cases hbe:b=e
  ·have q':H b=some (.own x):=by
    rcases he with z|z
    ·exact absurd (hbe.trans z) hb
    ·rw[hbe];exact z
   rw[q]at q';cases q';obtain⟨v,hv⟩:=heo;exact⟨v,by rw[hbe];exact hv⟩
  ·refine(ok b u q).stay (fun c v hc r=>k c v ?_ r) (fun c r=>by rw[upd_ne (nown c b r)];exact r) fun c xs r=>by rw[upd_ne (ntup c xs r)];exact r
   rcases hc with rfl|hc
   ·exact hbe
   ·rintro rfl;rcases he with z|z
    ·exact nown c b hc z
    ·rw[hc]at z;cases z;exact hb rfl
end
structure Un (fs ex:List Addr) (H H':Hp) (h h':Heap):Prop where
 keep:∀ b o,h.get? b=some o→H b=none→b∉fs→b∉ex→h'.get? b=some o
 slot:∀ b o,h.get? b=some o→H b=none→b∈fs→b∉ex→∃ sl,h'.get? b=some {o with slots:=sl}
 free:∀ b o,h.get? b=some o→H b=none→b∉ex→H' b=none
 there:∀ b o,h.get? b=some o→b∉ex→∃ o',h'.get? b=some o'
 tups:∀ b xs,H b=some (.tup xs)→H' b=some (.tup xs)
 frzs:∀ b o u,H b=some (.frz o u)→H' b=some (.frz o u)
 tbls:∀ b ps,H b=some (.tbl ps)→∃ more,H' b=some (.tbl (ps++more))
section
variable {fs fs' ex ex':List Addr}{H H1 H2:Hp}{h h1 h2 h':Heap}{a x e:Addr}{o:HO}
theorem Un.any(u:Un fs ex H H1 h h1){b:Addr}{ob:Obj}(q:h.get? b=some ob)(n:H b=none)(hx:b∉ex):∃ sl,h1.get? b=some {ob with slots:=sl}:=by
 by_cases hb:b∈fs
 ·exact u.slot b ob q n hb hx
 ·exact⟨ob.slots,u.keep b ob q n hb hx⟩
theorem Un.trans(a:Un fs ex H H1 h h1)(b:Un fs ex H1 H2 h1 h2):Un fs ex H H2 h h2 where
 keep:=fun c ob q n hc hx=>b.keep c ob (a.keep c ob q n hc hx) (a.free c ob q n hx) hc hx
 slot:=fun c ob q n hc hx=>by obtain⟨sl,e1⟩:=a.slot c ob q n hc hx;obtain⟨sl',e2⟩:=b.slot c _ e1 (a.free c ob q n hx) hc hx;exact⟨sl',e2⟩
 free:=fun c ob q n hx=>by obtain⟨o',e1⟩:=a.there c ob q hx;exact b.free c o' e1 (a.free c ob q n hx) hx
 there:=fun c ob q hx=>by obtain⟨o',e1⟩:=a.there c ob q hx;exact b.there c o' e1 hx
 tups:=fun c xs q=>b.tups c xs (a.tups c xs q)
 frzs:=fun c ob xs q=>b.frzs c ob xs (a.frzs c ob xs q)
 tbls:=fun c ps q=>by obtain⟨m1,e1⟩:=a.tbls c ps q;obtain⟨m2,e2⟩:=b.tbls c _ e1;exact⟨m1++m2,by rw[e2,Array.append_assoc]⟩
theorem Un.kept(k:∀ b u,h.get? b=some u→h'.get? b=some u):Un fs ex H H h h' :=
 ⟨fun b ob q _ _ _=>k b ob q,fun b ob q _ _ _=>⟨ob.slots,k b ob q⟩,fun _ _ _ n _=>n,fun b ob q _=>⟨ob,k b ob q⟩,fun _ _ q=>q,fun _ _ _ q=>q,fun _ ps q=>⟨#[],by rw[q];simp⟩⟩
theorem Un.refl:Un fs ex H H h h:=Un.kept fun _ _ q=>q
theorem Un.laid(k:∀ b u,h.get? b=some u→h'.get? b=some u)(hp:h.objs.size≤a)(hn:H a=none):Un fs ex H (upd H a o) h h' where
 keep:=fun b u q _ _ _=>k b u q
 slot:=fun b u q _ _ _=>⟨u.slots,k b u q⟩
 free:=fun b u q n _=>by rw[upd_ne (zI (qR (Heap.lt_size q) hp))];exact n
 there:=fun b u q _=>⟨u,k b u q⟩
 tups:=fun b xs q=>by rw[upd_ne (Zj q hn)];exact q
 frzs:=fun b u xs q=>by rw[upd_ne (Zj q hn)];exact q
 tbls:=fun b ps q=>⟨#[],by rw[upd_ne (Zj q hn),q];simp⟩
theorem Un.write(mu:Mut (H x))(he:e=x∨H e=some (.own x))(k:∀ b u,b≠e→h.get? b=some u→h'.get? b=some u)(heo:∃ u,h'.get? e=some u):Un fs ex H (upd H x o) h h':=by
 have hx:∀ b,H b=none→b≠x:=fun b n z=>by subst z;rw[n]at mu;exact mu
 have hb:∀ b,H b=none→b≠e:=fun b n z=>by
  subst z;rcases he with r|r
  ·exact hx b n r
  ·rw[n]at r;cases r
 have hm:∀ b u,H b=some u→¬ Mut (some u)→b≠x:=fun b u q nm z=>by subst z;rw[q]at mu;exact nm mu
 refine⟨fun b u q n _ _=>k b u (hb b n) q,fun b u q n _ _=>⟨u.slots,k b u (hb b n) q⟩,fun b u q n _=>by rw[upd_ne (hx b n)];exact n,fun b u q _=>?_,
   fun b xs q=>by rw[upd_ne (hm b _ q fun z=>z)];exact q,fun b u xs q=>by rw[upd_ne (hm b _ q fun z=>z)];exact q,fun b ps q=>⟨#[],by rw[upd_ne (hm b _ q fun z=>z),q];simp⟩⟩
 by_cases hbe:b=e
 ·subst hbe;exact heo
 ·exact⟨u,k b u hbe q⟩
theorem Un.mono(u:Un fs ex H H1 h h1)(hs:∀ b∈fs,b∈fs')(hx:∀ b∈ex,b∈ex'):Un fs' ex' H H1 h h1 :=
 ⟨fun b ob q n hb he=>u.keep b ob q n (fun z=>hb (hs b z)) fun z=>he (hx b z),fun _ _ q n _ he=>u.any q n fun z=>he (hx _ z),fun b ob q n he=>u.free b ob q n fun z=>he (hx b z),fun b ob q he=>u.there b ob q fun z=>he (hx b z),u.tups,u.frzs,u.tbls⟩
end
noncomputable def trk (h:Heap) (H:Hp):List Addr:=(List.range h.objs.size).filter fun a=>(H a).isSome
noncomputable def JV (h:Heap) (H:Hp):Heap:=PySem.W.hideAll h (trk h H)
theorem OP(h:Heap)(H:Hp):(JV h H).objs.size=h.objs.size:=PySem.W.hideAll_size _ _
theorem AC{h:Heap}{H:Hp}{b:Addr}{o:Obj}(e:h.get? b=some o)(n:H b=none):(JV h H).get? b=some o :=
 PySem.W.hideAll_get _ e fun hm=>by have q:(H b).isSome=true:=(List.mem_filter.mp hm).2;rw[n]at q;simp at q
theorem Ce{h:Heap}{H:Hp}{b:Addr}{o:Obj}(e:(JV h H).get? b=some o):h.get? b=some o∧H b=none:=by
 have e':h.get? b=some o:=PySem.W.of_hideAll (trk h H) e;refine⟨e',?_⟩;cases q:H b with
 |none=>rfl
 |some x =>have hm:b∈trk h H:=List.mem_filter.mpr ⟨List.mem_range.mpr (Heap.lt_size e'),by simp[q]⟩;have z:(JV h H).get? b=none:=PySem.W.hideAll_none (trk h H) hm;rw[z]at e;cases e
noncomputable def CG (g h:Heap) (L:Addr):List (Addr×Obj):=(List.range h.objs.size).filterMap fun a=>if a=L∨(g.get? a).isSome=true then none else(h.get? a).map fun o=>(a,o)
noncomputable def rest (g h:Heap) (L d:Addr):List (Addr×Obj):=(CG g h L).filter fun p=>decide (p.1≠d)
structure Mod (K:PySem.W.Frag) (mg:Str→Option Value) (base:Heap):Prop where
 kin:K.In base
 glob:base.Ns mainGlobals mg
 blt:∃ mb,base.Ns builtinsNs mb∧∀ x:Str,x≠"__name__"→mb x=bootBuiltins x
 nolimit:base.NoLimit
structure Cx where
 prog:Program
 w:World
 K:PySem.W.Frag
 mg:Str→Option Value
 base:Heap
 A:Around
 N:List Str
 s₀:Shared
 H₀:Hp
 env:Env
 outer:List Env
 stack:List Env
 ex:List Addr
 fn:Str→Bool
 calm:Bool
 pn:List (Addr×Obj)
 xe:Value→Shared→Prop
noncomputable def frs (l:List Env):List Addr:=l.filterMap (·.frame)
noncomputable abbrev Cx.fs (X:Cx):List Addr:=frs X.outer
def Vis (sc:Scope) (x:Str):Prop:=sc.names.lookup x=some .local∨sc.names.lookup x=some .cell∨sc.names.lookup x=some .free
def Loc (sc:Scope) (x:Str):Prop:=sc.names.lookup x=some .local∨sc.names.lookup x=some .cell
def Ln (env:Env) (h:Heap) (m:Str→Option Value) (x:Str) (u:Value):Prop :=
 (env.kindOf x=some .local∧m x=some u)∨((env.kindOf x=some .cell∨env.kindOf x=some .free)∧∃ c,env.cells.lookup x=some c∧h.IsCell c (some u))
structure Cx.Ok (X:Cx):Prop where
 mod:Mod X.K X.mg X.base
 kind:X.env.scope.kind=.function
 glob:X.env.globals=mainGlobals
 blt:X.env.builtins=builtinsNs
 above:X.s₀.heap.objs.size≤X.env.locals
 inj:∀ x y c,X.env.cells.lookup x=some c→X.env.cells.lookup y=some c→x=y
 has:∀ x,(X.env.kindOf x=some .cell∨X.env.kindOf x=some .free)→∃ c,X.env.cells.lookup x=some c
 cab:∀ x c,X.fn x=true→X.env.cells.lookup x=some c→X.s₀.heap.objs.size≤c
 hd:X.calm=true→X.A.handled=none
 frames:X.A.frames=some X.stack
 stk:X.stack=X.outer∨(X.stack=X.env::X.outer∧X.env.frame=some X.env.locals)
 exf:∀ b∈X.ex,b≠X.env.locals∧∀ x c,X.env.cells.lookup x=some c→c≠b
 bs:∀ b o,X.base.get? b=some o→X.s₀.heap.get? b=some o∧X.H₀ b=none
 bsz:X.base.objs.size≤X.s₀.heap.objs.size
 noex:∀ b o,X.base.get? b=some o→b∉X.ex
 exfs:∀ b∈X.ex,b∉X.fs
 funs:X.s₀.heap.FunFrames X.base X.outer
 frf:∀ b∈X.fs,X.H₀ b=none
structure Inv (X:Cx) (pins:List (Addr×Obj)) (σ:List (Option V)) (H:Hp) (s:Shared):Prop where
 ok:X.Ok
 os:s.os=X.s₀.os
 bare:AllBare s.gens
 base:Un X.fs X.ex X.H₀ H X.s₀.heap s.heap
 loc:∃ m,s.heap.Ns X.env.locals m∧∀ (i:Nat) (x:Str) (v:V),X.N[i]?=some x→σ[i]?=some (some v)→Vis X.env.scope x→∃ u,RelV v u∧Ln X.env s.heap m x u
 cell:∀ x c,X.env.cells.lookup x=some c→∃ v,s.heap.IsCell c v
 free:H X.env.locals=none
 freeC:∀ x c,X.env.cells.lookup x=some c→H c=none
 pin:∀ p∈X.pn++pins,s.heap.get? p.1=some p.2∧H p.1=none∧p.1≠X.env.locals∧p.1∉X.fs∧∀ v,p.2.data≠.cell v
 hok:HOk X.prog X.w H s.heap
 len:σ.length=X.N.length
section
variable {X:Cx}{pins:List (Addr×Obj)}{σ:List (Option V)}{H H':Hp}{s:Shared}{h':Heap}
theorem Cx.Ok.nofr(ok:X.Ok){b:Addr}{o:Obj}(e:X.base.get? b=some o):b∉X.fs:=fun hb=>by have:=(ok.funs.mem hb).1;rw[e]at this;cases this
theorem Inv.bs(I:Inv X pins σ H s):∀ b o,X.base.get? b=some o→s.heap.get? b=some o∧H b=none:=fun b o e =>
 ⟨I.base.keep b o (I.ok.bs b o e).1 (I.ok.bs b o e).2 (I.ok.nofr e) (I.ok.noex b o e),I.base.free b o (I.ok.bs b o e).1 (I.ok.bs b o e).2 (I.ok.noex b o e)⟩
theorem Inv.bk(I:Inv X pins σ H s):∀ b o,X.base.get? b=some o→s.heap.get? b=some o:=fun b o e=>(I.bs b o e).1
theorem Inv.mod(I:Inv X pins σ H s):Mod X.K X.mg X.base:=I.ok.mod
theorem Inv.kIn(I:Inv X pins σ H s):X.K.In s.heap:=I.ok.mod.kin.keeps I.bk
theorem Inv.nolimit(I:Inv X pins σ H s):s.heap.NoLimit:=I.ok.mod.nolimit.keeps I.bk
theorem Inv.lt(I:Inv X pins σ H s):X.env.locals<s.heap.objs.size:=let ⟨_,hn,_⟩:=I.loc;hn.lt
theorem Inv.sz(I:Inv X pins σ H s):X.s₀.heap.objs.size≤s.heap.objs.size:=zH I.ok.above (Nat.le_of_lt I.lt)
theorem Inv.nofs(I:Inv X pins σ H s){a:Addr}(h:s.heap.objs.size≤a):a∉X.fs:=fun hb=>by obtain⟨_,o,ho,_⟩:=I.ok.funs.mem hb;exact absurd (qR (Heap.lt_size ho) (zH I.sz h)) (zO _)
theorem Inv.cne(I:Inv X pins σ H s):∀ x c,X.env.cells.lookup x=some c→c≠X.env.locals:=fun x c e z=>by obtain⟨v,o,ho,hd⟩:=I.cell x c e;obtain⟨m,⟨o',es,ep,ho',hd',_⟩,_⟩:=I.loc;rw[z,ho']at ho;cases ho;rw[hd']at hd;cases hd
theorem Inv.funs(I:Inv X pins σ H s):s.heap.FunFrames X.base X.outer:=by
 have all:∀ (l:List Env),(∀ b∈frs l,b∈X.fs)→X.s₀.heap.FunFrames X.base l→s.heap.FunFrames X.base l:=by
  intro l;induction l with
  |nil=>intro _ _;trivial
  |cons env r ih =>intro hs hl;obtain⟨hk,⟨L,o,hf,hn,ho,hd⟩,hr⟩:=hl;have hL:L∈X.fs:=hs L (by unfold frs;rw[zN,hf];exact qT);obtain⟨sl,e⟩:=I.base.slot L o ho (I.ok.frf L hL) hL fun z=>I.ok.exfs L z hL;exact⟨hk,⟨L,_,hf,hn,e,hd⟩,ih (fun b hb=>hs b (by unfold frs;rw[zN,hf];exact qI _ hb)) hr⟩
 exact all X.outer (fun _ hb=>hb) I.ok.funs
theorem Inv.stack(I:Inv X pins σ H s):s.heap.FunFrames X.base X.stack:=by
 rcases I.ok.stk with e|⟨e,hf⟩
 ·rw[e];exact I.funs
 ·rw[e];obtain⟨m,hn,_⟩:=I.loc;refine .cons (by rw[I.ok.kind];decide) hf hn ?_ I.funs;exact Heap.get?_none_of_le (zH I.ok.bsz I.ok.above)
theorem Inv.stkSub(I:Inv X pins σ H s):∀ b∈frs X.stack,b∈X.env.locals::X.fs:=fun b hb=>by
 rcases I.ok.stk with e|⟨e,hf⟩
 ·rw[e]at hb;exact qI _ hb
 ·rw[e]at hb;unfold frs at hb;rw[zN,hf]at hb;exact hb
theorem Inv.stkFree(I:Inv X pins σ H s):∀ b∈frs X.stack,H b=none:=fun b hb=>by
 rcases qE.mp (I.stkSub b hb)with e|hb
 ·rw[e];exact I.free
 ·obtain⟨_,o,ho,_⟩:=I.ok.funs.mem hb;exact I.base.free b o ho (I.ok.frf b hb) fun z=>I.ok.exfs b z hb
theorem Inv.step{g':Array GenState}{t':Nat}{d':Drawn}{ch:List Addr}(I:Inv X pins σ H s)
  (hch:∀ b∈ch,(b∈X.ex∨X.s₀.heap.objs.size≤b)∧b≠X.env.locals∧(∀ x c,X.env.cells.lookup x=some c→c≠b)∧∀ p∈X.pn++pins,p.1≠b)
  (keep:∀ b o,b≠X.env.locals→b∉X.fs→b∉ch→s.heap.get? b=some o→H b=none→h'.get? b=some o)
  (slot:∀ b o,b≠X.env.locals→b∈X.fs→b∉ch→s.heap.get? b=some o→H b=none→∃ sl,h'.get? b=some {o with slots:=sl}) (free:∀ b o,b∉ch→s.heap.get? b=some o→H b=none→H' b=none)
  (there:∀ b o,b∉ch→s.heap.get? b=some o→∃ o',h'.get? b=some o')
  (tups:∀ b xs,H b=some (.tup xs)→H' b=some (.tup xs)) (frzs:∀ b o u,H b=some (.frz o u)→H' b=some (.frz o u)) (tbls:∀ b ps,H b=some (.tbl ps)→∃ more,H' b=some (.tbl (ps++more)))
  (ns:∀ m,s.heap.Ns X.env.locals m→h'.Ns X.env.locals m) (hok:HOk X.prog X.w H' h') (hg:AllBare g') :
  Inv X pins σ H' {s with heap:=h',gens:=g',drawn:=d',toks:=t'}:=by
 have neL:∀ b o,X.s₀.heap.get? b=some o→b≠X.env.locals:=fun b o e=>zI (qR (Heap.lt_size e) I.ok.above);have neC:∀ b o,X.s₀.heap.get? b=some o→b∉X.ex→b∉ch:=fun b o e hx hb=>by
  rcases (hch b hb).1 with z|z
  ·exact hx z
  ·exact absurd (qR (Heap.lt_size e) z) (zO _)
 have cellK:∀ x c,X.env.cells.lookup x=some c→∀ v,s.heap.IsCell c v→h'.IsCell c v:=fun x c e v ⟨o,ho,hd⟩=>by
  have nch:c∉ch:=fun z=>(hch c z).2.2.1 x c e rfl;by_cases hc:c∈X.fs
  ·obtain⟨sl,q⟩:=slot c o (I.cne x c e) hc nch ho (I.freeC x c e);exact⟨_,q,hd⟩
  ·exact⟨o,keep c o (I.cne x c e) hc nch ho (I.freeC x c e),hd⟩
 refine⟨I.ok,I.os,hg,⟨fun b o e n hb hx=>?_,fun b o e n hb hx=>?_,fun b o e n hx=>?_,fun b o e hx=>?_,fun b xs e=>tups b xs (I.base.tups b xs e),fun b o xs e=>frzs b o xs (I.base.frzs b o xs e),fun b ps e=>?_⟩,?_,fun x c e=>?_,?_,fun x c e=>?_,fun p hp=>?_,hok,I.len⟩
 ·exact keep b o (neL b o e) hb (neC b o e hx) (I.base.keep b o e n hb hx) (I.base.free b o e n hx)
 ·obtain⟨sl,e1⟩:=I.base.slot b o e n hb hx;obtain⟨sl',e2⟩:=slot b _ (neL b o e) hb (neC b o e hx) e1 (I.base.free b o e n hx);exact⟨sl',e2⟩
 ·obtain⟨o',e1⟩:=I.base.there b o e hx;exact free b o' (neC b o e hx) e1 (I.base.free b o e n hx)
 ·obtain⟨o',e1⟩:=I.base.there b o e hx;exact there b o' (neC b o e hx) e1
 ·obtain⟨m1,e1⟩:=I.base.tbls b ps e;obtain⟨m2,e2⟩:=tbls b _ e1;exact⟨m1++m2,by rw[e2,Array.append_assoc]⟩
 ·obtain⟨m,hn,hl⟩:=I.loc;refine⟨m,ns m hn,fun i x v e1 e2 e3=>?_⟩;obtain⟨u,r,l⟩:=hl i x v e1 e2 e3;refine⟨u,r,?_⟩;rcases l with l|⟨k,c,e,z⟩
  ·exact .inl l
  ·exact .inr ⟨k,c,e,cellK x c e _ z⟩
 ·obtain⟨v,z⟩:=I.cell x c e;exact⟨v,cellK x c e v z⟩
 ·obtain⟨m,⟨o,_,_,ho,_⟩,_⟩:=I.loc;exact free _ o (fun z=>(hch _ z).2.1 rfl) ho I.free
 ·obtain⟨v,o,ho,hd⟩:=I.cell x c e;exact free c o (fun z=>(hch c z).2.2.1 x c e rfl) ho (I.freeC x c e)
 ·obtain⟨e,n,ne,nf,d⟩:=I.pin p hp;have nch:p.1∉ch:=fun z=>(hch p.1 z).2.2.2 p hp rfl;exact⟨keep p.1 p.2 ne nf nch e n,free p.1 p.2 nch e n,ne,nf,d⟩
theorem Inv.un{t':Nat}(I:Inv X pins σ H s)(u:Un X.fs [] H H' s.heap h')(hok:HOk X.prog X.w H' h'):Inv X pins σ H' {s with heap:=h',toks:=t'}:=by
 obtain⟨m,⟨o,es,ep,ho,r⟩,_⟩:=id I.loc;obtain⟨sl,hL⟩:=u.any ho I.free (by simp);exact I.step (g':=s.gens) (d':=s.drawn) (ch:=[]) (fun _ z=>nomatch z) (fun b o _ hb _ e n=>u.keep b o e n hb (by simp)) (fun b o _ hb _ e n=>u.slot b o e n hb (by simp)) (fun b o _ e n=>u.free b o e n (by simp)) (fun b o _ e=>u.there b o e (by simp)) u.tups u.frzs u.tbls (fun m' hm=>by
   obtain⟨o',es',ep',ho',r'⟩:=hm
   rw[ho]at ho';cases ho'
   exact⟨_,es',ep',hL,r'⟩) hok I.bare
theorem Inv.call{g':Array GenState}{t':Nat}{d':Drawn}{ch:List Addr}(I:Inv X pins σ H s)(u:Un (frs X.stack) ch H H' s.heap h')(hok:HOk X.prog X.w H' h')(hg:AllBare g')
  (hch:∀ b∈ch,(b∈X.ex∨X.s₀.heap.objs.size≤b)∧b≠X.env.locals∧(∀ x c,X.env.cells.lookup x=some c→c≠b)∧∀ p∈X.pn++pins,p.1≠b) :
  Inv X pins σ H' {s with heap:=h',gens:=g',drawn:=d',toks:=t'}:=by
 obtain⟨m,⟨o,es,ep,ho,r⟩,_⟩:=id I.loc;obtain⟨sl,hL⟩:=u.any ho I.free fun z=>(hch _ z).2.1 rfl;exact I.step (ch:=ch) hch (fun b o hL hb hc e n=>u.keep b o e n (fun z=>(qE.mp (I.stkSub b z)).elim hL hb) hc) (fun b o _ _ hc e n=>u.any e n hc) (fun b o hc e n=>u.free b o e n hc) (fun b o hc e=>u.there b o e hc) u.tups u.frzs u.tbls (fun m' hm=>by
   obtain⟨o',es',ep',ho',r'⟩:=hm
   rw[ho]at ho';cases ho'
   exact⟨_,es',ep',hL,r'⟩) hok hg
theorem Inv.turned{t':Nat}{it:Addr}(I:Inv X pins σ H s)(k:∀ b o,b≠it→s.heap.get? b=some o→h'.get? b=some o)(hn:H it=none)(hL:it≠X.env.locals)
  (h1:it∈X.ex∨X.s₀.heap.objs.size≤it) (h2:∀ x c,X.env.cells.lookup x=some c→c≠it) (h3:∀ p∈X.pn++pins,p.1≠it):Inv X pins σ H {s with heap:=h',toks:=t'}:=by
 have nit:∀ b u,H b=some u→b≠it:=fun b u e z=>by rw[z,hn]at e;cases e
 refine I.step (g':=s.gens) (d':=s.drawn) (ch:=[it]) (fun b hb=>?_) (fun b o _ _ hc e _=>k b o (fun z=>hc (by simp[z])) e) (fun b o _ _ hc e _=>⟨o.slots,k b o (fun z=>hc (by simp[z])) e⟩) (fun _ _ _ _ n=>n)
  (fun b o hc e=>⟨o,k b o (fun z=>hc (by simp[z])) e⟩) (fun _ _ e=>e) (fun _ _ _ e=>e) (fun b ps e=>⟨#[],by rw[e];simp⟩) (fun m hm=>?_) (fun b u e=>?_) I.bare
 ·have e:b=it:=by simpa using hb
  subst e;exact⟨h1,hL,h2,h3⟩
 ·obtain⟨o,es,ep,ho,r⟩:=hm;exact⟨o,es,ep,k _ o (Ne.symm hL) ho,r⟩
 ·refine(I.hok b u e).stay (fun c v hc q=>k c v ?_ q) (fun _ q=>q) fun _ _ q=>q;rcases hc with z|z
  ·rw[z];exact nit b u e
  ·exact nit c _ z
theorem Inv.tok(I:Inv X pins σ H s)(t:Nat):Inv X pins σ H {s with toks:=t}:=I.un (h':=s.heap) (t':=t) Un.refl I.hok
theorem Inv.kept{t':Nat}(I:Inv X pins σ H s)(k:∀ b u,s.heap.get? b=some u→h'.get? b=some u):Inv X pins σ H {s with heap:=h',toks:=t'}:=I.un (Un.kept k) (I.hok.kept k)
theorem Inv.laid{a:Addr}{o:HO}{t':Nat}(I:Inv X pins σ H s)(k:∀ b u,s.heap.get? b=some u→h'.get? b=some u)(hp:s.heap.objs.size≤a)(new:ObjOk X.prog X.w (upd H a o) h' a o) :
  Inv X pins σ (upd H a o) {s with heap:=h',toks:=t'}:=I.un (Un.laid k hp (I.hok.fresh hp)) (I.hok.laid k hp new)
theorem Inv.write{x e:Addr}{o:HO}{t':Nat}(I:Inv X pins σ H s)(mu:Mut (H x))(he:e=x∨H e=some (.own x))(k:∀ b u,b≠e→s.heap.get? b=some u→h'.get? b=some u)(heo:∃ u,h'.get? e=some u)
  (new:ObjOk X.prog X.w (upd H x o) h' x o):Inv X pins σ (upd H x o) {s with heap:=h',toks:=t'}:=I.un (Un.write mu he k heo) (I.hok.write mu he k heo new)
theorem Inv.pins_of{pins':List (Addr×Obj)}(I:Inv X pins σ H s)(h:∀ p∈pins',s.heap.get? p.1=some p.2∧H p.1=none∧p.1≠X.env.locals∧p.1∉X.fs∧∀ v,p.2.data≠.cell v):Inv X pins' σ H s :=
 ⟨I.ok,I.os,I.bare,I.base,I.loc,I.cell,I.free,I.freeC,fun p hp=>(q9.mp hp).elim (fun z=>I.pin p (qM _ z)) (h p),I.hok,I.len⟩
theorem Kj{N:List Str}(hN:N.Nodup){i j:Nat}{x:Str}(a:N[i]?=some x)(b:N[j]?=some x):i=j:=by obtain⟨h1,e1⟩:=qK.mp a;obtain⟨h2,e2⟩:=qK.mp b;exact(List.getElem_inj hN).mp (e1.trans e2.symm)
theorem WJ{M:Model}{A:Around}{E:Value→Shared→Prop}{i:Nat}{x:Str}{v:V}{u:Value}{Q:Unit→Shared→Prop}(I:Inv X pins σ H s)(hN:X.N.Nodup)(hi:X.N[i]?=some x)(hx:Loc X.env.scope x)(r:RelV v u)
  (h:∀ s',Inv X pins (σ.set i (some v)) H s'→(∃ a,Heap.SameBut a s.heap s'.heap∧(a=X.env.locals∨X.env.cells.lookup x=some a))→Q () s') (hf:X.fn x=true∨X.env.scope.names.lookup x=some .local:=by first|exact .inl rfl|exact .inr rfl|assumption):wpAny M A (storeName X.env x u) Q E s:=by
 obtain⟨m,hn,hl⟩:=id I.loc;have hcls:(X.env.scope.kind == .class||(X.env.scope.kind == .module&&X.env.locals != X.env.globals))=false:=by rw[I.ok.kind];rfl
 have hiσ:i<σ.length:=by rw[I.len];exact(qK.mp hi).1
 have cne:=I.cne;have tracked:∀ {a:Addr}{h':Heap},(∃ o,s.heap.get? a=some o∧H a=none)→Heap.SameBut a s.heap h'→HOk X.prog X.w H h':=fun {a h'} ha hs b ob e=>by
  obtain⟨_,_,hfree⟩:=ha;refine(I.hok b ob e).stay (fun c w' hc q=>(hs.2 c ?_).trans q) (fun _ q=>q) fun _ _ q=>q;rintro rfl;rcases hc with rfl|hc
  ·rw[hfree]at e;cases e
  ·rw[hfree]at hc;cases hc
 rcases hx with hk|hk
 ·refine wpAny_storeName_local hk hn (fun h' hn' hs=>?_) hcls;obtain⟨oL,_,_,hoL,_⟩:=id hn;refine h _ ⟨I.ok,I.os,I.bare,⟨fun b o e n hb hx=>?_,fun b o e n hb hx=>?_,I.base.free,fun b o e hx=>?_,I.base.tups,I.base.frzs,I.base.tbls⟩,⟨_,hn',fun j y v' e1 e2 e3=>?_⟩,fun y c e=>?_,I.free,I.freeC,fun p hp=>?_,tracked ⟨oL,hoL,I.free⟩ hs,by simpa using I.len⟩ ⟨_,hs,.inl rfl⟩
  ·exact(hs.2 b (zI (qR (Heap.lt_size e) I.ok.above))).trans (I.base.keep b o e n hb hx)
  ·obtain⟨sl,e1⟩:=I.base.slot b o e n hb hx;exact⟨sl,(hs.2 b (zI (qR (Heap.lt_size e) I.ok.above))).trans e1⟩
  ·obtain⟨o',e1⟩:=I.base.there b o e hx;exact⟨o',(hs.2 b (zI (qR (Heap.lt_size e) I.ok.above))).trans e1⟩
  ·by_cases hj:j=i
   ·subst hj;rw[hi]at e1;cases e1;rw[List.getElem?_set_self hiσ]at e2;cases e2;exact⟨u,r,.inl ⟨hk,by simp⟩⟩
   ·rw[List.getElem?_set_ne (Ne.symm hj)]at e2;obtain⟨u',r',q⟩:=hl j y v' e1 e2 e3;refine⟨u',r',?_⟩;rcases q with⟨k,e⟩|⟨k,c,e,z⟩
    ·refine .inl ⟨k,?_⟩;have:y≠x:=fun e=>hj (Kj hN e1 (e▸hi));simp[this,e]
    ·exact .inr ⟨k,c,e,z.sameBut hs (cne y c e)⟩
  ·obtain⟨w',z⟩:=I.cell y c e;exact⟨w',z.sameBut hs (cne y c e)⟩
  ·obtain⟨e,n,ne,nf,d⟩:=I.pin p hp;exact⟨(hs.2 p.1 ne).trans e,n,ne,nf,d⟩
 ·have hfn:X.fn x=true:=by
   rcases hf with z|z
   ·exact z
   ·rw[z]at hk;cases hk
  obtain⟨c,hc⟩:=I.ok.has x (.inl hk);obtain⟨w',z⟩:=I.cell x c hc;refine wpAny_storeName_cell I.ok.kind hk hc z (fun h' hc' hs=>?_);obtain⟨oc,hoc,hocd⟩:=id z;refine h {s with heap:=h'} ⟨I.ok,I.os,I.bare,⟨fun b o e n hb hx=>?_,fun b o e n hb hx=>?_,I.base.free,fun b o e hx=>?_,I.base.tups,I.base.frzs,I.base.tbls⟩,⟨m,hn.sameBut hs (Ne.symm (cne x c hc)),fun j y v' e1 e2 e3=>?_⟩,fun y c' e=>?_,I.free,I.freeC,fun p hp=>?_,tracked ⟨oc,hoc,I.freeC x c hc⟩ hs,by simpa using I.len⟩ ⟨c,hs,.inr hc⟩
  ·exact(hs.2 b (zI (qR (Heap.lt_size e) (I.ok.cab x c hfn hc)))).trans (I.base.keep b o e n hb hx)
  ·obtain⟨sl,e1⟩:=I.base.slot b o e n hb hx;exact⟨sl,(hs.2 b (zI (qR (Heap.lt_size e) (I.ok.cab x c hfn hc)))).trans e1⟩
  ·obtain⟨o',e1⟩:=I.base.there b o e hx;exact⟨o',(hs.2 b (zI (qR (Heap.lt_size e) (I.ok.cab x c hfn hc)))).trans e1⟩
  ·by_cases hj:j=i
   ·subst hj;rw[hi]at e1;cases e1;rw[List.getElem?_set_self hiσ]at e2;cases e2;exact⟨u,r,.inr ⟨.inl hk,c,hc,hc'⟩⟩
   ·rw[List.getElem?_set_ne (Ne.symm hj)]at e2;obtain⟨u',r',q⟩:=hl j y v' e1 e2 e3;refine⟨u',r',?_⟩;rcases q with q|⟨k,c',e,z'⟩
    ·exact .inl q
    ·refine .inr ⟨k,c',e,z'.sameBut hs ?_⟩;rintro rfl;exact hj (Kj hN e1 (I.ok.inj _ _ _ e hc▸hi))
  ·by_cases hcc:c'=c
   ·subst hcc;exact⟨_,hc'⟩
   ·obtain⟨w2,z2⟩:=I.cell y c' e;exact⟨w2,z2.sameBut hs hcc⟩
  ·obtain⟨e,n,ne,nf,d⟩:=I.pin p hp;refine⟨(hs.2 p.1 ?_).trans e,n,ne,nf,d⟩;intro q;rw[q,hoc]at e;have q':oc=p.2:=Option.some.inj e;exact d w' (by rw[←q'];exact hocd)
theorem Au{M:Model}{A:Around}{E:Value→Shared→Prop}{i:Nat}{x:Str}{v:V}{u:Value}{Q:Unit→Shared→Prop}(I:Inv X pins σ H s)(hN:X.N.Nodup)(hi:X.N[i]?=some x)(hx:Loc X.env.scope x)(r:RelV v u)
  (h:∀ s',Inv X pins (σ.set i (some v)) H s'→Q () s') (hf:X.fn x=true∨X.env.scope.names.lookup x=some .local:=by first|exact .inl rfl|exact .inr rfl|assumption):wpAny M A (storeName X.env x u) Q E s :=
 WJ I hN hi hx r (fun s' I' _=>h s' I') hf
theorem Inv.call'{s':Shared}{ch:List Addr}(I:Inv X pins σ H s)(ho:s'.os=s.os)(u:Un (frs X.stack) ch H H' s.heap s'.heap)(hok:HOk X.prog X.w H' s'.heap)(hg:AllBare s'.gens)
  (hch:∀ b∈ch,(b∈X.ex∨X.s₀.heap.objs.size≤b)∧b≠X.env.locals∧(∀ x c,X.env.cells.lookup x=some c→c≠b)∧∀ p∈X.pn++pins,p.1≠b):Inv X pins σ H' s':=by
 obtain⟨h',g',d',t',o'⟩:=s';have e:o'=s.os:=ho;subst e;exact I.call (g':=g') (t':=t') (d':=d') u hok hg hch
end
noncomputable abbrev XK:=Value→Option Addr→Hp→Prop
noncomputable abbrev St:=List (Option V)
noncomputable abbrev VK:=V→Hp→Prop
noncomputable abbrev TE:=St→Hp→VK→Prop
noncomputable abbrev TT:=St→Hp→(Bool→Hp→Prop)→Prop
noncomputable abbrev TA:=St→Hp→(List V→Hp→Prop)→Prop
structure Ends where
 nx:St→Hp→Prop
 rt:VK
 bk:St→Hp→Prop:=fun _ _=>False
 ct:St→Hp→Prop:=fun _ _=>False
noncomputable abbrev TS:=Ends→St→Hp→Prop
def EP (X:Cx) (pins:List (Addr×Obj)) (σ:St) (Q:VK) (u:Value) (s':Shared):Prop:=∃ v H',Inv X pins σ H' s'∧RelV v u∧Q v H'
def TP (X:Cx) (pins:List (Addr×Obj)) (σ:St) (Q:Bool→Hp→Prop) (b:Bool) (s':Shared):Prop:=∃ H',Inv X pins σ H' s'∧Q b H'
def AP (X:Cx) (pins:List (Addr×Obj)) (σ:St) (Q:List V→Hp→Prop) (us:List Value) (s':Shared):Prop:=∃ vs H',Inv X pins σ H' s'∧Vals vs us∧Q vs H'
def SP (X:Cx) (pins:List (Addr×Obj)) (D:Ends) (f:Flow) (s':Shared):Prop :=
 match f with
 |.next=>∃ σ' H',Inv X pins σ' H' s'∧D.nx σ' H'
 |.brk=>∃ σ' H',Inv X pins σ' H' s'∧D.bk σ' H'
 |.cont=>∃ σ' H',Inv X pins σ' H' s'∧D.ct σ' H'
 |.ret u=>∃ v σ' H',Inv X pins σ' H' s'∧RelV v u∧D.rt v H'
def PE (X:Cx) (e:Expr) (t:TE):Prop :=
 ∀ (pins:List (Addr×Obj)) (s:Shared) (σ:St) (H:Hp) (Q:VK),Inv X pins σ H s→t σ H Q→wpAny (model X.prog X.w) X.A (eval e X.env) (EP X pins σ Q) X.xe s
def PT (X:Cx) (e:Expr) (t:TT):Prop :=
 ∀ (pins:List (Addr×Obj)) (s:Shared) (σ:St) (H:Hp) (Q:Bool→Hp→Prop),Inv X pins σ H s→t σ H Q→wpAny (model X.prog X.w) X.A (isTrue e X.env (eval e X.env)) (TP X pins σ Q) X.xe s
def PW (X:Cx) (e:Expr) (t:TT):Prop :=
 ∀ (whole:Sem Value) (pins:List (Addr×Obj)) (s:Shared) (σ:St) (H:Hp) (Q:Bool→Hp→Prop),Inv X pins σ H s→t σ H Q→wpAny (model X.prog X.w) X.A (isTrue e X.env whole) (TP X pins σ Q) X.xe s
theorem PW.pt{X:Cx}{e:Expr}{t:TT}(h:PW X e t):PT X e t:=h _
def PA (X:Cx) (es:List Expr) (t:TA):Prop :=
 ∀ (pos:Pos) (pins:List (Addr×Obj)) (s:Shared) (σ:St) (H:Hp) (Q:List V→Hp→Prop),Inv X pins σ H s→t σ H Q→wpAny (model X.prog X.w) X.A (spliced (backTo pos (starEach es X.env))) (AP X pins σ Q) X.xe s
def PS (X:Cx) (st:Stmt) (t:TS):Prop :=
 ∀ (pins:List (Addr×Obj)) (s:Shared) (σ:St) (H:Hp) (D:Ends),Inv X pins σ H s→t D σ H→wpAny (model X.prog X.w) X.A (exec st X.env) (SP X pins D) X.xe s
def PSs (X:Cx) (st:List Stmt) (t:TS):Prop :=
 ∀ (pins:List (Addr×Obj)) (s:Shared) (σ:St) (H:Hp) (D:Ends),Inv X pins σ H s→t D σ H→wpAny (model X.prog X.w) X.A (execs st X.env) (SP X pins D) X.xe s
theorem thn{α:Type}{t:Sem α}{Q Q':α→Shared→Prop}{M:Model}{A:Around}{E:Value→Shared→Prop}{s:Shared}(h:wpAny M A t Q E s)(hQ:∀ a s,Q a s→Q' a s):wpAny M A t Q' E s:=wpAny_mono h hQ fun _ _ x=>x
section
variable {X:Cx}
theorem bin{a b:Expr}{ta tb:TE}(ha:PE X a ta)(hb:PE X b tb){pins:List (Addr×Obj)}{s:Shared}{σ:St}{H:Hp}{R:V→V→Hp→Prop}(I:Inv X pins σ H s)(h:ta σ H fun x H1=>tb σ H1 fun y H2=>R x y H2)
  {α:Type}{Q:α→Shared→Prop}{f:Value→Value→Sem α}
  (hf:∀ v u s2 x y H2,Inv X pins σ H2 s2→RelV x v→RelV y u→R x y H2→wpAny (model X.prog X.w) X.A (f v u) Q X.xe s2) :
  wpAny (model X.prog X.w) X.A (eval a X.env) (fun v s₁=>wpAny (model X.prog X.w) X.A (eval b X.env) (fun u s₂=>wpAny (model X.prog X.w) X.A (f v u) Q X.xe s₂) X.xe s₁) X.xe s:=by
 refine thn (ha pins s σ H _ I h) fun v s1 ⟨x,H1,I1,r1,q1⟩=>?_;refine thn (hb pins s1 σ H1 _ I1 q1) fun u s2 ⟨y,H2,I2,r2,q2⟩=>?_;exact hf v u s2 x y H2 I2 r1 r2 q2
noncomputable def Iq (i:Nat):TE:=fun σ H Q=>∃ v,σ[i]?=some (some v)∧Q v H
noncomputable def tC (v:V):TE:=fun _ H Q=>Q v H
theorem UN {i:Nat}{x:Str}{pos:Pos}(hN:X.N[i]?=some x) (hv:Vis X.env.scope x) (hd:(x==("__debug__" : Str))=false:=by decide) (hcd:(x==("__classdict__" : Str))=false:=by decide):PE X (.Name x pos) (Iq i):=by
 intro pins s σ H Q I h;obtain⟨v,e,h⟩:=h;obtain⟨m,hn,hl⟩:=I.loc;obtain⟨u,r,l⟩:=hl i x v hN e hv;have fin:EP X pins σ Q u s:=⟨v,H,I,r,h⟩
 rcases l with⟨hk,hm⟩|⟨hk,c,hc,hcell⟩
 ·exact wpAny_Name (wpAny_loadName_local I.ok.kind hk hn hm fin) hd
 ·rcases hk with hk|hk
  ·exact wpAny_Name (wpAny_loadName_cell I.ok.kind hk hc hcell fin) hd
  ·exact wpAny_Name (wpAny_loadName_free I.ok.kind hk hc hcell fin hcd) hd
theorem Gh{i j pos}:PE X (.Constant (.int i) j pos) (tC (.int i)):=fun _ _ _ H _ I h=>wpAny_Constant_int ⟨.int i,H,I.tok _,⟨_,rfl⟩,h⟩
theorem Gv{b j pos}:PE X (.Constant (.bool b) j pos) (tC (.bl b)):=fun _ _ _ H _ I h=>Constant_bool ⟨.bl b,H,I,rfl,h⟩
theorem Uh{j pos}:PE X (.Constant .none j pos) (tC .non):=fun _ _ _ H _ I h=>Constant_none ⟨.non,H,I,rfl,h⟩
theorem pe_str{x j pos}:PE X (.Constant (.str x) j pos) (tC (.str x)):=fun _ _ _ H _ I h=>Calls.Constant_str ⟨.str x,H,I.tok _,⟨_,rfl⟩,h⟩
def Gl (X:Cx) (x:Str):Prop:=X.env.kindOf x=some .globalImplicit
theorem Ju{E:Value→Shared→Prop}{pins:List (Addr×Obj)}{s:Shared}{σ:St}{H:Hp}{x:Str}{u:Value}{pos:Pos}{Q:Value→Shared→Prop}(I:Inv X pins σ H s)(hg:Gl X x)(hm:X.mg x=some u)(h:Q u s)
  (hd:(x==("__debug__" : Str))=false:=by decide):wpAny (model X.prog X.w) X.A (eval (.Name x pos) X.env) Q E s :=
 Calls.Name_function_global I.ok.kind hg (Calls.loadGlobal_global (by rw[I.ok.glob];exact I.mod.glob.keeps I.bk) hm h) hd
theorem Yu{E:Value→Shared→Prop}{pins:List (Addr×Obj)}{s:Shared}{σ:St}{H:Hp}{x:Str}{u:Value}{pos:Pos}{Q:Value→Shared→Prop}(I:Inv X pins σ H s)(hg:Gl X x)(hm:X.mg x=none)(hv:bootBuiltins x=some u)(h:Q u s)
  (hn:x≠"__name__":=by decide) (hd:(x==("__debug__" : Str))=false:=by decide):wpAny (model X.prog X.w) X.A (eval (.Name x pos) X.env) Q E s:=by
 obtain⟨mb,h1,h2⟩:=I.mod.blt;exact Calls.Name_function_global I.ok.kind hg (Calls.loadGlobal_builtin (by rw[I.ok.glob];exact I.mod.glob.keeps I.bk) hm (by rw[I.ok.blt];exact h1.keeps I.bk) ((h2 x hn).trans hv) h) hd
theorem By {x:Str}{v:V}{u:Value}{pos:Pos}(hg:Gl X x) (hm:X.mg x=some u) (r:RelV v u) (hd:(x==("__debug__" : Str))=false:=by decide):PE X (.Name x pos) (tC v) :=
 fun _ _ _ H _ I h=>Ju I hg hm ⟨v,H,I,r,h⟩ hd
theorem MS {x:Str}{v:V}{u:Value}{pos:Pos}(hg:Gl X x) (hm:X.mg x=none) (hv:bootBuiltins x=some u) (r:RelV v u) (hn:x≠"__name__":=by decide) (hd:(x==("__debug__" : Str))=false:=by decide):PE X (.Name x pos) (tC v) :=
 fun _ _ _ H _ I h=>Yu I hg hm hv ⟨v,H,I,r,h⟩ hn hd
variable {a b:Expr}{ta tb:TE}{pos:Pos}
def PC (X:Cx) (op:CmpOp) (a b:Expr) (t:TE):Prop :=
 ∀ (pins:List (Addr×Obj)) (s:Shared) (σ:St) (H:Hp) (Q:VK),Inv X pins σ H s→t σ H Q→
  wpAny (model X.prog X.w) X.A (eval a X.env) (fun v s₁=>wpAny (model X.prog X.w) X.A (eval b X.env) (fun u s₂=>wpAny (model X.prog X.w) X.A (compareOp op v u) (EP X pins σ Q) X.xe s₂) X.xe s₁) X.xe s
theorem KC(b:Expr){op:CmpOp}(h:op≠.In)(h2:op≠.NotIn):behindInMarks op b=false:=by
 have e1:(op==CmpOp.In)=false:=by cases op<;>first|rfl|exact absurd rfl h
 have e2:(op==CmpOp.NotIn)=false:=by cases op<;>first|rfl|exact absurd rfl h2
 cases b<;>simp[behindInMarks,e1,e2]
noncomputable def LA (ta:TE):TE:=fun σ H Q=>ta σ H fun x H1=>Q (.bl (decide (x=.non))) H1
noncomputable def Hk (ta:TE):TE:=fun σ H Q=>ta σ H fun x H1=>Q (.bl (!decide (x=.non))) H1
theorem RelV.none_iff{x:V}{v:Value}(r:RelV x v):(v==Value.none)=decide (x=.non):=by
 cases x with
 |non=>cases r;rfl
 |bl _=>cases r;rfl
 |int _=>obtain⟨t,rfl⟩:=r;rfl
 |str _=>obtain⟨t,rfl⟩:=r;rfl
 |byt _=>obtain⟨t,rfl⟩:=r;rfl
 |flt _=>obtain⟨t,rfl⟩:=r;rfl
 |ref _=>cases r;rfl
 |ty _=>cases r;rfl
theorem Aa{j pos'}(ha:PE X a ta):PC X .Is a (.Constant .none j pos') (LA ta):=by intro pins s σ H Q I h;refine thn (ha pins s σ H _ I h) fun v s1 ⟨x,H1,I1,r1,q1⟩=>?_;exact Constant_none (is_none_gen ⟨.bl _,H1,I1,by rw[r1.none_iff];rfl,q1⟩)
theorem Nz{j pos'}(ha:PE X a ta):PC X .IsNot a (.Constant .none j pos') (Hk ta):=by intro pins s σ H Q I h;refine thn (ha pins s σ H _ I h) fun v s1 ⟨x,H1,I1,r1,q1⟩=>?_;exact Constant_none (isnot_none_gen ⟨.bl _,H1,I1,by rw[r1.none_iff];rfl,q1⟩)
noncomputable def tB (t:TE):TT:=fun σ H Q=>t σ H fun x H1=>∃ c,x=.bl c∧Q c H1
theorem O6{op:CmpOp}{t:TE}(h:PC X op a b t)(h1:behindInMarks op b=false:=by first|exact KC _ (by decide) (by decide)|rfl):PE X (.Compare a [op] [b] pos) t:=fun pins s σ H Q I hw=>wpAny_Compare1 (h pins s σ H Q I hw) h1
theorem O8{op:CmpOp}{t:TE}(h:PC X op a b t)(h1:behindInMarks op b=false:=by first|exact KC _ (by decide) (by decide)|rfl):PT X (.Compare a [op] [b] pos) (tB t):=by intro pins s σ H Q I hw;refine wpAny_isTrue_Compare1 (thn (h pins s σ H _ I hw) fun v s1 h1=>thn h1 fun u s2 h2=>thn h2 fun c s3 ⟨x,H1,I1,r1,q1⟩=>?_) h1;obtain⟨d,rfl,q⟩:=q1;cases r1;exact wpAny_truthy_bool ⟨H1,I1,q⟩
variable {tA tB':TT}{rest:List Expr}
noncomputable def LU (t u:TT):TT:=fun σ H Q=>t σ H fun c H1=>if c=true then u σ H1 Q else Q false H1
noncomputable def tOr (t u:TT):TT:=fun σ H Q=>t σ H fun c H1=>if c=true then Q true H1 else u σ H1 Q
noncomputable def IZ (t:TT):TT:=fun σ H Q=>t σ H fun c H1=>Q (!c) H1
theorem Ci(ha:PT X a tA):PW X (.BoolOp .And [a] pos) tA:=by
 intro wh pins s σ H Q I h;refine isTrue_and (thn (ha pins s σ H Q I h) fun c s1 e=>?_);cases c with
 |true=>exact isTrue_and_nil e
 |false=>exact e
theorem FQ(ha:PT X a tA):PW X (.BoolOp .Or [a] pos) tA:=by
 intro wh pins s σ H Q I h;refine isTrue_or (thn (ha pins s σ H Q I h) fun c s1 e=>?_);cases c with
 |false=>exact isTrue_or_nil e
 |true=>exact e
theorem Gj(ha:PT X a tA)(hb:PW X (.BoolOp .And (b::rest) pos) tB'):PW X (.BoolOp .And (a::b::rest) pos) (LU tA tB'):=by
 intro wh pins s σ H Q I h;refine isTrue_and (thn (ha pins s σ H _ I h) fun c s1 ⟨H1,I1,q1⟩=>?_);cases c with
 |true=>exact hb wh pins s1 σ H1 Q I1 q1
 |false=>exact⟨H1,I1,q1⟩
theorem Ht(ha:PT X a tA)(hb:PW X (.BoolOp .Or (b::rest) pos) tB'):PW X (.BoolOp .Or (a::b::rest) pos) (tOr tA tB'):=by
 intro wh pins s σ H Q I h;refine isTrue_or (thn (ha pins s σ H _ I h) fun c s1 ⟨H1,I1,q1⟩=>?_);cases c with
 |true=>exact⟨H1,I1,q1⟩
 |false=>exact hb wh pins s1 σ H1 Q I1 q1
theorem FJ(ha:PT X a tA):PT X (.UnaryOp .Not a pos) (IZ tA):=by intro pins s σ H Q I h;exact isTrue_not (ha pins s σ H (fun c H1=>Q (!c) H1) I h)
noncomputable def Ih (ta tb:TE):TE:=fun σ H Q=>ta σ H fun x H1=>∃ c,x=.bl c∧if c=true then tb σ H1 Q else Q (.bl false) H1
noncomputable def LT (ta tb:TE):TE:=fun σ H Q=>ta σ H fun x H1=>∃ c,x=.bl c∧if c=true then Q (.bl true) H1 else tb σ H1 Q
noncomputable def IA (ta:TE):TE:=fun σ H Q=>ta σ H fun x H1=>∃ c,x=.bl c∧Q (.bl (!c)) H1
theorem Ur{op}{t:TE}(h:PE X a t):PE X (.BoolOp op [a] pos) t:=fun pins s σ H Q I hw=>BoolOp_one (h pins s σ H Q I hw)
theorem ER(ha:PE X a ta)(hb:PE X (.BoolOp .And (b::rest) pos) tb):PE X (.BoolOp .And (a::b::rest) pos) (Ih ta tb):=by
 intro pins s σ H Q I h;refine BoolOp_and (thn (ha pins s σ H _ I h) fun v s1 ⟨x,H1,I1,r1,q1⟩=>?_);obtain⟨c,rfl,q1⟩:=q1;cases r1;refine wpAny_truthy_bool ?_;cases c with
 |true=>exact hb pins s1 σ H1 Q I1 q1
 |false=>exact⟨.bl false,H1,I1,rfl,q1⟩
theorem Ir(ha:PE X a ta)(hb:PE X (.BoolOp .Or (b::rest) pos) tb):PE X (.BoolOp .Or (a::b::rest) pos) (LT ta tb):=by
 intro pins s σ H Q I h;refine BoolOp_or (thn (ha pins s σ H _ I h) fun v s1 ⟨x,H1,I1,r1,q1⟩=>?_);obtain⟨c,rfl,q1⟩:=q1;cases r1;refine wpAny_truthy_bool ?_;cases c with
 |false=>exact hb pins s1 σ H1 Q I1 q1
 |true=>exact⟨.bl true,H1,I1,rfl,q1⟩
theorem D0(ha:PE X a ta):PE X (.UnaryOp .Not a pos) (IA ta):=by intro pins s σ H Q I h;refine UnaryOp_ (thn (ha pins s σ H _ I h) fun v s1 ⟨x,H1,I1,r1,q1⟩=>?_);obtain⟨c,rfl,q1⟩:=q1;cases r1;exact not_of (wpAny_truthy_bool ⟨.bl (!c),H1,I1,rfl,q1⟩)
noncomputable def tIf (t:TT) (ta tb:TE):TE:=fun σ H Q=>t σ H fun c H1=>if c=true then ta σ H1 Q else tb σ H1 Q
theorem A2{c:Expr}(hc:PT X c tA)(ha:PE X a ta)(hb:PE X b tb):PE X (.IfExp c a b pos) (tIf tA ta tb):=by
 intro pins s σ H Q I h;refine wpAny_IfExp (thn (hc pins s σ H _ I h) fun d s1 ⟨H1,I1,q1⟩=>?_);cases d with
 |true=>exact ha pins s1 σ H1 Q I1 q1
 |false=>exact hb pins s1 σ H1 Q I1 q1
end
def SqL (K:PySem.W.Frag) (H:Hp) (a:Addr) (xs:List V):Prop :=
 Rd H a (.lst xs)∨
  ∃ (o:Obj) (its:Array Value) (n:Nat),K.lookup a=some o∧o.cls=.type "list"∧o.dict=none∧o.data=.seq its n∧its.size≤sizeLine∧Vals xs its.toList
def SqT (K:PySem.W.Frag) (H:Hp) (a:Addr) (xs:List V):Prop :=
 Rd H a (.tup xs)∨
  ∃ (o:Obj) (its:Array Value) (n:Nat),K.lookup a=some o∧o.cls=.type "tuple"∧o.data=.seq its n∧its.size≤sizeLine∧Vals xs its.toList
noncomputable def absV:Value→Option V
 |.none=>some .non
 |.bool b=>some (.bl b)
 |.int i _=>some (.int i)
 |.str x _=>some (.str x)
 |.bytes b _=>some (.byt b)
 |.float b _=>some (.flt b)
 |.ref a=>some (.ref a)
 |.type n=>some (.ty n)
 |_=>none
theorem RelV.abs{x:V}{u:Value}(r:RelV x u):absV u=some x:=by
 cases x with
 |non=>cases r;rfl
 |bl _=>cases r;rfl
 |int _=>obtain⟨t,rfl⟩:=r;rfl
 |str _=>obtain⟨t,rfl⟩:=r;rfl
 |byt _=>obtain⟨t,rfl⟩:=r;rfl
 |flt _=>obtain⟨t,rfl⟩:=r;rfl
 |ref _=>cases r;rfl
 |ty _=>cases r;rfl
theorem RelV.inj{x y:V}{u:Value}(r:RelV x u)(q:RelV y u):x=y:=Option.some.inj (r.abs.symm.trans q.abs)
theorem Vals.inj:∀ {xs ys:List V}{us:List Value},Vals xs us→Vals ys us→xs=ys
 |_,_,_,.nil,.nil=>rfl
 |_,_,_,.cons r t,.cons r' t'=>by rw[r.inj r',Vals.inj t t']
section
variable {X:Cx}{pins:List (Addr×Obj)}{σ:St}{H:Hp}{s:Shared}{a:Addr}{xs ys:List V}
theorem SqL.of{K:PySem.W.Frag}(h:H a=some (.lst xs)):SqL K H a xs:=.inl (.inl h)
theorem SqT.of{K:PySem.W.Frag}(h:H a=some (.tup xs)):SqT K H a xs:=.inl (.inl h)
theorem Inv.list(I:Inv X pins σ H s)(h:SqL X.K H a xs):∃ its:List Value,Vals xs its∧PlainL s.heap a its.toArray∧xs.length≤sizeLine:=by
 rcases h with h|⟨o,its,n,hk,hc,hd,hs,hz,r⟩
 ·obtain⟨z,its,n,r,e⟩:=h.ok I.hok;exact⟨its,r,⟨_,n,e,rfl,rfl,rfl⟩,z⟩
 ·refine⟨its.toList,r,⟨o,n,I.kIn a o hk,hc,hd,by simpa using hs⟩,?_⟩;have e:=r.length;simp only[zG]at e;omega
theorem Inv.tuple(I:Inv X pins σ H s)(h:SqT X.K H a xs):∃ its:List Value,Vals xs its∧IsTup s.heap a its.toArray∧xs.length≤sizeLine:=by
 rcases h with h|⟨o,its,n,hk,hc,hs,hz,r⟩
 ·obtain⟨z,its,r,p⟩:=h.ok I.hok;exact⟨its,r,p,z⟩
 ·refine⟨its.toList,r,⟨o,I.kIn a o hk,hc,n,by simpa using hs⟩,?_⟩;have e:=r.length;simp only[zG]at e;omega
theorem Inv.list_inj(I:Inv X pins σ H s)(h:SqL X.K H a xs)(h':SqL X.K H a ys):xs=ys:=by
 obtain⟨its,r,⟨o,n,e,_,_,d⟩,_⟩:=I.list h;obtain⟨its',r',⟨o',n',e',_,_,d'⟩,_⟩:=I.list h';rw[e]at e';cases e';rw[d]at d';injection d' with d1 _;have:its=its':=by simpa using congrArg Array.toList d1
 subst this;exact r.inj r'
theorem Inv.tuple_inj(I:Inv X pins σ H s)(h:SqT X.K H a xs)(h':SqT X.K H a ys):xs=ys:=by
 obtain⟨its,r,⟨o,e,_,n,d⟩,_⟩:=I.tuple h;obtain⟨its',r',⟨o',e',_,n',d'⟩,_⟩:=I.tuple h';rw[e]at e';cases e';rw[d]at d';injection d' with d1 _;have:its=its':=by simpa using congrArg Array.toList d1
 subst this;exact r.inj r'
end
noncomputable abbrev Cx.wish (X:Cx) (E:Value→Shared→Prop):Cx:={X with xe:=E}
noncomputable abbrev Cx.nox (X:Cx):Cx:=X.wish fun _ _=>False
theorem Cx.Ok.wish{X:Cx}(ok:X.Ok)(E:Value→Shared→Prop):(X.wish E).Ok :=
 ⟨ok.mod,ok.kind,ok.glob,ok.blt,ok.above,ok.inj,ok.has,ok.cab,ok.hd,ok.frames,ok.stk,ok.exf,ok.bs,ok.bsz,ok.noex,ok.exfs,ok.funs,ok.frf⟩
theorem Cx.Ok.unwish{X:Cx}{E:Value→Shared→Prop}(ok:(X.wish E).Ok):X.Ok :=
 ⟨ok.mod,ok.kind,ok.glob,ok.blt,ok.above,ok.inj,ok.has,ok.cab,ok.hd,ok.frames,ok.stk,ok.exf,ok.bs,ok.bsz,ok.noex,ok.exfs,ok.funs,ok.frf⟩
section
variable {X:Cx}{pins:List (Addr×Obj)}{σ:St}{H:Hp}{s:Shared}{E:Value→Shared→Prop}
theorem Inv.wish(I:Inv X pins σ H s)(E:Value→Shared→Prop):Inv (X.wish E) pins σ H s:=⟨I.ok.wish E,I.os,I.bare,I.base,I.loc,I.cell,I.free,I.freeC,I.pin,I.hok,I.len⟩
theorem Inv.unwish(I:Inv (X.wish E) pins σ H s):Inv X pins σ H s:=⟨I.ok.unwish,I.os,I.bare,I.base,I.loc,I.cell,I.free,I.freeC,I.pin,I.hok,I.len⟩
theorem SP.unwish{D:Ends}{f:Flow}{s':Shared}(h:SP (X.wish E) pins D f s'):SP X pins D f s':=by
 cases f with
 |next=>obtain⟨σ',H',I,q⟩:=h;exact⟨σ',H',I.unwish,q⟩
 |brk=>obtain⟨σ',H',I,q⟩:=h;exact⟨σ',H',I.unwish,q⟩
 |cont=>obtain⟨σ',H',I,q⟩:=h;exact⟨σ',H',I.unwish,q⟩
 |ret u=>obtain⟨v,σ',H',I,r,q⟩:=h;exact⟨v,σ',H',I.unwish,r,q⟩
theorem PE.nox{e:Expr}{t:TE}(h:PE X.nox e t):PE X e t:=fun pins s σ H Q I hw =>
 wpAny_mono (h pins s σ H Q (I.wish _) hw) (fun _ _ ⟨v,H',I',r,q⟩=>⟨v,H',I'.unwish,r,q⟩) fun _ _ z=>False.elim z
theorem PT.nox{e:Expr}{t:TT}(h:PT X.nox e t):PT X e t:=fun pins s σ H Q I hw =>
 wpAny_mono (h pins s σ H Q (I.wish _) hw) (fun _ _ ⟨H',I',q⟩=>⟨H',I'.unwish,q⟩) fun _ _ z=>False.elim z
theorem PSs.nox{st:List Stmt}{t:TS}(h:PSs X.nox st t):PSs X st t:=fun pins s σ H D I hw =>
 wpAny_mono (h pins s σ H D (I.wish _) hw) (fun _ _ q=>q.unwish) fun _ _ z=>False.elim z
end
section
variable {X:Cx}{st:Stmt}{rest:List Stmt}{t u:TS}{e:Expr}{te:TE}{pos:Pos}
noncomputable def H9:TS:=fun D σ H=>D.nx σ H
noncomputable def Lh (t u:TS):TS:=fun D σ H=>t {D with nx:=u D} σ H
theorem pss_nil:PSs X [] H9:=fun _ _ σ H _ I h=>wpAny_execs_nil ⟨σ,H,I,h⟩
theorem Uo(h1:PS X st t)(h2:PSs X rest u):PSs X (st::rest) (Lh t u):=by
 intro pins s σ H D I h;refine wpAny_execs_cons (thn (h1 pins s σ H {D with nx:=u D} I h) fun f s1 q=>?_);cases f with
 |next =>obtain⟨σ',H',I',q⟩:=q;exact h2 pins s1 σ' H' D I' q
 |ret v=>exact q
 |brk=>exact q
 |cont=>exact q
theorem Inv.quiet{pins:List (Addr×Obj)}{σ:St}{H:Hp}{s:Shared}(I:Inv X pins σ H s):interactive X.env=false:=by simp[interactive,I.ok.kind]
noncomputable def GW (te:TE):TS:=fun D σ H=>te σ H fun _ H1=>D.nx σ H1
theorem C7(he:PE X e te)(hs:swapsWith e none pos.line X.env=pure false:=by rfl):PS X (.Expr e pos) (GW te):=by intro pins s σ H D I h;exact wpAny_Expr_any (thn (he pins s σ H _ I h) fun v s1 ⟨x,H1,I1,r1,q1⟩=>⟨σ,H1,I1,q1⟩) I.quiet hs
noncomputable def Lo (te:TE):TS:=fun D σ H=>te σ H D.rt
theorem EE(he:PE X e te):PS X (.Return (some e) pos) (Lo te):=by intro pins s σ H D I h;exact wpAny_Return_some (thn (he pins s σ H _ I h) fun v s1 ⟨x,H1,I1,r1,q1⟩=>⟨x,σ,H1,I1,r1,q1⟩)
noncomputable def Pf (c:TT) (t u:TS):TS:=fun D σ H=>c σ H fun b H1=>if b=true then t D σ H1 else u D σ H1
theorem Im{c:Expr}{a b:List Stmt}{tc:TT}(hc:PT X c tc)(ha:PSs X a t)(hb:PSs X b u):PS X (.If c a b pos) (Pf tc t u):=by
 intro pins s σ H D I h;refine wpAny_If (thn (hc pins s σ H _ I h) fun d s1 ⟨H1,I1,q1⟩=>?_);cases d with
 |true=>exact ha pins s1 σ H1 D I1 q1
 |false=>exact hb pins s1 σ H1 D I1 q1
end
noncomputable abbrev TG:=V→St→Hp→(St→Hp→Prop)→Prop
noncomputable abbrev TGs:=List V→St→Hp→(St→Hp→Prop)→Prop
def PG (X:Cx) (target:Expr) (t:TG):Prop :=
 ∀ (pins:List (Addr×Obj)) (s:Shared) (σ:St) (H:Hp) (v:V) (u:Value) (Q:St→Hp→Prop),Inv X pins σ H s→RelV v u→t v σ H Q→
  wpAny (model X.prog X.w) X.A (assign target X.env u) (fun _ s'=>∃ σ' H',Inv X pins σ' H' s'∧Q σ' H') X.xe s
def PGs (X:Cx) (ts:List Expr) (t:TGs):Prop :=
 ∀ (pins:List (Addr×Obj)) (s:Shared) (σ:St) (H:Hp) (vs:List V) (us:List Value) (Q:St→Hp→Prop),Inv X pins σ H s→Vals vs us→t vs σ H Q→
  wpAny (model X.prog X.w) X.A (assignInOrder ((assignEach ts X.env).map (·.2)) us) (fun _ s'=>∃ σ' H',Inv X pins σ' H' s'∧Q σ' H') X.xe s
noncomputable abbrev E6:=V→V→V→Hp→(Hp→Prop)→Prop
def PSet (X:Cx) (t:E6):Prop :=
 ∀ (pins:List (Addr×Obj)) (s:Shared) (σ:St) (H:Hp) (o i v:V) (ov iv u:Value) (Q:Hp→Prop),Inv X pins σ H s→RelV o ov→RelV i iv→RelV v u→t o i v H Q→
  wpAny (model X.prog X.w) X.A (setItem ov iv u) (fun _ s'=>∃ H',Inv X pins σ H' s'∧Q H') X.xe s
section
variable {X:Cx}{pos:Pos}
noncomputable def DY (i:Nat):TG:=fun v σ H Q=>Q (σ.set i (some v)) H
theorem Nk{i:Nat}{x:Str}(hN:X.N.Nodup)(hi:X.N[i]?=some x)(hx:Loc X.env.scope x)(hf:X.fn x=true∨X.env.scope.names.lookup x=some .local:=by first|exact .inl rfl|exact .inr rfl|assumption):PG X (.Name x pos) (DY i):=by intro pins s σ H v u Q I r h;exact wpAny_assign_Name (Au I hN hi hx r (fun s' I'=>⟨_,H,I',h⟩) hf)
noncomputable def LC:TGs:=fun vs σ H Q=>vs=[]∧Q σ H
noncomputable def Hy (t:TG) (u:TGs):TGs:=fun vs σ H Q=>∃ v r,vs=v::r∧t v σ H fun σ' H'=>u r σ' H' Q
theorem pgs_nil:PGs X [] LC:=by intro pins s σ H vs us Q I r h;obtain⟨e,h⟩:=h;subst e;cases r;exact assignInOrder_nil ⟨σ,H,I,h⟩
theorem Wr{e:Expr}{es:List Expr}{t:TG}{u:TGs}(h1:PG X e t)(h2:PGs X es u)
  (hs:(assignEach (e::es) X.env).map (·.2)=assign e X.env::(assignEach es X.env).map (·.2):=by rfl):PGs X (e::es) (Hy t u):=by
 intro pins s σ H vs us Q I r h;obtain⟨v,vr,e1,h⟩:=h;subst e1;cases r with
 |cons r rr =>rw[hs];refine assignInOrder_cons (thn (h1 pins s σ H _ _ _ I r h) fun _ s1 ⟨σ1,H1,I1,q1⟩=>?_);exact h2 pins s1 σ1 H1 _ _ Q I1 rr q1
noncomputable def L8 (K:PySem.W.Frag) (n:Nat) (t:TGs):TG:=fun v σ H Q=>∃ a xs,v=.ref a∧SqT K H a xs∧xs.length=n∧t xs σ H Q
theorem AX{es:List Expr}{k:Nat}{t:TGs}{n:Nat}(hc:X.calm=true)(h:PGs X es t)
  (hn:(assignEach es X.env).length=n:=by rfl) (hst:(assignEach es X.env).findIdx? (·.1)=none:=by rfl):PG X (.Tuple es k pos) (L8 X.K n t):=by
 intro pins s σ H v u Q I r hw;obtain⟨a,xs,e1,hq,hl,hw⟩:=hw;subst e1;cases r;obtain⟨its,rv,ht,hz⟩:=I.tuple hq;refine assign_Tuple_tuple (I.ok.hd hc) ht (by simp[hn,←hl,rv.length]) hst fun h' hx=>?_;have I1:Inv X pins σ H {s with heap:=h'}:=I.kept (t':=s.toks) fun b o e=>hx b o (zI (Heap.lt_size e)) e;exact h pins _ σ H xs _ Q I1 (by simpa using rv) hw
noncomputable def IH (to ti:TE) (t:E6):TG:=fun v σ H Q=>to σ H fun o H1=>ti σ H1 fun i H2=>t o i v H2 fun H3=>Q σ H3
theorem FV{o i:Expr}{to ti:TE}{t:E6}(ho:PE X o to)(hi:PE X i ti)(hs:PSet X t)
  (ha:∀ v,assign (.Subscript o i pos) X.env v=(do
    let ov←holding [v] (eval o X.env)
    let iv←holding [v,ov] (eval i X.env)
    standAt pos
    holding [v,ov,iv] (setItem ov iv v)
    release [v,ov,iv] []):=by intro _;rfl):PG X (.Subscript o i pos) (IH to ti t):=by
 intro pins s σ H v u Q I r h;rw[ha];refine wpAny_bind (wpAny_holding (thn (ho pins s σ H _ I h) fun ov s1 ⟨x,H1,I1,r1,q1⟩=>?_));refine wpAny_bind (wpAny_holding (thn (hi pins s1 σ H1 _ I1 q1) fun iv s2 ⟨y,H2,I2,r2,q2⟩=>?_));refine wpAny_bind (wpAny_standAt (wpAny_bind (wpAny_holding (thn (hs pins s2 σ H2 x y v ov iv u _ I2 r1 r2 r q2) fun _ s3 ⟨H3,I3,q3⟩=>?_))));exact wpAny_release ⟨σ,H3,I3,q3⟩
noncomputable def HB (te:TE) (g:TG):TS:=fun D σ H=>te σ H fun x H1=>g x σ H1 D.nx
theorem AA{tg e:Expr}{te:TE}{g:TG}(he:PE X e te)(hg:PG X tg g)(hs:swapsWithSole [tg] e pos.line X.env=pure false:=by rfl)(hw:swappedStores [tg] e X.env=pure none:=by rfl)
  (h1:(assignEach [tg] X.env).map (·.2)=[assign tg X.env]:=by rfl):PS X (.Assign [tg] e pos) (HB te g):=by
 intro pins s σ H D I h;refine wpAny_Assign_stores (thn (he pins s σ H _ I h) fun v s1 ⟨x,H1,I1,r1,q1⟩=>?_) hs hw;rw[h1];exact thn (hg pins s1 σ H1 x v _ I1 r1 q1) fun _ s2 q=>q
def PGet (X:Cx) (t:V→V→Hp→VK→Prop):Prop :=
 ∀ (pins:List (Addr×Obj)) (s:Shared) (σ:St) (H:Hp) (o i:V) (ov iv:Value) (Q:VK),Inv X pins σ H s→RelV o ov→RelV i iv→t o i H Q→
  wpAny (model X.prog X.w) X.A (getItem ov iv) (EP X pins σ Q) X.xe s
end
section
variable {X:Cx}{pos:Pos}
noncomputable def Fw (c:TT) (tb:TS):TS:=fun D σ H=>∃ W:Nat→St→Hp→Prop,(∃ m,W m σ H)∧∀ m σ H,W m σ H→
 c σ H fun b H1=>if b=true then ∃ N:St→Hp→Prop,(∀ σ' H',N σ' H'→∃ m',m'<m∧W m' σ' H')∧tb {D with nx:=N,ct:=N,bk:=D.nx} σ H1 else D.nx σ H1
theorem UG{c:Expr}{body:List Stmt}{tc:TT}{tb:TS}(hp:PassesOwn (model X.prog X.w) X.A X.env X.xe)(hc:PT X c tc)(hb:PSs X body tb):PS X (.While c body [] pos) (Fw tc tb):=by
 intro pins s σ H D I h;obtain⟨W,⟨m0,w0⟩,turn⟩:=h;refine wpAny_While (codeAny_whileLoop (fun n s'=>∃ σ' H',Inv X pins σ' H' s'∧W n σ' H') ?_ m0 ⟨σ,H,I,w0⟩);rintro n s1 ⟨σ1,H1,I1,w1⟩;refine wpAny_passesOwn hp (thn (hc pins s1 σ1 H1 _ I1 (turn n σ1 H1 w1)) fun b s2 ⟨H2,I2,q2⟩=>?_);cases b with
 |true =>
  obtain⟨N,hN,q2⟩:=q2;rw[if_pos rfl];refine wpAny_passesOwn hp (thn (hb pins s2 σ1 H2 _ I2 q2) fun f s3 q3=>?_);cases f with
  |next =>obtain⟨σ3,H3,I3,n3⟩:=q3;obtain⟨m',hm,w3⟩:=hN σ3 H3 n3;exact⟨m',hm,σ3,H3,I3,w3⟩
  |cont =>obtain⟨σ3,H3,I3,n3⟩:=q3;obtain⟨m',hm,w3⟩:=hN σ3 H3 n3;exact⟨m',hm,σ3,H3,I3,w3⟩
  |brk=>exact q3
  |ret v=>exact q3
 |false =>rw[if_neg Bool.false_ne_true];exact wpAny_execs_nil ⟨σ1,H2,I2,q2⟩
end
structure It where
 go:Nat→Hp→Prop
 yld:Nat→Hp→V→Hp→Prop
 stop:Nat→Hp→Prop
def Xq (X:Cx) (pins:List (Addr×Obj)) (H:Hp) (b:Addr):Prop :=
 H b=none∧b≠X.env.locals∧b∉X.fs∧(b∈X.ex∨X.s₀.heap.objs.size≤b)∧(∀ x c,X.env.cells.lookup x=some c→c≠b)∧∀ p∈X.pn++pins,p.1≠b
theorem Inv.fpOk{X:Cx}{pins:List (Addr×Obj)}{σ:St}{H H':Hp}{s:Shared}{b:Addr}(I:Inv X pins σ H s)(hb:s.heap.objs.size≤b)(hn:H' b=none):Xq X pins H' b:=by
 refine⟨hn,Nat.ne_of_gt (qR I.lt hb),I.nofs hb,.inr (zH I.sz hb),fun x c e z=>?_,fun p hp z=>?_⟩
 ·obtain⟨v,q⟩:=I.cell x c e;exact absurd (qR q.lt (by rw[z];exact hb)) (zO _)
 ·exact absurd (qR (Heap.lt_size (I.pin p hp).1) (by rw[z];exact hb)) (zO _)
structure Turn (P:Program) (w:World) (K:PySem.W.Frag) (tg:Expr) (J:It) (fp:List Addr) (it:Addr) (tn:Nat→Heap→Prop):Prop where
 mem:it∈fp
 obj:∀ i h,tn i h→∀ b∈fp,∃ o,h.get? b=some o∧∀ v,o.data≠.cell v
 keep:∀ i h h',tn i h→(∀ b∈fp,∀ o,h.get? b=some o→h'.get? b=some o)→tn i h'
 item:∀ (X:Cx),X.prog=P→X.w=w→X.K=K→X.calm=true→∀ (i:Nat) (pins:List (Addr×Obj)) (s:Shared) (σ:St) (H:Hp) (E:Value→Shared→Prop),Inv X pins σ H s→(∀ b∈fp,Xq X pins H b)→tn i s.heap→J.go i H→
  wpAny (model P w) X.A (pyNext (.ref it)) (fun r s1=>∃ u,r=some u∧
    wpAny (model P w) X.A (letOwnedTupleGo tg (.ref it) u) (fun _ s2=>∃ x H',Inv X pins σ H' s2∧RelV x u∧J.yld i H x H'∧tn (i+1) s2.heap∧∀ b∈fp,H' b=none) E s1) E s
 done:∀ (X:Cx),X.prog=P→X.w=w→X.K=K→X.calm=true→∀ (i:Nat) (pins:List (Addr×Obj)) (s:Shared) (σ:St) (H:Hp) (E:Value→Shared→Prop),Inv X pins σ H s→(∀ b∈fp,Xq X pins H b)→tn i s.heap→J.stop i H→
  wpAny (model P w) X.A (pyNext (.ref it)) (fun r s1=>r=none∧Inv X pins σ H s1) E s
 self:∀ (A:Around) (i:Nat) (s:Shared) (Q:Value→Shared→Prop) (E:Value→Shared→Prop),tn i s.heap→Q (.ref it) s→wpAny (model P w) A (pyIter (.ref it)) Q E s
noncomputable abbrev TI:=St→Hp→(It→Hp→Prop)→Prop
def PIE (X:Cx) (pins:List (Addr×Obj)) (σ:St) (tg:Expr) (R:It→Hp→Prop) (itv:Value) (s2:Shared):Prop :=
 ∃ (it:Addr) (fp:List Addr) (tn:Nat→Heap→Prop) (J:It) (H':Hp),itv=.ref it∧Inv X pins σ H' s2∧Turn X.prog X.w X.K tg J fp it tn∧tn 0 s2.heap∧(∀ b∈fp,Xq X pins H' b)∧R J H'
def PI (X:Cx) (tg iter:Expr) (wi:TI):Prop :=
 ∀ (pins:List (Addr×Obj)) (s:Shared) (σ:St) (H:Hp) (R:It→Hp→Prop),Inv X pins σ H s→wi σ H R→
  wpAny (model X.prog X.w) X.A (eval iter X.env) (fun v s1=>wpAny (model X.prog X.w) X.A (pyIter v) (PIE X pins σ tg R) X.xe s1) X.xe s
theorem go_of{M:Model}{A:Around}{E:Value→Shared→Prop}{s:Shared}{tg:Expr}{it:Addr}{u:Value}{o:Obj}{n:String}{vs:Array Value}{Q:Unit→Shared→Prop}(ho:s.heap.get? it=some o)(hc:o.cls=.type n)(hd:o.data=.fields vs)
  (hn:["enumerate","zip","dict_itemiterator","dict_reverseitemiterator","odict_iterator","itertools.zip_longest","itertools.pairwise"].contains n=false) (hQ:Q () s):wpAny M A (letOwnedTupleGo tg (.ref it) u) Q E s:=by
 unfold letOwnedTupleGo;cases tg<;>first
  |exact wpAny_pure hQ
  | (cases u<;>first
      |exact wpAny_pure hQ
      | (refine wpAny_bind (wpAny_load ho ?_)
         rw[hc,hd]
         show wpAny M A (if(["enumerate","zip","dict_itemiterator","dict_reverseitemiterator","odict_iterator","itertools.zip_longest","itertools.pairwise"].contains n&&vs[0]? == some (rawInt _))=true then _ else _) Q E s
         rw[if_neg (by intro h;rw[hn,Bool.false_and]at h;cases h)]
         exact wpAny_pure hQ))
noncomputable def Itl (K:PySem.W.Frag) (a:Addr):It :=
 ⟨fun i H=>∃ xs x,SqL K H a xs∧xs[i]?=some x,fun i H x H'=>H'=H∧∀ xs,SqL K H a xs→xs[i]?=some x,fun i H=>∃ xs,SqL K H a xs∧xs.length≤i⟩
noncomputable def Itt (K:PySem.W.Frag) (a:Addr):It :=
 ⟨fun i H=>∃ xs x,SqT K H a xs∧xs[i]?=some x,fun i H x H'=>H'=H∧∀ xs,SqT K H a xs→xs[i]?=some x,fun i H=>∃ xs,SqT K H a xs∧xs.length≤i⟩
noncomputable def Itr (lo:Int) (n:Nat):It:=⟨fun i _=>i<n,fun i H x H'=>H'=H∧x=.int (lo+i),fun i _=>n≤i⟩
theorem Oh{P:Program}{w:World}{K:PySem.W.Frag}{tg:Expr}(a it:Addr):Turn P w K tg (Itl K a) [it] it (fun i h=>h.IsListIter it a i) where
 mem:=by simp
 obj:=fun i h st b hb=>by
  have e:b=it:=by simpa using hb
  subst e;obtain⟨o,e,c,d⟩:=st;exact⟨o,e,fun v z=>by rw[d]at z;cases z⟩
 keep:=fun i h h' st k=>st.at fun o e=>k it (by simp) o e
 item:=by intro X hP hw hK hc i pins s σ H E I hf st hg;subst hP hw hK;obtain⟨xs,x,hq,hx⟩:=hg;obtain⟨its,rv,p,hz⟩:=I.list hq;obtain⟨u,hu,ru⟩:=rv.get hx;obtain⟨f0,f1,f2,f3,f4,f5⟩:=hf it (by simp);refine wpAny_pyNext_list_item st p.isList (x:=u) (by simpa using hu) fun h' st' sb=>?_;have I1:Inv X pins σ H {s with heap:=h'}:=I.turned (t':=s.toks) (fun b o hb e=>(sb.2 b hb).trans e) f0 f1 f3 f4 f5;obtain⟨o,e,c,d⟩:=id st';exact⟨u,rfl,go_of (s:={s with heap:=h'}) e c d (by decide) ⟨x,H,I1,ru,⟨rfl,fun ys hy=>by rw[I.list_inj hy hq];exact hx⟩,st',fun b hb=>(hf b hb).1⟩⟩
 done:=by intro X hP hw hK hc i pins s σ H E I hf st hg;subst hP hw hK;obtain⟨xs,hq,hx⟩:=hg;obtain⟨its,rv,p,hz⟩:=I.list hq;obtain⟨f0,f1,f2,f3,f4,f5⟩:=hf it (by simp);have hl:=rv.length;exact wpAny_pyNext_list_end (I.ok.hd hc) st p.isList (by simp;omega) fun h' eb=>⟨rfl,I.turned (t':=s.toks) (fun b o hb e=>eb b o hb e) f0 f1 f3 f4 f5⟩
 self:=fun _ _ _ _ _ st h=>wpAny_pyIter_listiter st h
theorem Ml{P:Program}{w:World}{K:PySem.W.Frag}{tg:Expr}(a it:Addr):Turn P w K tg (Itt K a) [it] it (fun i h=>h.IsTupleIter it a i) where
 mem:=by simp
 obj:=fun i h st b hb=>by
  have e:b=it:=by simpa using hb
  subst e;obtain⟨o,e,c,d⟩:=st;exact⟨o,e,fun v z=>by rw[d]at z;cases z⟩
 keep:=fun i h h' st k=>st.at fun o e=>k it (by simp) o e
 item:=by intro X hP hw hK hc i pins s σ H E I hf st hg;subst hP hw hK;obtain⟨xs,x,hq,hx⟩:=hg;obtain⟨its,rv,p,hz⟩:=I.tuple hq;obtain⟨u,hu,ru⟩:=rv.get hx;obtain⟨f0,f1,f2,f3,f4,f5⟩:=hf it (by simp);refine wpAny_pyNext_tuple_item st (show s.heap.IsTuple a its.toArray from p) (x:=u) (by simpa using hu) fun h' st' sb=>?_;have I1:Inv X pins σ H {s with heap:=h'}:=I.turned (t':=s.toks) (fun b o hb e=>(sb.2 b hb).trans e) f0 f1 f3 f4 f5;obtain⟨o,e,c,d⟩:=id st';exact⟨u,rfl,go_of (s:={s with heap:=h'}) e c d (by decide) ⟨x,H,I1,ru,⟨rfl,fun ys hy=>by rw[I.tuple_inj hy hq];exact hx⟩,st',fun b hb=>(hf b hb).1⟩⟩
 done:=by intro X hP hw hK hc i pins s σ H E I hf st hg;subst hP hw hK;obtain⟨xs,hq,hx⟩:=hg;obtain⟨its,rv,p,hz⟩:=I.tuple hq;obtain⟨f0,f1,f2,f3,f4,f5⟩:=hf it (by simp);have hl:=rv.length;exact wpAny_pyNext_tuple_end (I.ok.hd hc) st (show s.heap.IsTuple a its.toArray from p) (by simp;omega) fun h' eb=>⟨rfl,I.turned (t':=s.toks) (fun b o hb e=>eb b o hb e) f0 f1 f3 f4 f5⟩
 self:=fun _ _ _ _ _ st h=>wpAny_pyIter_tupleiter st h
theorem Me{P:Program}{w:World}{K:PySem.W.Frag}{tg:Expr}(it:Addr)(lo:Int)(n:Nat):Turn P w K tg (Itr lo n) [it] it (fun i h=>IsRangeIter h it (lo+(i:Nat)*1) ((n:Int) - (i:Nat)) 1) where
 mem:=by simp
 obj:=fun i h st b hb=>by
  have e:b=it:=by simpa using hb
  subst e;exact⟨_,st,fun v z=>by
    have z':Data.fields _=Data.cell v:=z
    cases z'⟩
 keep:=fun i h h' st k=>k it (by simp) _ st
 item:=by intro X hP hw hK hc i pins s σ H E I hf st hg;subst hP hw hK;obtain⟨f0,f1,f2,f3,f4,f5⟩:=hf it (by simp);have W:=Walks.range (prog:=X.prog) (w:=X.w) (I.ok.hd hc) it lo 1 n;refine W.item i s _ _ hg st fun v h' tk hv st' kk=>?_;obtain⟨t,rfl⟩:=hv;have I1:Inv X pins σ H {s with heap:=h',toks:=tk}:=I.turned (fun b o hb e=>kk b o (by simpa using hb) e) f0 f1 f3 f4 f5;refine⟨_,rfl,go_of (s:={s with heap:=h',toks:=tk}) (n:="range_iterator") st' rfl rfl (by decide) ⟨.int (lo+i),H,I1,⟨t,?_⟩,⟨rfl,rfl⟩,st',fun b hb=>(hf b hb).1⟩⟩;rw[Int.mul_one]
 done:=by intro X hP hw hK hc i pins s σ H E I hf st hg;subst hP hw hK;obtain⟨f0,f1,f2,f3,f4,f5⟩:=hf it (by simp);exact wpAny_pyNext_range_end (I.ok.hd hc) st (by have:n≤i:=hg;omega) fun h' eb=>⟨rfl,I.turned (t':=s.toks) (fun b o hb e=>eb b o hb e) f0 f1 f3 f4 f5⟩
 self:=fun _ _ _ _ _ st h=>wpAny_pyIter_rangeiter st h
section
variable {X:Cx}{tg:Expr}
theorem AY{pins:List (Addr×Obj)}{σ:St}{H:Hp}{s:Shared}{R:It→Hp→Prop}{E:Value→Shared→Prop}{lo hi:Int}{t u v:Tok}{tk:Nat}(I:Inv X pins σ H s)(h1:-(2 ^ 62)≤lo)(h2:lo<2 ^ 62)(h3:-(2 ^ 62)≤hi)(h4:hi<2 ^ 62)
  (q:R (Itr lo (hi - lo).toNat) H):wpAny (model X.prog X.w) X.A (pyIter (.ref s.heap.objs.size)) (PIE X pins σ tg R) E {s with heap:=s.heap.push {cls:=.type "range",data:=.fields #[.int lo t,.int hi u,.int 1 v]},toks:=tk}:=by
 refine wpAny_pyIter_range (IsRange.new ..) (small_one h1 h2 h3 h4) ?_;have I1:Inv X pins σ H { s with heap:=s.heap.push { cls:=.type "range",data:=.fields #[.int lo t,.int hi u,.int 1 v] },toks:=tk }:=I.kept fun b o e=>Heap.get?_push_of_some _ e;refine⟨(s.heap.push { cls:=.type "range",data:=.fields #[.int lo t,.int hi u,.int 1 v] }).objs.size,[(s.heap.push { cls:=.type "range",data:=.fields #[.int lo t,.int hi u,.int 1 v] }).objs.size],_,_,H,rfl,
   I1.kept (t':=tk) fun b o e=>Heap.get?_push_of_some _ e,Me _ lo (hi - lo).toNat,?_,fun b hb=>?_,q⟩
 ·have e1:lo+((0:Nat):Int)*1=lo:=by simp
  have e2:(((hi - lo).toNat:Nat):Int) - ((0:Nat):Int)=Builtin.Range.rangeSize lo hi 1:=by rw[rangeSize_one];split<;>omega
  show IsRangeIter _ _ (lo+((0:Nat):Int)*1) ((((hi - lo).toNat:Nat):Int) - ((0:Nat):Int)) 1;rw[e1,e2];exact Heap.get?_push_size _ rfl
 ·have e:b=(s.heap.push {cls:=.type "range",data:=.fields #[.int lo t,.int hi u,.int 1 v]}).objs.size:=by simpa using hb
  subst e;exact I1.fpOk (zJ _) (I1.hok.fresh (zJ _))
noncomputable def HY (ta:TA):TI:=fun σ H R=>ta σ H fun vs H1=>∃ j:Int,vs=[.int j]∧-(2 ^ 62)≤j∧j<2 ^ 62∧R (Itr 0 j.toNat) H1
theorem Od {a:Expr}{ta:TA}{p pos:Pos}(hg:Gl X "range") (hm:X.mg "range" = none) (ha:PA X [a] ta) (hs:starEach [a] X.env=[(false,eval a X.env)]:=by rfl):PI X tg (.Call (.Name "range" p) [a] [] pos) (HY ta):=by
 intro pins s σ H R I h;refine Call_ (Yu I hg hm boot_range (PyProof.Rows.callWith_type1 (thn (ha pos pins s σ H _ I h) fun us s1 ⟨vs,H1,I1,r1,q1⟩=>?_) hs rfl));obtain⟨j,e,q1,q2,q⟩:=q1;subst e;cases r1 with
 |cons r rr =>cases rr;obtain⟨t,rfl⟩:=r;exact call_range_1 (AY I1 (by omega) (by omega) q1 q2 (by simpa using q))
noncomputable def LF (wi:TI) (g:TG) (tb:TS):TS:=fun D σ H=>wi σ H fun J H1=>∃ W:Nat→Nat→St→Hp→Prop,(∃ m,W 0 m σ H1)∧∀ i m σ H,W i m σ H→
 (J.stop i H∧D.nx σ H)∨(J.go i H∧∃ N:St→Hp→Prop,(∀ σ' H',N σ' H'→∃ m',m'<m∧W (i+1) m' σ' H')∧∀ x H',J.yld i H x H'→g x σ H' fun σ2 H2=>tb {D with nx:=N,ct:=N,bk:=D.nx} σ2 H2)
noncomputable def YX (fp:List Addr) (h:Heap):List (Addr×Obj):=fp.filterMap fun b=>(h.get? b).map fun o=>(b,o)
theorem ZZ{fp:List Addr}{h:Heap}{b:Addr}{o:Obj}(hb:b∈fp)(e:h.get? b=some o):(b,o)∈YX fp h:=zM.mpr ⟨b,hb,by rw[e];rfl⟩
theorem WS{fp:List Addr}{h:Heap}{p:Addr×Obj}(hp:p∈YX fp h):p.1∈fp∧h.get? p.1=some p.2:=by
 obtain⟨b,hb,e⟩:=zM.mp hp;cases q:h.get? b with
 |none=>rw[q]at e;cases e
 |some o =>rw[q]at e;have e':(b,o)=p:=Option.some.inj e;subst e';exact⟨hb,q⟩
theorem Inv.pinned{pins:List (Addr×Obj)}{σ:St}{H:Hp}{s:Shared}{fp:List Addr}(I:Inv X pins σ H s)(hf:∀ b∈fp,Xq X pins H b)(ho:∀ b∈fp,∃ o,s.heap.get? b=some o∧∀ v,o.data≠.cell v):Inv X (pins++YX fp s.heap) σ H s :=
 I.pins_of fun p hp=>(q9.mp hp).elim (fun z=>I.pin p (qL _ z)) fun z=>by obtain⟨hb,e⟩:=WS z;obtain⟨f0,f1,f2,_⟩:=hf p.1 hb;obtain⟨o,e',d⟩:=ho p.1 hb;rw[e]at e';cases e';exact⟨e,f0,f1,f2,d⟩
theorem Inv.unpinned{pins pl:List (Addr×Obj)}{σ:St}{H:Hp}{s:Shared}(I:Inv X (pins++pl) σ H s):Inv X pins σ H s:=I.pins_of fun p hp=>I.pin p (qL _ (qM _ hp))
theorem Gf{iter:Expr}{body:List Stmt}{wi:TI}{g:TG}{tb:TS}{pos:Pos}(hp:PassesOwn (model X.prog X.w) X.A X.env X.xe)(hc:X.calm=true)(hi:PI X tg iter wi)(hg:PG X tg g)(hb:PSs X body tb)
  (hs:∀ x,foldedSetIterable iter X.env x=pure x:=by intro _;rfl):PS X (.For tg iter body [] pos) (LF wi g tb):=by
 intro pins s σ H D I h;refine wpAny_For (thn (hi pins s σ H _ I h) fun v s1 h1=>thn h1 fun itv s2 h2=>?_) hs;obtain⟨it,fp,tn,J,H2,e,I2,T,st2,f2,W,⟨m0,w0⟩,turn⟩:=h2;subst e;have stat:∀ {H':Hp},(∀ b∈fp,H' b=none)→∀ b∈fp,Xq X pins H' b:=fun hn b hb=>⟨hn b hb,(f2 b hb).2⟩
 refine codeAny_forLoop_any (fun n s'=>∃ i σ' H',Inv X pins σ' H' s'∧tn i s'.heap∧(∀ b∈fp,H' b=none)∧W i n σ' H') ?_ m0 ⟨0,σ,H2,I2,st2,fun b hb=>(f2 b hb).1,w0⟩;rintro n s3 ⟨i,σ3,H3,I3,st3,fr3,w3⟩;rcases turn i n σ3 H3 w3 with⟨stop,qn⟩|⟨go,N,hN,step⟩
 ·refine wpAny_passesOwn hp (thn (T.done X rfl rfl rfl hc i pins s3 σ3 H3 X.xe I3 (stat fr3) st3 stop) fun r s4 ⟨hr,I4⟩=>?_);subst hr;exact wpAny_execs_nil ⟨σ3,H3,I4,qn⟩
 ·refine wpAny_passesOwn hp (thn (T.item X rfl rfl rfl hc i pins s3 σ3 H3 X.xe I3 (stat fr3) st3 go) fun r s4 ⟨u,hr,h4⟩=>?_);subst hr;refine wpAny_passesOwn hp (thn h4 fun _ s5 ⟨x,H5,I5,r5,y5,st5,fr5⟩=>?_);have I5':=I5.pinned (stat fr5) (T.obj _ _ st5);refine wpAny_passesOwn hp (thn (hg _ s5 σ3 H5 x u _ I5' r5 (step x H5 y5)) fun _ s6 ⟨σ6,H6,I6,q6⟩=>?_);refine wpAny_passesOwn hp (thn (hb _ s6 σ6 H6 _ I6 q6) fun f s7 q7=>?_);have again:∀ {σ7:St}{H7:Hp},Inv X (pins++YX fp s5.heap) σ7 H7 s7→N σ7 H7→∃ m,m<n∧∃ i σ' H',Inv X pins σ' H' s7∧tn i s7.heap∧(∀ b∈fp,H' b=none)∧W i m σ' H':=fun {σ7 H7} I7 n7=>by
   obtain⟨m',hm,w7⟩:=hN σ7 H7 n7;refine⟨m',hm,i+1,σ7,H7,I7.unpinned,T.keep _ _ _ st5 fun b hb o e=>(I7.pin (b,o) (qL _ (qL _ (ZZ hb e)))).1,fun b hb=>?_,w7⟩;obtain⟨o,e,d⟩:=T.obj _ _ st5 b hb;exact(I7.pin (b,o) (qL _ (qL _ (ZZ hb e)))).2.1
  cases f with
  |next=>obtain⟨σ7,H7,I7,n7⟩:=q7;exact again I7 n7
  |cont=>obtain⟨σ7,H7,I7,n7⟩:=q7;exact again I7 n7
  |brk=>obtain⟨σ7,H7,I7,q7⟩:=q7;exact⟨σ7,H7,I7.unpinned,q7⟩
  |ret v=>obtain⟨x7,σ7,H7,I7,r7,q7⟩:=q7;exact⟨x7,σ7,H7,I7.unpinned,r7,q7⟩
end
noncomputable abbrev R2:=V→V→Hp→VK→Prop
def OpR (X:Cx) (f:Value→Value→Sem Value) (r:R2):Prop :=
 ∀ (pins:List (Addr×Obj)) (s:Shared) (σ:St) (H:Hp) (x y:V) (v u:Value) (Q:VK),Inv X pins σ H s→RelV x v→RelV y u→r x y H Q→
  wpAny (model X.prog X.w) X.A (f v u) (EP X pins σ Q) X.xe s
def UnR (X:Cx) (f:Value→Sem Value) (r:V→Hp→VK→Prop):Prop :=
 ∀ (pins:List (Addr×Obj)) (s:Shared) (σ:St) (H:Hp) (x:V) (v:Value) (Q:VK),Inv X pins σ H s→RelV x v→r x H Q→
  wpAny (model X.prog X.w) X.A (f v) (EP X pins σ Q) X.xe s
def CallR (X:Cx) (f:Value) (r:List V→Hp→VK→Prop):Prop :=
 ∀ (pins:List (Addr×Obj)) (s:Shared) (σ:St) (H:Hp) (xs:List V) (us:List Value) (Q:VK),Inv X pins σ H s→Vals xs us→r xs H Q→
  wpAny (model X.prog X.w) X.A (call f us) (EP X pins σ Q) X.xe s
def Lg (X:Cx) (r:V→Hp→(Bool→Hp→Prop)→Prop):Prop :=
 ∀ (pins:List (Addr×Obj)) (s:Shared) (σ:St) (H:Hp) (x:V) (v:Value) (Q:Bool→Hp→Prop),Inv X pins σ H s→RelV x v→r x H Q→
  wpAny (model X.prog X.w) X.A (truthy v) (TP X pins σ Q) X.xe s
noncomputable def tOp (r:R2) (ta tb:TE):TE:=fun σ H Q=>ta σ H fun x H1=>tb σ H1 fun y H2=>r x y H2 Q
noncomputable def tUn (r:V→Hp→VK→Prop) (ta:TE):TE:=fun σ H Q=>ta σ H fun x H1=>r x H1 Q
noncomputable def rI (C:Int→Int→Prop) (g:Int→Int→V):R2:=fun x y H Q=>∃ i j,x=.int i∧y=.int j∧C i j∧Q (g i j) H
noncomputable def rI0 (g:Int→Int→V):R2:=fun x y H Q=>∃ i j,x=.int i∧y=.int j∧Q (g i j) H
def rU (g:Int→V):V→Hp→VK→Prop:=fun x H Q=>∃ i,x=.int i∧Q (g i) H
section
variable {X:Cx}{a b c:Expr}{ta tb tc:TE}{pos:Pos}
theorem EG(ha:PE X a ta)(hb:PE X b tb){pins:List (Addr×Obj)}{s:Shared}{σ:St}{H:Hp}{R:V→V→Hp→Prop}(I:Inv X pins σ H s)
  (h:ta σ H fun x H1=>tb σ H1 fun y H2=>R x y H2){Q:Value→Shared→Prop}{f:Value→Value→Sem Value}
  (hf:∀ v u s2 x y H2,Inv X pins σ H2 s2→RelV x v→RelV y u→R x y H2→wpAny (model X.prog X.w) X.A (f v u) Q X.xe s2) :
  wpAny (model X.prog X.w) X.A (eval a X.env) (fun v s₁=>wpAny (model X.prog X.w) X.A (eval b X.env) (fun u s₂=>wpAny (model X.prog X.w) X.A (f v u) Q X.xe s₂) X.xe s₁) X.xe s:=by
 refine thn (ha pins s σ H _ I h) fun v s1 ⟨x,H1,I1,r1,q1⟩=>?_;refine thn (hb pins s1 σ H1 _ I1 q1) fun u s2 ⟨y,H2,I2,r2,q2⟩=>?_;exact hf v u s2 x y H2 I2 r1 r2 q2
theorem GK{op:Operator}{r:R2}(ho:OpR X (binaryOp op) r)(ha:PE X a ta)(hb:PE X b tb):PE X (.BinOp a op b pos) (tOp r ta tb):=by intro pins s σ H Q I h;exact wpAny_BinOp (EG ha hb I h fun v u s2 x y H2 I2 rx ry q=>ho pins s2 σ H2 x y v u Q I2 rx ry q)
theorem Ia{op:UnaryOp}{r:V→Hp→VK→Prop}(ho:UnR X (unaryOp op) r)(ha:PE X a ta):PE X (.UnaryOp op a pos) (tUn r ta):=by intro pins s σ H Q I h;exact UnaryOp_ (thn (ha pins s σ H _ I h) fun v s1 ⟨x,H1,I1,r1,q1⟩=>ho pins s1 σ H1 x v Q I1 r1 q1)
theorem opI{f:Value→Value→Sem Value}{C:Int→Int→Prop}{g:Int→Int→Int}
  (rule:∀ (i j:Int) (t u:Tok) (s:Shared) (Q:Value→Shared→Prop) (E:Value→Shared→Prop),C i j→Q (.int (g i j) s.toks) {s with toks:=s.toks+1}→wpAny (model X.prog X.w) X.A (f (.int i t) (.int j u)) Q E s) :
  OpR X f (rI C fun i j=>.int (g i j)):=by
 intro pins s σ H x y v u Q I rx ry h;obtain⟨i,j,rfl,rfl,hc,q⟩:=h;obtain⟨t,rfl⟩:=rx;obtain⟨t',rfl⟩:=ry;exact rule i j t t' s _ _ hc ⟨.int (g i j),H,I.tok _,⟨_,rfl⟩,q⟩
theorem IE{f:Value→Value→Sem Value}{g:Int→Int→Int}
  (rule:∀ (i j:Int) (t u:Tok) (s:Shared) (Q:Value→Shared→Prop) (E:Value→Shared→Prop),Q (.int (g i j) s.toks) {s with toks:=s.toks+1}→wpAny (model X.prog X.w) X.A (f (.int i t) (.int j u)) Q E s) :
  OpR X f (rI0 fun i j=>.int (g i j)):=by
 intro pins s σ H x y v u Q I rx ry h;obtain⟨i,j,rfl,rfl,q⟩:=h;obtain⟨t,rfl⟩:=rx;obtain⟨t',rfl⟩:=ry;exact rule i j t t' s _ _ ⟨.int (g i j),H,I.tok _,⟨_,rfl⟩,q⟩
theorem BG{f:Value→Value→Sem Value}{g:Int→Int→Bool}
  (rule:∀ (i j:Int) (t u:Tok) (s:Shared) (Q:Value→Shared→Prop) (E:Value→Shared→Prop),Q (.bool (g i j)) s→wpAny (model X.prog X.w) X.A (f (.int i t) (.int j u)) Q E s) :
  OpR X f (rI0 fun i j=>.bl (g i j)):=by
 intro pins s σ H x y v u Q I rx ry h;obtain⟨i,j,rfl,rfl,q⟩:=h;obtain⟨t,rfl⟩:=rx;obtain⟨t',rfl⟩:=ry;exact rule i j t t' s _ _ ⟨.bl (g i j),H,I,rfl,q⟩
def GL (i j:Int):Prop:=0<j∧j<1073741824
def HE (i j:Int):Prop:=0≤j∧j≤1000000∧i.natAbs<2 ^ 64
def CMul (i j:Int):Prop:=(-(2 ^ 64)<i∧i<2 ^ 64)∨(-(2 ^ 64)<j∧j<2 ^ 64)
theorem CMul.ok{i j:Int}(h:CMul i j):IntMulOk i j:=by
 rcases h with⟨h1,h2⟩|⟨h1,h2⟩
 ·exact .of_left (intBits_le_64 h1 h2)
 ·exact .of_right (intBits_le_64 h1 h2)
theorem op_add:OpR X (binaryOp .Add) (rI0 fun i j=>.int (i+j)):=IE fun _ _ _ _ _ _ _ q=>add_int q
theorem FF:OpR X (binaryOp .Sub) (rI0 fun i j=>.int (i - j)):=IE fun _ _ _ _ _ _ _ q=>sub_int q
theorem Cb:OpR X (binaryOp .FloorDiv) (rI GL fun i j=>.int (i / j)):=opI fun i j _ _ _ _ _ hc q=>by have h1:(0:Int)<j:=hc.1;have h2:j<1073741824:=hc.2;exact floordiv_int (by omega) (by rw[Int.fdiv_eq_ediv_of_nonneg i (by omega)];exact q) (.inl (PyProof.noPylong_small (by omega)))
theorem EY:OpR X (binaryOp .Mod) (rI (fun _ j=>0<j) fun i j=>.int (i % j)):=opI fun i j _ _ _ _ _ hc q=>by have h1:(0:Int)<j:=hc;exact mod_int' (by omega) (by rw[Int.fmod_eq_emod_of_nonneg i (by omega)];exact q)
theorem F6:OpR X (binaryOp .Pow) (rI HE fun i j=>.int (i ^ j.toNat)):=opI fun _ _ _ _ _ _ _ hc q=>pow_int_small hc.1 hc.2.1 hc.2.2 q
theorem unI{f:Value→Sem Value}{g:Int→Int}
  (rule:∀ (i:Int) (t:Tok) (s:Shared) (Q:Value→Shared→Prop) (E:Value→Shared→Prop),Q (.int (g i) s.toks) {s with toks:=s.toks+1}→wpAny (model X.prog X.w) X.A (f (.int i t)) Q E s) :
  UnR X f (rU fun i=>.int (g i)):=by
 intro pins s σ H x v Q I rx h;obtain⟨i,rfl,q⟩:=h;obtain⟨t,rfl⟩:=rx;exact rule i t s _ _ ⟨.int (g i),H,I.tok _,⟨_,rfl⟩,q⟩
theorem Fe:UnR X (unaryOp .USub) (rU fun i=>.int (-i)):=unI fun _ _ _ _ _ q=>neg_int q
end
section
variable {X:Cx}{a b c:Expr}{ta tb tc:TE}{pos:Pos}
theorem U4{pins:List (Addr×Obj)}{σ:St}{H:Hp}{s:Shared}{Q:VK}{k k':Bool}(I:Inv X pins σ H s)(q:Q (.bl k) H)(e:k=k'):EP X pins σ Q (.bool k') s:=by subst e;exact⟨.bl k,H,I,rfl,q⟩
theorem op_lt:OpR X (compareOp .Lt) (rI0 fun i j=>.bl (decide (i<j))):=BG fun _ _ _ _ _ _ _ q=>lt_int q
theorem HU:OpR X (compareOp .LtE) (rI0 fun i j=>.bl (decide (i≤j))):=BG fun _ _ _ _ _ _ _ q=>le_int q
theorem op_gt:OpR X (compareOp .Gt) (rI0 fun i j=>.bl (decide (j<i))):=BG fun _ _ _ _ _ _ _ q=>gt_int q
theorem G0:OpR X (compareOp .GtE) (rI0 fun i j=>.bl (decide (j≤i))):=BG fun _ _ _ _ _ _ _ q=>ge_int q
theorem Ot:OpR X (compareOp .In) (fun x y H Q=>∃ i j,x=.str i∧y=.str j∧Q (.bl (!(Builtin.Str.occurrences j i 0 j.length 1).isEmpty)) H):=by intro pins s σ H x y v u Q I rx ry h;obtain⟨i,j,rfl,rfl,q⟩:=h;obtain⟨t,rfl⟩:=rx;obtain⟨t',rfl⟩:=ry;exact in_str (U4 I q rfl)
theorem OpR.or{f:Value→Value→Sem Value}{r r':R2}(h:OpR X f r)(h':OpR X f r'):OpR X f (fun x y H Q=>r x y H Q∨r' x y H Q):=by
 intro pins s σ H x y v u Q I rx ry q;rcases q with q|q
 ·exact h pins s σ H x y v u Q I rx ry q
 ·exact h' pins s σ H x y v u Q I rx ry q
theorem MZ{op:CmpOp}{r:R2}(ho:OpR X (compareOp op) r)(ha:PE X a ta)(hb:PE X b tb)(hm:behindInMarks op b=false):PE X (.Compare a [op] [b] pos) (tOp r ta tb):=by intro pins s σ H Q I h;exact wpAny_Compare1 (EG ha hb I h fun v u s2 x y H2 I2 rx ry q=>ho pins s2 σ H2 x y v u Q I2 rx ry q) hm
noncomputable def DW (t:TE):TT:=fun σ H Q=>t σ H fun x H'=>∃ k,x=.bl k∧Q k H'
theorem Np{op:CmpOp}{r:R2}(ho:OpR X (compareOp op) r)(ha:PE X a ta)(hb:PE X b tb)(hm:behindInMarks op b=false):PT X (.Compare a [op] [b] pos) (DW (tOp r ta tb)):=by
 intro pins s σ H Q I h;refine wpAny_isTrue_Compare1 (thn (ha pins s σ H _ I h) fun v s1 ⟨x,H1,I1,r1,q1⟩=>thn (hb pins s1 σ H1 _ I1 q1) fun u s2 ⟨y,H2,I2,r2,q2⟩ =>
   thn (ho pins s2 σ H2 x y v u _ I2 r1 r2 q2) fun c s3 ⟨z,H3,I3,r3,k,e,q3⟩=>?_) hm
 subst e;cases r3;exact wpAny_truthy_bool ⟨H3,I3,q3⟩
noncomputable def OY (r r':R2) (ta tb tc:TE):TE:=fun σ H Q=>ta σ H fun x H1=>tb σ H1 fun y H2=>r x y H2 fun z H3=>∃ k,z=.bl k∧
 (if k=true then tc σ H3 fun w' H4=>r' y w' H4 Q else Q (.bl false) H3)
theorem Bc{op op':CmpOp}{r r':R2}(ho:OpR X (compareOp op) r)(ho':OpR X (compareOp op') r')(ha:PE X a ta)(hb:PE X b tb)(hc:PE X c tc)
  (hm:lastMarks [op,op'] [b,c]=false:=by with_unfolding_all rfl):PE X (.Compare a [op,op'] [b,c] pos) (OY r r' ta tb tc):=by
 intro pins s σ H Q I h;refine Compare_chain (thn (ha pins s σ H _ I h) fun v s1 ⟨x,H1,I1,r1,q1⟩=>chain_link (thn (hb pins s1 σ H1 _ I1 q1) fun u s2 ⟨y,H2,I2,r2,q2⟩ =>
   thn (ho pins s2 σ H2 x y v u _ I2 r1 r2 q2) fun d s3 ⟨z,H3,I3,r3,k,e,q3⟩=>?_)) hm
 subst e;cases r3;refine wpAny_truthy_bool ?_;cases k with
 |false=>exact ite_ff ⟨.bl false,H3,I3,rfl,q3⟩
 |true=>exact ite_tt (chain_last (thn (hc pins s3 σ H3 _ I3 q3) fun w' s4 ⟨z',H4,I4,r4,q4⟩=>ho' pins s4 σ H4 y z' u w' Q I4 r2 r4 q4))
theorem At{op op':CmpOp}{r r':R2}(ho:OpR X (compareOp op) r)(ho':OpR X (compareOp op') r')(ha:PE X a ta)(hb:PE X b tb)(hc:PE X c tc)
  (hm:lastMarks [op,op'] [b,c]=false:=by with_unfolding_all rfl):PT X (.Compare a [op,op'] [b,c] pos) (DW (OY r r' ta tb tc)):=by
 intro pins s σ H Q I h;refine isTrue_chain (thn (ha pins s σ H _ I h) fun v s1 ⟨x,H1,I1,r1,q1⟩=>test_link (thn (hb pins s1 σ H1 _ I1 q1) fun u s2 ⟨y,H2,I2,r2,q2⟩ =>
   thn (ho pins s2 σ H2 x y v u _ I2 r1 r2 q2) fun d s3 ⟨z,H3,I3,r3,k,e,q3⟩=>?_)) hm
 subst e;cases r3;refine wpAny_truthy_bool ?_;cases k with
 |false =>obtain⟨k',e',q'⟩:=q3;cases e';exact ite_ff ⟨H3,I3,q'⟩
 |true =>refine ite_tt (test_last (thn (hc pins s3 σ H3 _ I3 q3) fun w' s4 ⟨z',H4,I4,r4,q4⟩=>thn (ho' pins s4 σ H4 y z' u w' _ I4 r2 r4 q4) fun d' s5 ⟨z2,H5,I5,r5,k2,e2,q5⟩=>?_));subst e2;cases r5;exact wpAny_truthy_bool ⟨H5,I5,q5⟩
def IG (K:PySem.W.Frag) (x:V) (H:Hp) (k:Bool):Prop :=
 match x with
 |.non=>k=false
 |.bl b=>k=b
 |.int i=>k=(i != 0)
 |.str y=>y.length≤sizeLine∧k=((y.length:Int) != 0)
 |.byt y=>y.size≤sizeLine∧k=((y.size:Int) != 0)
 |.ref p=>(∃ xs,SqL K H p xs∧k=!xs.isEmpty)∨(∃ xs,SqT K H p xs∧k=!xs.isEmpty)∨∃ kvs,H p=some (.dK kvs)∧k=!kvs.isEmpty
 |_=>False
theorem KY{κ:Type}{kvs:List (κ×V)}{vs:List (κ×Value)}(r:KV kvs vs):(!vs.isEmpty)=!kvs.isEmpty:=by cases r<;>rfl
theorem Wm{xs:List V}{its:List Value}(r:Vals xs its):(!its.toArray.isEmpty)=!xs.isEmpty:=by cases r<;>simp
theorem YM:(sizeLine:Nat)<2 ^ 63:=by rw[sizeLine_eq];decide
theorem Gp:Lg X (fun x H Q=>∃ k,IG X.K x H k∧Q k H):=by
 intro pins s σ H x v Q I rx h;obtain⟨k,e,q⟩:=h;have hl:=YM;have hs:sizeLine=16777216:=sizeLine_eq;cases x with
 |non =>cases rx;have e':k=false:=e;subst e';exact truthy_none ⟨H,I,q⟩
 |bl b =>cases rx;have e':k=b:=e;subst e';exact wpAny_truthy_bool ⟨H,I,q⟩
 |int i =>obtain⟨t,rfl⟩:=rx;have e':k=(i != 0):=e;subst e';exact PySem.P.truthy_int ⟨H,I,q⟩
 |str y =>obtain⟨t,rfl⟩:=rx;obtain⟨hy,e'⟩:y.length≤sizeLine∧k=((y.length:Int) != 0):=e;subst e';exact PySem.P.truthy_str (by omega) ⟨H,I.tok _,q⟩
 |byt y =>obtain⟨t,rfl⟩:=rx;obtain⟨hy,e'⟩:y.size≤sizeLine∧k=((y.size:Int) != 0):=e;subst e';exact PySem.W.truthy_bytes (by omega) ⟨H,I.tok _,q⟩
 |ref p =>
  cases rx;have e':(∃ xs,SqL X.K H p xs∧k=!xs.isEmpty)∨(∃ xs,SqT X.K H p xs∧k=!xs.isEmpty)∨∃ kvs,H p=some (.dK kvs)∧k=!kvs.isEmpty:=e;rcases e' with⟨xs,hx,e'⟩|⟨xs,hx,e'⟩|⟨kvs,hx,e'⟩
  ·subst e';obtain⟨its,r,pl,hz⟩:=I.list hx;have hlen:=r.length;exact wpAny_truthy_list pl.isList (by simp only[qC];omega) ⟨H,I.tok _,by rw[Wm r];exact q⟩
  ·subst e';obtain⟨its,r,pl,hz⟩:=I.tuple hx;have hlen:=r.length;exact truthy_tuple pl (by simp only[qC];omega) ⟨H,I.tok _,by rw[Wm r];exact q⟩
  ·subst e';obtain⟨hz,hS,vs,r,m⟩:kvs.length≤sizeLine∧(p==sysModules)=false∧∃ vs,KV kvs vs∧s.heap.DictOf (Zn X.prog X.w) p vs:=I.hok p _ hx;have hlen:kvs.length=vs.length:=Paired.length r;exact wpAny_truthy_dict hS m (by omega) ⟨H,I.tok _,by rw[KY r];exact q⟩
 |_=>exact(show False from e).elim
theorem AD(ha:PE X a ta)(he:∀ whole,isTrue a X.env whole=(do let v←whole;standAt a.pos;holding [v] (truthy v))) :
  PT X a (fun σ H Q=>ta σ H fun x H'=>∃ k,IG X.K x H' k∧Q k H'):=by
 intro pins s σ H Q I h;exact isTrue_plain (thn (ha pins s σ H _ I h) fun v s1 ⟨x,H1,I1,r1,q1⟩=>Gp pins s1 σ H1 x v Q I1 r1 q1) (he _)
theorem MD:OpR X (binaryOp .Add) (fun x y H Q=>∃ i j,x=.str i∧y=.str j∧i.length+j.length≤sizeLine∧Q (.str (i++j)) H):=by intro pins s σ H x y v u Q I rx ry h;obtain⟨i,j,rfl,rfl,hz,q⟩:=h;obtain⟨t,rfl⟩:=rx;obtain⟨t',rfl⟩:=ry;exact add_str (fun t' tk=>⟨.str (i++j),H,I.tok _,⟨_,rfl⟩,q⟩) hz
theorem ZJ{x:V}{us:List Value}(r:Vals [x] us):∃ u,us=[u]∧RelV x u:=by
 cases r with
 |cons r1 r2=>cases r2;exact⟨_,rfl,r1⟩
theorem Kz{x y:V}{us:List Value}(r:Vals [x,y] us):∃ u w',us=[u,w']∧RelV x u∧RelV y w':=by
 cases r with
 |cons r1 r2 =>
  cases r2 with
  |cons r3 r4=>cases r4;exact⟨_,_,rfl,r1,r3⟩
theorem OK (hc:X.calm=true):CallR X (.builtin "max") (fun xs H Q=>∃ i j,xs=[.int i,.int j]∧Q (.int (if j > i then j else i)) H):=by
 intro pins s σ H xs us Q I r h;obtain⟨i,j,rfl,q⟩:=h;obtain⟨u,w',rfl,⟨t,rfl⟩,⟨t',rfl⟩⟩:=Kz r;refine max_two_ints (I.ok.hd hc) fun h' tk k=>⟨_,H,I.kept k,?_,q⟩
 by_cases hj:j > i
 ·rw[if_pos hj,if_pos hj];exact⟨_,rfl⟩
 ·rw[if_neg hj,if_neg hj];exact⟨_,rfl⟩
theorem NX (hc:X.calm=true):CallR X (.builtin "min") (fun xs H Q=>∃ i j,xs=[.int i,.int j]∧Q (.int (if j<i then j else i)) H):=by
 intro pins s σ H xs us Q I r h;obtain⟨i,j,rfl,q⟩:=h;obtain⟨u,w',rfl,⟨t,rfl⟩,⟨t',rfl⟩⟩:=Kz r;refine min_two_ints (I.ok.hd hc) fun h' tk k=>⟨_,H,I.kept k,?_,q⟩
 by_cases hj:j<i
 ·rw[if_pos hj,if_pos hj];exact⟨_,rfl⟩
 ·rw[if_neg hj,if_neg hj];exact⟨_,rfl⟩
theorem call_int1:CallR X (.type "int") (fun xs H Q=>(∃ i,xs=[.int i]∧Q (.int i) H)∨∃ k,xs=[.bl k]∧Q (.int (if k then 1 else 0)) H):=by
 intro pins s σ H xs us Q I r h;rcases h with⟨i,rfl,q⟩|⟨k,rfl,q⟩
 ·obtain⟨u,rfl,t,rfl⟩:=ZJ r;exact call_int_int ⟨.int i,H,I,⟨_,rfl⟩,q⟩
 ·obtain⟨u,rfl,r1⟩:=ZJ r;cases r1;exact call_int_bool ⟨.int (if k then 1 else 0),H,I.tok _,⟨_,rfl⟩,q⟩
theorem call_str_int:CallR X (.type "str") (fun xs H Q=>∃ i,xs=[.int i]∧i.natAbs.log2<1920∧Q (.str (toString i)) H):=by intro pins s σ H xs us Q I r h;obtain⟨i,rfl,hz,q⟩:=h;obtain⟨u,rfl,t,rfl⟩:=ZJ r;exact PySem.P.str_of_int hz ⟨.str _,H,I.tok _,⟨_,rfl⟩,q⟩
end
structure ObjM (h:Heap) (x dx C:Addr) (mA:Str→Option Value):Prop where
 obj:h.get? x=some (PySem.W.instObj C dx)
 ns:h.Ns1 dx mA
 ne:dx≠x
theorem OL{h:Heap}{dx:Addr}{mA:Str→Option Value}(n:h.Ns1 dx mA):∃ od,h.get? dx=some od∧∀ name,PySem.W.lookIn name od=some (mA name):=by
 obtain⟨o,es,ep,ho,hd,hk,_,hm⟩:=n;refine⟨o,ho,fun name=>?_⟩;have e:=hm name;unfold nsFind findBy at e;rw[←Array.find?_toList]at e;unfold PySem.W.lookIn;rw[hd];dsimp only;split
 ·rename_i y q;rw[q]at e;exact congrArg some e
 ·rename_i q;rw[q]at e;have a:es.toList.any (·.refKey)=false:=by
   rw[List.any_eq_false];intro y hy;obtain⟨z,t,hkey⟩:=hk y (Array.mem_toList_iff.mp hy);simp[DictEntry.refKey,hkey]
  have a':¬ es.toList.any (·.refKey)=true:=by rw[a];exact Bool.false_ne_true
  rw[if_neg a'];exact congrArg some e
theorem ObjM.look{h:Heap}{x dx C:Addr}{mA:Str→Option Value}(I:ObjM h x dx C mA):∃ od,PySem.W.InstAt h x (PySem.W.instObj C dx) C (some od)∧∀ name,PySem.W.lookIn name od=some (mA name) :=
 let ⟨od,ho,hl⟩:=OL I.ns
 ⟨od,⟨I.obj,rfl,rfl,ho⟩,hl⟩
noncomputable def putF (f:Str) (v:V):List (Str×V)→List (Str×V)
 |[]=>[(f,v)]
 |(g,x)::r=>if g=f then(g,v)::r else(g,x)::putF f v r
theorem RelO.some_of{v:V}{o:Option Value}(r:RelO (some v) o):∃ u,o=some u∧RelV v u:=by
 cases o with
 |none=>exact(show False from r).elim
 |some u=>exact⟨u,rfl,r⟩
section
variable {P:Program}{w:World}{H H':Hp}{h h':Heap}{a C dx:Addr}{fs fs':List (Str×V)}
theorem M7(hok:HOk P w H h)(e:H a=some (.ins C dx fs)):∃ mA,ObjM h a dx C mA∧(∀ f,RelO (fs.lookup f) (mA f))∧PySem.Within mA (fs.map (·.1))∧fs.length≤1000∧H dx=some (.own a):=by
 obtain⟨d,z,ne,ob,mA,n,r,q⟩:=(show ObjOk P w H h a (.ins C dx fs) from hok a _ e)
 exact⟨mA,⟨ob,n,ne⟩,r,q,z,d⟩
end
structure Cls (K:PySem.W.Frag) (C:Addr):Prop where
 pg:PySem.W.plainGet K C Str.empty=true
 hd:PySem.W.hasDictIn K C=true
 po:PySem.W.plainOver K C=true
 sa:PySem.W.findIn K (.ref C) "__setattr__" = some (some (.builtin "object.__setattr__"))
theorem Cls.get{K:PySem.W.Frag}{C:Addr}(c:Cls K C)(f:Str):PySem.W.plainGet K C f=true:=c.pg
def KO (K:PySem.W.Frag) (C:Addr) (f:Str):Prop:=PySem.W.findIn K (.ref C) f=some none
structure Meth (K:PySem.W.Frag) (C:Addr) (m:Str) (f:Addr):Prop where
 at_:PySem.W.findIn K (.ref C) m=some (some (.ref f))
 fn:PySem.W.isFn K (.ref f)=true
 kp:PySem.W.keepIn K (.ref f)=true
section
variable {X:Cx}{pins:List (Addr×Obj)}{σ:St}{H:Hp}{s:Shared}{A:Around}{E:Value→Shared→Prop}{Q:Value→Shared→Prop}{c:Value}{b:Bool}
inductive TyOf (K:PySem.W.Frag) (H:Hp):V→Value→Prop where
 |non:TyOf K H .non (.type "NoneType")
 |bl (x:Bool):TyOf K H (.bl x) (.type "bool")
 |int (i:Int):TyOf K H (.int i) (.type "int")
 |str (x:Str):TyOf K H (.str x) (.type "str")
 |flt (x:UInt64):TyOf K H (.flt x) (.type "float")
 |lst {a:Addr}{xs:List V}(e:H a=some (.lst xs)):TyOf K H (.ref a) (.type "list")
 |frz {a:Addr}{o:Obj}{xs:List V}(e:H a=some (.frz o (.lst xs))):TyOf K H (.ref a) (.type "list")
 |tup {a:Addr}{xs:List V}(e:H a=some (.tup xs)):TyOf K H (.ref a) (.type "tuple")
 |dK {a:Addr}{kvs:List (Key×V)}(e:H a=some (.dK kvs)):TyOf K H (.ref a) (.type "dict")
 |dT {a:Addr}{kvs:List (List Key×V)}(e:H a=some (.dT kvs)):TyOf K H (.ref a) (.type "dict")
 |ins {a C dx:Addr}{fs:List (Str×V)}(e:H a=some (.ins C dx fs)) (cl:Cls K C) (ha:PySem.W.findIn K (.ref C) "__class__" = some (some (.builtin "object.__class__")))
   (hn:PySem.W.specialIn K (.builtin "object.__class__") "__get__" = some (some (.builtin "getset_descriptor.__get__"))) (htk:PySem.W.takesIn K (.builtin "object.__class__")=some true)
   (hm:PySem.W.mroIn K C (.type "object")=some true):TyOf K H (.ref a) (.ref C)
theorem OA{x:V}{u t:Value}(I:Inv X pins σ H s)(rx:RelV x u)(ty:TyOf X.K H x t)(e:PySem.W.kitOne X.K t c=some b)(h:∀ tk,Q (.bool b) {s with toks:=tk}) :
  wpAny (model X.prog X.w) A (call (.builtin "isinstance") [u,c]) Q E s:=by
 cases ty with
 |non=>cases (show u=Value.none from rx);exact PySem.W.kia_one PySem.W.kitx_none I.kIn True.intro e (fun z=>nomatch z) h
 |bl y=>cases (show u=Value.bool y from rx);exact PySem.W.kia_one PySem.W.kitx_bool I.kIn True.intro e (fun z=>nomatch z) h
 |int i=>obtain⟨t,q⟩:=(show ∃ t,u=Value.int i t from rx);cases q;exact PySem.W.kia_one PySem.W.kitx_int I.kIn True.intro e (fun z=>nomatch z) h
 |str y=>obtain⟨t,q⟩:=(show ∃ t,u=Value.str y t from rx);cases q;exact PySem.W.kia_one PySem.W.kitx_str I.kIn True.intro e (fun z=>nomatch z) h
 |flt y=>obtain⟨t,q⟩:=(show ∃ t,u=Value.float y t from rx);cases q;exact PySem.W.kia_one PySem.W.kitx_float I.kIn True.intro e (fun z=>nomatch z) h
 |@lst a xs ea =>
  cases (show u=Value.ref a from rx);obtain⟨_,_,n,_,h1⟩:=(show ObjOk X.prog X.w H s.heap a (.lst xs) from I.hok a _ ea)
  exact PySem.W.kia_one PySem.W.kitx_list I.kIn ⟨_,h1,rfl⟩ e (fun z=>nomatch z) h
 |@frz a ob xs ea =>
  cases (show u=Value.ref a from rx);obtain⟨_,_,_,n,_,h1⟩:=(show ObjOk X.prog X.w H s.heap a (.frz ob (.lst xs)) from I.hok a _ ea)
  exact PySem.W.kia_one PySem.W.kitx_list I.kIn ⟨_,h1,rfl⟩ e (fun z=>nomatch z) h
 |@tup a xs ea =>
  cases (show u=Value.ref a from rx);obtain⟨_,_,_,p⟩:=(show ObjOk X.prog X.w H s.heap a (.tup xs) from I.hok a _ ea)
  obtain⟨o,h1,h2,_⟩:=p;exact PySem.W.kia_one PySem.W.kitx_tuple I.kIn ⟨o,h1,h2⟩ e (fun z=>nomatch z) h
 |@dK a kvs ea =>
  cases (show u=Value.ref a from rx);obtain⟨_,_,vs,_,p⟩:=(show ObjOk X.prog X.w H s.heap a (.dK kvs) from I.hok a _ ea)
  obtain⟨o,es,ep,h1,h2,_⟩:=p;exact PySem.W.kia_one PySem.W.kitx_dict I.kIn ⟨o,h1,h2.1⟩ e (fun z=>nomatch z) h
 |@dT a kvs ea =>
  cases (show u=Value.ref a from rx);obtain⟨_,_,xs,_,o,es,ep,h1,h2,_⟩:=(show ObjOk X.prog X.w H s.heap a (.dT kvs) from I.hok a _ ea)
  exact PySem.W.kia_one PySem.W.kitx_dict I.kIn ⟨o,h1,h2.1⟩ e (fun z=>nomatch z) h
 |@ins a C dx fs ea cl ha hn htk hm =>cases (show u=Value.ref a from rx);obtain⟨mA,O,_⟩:=M7 I.hok ea;obtain⟨od,J,_⟩:=O.look;exact PySem.W.kia_one (PySem.W.kitx_own (cl.get _) cl.hd ha hn htk hm) I.kIn J e (fun z=>nomatch z) h
end
structure Room (k:Nat) (A:Around):Prop where
 hd:A.handled=none
 dp:A.depth+3*k+5<recursionLimit
 un:A.units+16*k+200<cLine
theorem Room.mono{j k:Nat}{A:Around}(r:Room k A)(h:j≤k):Room j A:=⟨r.hd,by have:=r.dp;omega,by have:=r.un;omega⟩
theorem Room.deeper{k:Nat}{A:Around}(r:Room (k+1) A)(env:Env):Room k (A.deeper env) :=
 ⟨r.hd,by have:=r.dp;show A.depth+1+3*k+5<_;omega,by have:=r.un;show A.units+3+16*k+200<_;omega⟩
theorem Room.in1{k:Nat}{A:Around}(r:Room (k+1) A):Room k A.in1 :=
 ⟨r.hd,by have:=r.dp;show A.depth+3*k+5<_;omega,by have:=r.un;show A.units+1+16*k+200<_;omega⟩
theorem Mg {A:Around}{C:Addr}{us:List Value}{kw:List (Str×Value)}:(A.under (.builtin "type.__call__" ⟨.ref C::us,kw⟩)).depth=A.depth+1:=by
 first|rfl|simp[Around.under,Code.weight,Code.isCreation,Code.isGuard,Code.isCaller,Code.frames,Code.isFrame,guardIds]
theorem KU {A:Around}{C:Addr}{us:List Value}{kw:List (Str×Value)}:(A.under (.builtin "type.__call__" ⟨.ref C::us,kw⟩)).units=A.units+1:=by
 first|rfl|simp[Around.under,Code.cUnits,Code.frames,Code.isFrame]
theorem Room.make {k:Nat}{A:Around}(r:Room (k+1) A) (C:Addr) (us:List Value) (kw:List (Str×Value)):Room k (A.under (.builtin "type.__call__" ⟨.ref C::us,kw⟩)) :=
 ⟨r.hd,by have:=r.dp;rw[Mg];omega,by have:=r.un;rw[KU];omega⟩
theorem Room.depth{k:Nat}{A:Around}(r:Room k A):A.depth<recursionLimit:=by have:=r.dp;omega
theorem Room.units{k:Nat}{A:Around}(r:Room k A):A.units+64<cLine:=by have:=r.un;omega
noncomputable def Er:TA:=fun _ H Q=>Q [] H
noncomputable def Dq (ta:TE) (tr:TA):TA:=fun σ H Q=>ta σ H fun x H1=>tr σ H1 fun xs H2=>Q (x::xs) H2
section
variable {X:Cx}{e:Expr}{es:List Expr}{te:TE}{t:TA}{pos:Pos}
theorem pa_nil:PA X [] Er:=fun _ _ _ _ H Q I h=>Calls.spliced_nil ⟨[],H,I,.nil,h⟩
theorem ZS(ha:PE X e te)(hr:PA X es t)(hs:starEach (e::es) X.env=(false,eval e X.env)::starEach es X.env:=by rfl):PA X (e::es) (Dq te t):=by intro pos pins s σ H Q I h;rw[hs];show wpAny _ _ (spliced ((false,eval e X.env)::backTo pos (starEach es X.env))) _ _ s;refine Calls.spliced_cons (thn (ha pins s σ H _ I h) fun u s1 ⟨x,H1,I1,r1,q1⟩=>?_);exact thn (hr pos pins s1 σ H1 _ I1 q1) fun us s2 ⟨xs,H2,I2,r2,q2⟩=>⟨x::xs,H2,I2,.cons r1 r2,q2⟩
noncomputable def Lv (t:TA):TE:=fun σ H Q=>t σ H fun xs H1=>xs.length≤sizeLine∧∀ p,H1 p=none→Q (.ref p) (upd H1 p (.tup xs))
noncomputable def Pj (t:TA):TE:=fun σ H Q=>t σ H fun xs H1=>xs.length≤sizeLine∧∀ p,H1 p=none→Q (.ref p) (upd H1 p (.lst xs))
theorem Mv{x1}(h:PA X es t):PE X (.Tuple es x1 pos) (Lv t):=by intro pins s σ H Q I hq;refine wpAny_Tuple_spliced (thn (h pos pins s σ H _ I hq) fun us s1 ⟨xs,H1,I1,r,z,q⟩=>⟨by rw[←r.length];exact z,?_⟩);have hf:H1 s1.heap.objs.size=none:=I1.hok.fresh (zJ _);refine⟨.ref s1.heap.objs.size,upd H1 s1.heap.objs.size (.tup xs),I1.laid (t':=s1.toks) (fun b u e=>Heap.get?_push_of_some _ e) (zJ _) ?_,rfl,q _ hf⟩;exact⟨z,us,r,⟨_,Heap.get?_push_size _ rfl,rfl,_,rfl⟩⟩
theorem El(h:PA X es t):PE X (.List es pos) (Pj t):=by intro pins s σ H Q I hq;refine wpAny_List_spliced (thn (h pos pins s σ H _ I hq) fun us s1 ⟨xs,H1,I1,r,z,q⟩=>⟨by rw[←r.length];exact z,?_⟩);have hf:H1 s1.heap.objs.size=none:=I1.hok.fresh (zJ _);refine⟨.ref s1.heap.objs.size,upd H1 s1.heap.objs.size (.lst xs),I1.laid (t':=s1.toks) (fun b u e=>Heap.get?_push_of_some _ e) (zJ _) ?_,rfl,q _ hf⟩;exact⟨z,us,0,r,Heap.get?_push_size _ rfl⟩
end
noncomputable abbrev Sp:=List V→Hp→VK→XK→Prop
noncomputable abbrev CXT:=List Env→Hp→Shared→XK→Value→Shared→Prop
structure Env0 (P:Program) (w:World) (K:PySem.W.Frag) (mg:Str→Option Value) (base:Heap) (A:Around) (outer:List Env) (s:Shared) (H:Hp):Prop where
 frames:A.frames=some outer
 mod:Mod K mg base
 bs:∀ b o,base.get? b=some o→s.heap.get? b=some o∧H b=none
 bsz:base.objs.size≤s.heap.objs.size
 funs:s.heap.FunFrames base outer
 frf:∀ b∈frs outer,H b=none
 hok:HOk P w H s.heap
 bare:AllBare s.gens
def CE (outer:List Env) (P:Program) (w:World) (H:Hp) (s:Shared) (Q:VK) (u:Value) (s':Shared):Prop :=
 ∃ v H',s'.os=s.os∧AllBare s'.gens∧Un (frs outer) [] H H' s.heap s'.heap∧HOk P w H' s'.heap∧RelV v u∧Q v H'
def CR (CX:CXT) (outer:List Env) (P:Program) (w:World) (H:Hp) (s:Shared) (Q:VK) (E:XK) (r:Result) (s':Shared):Prop :=
 match r with
 |.ok (.ret u)=>CE outer P w H s Q u s'
 |.ok _=>False
 |.error e=>CX outer H s E e s'
structure FnOk (P:Program) (w:World) (K:PySem.W.Frag) (mg:Str→Option Value) (base:Heap) (CX:CXT) (k:Nat) (f:Addr) (fd:FuncData) (ps:List Str) (sp:Sp):Prop where
 len:∀ vs H Q E,sp vs H Q E→vs.length=ps.length
 run:∀ (A:Around) (outer:List Env) (s:Shared) (H:Hp) (args:Args) (us:List Value) (vs:List V) (Q:VK) (E:XK),Room k A→Env0 P w K mg base A outer s H→BindsTo s fd args (ps.zip us)→Vals vs us→sp vs H Q E→
  codeAny (model P w) A (.call (.ref f) args) (CR CX outer P w H s Q E) s
theorem FnOk.mono{P:Program}{w:World}{K:PySem.W.Frag}{mg:Str→Option Value}{base:Heap}{CX:CXT}{j k:Nat}{f:Addr}{fd:FuncData}{ps:List Str}{sp:Sp}(F:FnOk P w K mg base CX j f fd ps sp)(h:j≤k) :
  FnOk P w K mg base CX k f fd ps sp:=⟨F.len,fun A outer s H args us vs Q E hr=>F.run A outer s H args us vs Q E (hr.mono h)⟩
theorem FnOk.imp{P:Program}{w:World}{K:PySem.W.Frag}{mg:Str→Option Value}{base:Heap}{CX:CXT}{k:Nat}{f:Addr}{fd:FuncData}{ps:List Str}{sp sp':Sp}(F:FnOk P w K mg base CX k f fd ps sp)
  (h:∀ vs H Q E,sp' vs H Q E→sp vs H Q E):FnOk P w K mg base CX k f fd ps sp' :=
 ⟨fun vs H Q E q=>F.len vs H Q E (h _ _ _ _ q),fun A outer s H args us vs Q E hr he hb hv hs=>F.run A outer s H args us vs Q E hr he hb hv (h _ _ _ _ hs)⟩
theorem Env0.make{P:Program}{w:World}{K:PySem.W.Frag}{mg:Str→Option Value}{base:Heap}{A:Around}{outer:List Env}{s:Shared}{H:Hp}(e:Env0 P w K mg base A outer s H)(C:Addr)(us:List Value)(kw:List (Str×Value)) :
  Env0 P w K mg base (A.under (.builtin "type.__call__" ⟨.ref C::us,kw⟩)) outer s H:=⟨by first|exact e.frames|(simpa[Around.under,Code.envs,Code.isFrame,pushEnvs]using e.frames),e.mod,e.bs,e.bsz,e.funs,e.frf,e.hok,e.bare⟩
theorem Env0.in1{P:Program}{w:World}{K:PySem.W.Frag}{mg:Str→Option Value}{base:Heap}{A:Around}{outer:List Env}{s:Shared}{H:Hp}(e:Env0 P w K mg base A outer s H) :
  Env0 P w K mg base A.in1 outer s H:=⟨e.frames,e.mod,e.bs,e.bsz,e.funs,e.frf,e.hok,e.bare⟩
section
variable {X:Cx}{pins:List (Addr×Obj)}{σ:St}{H:Hp}{s s':Shared}
theorem Inv.env0(I:Inv X pins σ H s):Env0 X.prog X.w X.K X.mg X.base X.A X.stack s H :=
 ⟨I.ok.frames,I.ok.mod,I.bs,zH I.ok.bsz I.sz,I.stack,I.stkFree,I.hok,I.bare⟩
theorem Inv.after{Q:VK}{u:Value}(I:Inv X pins σ H s)(h:CE X.stack X.prog X.w H s Q u s'):EP X pins σ Q u s':=by obtain⟨v,H',os,bare,un,hok,r,q⟩:=h;obtain⟨hh,g,d,t,os'⟩:=s';obtain rfl:os'=s.os:=os;exact⟨v,H',I.call (h':=hh) (g':=g) (d':=d) (t':=t) (ch:=[]) un hok bare (fun b z=>absurd z (by simp)),r,q⟩
end
noncomputable def DQ (sp:Sp) (dvs:List V) (E:XK) (t:TA):TE:=fun σ H Q=>t σ H fun vs H1=>sp (vs++dvs) H1 Q E
def Binds (K:PySem.W.Frag) (fd:FuncData) (ps:List Str) (ds:List Value):Prop :=
 ∀ (s:Shared) (us:List Value),K.In s.heap→(us++ds).length=ps.length→BindsTo s fd ⟨us,[]⟩ (ps.zip (us++ds))
theorem Binds.all{K:PySem.W.Frag}{fd:FuncData}{ps:List Str}(h:∀ us:List Value,us.length=ps.length→bindArgs fd ⟨us,[]⟩=pure (ps.zip us)):Binds K fd ps []:=fun s us _ hl=>by rw[zF]at hl ⊢;exact .of_eq (h us hl)
def Jy (CX:CXT) (X:Cx) (E:XK):Prop:=∀ (pins:List (Addr×Obj)) (σ:St) (H:Hp) (s:Shared) (e:Value) (s':Shared),Inv X pins σ H s→CX X.stack H s E e s'→X.xe e s'
section
variable {X:Cx}{CX:CXT}{k:Nat}{f C:Addr}{fd:FuncData}{ps:List Str}{sp:Sp}{dvs:List V}{ds:List Value}{E:XK}{x m:Str}{p pos apos:Pos}{e o:Expr}{es:List Expr}{ta:TE}{t:TA}
theorem Bl{pins:List (Addr×Obj)}{σ:St}{H:Hp}{s:Shared}{Q:VK}{us:List Value}{vs:List V}(F:FnOk X.prog X.w X.K X.mg X.base CX k f fd ps sp)(hr:Room k X.A)(hb:Binds X.K fd ps ds)(hd:Vals dvs ds)(hx:Jy CX X E)
  (I:Inv X pins σ H s) (r:Vals vs us) (h:sp (vs++dvs) H Q E):wpAny (model X.prog X.w) X.A (call (.ref f) us) (EP X pins σ Q) X.xe s:=by
 have r2:Vals (vs++dvs) (us++ds):=r.append hd;have hl:(us++ds).length=ps.length:=by rw[←r2.length];exact F.len _ _ _ _ h
 refine wpAny_call (codeAny_mono (F.run X.A X.stack s H ⟨us,[]⟩ (us++ds) (vs++dvs) Q E hr I.env0 (hb s us I.kIn hl) r2 h) fun r s' hq=>?_);cases r with
 |error e=>exact hx pins σ H s e s' I hq
 |ok fl =>
  cases fl with
  |ret u=>exact I.after hq
  |next=>exact False.elim hq
  |brk=>exact False.elim hq
  |cont=>exact False.elim hq
theorem CL(F:FnOk X.prog X.w X.K X.mg X.base CX k f fd ps sp)(hr:Room k X.A)(hg:Gl X x)(hm:X.mg x=some (.ref f))(hk:PySem.W.keepIn X.K (.ref f)=true)(hb:Binds X.K fd ps ds)(hd:Vals dvs ds)(hx:Jy CX X E)
  (ha:PA X (e::es) t) (hdb:(x==("__debug__" : Str))=false:=by decide) (he:starEach (e::es) X.env=(false,eval e X.env)::starEach es X.env:=by rfl) (hpl:(backTo pos (starEach es X.env)).any (·.1)=false:=by rfl) :
  PE X (.Call (.Name x p) (e::es) [] pos) (DQ sp dvs E t):=by
 intro pins s σ H Q I h;refine wpAny_Call_Name_kw (Ju I hg hm ?_ hdb);refine PySem.W.callWith_K (h₀:=X.base) I.ok.mod.kin hk (thn (ha pos pins s σ H _ I h) fun us s1 ⟨vs,H1,I1,r,q⟩=>⟨I1.kIn,?_⟩) he hpl;exact Bl F hr hb hd hx I1 r q
theorem AS(F:FnOk X.prog X.w X.K X.mg X.base CX k f fd ps sp)(hr:Room k X.A)(hg:Gl X x)(hm:X.mg x=some (.ref f))(hk:PySem.W.keepIn X.K (.ref f)=true)(hb:Binds X.K fd ps ds)(hd:Vals dvs ds)(hx:Jy CX X E)
  (hdb:(x==("__debug__" : Str))=false:=by decide):PE X (.Call (.Name x p) [] [] pos) (DQ sp dvs E Er):=by
 intro pins s σ H Q I h;refine wpAny_Call_Name_kw (Ju I hg hm ?_ hdb);exact PySem.W.callWith_K0 I.kIn hk (Bl (us:=[]) F hr hb hd hx I .nil h)
structure Mk (K:PySem.W.Frag) (C f:Addr):Prop where
 makes:PySem.W.makesIn K C=true
 init:PySem.W.findIn K (.ref C) "__init__" = some (some (.ref f))
 fn:PySem.W.isFn K (.ref f)=true
 kp:PySem.W.keepIn K (.ref C)=true
end
structure FnScope (N P:List Str) (sc:Scope):Prop where
 kind:sc.kind=.function
 co:sc.isCoroutine=false
 gen:sc.isGenerator=false
 nd:N.Nodup
 pre:N.take P.length=P
 par:∀ x∈P,sc.names.lookup x=some .local∨sc.names.lookup x=some .cell
 nofree:∀ y∈sc.names,y.2≠.free
theorem Jb{kindOf:Str→Option NameKind}{x:Str}:∀ {binds:List (Str×Value)}{m:Str→Option Value},(∀ v,(x,v)∉binds)→bindL kindOf binds m x=m x
 |[],_,_=>rfl
 |(n,v)::r,m,h=>by
  unfold bindL;rw[Jb fun w hw=>h w (qI _ hw)];split
  ·have:x≠n:=by rintro rfl;exact h v qT
   simp[this]
  ·rfl
theorem WO{kindOf:Str→Option NameKind}{x:Str}:∀ {binds:List (Str×Value)}{m:Str→Option Value},(∀ v,(x,v)∉binds)→bindC kindOf binds m x=m x
 |[],_,_=>rfl
 |(n,v)::r,m,h=>by
  unfold bindC;rw[WO fun w hw=>h w (qI _ hw)];split
  ·rfl
  ·have:x≠n:=by rintro rfl;exact h v qT
   simp[this]
theorem W5{kindOf:Str→Option NameKind}{x:Str}{v:Value}:∀ {P:List Str}{vs:List Value}{i:Nat}{m:Str→Option Value},P.Nodup→P[i]?=some x→vs[i]?=some v→kindOf x=some .local→
  bindL kindOf (P.zip vs) m x=some v
 |[],_,_,_,_,h,_,_=>by simp at h
 |_::_,[],_,_,_,_,h,_=>by simp at h
 |p::P,w::vs,0,m,nd,h1,h2,hk=>by simp at h1 h2;subst h1;subst h2;show bindL kindOf ((p,w)::P.zip vs) m p=_;unfold bindL;rw[Jb fun v hv=>(List.nodup_cons.mp nd).1 (List.of_mem_zip hv).1,if_pos hk];simp
 |p::P,w::vs,i+1,m,nd,h1,h2,hk=>by show bindL kindOf ((p,w)::P.zip vs) m x=_;unfold bindL;exact W5 (i:=i) (List.nodup_cons.mp nd).2 (by simpa using h1) (by simpa using h2) hk
theorem WV{kindOf:Str→Option NameKind}{x:Str}{v:Value}:∀ {P:List Str}{vs:List Value}{i:Nat}{m:Str→Option Value},P.Nodup→P[i]?=some x→vs[i]?=some v→kindOf x≠some .local→
  bindC kindOf (P.zip vs) m x=some v
 |[],_,_,_,_,h,_,_=>by simp at h
 |_::_,[],_,_,_,_,h,_=>by simp at h
 |p::P,w::vs,0,m,nd,h1,h2,hk=>by simp at h1 h2;subst h1;subst h2;show bindC kindOf ((p,w)::P.zip vs) m p=_;unfold bindC;rw[WO fun v hv=>(List.nodup_cons.mp nd).1 (List.of_mem_zip hv).1,if_neg hk];simp
 |p::P,w::vs,i+1,m,nd,h1,h2,hk=>by show bindC kindOf ((p,w)::P.zip vs) m x=_;unfold bindC;exact WV (i:=i) (List.nodup_cons.mp nd).2 (by simpa using h1) (by simpa using h2) hk
noncomputable def start (N:List Str) (vs:List V):St:=vs.map some++List.replicate (N.length - vs.length) none
noncomputable def Ww (CX:CXT) (P:Program) (w:World) (K:PySem.W.Frag) (mg:Str→Option Value) (base:Heap) (N:List Str) (qual:Str) (scope:Scope) (f:Addr) (cd:Value) (A:Around) (outer:List Env) (s:Shared) (H:Hp) (E:XK):Cx where
 prog:=P
 w:=w
 K:=K
 mg:=mg
 base:=base
 A:=A.deeper (envOfC qual scope s.heap.objs.size f cd)
 N:=N
 s₀:=s
 H₀:=H
 env:=envOfC qual scope s.heap.objs.size f cd
 outer:=outer
 stack:=envOfC qual scope s.heap.objs.size f cd::outer
 ex:=[]
 calm:=true
 fn:=fun _=>true
 pn:=[]
 xe:=fun e s'=>wpAny (model P w) (A.deeper (envOfC qual scope s.heap.objs.size f cd)) (leaving (envOfC qual scope s.heap.objs.size f cd) e) (fun _ s''=>CX outer H s E e s'') (fun e' s''=>CX outer H s E e' s'') s'
theorem KF{sc:Scope}{n:Nat}{x:Str}(h:sc.names.lookup x=some .cell):∃ c,(cellsFrom n sc.names []).lookup x=some c:=by have q:=PySem.W.cellsFrom_some sc.names n [] (.inl h);exact zB.mp q
theorem Of{CX:CXT}{P:Program}{w:World}{K:PySem.W.Frag}{mg:Str→Option Value}{base:Heap}{N ps:List Str}{qual:Str}{scope:Scope}{f:Addr}{cd:Value}{A:Around}{outer:List Env}{s s1:Shared}{H:Hp}{E:XK}{us:List Value}{vs:List V}
  (S:FnScope N ps scope) (hd:A.handled=none) (e0:Env0 P w K mg base A outer s H) (hl:vs.length=ps.length) (r:Vals vs us)
  (x:InCallC s s.heap.objs.size (bindL (envOfC qual scope s.heap.objs.size f cd).kindOf (ps.zip us) fun _=>none) (cellsFrom (s.heap.objs.size+1) scope.names []) (bindC (envOfC qual scope s.heap.objs.size f cd).kindOf (ps.zip us) fun _=>none) s1) :
  Inv (Ww CX P w K mg base N qual scope f cd A outer s H E) [] (start N vs) H s1:=by
 have hpl:ps.length≤N.length:=by have:=congrArg List.length S.pre;rw[qV]at this;omega
 obtain⟨h1,tk,rfl,hk⟩:=x.done;have noA:∀ b:Addr,b∉(Ww CX P w K mg base N qual scope f cd A outer s H E).ex:=fun b z=>absurd (show b∈([]:List Addr) from z) (by simp);refine⟨⟨e0.mod,S.kind,rfl,rfl,zJ _,fun y z c h1 h2=>?_,fun y hy=>?_,fun y c _ h=>?_,fun _=>hd,Around.frames_deeper e0.frames,.inr ⟨rfl,rfl⟩,fun b z=>absurd z (noA b),e0.bs,e0.bsz,fun b _ _=>noA b,fun b z=>absurd z (noA b),e0.funs,e0.frf⟩,
   rfl,e0.bare,Un.kept hk,⟨_,x.toInCall.ns,fun i y v h1 h2 h3=>?_⟩,fun y c h=>⟨_,x.cell y c h⟩,e0.hok.fresh (zJ _),fun y c h=>?_,fun p hp=>absurd (show p∈([]:List (Addr×Obj)) from hp) (by simp),e0.hok.kept hk,?_⟩
 ·exact name_of_addr x.apart (PySem.mem_of_lookup h1) (PySem.mem_of_lookup h2)
 ·have hy:scope.names.lookup y=some .cell∨scope.names.lookup y=some .free:=hy;rcases hy with hy|hy
  ·exact KF hy
  ·exact absurd rfl (S.nofree _ (PySem.mem_of_lookup hy))
 ·exact Nat.le_of_lt (x.above y c (PySem.mem_of_lookup h))
 ·have hi:i<vs.length:=by
   unfold start at h2;by_cases hi:i<vs.length
   ·exact hi
   ·rw[List.getElem?_append_right (by simpa using hi)]at h2;rw[List.getElem?_replicate]at h2;split at h2<;>cases h2
  have ha:vs[i]?=some v:=by
   unfold start at h2;rw[List.getElem?_append_left (by simpa using hi),qF]at h2;cases e:vs[i]? with
   |none=>rw[e]at h2;cases h2
   |some a=>rw[e]at h2;cases h2;rfl
  obtain⟨u,hu,rv⟩:=r.get ha;have hp:ps[i]?=some y:=by rw[←S.pre,List.getElem?_take_of_lt (by omega)];exact h1
  have ndP:ps.Nodup:=by rw[←S.pre];exact S.nd.sublist (List.take_sublist _ _)
  refine⟨u,rv,?_⟩;rcases S.par y (qY hp)with k|k
  ·exact .inl ⟨k,W5 ndP hp hu k⟩
  ·obtain⟨c,e⟩:=KF (n:=s.heap.objs.size+1) k;refine .inr ⟨.inl k,c,e,?_⟩;have q:=x.cell y c e;rw[WV ndP hp hu (by show scope.names.lookup y≠_;rw[k];decide)]at q;exact q
 ·exact e0.hok.fresh (Nat.le_of_lt (x.above y c (PySem.mem_of_lookup h)))
 ·unfold start;show _=N.length;rw[qU,qA,qX];omega
theorem DC{CX:CXT}{P:Program}{w:World}{K:PySem.W.Frag}{mg:Str→Option Value}{base:Heap}{k:Nat}{f:Addr}{name qual:Str}{params:Arguments}{body:List Stmt}{scope:Scope}{dV kV doc pm cdv ct oc:Value}{an od:Option Addr}
  {osl:Array (Option Value)}{N ps:List Str}{sp:Sp}(lk:K.lookup f=some ⟨oc,od,.func (PySem.W.fnOf name qual params body scope dV kV doc pm an cdv ct),osl⟩) (hcd:PySem.W.codeIn K cdv qual=true) (S:FnScope N ps scope)
  (len:∀ vs H Q E,sp vs H Q E→vs.length=ps.length)
  (hbody:∀ (A:Around) (outer:List Env) (s:Shared) (H:Hp) (vs:List V) (Q:VK) (E:XK),Room k (A.deeper (envOfC qual scope s.heap.objs.size f cdv))→sp vs H Q E→
    ∃ t,PSs (Ww CX P w K mg base N qual scope f cdv A outer s H E) body t∧t { nx:=fun _ H'=>Q .non H',rt:=Q } (start N vs) H) :
  FnOk P w K mg base CX (k+1) f (PySem.W.fnOf name qual params body scope dV kV doc pm an cdv ct) ps sp:=by
 refine⟨len,fun A outer s H args us vs Q E hr e0 hb r hsp=>?_⟩;have hl:=len _ _ _ _ hsp;have KX:K.In s.heap:=e0.mod.kin.keeps fun b o e=>(e0.bs b o e).1;have lim:s.heap.NoLimit:=e0.mod.nolimit.keeps fun b o e=>(e0.bs b o e).1;have hkind:∀ y∈ps.zip us,scope.names.lookup y.1=some .local∨(scope.names.lookup y.1=some .cell∧((cellsFrom (s.heap.objs.size+1) scope.names []).lookup y.1).isSome=true):=fun⟨n,v⟩ hy=>by
  rcases S.par n (List.of_mem_zip hy).1 with q|q
  ·exact .inl q
  ·exact .inr ⟨q,PySem.W.cellsFrom_some _ _ _ (.inl q)⟩
 refine codeAny_call_function hr.depth (KX _ _ lk) rfl S.co S.gen rfl (PySem.W.codeRec_of KX hcd) (hb _ _ _ _ ?_);refine wpAny_newFunctionEnv_cells S.kind hkind fun env he s1 x=>?_;subst he;refine⟨lim.keeps x.toInCall.keep,codeAny_func ?_⟩;obtain⟨t,ht,hq⟩:=hbody A outer s H vs Q E (hr.deeper _) hsp;have I:Inv (Ww CX P w K mg base N qual scope f cdv A outer s H E) [] (start N vs) H s1:=Of S hr.hd e0 hl r x;refine wpAny_mono (ht [] s1 (start N vs) H _ I hq) (fun fl s' hs=>?_) fun e s' hs=>hs;have fin:∀ {σ':St}{H':Hp}{v:V}{u:Value},Inv (Ww CX P w K mg base N qual scope f cdv A outer s H E) [] σ' H' s'→RelV v u→Q v H'→CE outer P w H s Q u s' :=
  fun {σ' H' v u} J rv q=>⟨v,H',J.os,J.bare,J.base,J.hok,rv,q⟩
 cases fl with
 |ret u =>obtain⟨v,σ',H',J,rv,q⟩:=hs;exact fin J rv q
 |next =>obtain⟨σ',H',J,q⟩:=hs;exact fin (v:=V.non) (u:=Value.none) J rfl q
 |brk =>obtain⟨_,_,_,q⟩:=hs;exact False.elim q
 |cont =>obtain⟨_,_,_,q⟩:=hs;exact False.elim q
section
variable {X:Cx}{x:Str}{p pos:Pos}{e:Expr}{es:List Expr}{t:TA}{id T:String}{r:List V→Hp→VK→Prop}
noncomputable def tCB (r:List V→Hp→VK→Prop) (t:TA):TE:=fun σ H Q=>t σ H fun vs H1=>r vs H1 Q
theorem ZQ (hc:CallR X (.builtin id) r) (hg:Gl X x) (hm:X.mg x=none) (hv:bootBuiltins x=some (.builtin id)) (ha:PA X (e::es) t) (hn:x≠"__name__":=by decide) (hdb:(x==("__debug__" : Str))=false:=by decide)
  (he:starEach (e::es) X.env=(false,eval e X.env)::starEach es X.env:=by rfl) (hpl:(backTo pos (starEach es X.env)).any (·.1)=false:=by rfl):PE X (.Call (.Name x p) (e::es) [] pos) (tCB r t):=by
 intro pins s σ H Q I h;refine wpAny_Call_Name_kw (Yu I hg hm hv ?_ hn hdb);exact PyProof.Rows.callWith_builtin1 (thn (ha pos pins s σ H _ I h) fun us s1 ⟨vs,H1,I1,r1,q1⟩=>hc pins s1 σ H1 vs us Q I1 r1 q1) he hpl
theorem Yg (hc:CallR X (.type T) r) (hg:Gl X x) (hm:X.mg x=none) (hv:bootBuiltins x=some (.type T)) (ha:PA X (e::es) t) (hn:x≠"__name__":=by decide) (hdb:(x==("__debug__" : Str))=false:=by decide)
  (he:starEach (e::es) X.env=(false,eval e X.env)::starEach es X.env:=by rfl) (hpl:(backTo pos (starEach es X.env)).any (·.1)=false:=by rfl):PE X (.Call (.Name x p) (e::es) [] pos) (tCB r t):=by
 intro pins s σ H Q I h;refine wpAny_Call_Name_kw (Yu I hg hm hv ?_ hn hdb);exact PyProof.Rows.callWith_type1 (thn (ha pos pins s σ H _ I h) fun us s1 ⟨vs,H1,I1,r1,q1⟩=>hc pins s1 σ H1 vs us Q I1 r1 q1) he hpl
end
end L2
namespace HT
open PySem PyProof.Rows
noncomputable def lexLt:List Int→List Int→Bool
 |[],[]=>false
 |[],_::_=>true
 |_::_,[]=>false
 |x::xs,y::ys=>if x=y then lexLt xs ys else decide (x<y)
theorem lexLt_cons(x y:Int)(xs ys:List Int):lexLt (x::xs) (y::ys)=if x=y then lexLt xs ys else decide (x<y):=rfl
theorem WG:lexLt [] []=false:=rfl
theorem Wa(y:Int)(ys:List Int):lexLt [] (y::ys)=true:=rfl
theorem Wp(x:Int)(xs:List Int):lexLt (x::xs) []=false:=rfl
theorem eqAt_int(A:Around)(s:Shared)(a:Int)(t:Tok)(c:Int)(u:Tok):∃ e,SeqAt.EqAt A s (.int a t) (.int c u) e∧(e=true↔a=c) :=
 ⟨(a==c),SeqAt.EqAt.int_int a t c u,by simp⟩
theorem Bq(A:Around)(s:Shared)(a:Int)(t:Tok)(c:Int)(u:Tok)(prog:Program)(w:World)(E:Value→Shared→Prop)(Q:Value→Shared→Prop)(h:Q (.bool (decide (a<c))) s) :
  wpAny (model prog w) A (richCompare .Lt (.int a t) (.int c u)) Q E s :=
 (PyProof.Rows.lt_int h:wpAny (model prog w) A (compareOp .Lt (.int a t) (.int c u)) Q E s)
section
open PySem.SeqAt
open PySem.AutoSeq1 (wpAny_loadPart')
open PySem.MeetsSeq PySem.MeetsSeq2 PySem.MeetsSeq3
theorem WD(l b:Addr)(items items2:Array Value)(n n2:Nat)(dd dd2:Option Addr)(sl sl2:Array (Option Value))(ns ms:List Int)(hi:IntsAre items.toList ns)(hj:IntsAre items2.toList ms) :
  Meets (Builtin.«tuple.__lt__» ⟨[.ref l,.ref b],[]⟩)
   (fun _ R s=>s.heap.get? l=some { cls:=.type "tuple",dict:=dd,data:=.seq items n,slots:=sl }∧s.heap.get? b=some { cls:=.type "tuple",dict:=dd2,data:=.seq items2 n2,slots:=sl2 }∧
     R (.ok (.ret (.bool (lexLt ns ms)))) s) :=
 .of_wp fun prog w A R s h=>by
  obtain⟨hp,g,d,tk,os⟩:=s;obtain⟨hl,hb,h⟩:=h;have f2:=AutoSeq1.sub_tuple_tuple;have z1:items.size=ns.length:=by rw[←hi.length];simp
  have z2:items2.size=ms.length:=by rw[←hj.length];simp
  wp_walk using wpAny_loadPart' hl,wpAny_loadPart' hb,wpAny_forIn_list _ (fun rest b s'=>b.1=none∧s'=⟨hp,g,d,tk,os⟩∧∃ (vs ws:List Value) (ns' ms':List Int),rest=vs.zip ws∧
    IntsAre vs ns'∧IntsAre ws ms'∧ns'.length+items2.size=ms'.length+items.size∧R (.ok (.ret (.bool (lexLt ns' ms')))) ⟨hp,g,d,tk,os⟩) _
  case turn =>
   rintro⟨y,x⟩ rest b s' ⟨hb',rfl,vs,ws,ns',ms',hz,hvi,hwi,hlen,hR⟩;cases hvi with
   |nil=>rw[List.zip_nil_left]at hz;cases hz
   |cons a t hvi' =>
    cases hwi with
    |nil=>rw[List.zip_nil_right]at hz;cases hz
    |cons c u hwi' =>
     rw[List.zip_cons_cons]at hz;injection hz with hyx hrest;injection hyx with hy hx;subst hy hx;rw[lexLt_cons]at hR;simp only[qB]at hlen;obtain⟨e,he,hiff⟩:=eqAt_int A.in1 ⟨hp,g,d,tk,os⟩ a t c u;refine wpAny_bind (he prog w _ _ ?_);cases e with
     |true =>
      rw[if_pos (hiff.mp rfl)]at hR
      wp_walk
      exact⟨rfl,rfl,_,_,_,_,hrest,hvi',hwi',by omega,hR⟩
     |false =>
      rw[if_neg (fun q=>absurd (hiff.mpr q) Bool.false_ne_true)]at hR;have hri:=Bq A.in1 ⟨hp,g,d,tk,os⟩ a t c u prog w
      wp_walk using hri
      exact⟨_,rfl,by simpa using hR⟩
  case fin =>
   rintro⟨b1,b2⟩ s' ⟨hb',rfl,vs,ws,ns',ms',hz,hvi,hwi,hlen,hR⟩;simp only at hb';subst hb';have hv:lexLt ns' ms'=decide (items.size<items2.size):=by
    cases hvi with
    |nil =>
     cases hwi with
     |nil =>simp only[List.length_nil]at hlen;rw[WG];exact(qP (by omega)).symm
     |cons c u hw =>simp only[List.length_nil,qB]at hlen;rw[Wa];exact(qQ (by omega)).symm
    |cons a t hv =>
     cases hwi with
     |nil =>simp only[List.length_nil,qB]at hlen;rw[Wp];exact(qP (by omega)).symm
     |cons c u hw =>rw[List.zip_cons_cons]at hz;cases hz
   rw[hv]at hR
   wp_walk
   exact⟨_,rfl,by simpa[Builtin.Tuple.tupleCompareSizes]using hR⟩
  case h =>exact⟨rfl,rfl,items.toList,items2.toList,ns,ms,rfl,hi,hj,by omega,h⟩
end
section
variable {prog:Program}{w:World}{A:Around}{E:Value→Shared→Prop}{s:Shared}
theorem lt_tupInts{l b:Addr}{items items2:Array Value}{ns ms:List Int}{Q:Value→Shared→Prop}(hl:IsTup s.heap l items)(hb:IsTup s.heap b items2)(hi:IntsAre items.toList ns)(hj:IntsAre items2.toList ms)
  (hu:A.units<cLine) (h:Q (.bool (lexLt ns ms)) s):wpAny (model prog w) A (compareOp .Lt (.ref l) (.ref b)) Q E s:=by
 obtain⟨⟨cls,dd,data,sl⟩,ho,hc,n,hd⟩:=id hl;obtain⟨⟨cls2,dd2,data2,sl2⟩,ho2,hc2,n2,hd2⟩:=id hb;simp only at hc hd hc2 hd2;subst hc hd hc2 hd2;exact richCompare_meets_room (op:=.Lt) ⟨_,ho,rfl⟩ ⟨_,ho2,rfl⟩ PySem.F.slot_tuple_lt PySem.F.entry_tuple_lt (PySem.F.args_tuple_lt_2 _ _) (WD l b items items2 n n2 dd dd2 sl sl2 ns ms hi hj)
  ⟨ho,ho2,show Value.bool (lexLt ns ms)≠Value.notImplemented∧Q (.bool (lexLt ns ms)) s from ⟨(fun x=>nomatch x),h⟩⟩ hu
theorem cat_tup{t b:Addr}{vs ws:List Value}{Q:Value→Shared→Prop}(ht:IsTup s.heap t vs.toArray)(hb:IsTup s.heap b ws.toArray)(hv:vs≠[])
  (h1:ws=[]→Q (.ref t) s) (h2:ws≠[]→Q (.ref s.heap.objs.size) {s with heap:=s.heap.push {cls:=.type "tuple",data:=.seq (vs++ws).toArray}})
  (hsz:vs.length+ws.length≤sizeLine):wpAny (model prog w) A (binaryOp .Add (.ref t) (.ref b)) Q E s:=by
 obtain⟨⟨cls,dd,data,sl⟩,ho,hc,n,hd⟩:=id ht;obtain⟨⟨cls2,dd2,data2,sl2⟩,ho2,hc2,n2,hd2⟩:=id hb;simp only at hc hd hc2 hd2;subst hc hd hc2 hd2;have e:vs.toArray++ws.toArray=(vs++ws).toArray:=by simp
 by_cases hw:ws=[]
 ·exact concat_meets ⟨_,ho,rfl⟩ ⟨_,ho2,rfl⟩ noFill_tuple_add seq_tuple_add PySem.F.slot_tuple_add PySem.F.entry_tuple_add (PySem.F.args_tuple_add_2 _ _)
   (tuple_addW1 t b vs.toArray ws.toArray n n2 dd dd2 sl sl2 (by simpa using hv) (by simp[hw])) ⟨ho,ho2,h1 hw⟩
 ·refine concat_meets ⟨_,ho,rfl⟩ ⟨_,ho2,rfl⟩ noFill_tuple_add seq_tuple_add PySem.F.slot_tuple_add PySem.F.entry_tuple_add (PySem.F.args_tuple_add_2 _ _)
   (tuple_addW2 t b vs.toArray ws.toArray n n2 dd dd2 sl sl2 (by simpa using hv) (by simpa using hw) (by rw[qC,qC];exact hsz)) ⟨ho,ho2,?_⟩
  rw[e];exact h2 hw
noncomputable def sIx (n d:Nat):Option Int→Nat
 |none=>d
 |some v=>if v<0 then(v+(n:Int)).toNat else min v.toNat n
theorem ES(n d:Nat)(hd:d≤n)(o:Option Int):sIx n d o≤n:=by
 cases o with
 |none=>exact hd
 |some v =>
  show(if v<0 then(v+(n:Int)).toNat else min v.toNat n)≤n;by_cases hv:v<0
  ·rw[if_pos hv];omega
  ·rw[if_neg hv];exact Nat.min_le_right _ _
theorem clip_eq(v:Int)(n d:Nat):(if v<0 then max (v+(n:Int)) 0 else min v (n:Int))=((sIx n d (some v):Nat):Int):=by
 show(if v<0 then max (v+(n:Int)) 0 else min v (n:Int))=(((if v<0 then(v+(n:Int)).toNat else min v.toNat n):Nat):Int)
 by_cases hv:v<0
 ·simp only[if_pos hv];omega
 ·simp only[if_neg hv];omega
theorem Mn(lo hi:Option Int)(n:Nat):Builtin.Slice.sliceAdjust lo hi 1 (n:Int)=(((sIx n 0 lo:Nat):Int),((sIx n n hi:Nat):Int)):=by
 have h1:¬ ((1:Int)<0):=by omega
 unfold Builtin.Slice.sliceAdjust;simp only[h1,if_false];refine Prod.ext ?_ ?_
 ·cases lo with
  |none=>rfl
  |some v=>exact clip_eq v n 0
 ·cases hi with
  |none=>rfl
  |some v=>exact clip_eq v n n
theorem Mp(i j:Nat):Builtin.Slice.slicePlaces (i:Int) (j:Int) 1=j - i:=by
 unfold Builtin.Slice.slicePlaces;have h1:(1:Int) > 0:=by omega
 simp only[h1,if_true,Int.ediv_one];split<;>omega
theorem X8{v:Value}{o:Option Int}{Q:Option Int→Shared→Prop}(p:IsPart v o)(h:Q o s):wpAny (model prog w) A (Builtin.Slice.slicePartIndex v) Q E s:=by
 cases p with
 |none=>exact slicePart_none h
 |int i t=>exact slicePart_int h
theorem Xv{sl:Addr}{vl vu:Value}{lo hi:Option Int}{n:Nat}{Q:Int×Int×Nat→Shared→Prop}(hs:s.heap.IsSliceOf sl vl vu .none)(pl:IsPart vl lo)(pu:IsPart vu hi)
  (h:Q (((sIx n 0 lo:Nat):Int),1,sIx n n hi - sIx n 0 lo) s):wpAny (model prog w) A (Builtin.Slice.sliceApplied (.ref sl) (pure (n:Int))) Q E s:=by
 obtain⟨os,hos,hcs,hds⟩:=id hs;unfold Builtin.Slice.sliceApplied Builtin.Slice.sliceFields;refine wpAny_bind (wpAny_bind (wpAny_field hos hds (x:=vl) rfl (wpAny_bind (wpAny_field hos hds (x:=vu) rfl (wpAny_bind (wpAny_field hos hds (x:=.none) rfl (wpAny_pure ?_)))))));refine wpAny_bind (slicePart_none ?_);show wpAny _ _ (if((1:Int)==0)=true then _ else _) _ _ s;rw[if_neg (by decide)];refine wpAny_bind (X8 pl (wpAny_bind (X8 pu (wpAny_bind (wpAny_pure ?_)))));show wpAny _ _ (match Builtin.Slice.sliceAdjust lo hi 1 (n:Int)with|(lo,hi)=>pure (lo,(1:Int),Builtin.Slice.slicePlaces lo hi 1)) _ _ s;rw[Mn lo hi n];show wpAny _ _ (pure (((sIx n 0 lo:Nat):Int),(1:Int),Builtin.Slice.slicePlaces ((sIx n 0 lo:Nat):Int) ((sIx n n hi:Nat):Int) 1)) _ _ s;rw[Mp];exact wpAny_pure h
theorem OZ(xs:Array Value)(i k:Nat):((List.range k).filterMap fun(m:Nat)=>xs[((i:Int)+(m:Int)*1).toNat]?).toArray=((xs.toList.drop i).take k).toArray:=by
 have e:(fun(m:Nat)=>xs[((i:Int)+(m:Int)*1).toNat]?)=fun m=>xs[i+m]?:=by
  funext m;have:((i:Int)+(m:Int)*1).toNat=i+m:=by omega
  rw[this]
 rw[e];have:=pick_run xs i k;rw[List.filterMap_map]at this;have e2:((fun x=>xs[x]?) ∘ fun x=>i+x)=fun m=>xs[i+m]?:=rfl;rw[e2]at this;rw[this]
theorem getItem_tuple_cut{t sl:Addr}{items:Array Value}{vl vu:Value}{lo hi:Option Int}{Q:Value→Shared→Prop}(ht:IsTup s.heap t items)(hs:s.heap.IsSliceOf sl vl vu .none)(pl:IsPart vl lo)(pu:IsPart vu hi)
  (hw:¬ (sIx items.size 0 lo=0∧sIx items.size items.size hi=items.size))
  (h:Q (.ref s.heap.objs.size) {s with heap:=s.heap.push {cls:=.type "tuple",data:=.seq ((items.toList.drop (sIx items.size 0 lo)).take (sIx items.size items.size hi - sIx items.size 0 lo)).toArray}})
  (hsz:items.size≤sizeLine):wpAny (model prog w) A (getItem (.ref t) (.ref sl)) Q E s:=by
 have htake:sizeOk (.seq ((items.toList.drop (sIx items.size 0 lo)).take (sIx items.size items.size hi - sIx items.size 0 lo)).toArray):=by show((items.toList.drop (sIx items.size 0 lo)).take (sIx items.size items.size hi - sIx items.size 0 lo)).toArray.size≤sizeLine;rw[qC,qV,List.length_drop,zG];omega
 have hj:sIx items.size items.size hi≤items.size:=ES _ _ (zJ _) hi;obtain⟨os,hos,hcs,hds⟩:=id hs;have hTs:s.TypeIs (.ref sl) "slice":=⟨os,hos,hcs⟩
 unfold getItem
 try with_reducible refine wpAny_holding ?_
 first|refine wpAny_bind (wpAny_pure ?_)|skip
 refine wpAny_bind (wpAny_sequenceKey ht.typeIs (by decide) ?_);refine wpAny_bind (wpAny_callSpecial?_slot (name:=Str.ofString "__getitem__") ht.typeIs PyProof.Rows.slot_tuple_getitem
   (wpAny_call_entry PyProof.Rows.slot_tuple_getitem ht.typeIs entry_tuple_getitem ?_ (args_tuple_getitem _ _)))
 show wpAny _ _ (Builtin.Tuple.tupleItemsOf (.ref t) >>= _) _ _ s;refine wpAny_bind (tupleItemsOf_ ht ?_);refine wpAny_bind (wpAny_typeOf hTs ?_);rw[if_pos (by decide)];refine wpAny_bind (Xv hs pl pu ?_);have hno:¬ ((((sIx items.size 0 lo:Nat):Int)==0&&(1:Int)==1&&(sIx items.size items.size hi - sIx items.size 0 lo)==items.size)=true):=by intro q;rw[bAq,bAq]at q;have q1:((sIx items.size 0 lo:Nat):Int)=0:=eq_of_beq q.1.1;have q2:sIx items.size items.size hi - sIx items.size 0 lo=items.size:=eq_of_beq q.2;exact hw ⟨by omega,by omega⟩
 show wpAny _ _ (if(((sIx items.size 0 lo:Nat):Int)==0&&(1:Int)==1&&(sIx items.size items.size hi - sIx items.size 0 lo)==items.size)=true then _ else _) _ _ s;rw[if_neg hno,OZ]
 first
  |exact wpAny_bind (m:=Builtin.Tuple.tupleExact _) (wpAny_newObj_type (wpAny_pure ⟨_,rfl,wpAny_pure h⟩) htake)
  |exact wpAny_bind (m:=Builtin.Tuple.tupleExact _) (wpAny_newObj_type (wpAny_bind (wpAny_pure (wpAny_pure ⟨_,rfl,wpAny_pure h⟩))) htake)
  |exact wpAny_bind (wpAny_bind (m:=Builtin.Tuple.tupleExact _) (wpAny_newObj_type (wpAny_pure (wpAny_pure ⟨_,rfl,wpAny_pure h⟩)) htake))
  |exact wpAny_bind (wpAny_bind (m:=Builtin.Tuple.tupleExact _) (wpAny_newObj_type (wpAny_pure ⟨_,rfl,wpAny_pure h⟩) htake))
end
end HT
namespace L2
open PySem PySem.Spec PyProof.Rows
noncomputable abbrev TO:=St→Hp→(Option Int→Hp→Prop)→Prop
def PO (X:Cx) (e:Option Expr) (t:TO):Prop :=
 ∀ (pins:List (Addr×Obj)) (s:Shared) (σ:St) (H:Hp) (Q:Option Int→Hp→Prop),Inv X pins σ H s→t σ H Q→
  wpAny (model X.prog X.w) X.A (evalPart e X.env) (fun u s'=>∃ o H',Inv X pins σ H' s'∧IsPart u o∧Q o H') X.xe s
noncomputable def Cg:TO:=fun _ H Q=>Q none H
noncomputable def HV (t:TE):TO:=fun σ H Q=>t σ H fun x H1=>∃ i,x=.int i∧Q (some i) H1
theorem Zu{ns:List Int}:∀ {us:List Value},Vals (ns.map V.int) us→IntsAre us ns:=by
 induction ns with
 |nil=>intro us r;rw[List.map_nil]at r;cases r;exact .nil
 |cons n ns ih =>
  intro us r;rw[qG]at r;cases r with
  |cons r1 r2 =>obtain⟨t,e⟩:=r1;subst e;exact .cons n t (ih r2)
section
variable {X:Cx}{e:Expr}{te:TE}{lo hi:Option Expr}{tl th:TO}{pos p2:Pos}
theorem po_none:PO X none Cg:=by intro pins s σ H Q I h;rw[evalPart_none];exact wpAny_pure ⟨none,H,I,.none,h⟩
theorem Cp(h:PE X e te):PO X (some e) (HV te):=by intro pins s σ H Q I hw;rw[evalPart_some];refine thn (h pins s σ H _ I hw) fun u s1 ⟨x,H1,I1,r1,q1⟩=>?_;obtain⟨i,rfl,q⟩:=q1;obtain⟨t,rfl⟩:=r1;exact⟨some i,H1,I1,.int i t,q⟩
def SlR (X:Cx) (r:V→Option Int→Option Int→Hp→VK→Prop):Prop :=
 ∀ (pins:List (Addr×Obj)) (s:Shared) (σ:St) (H:Hp) (x:V) (v vl vu:Value) (lo hi:Option Int) (sl:Addr) (Q:VK),Inv X pins σ H s→RelV x v→s.heap.IsSliceOf sl vl vu .none→IsPart vl lo→IsPart vu hi→r x lo hi H Q→
  ∃ T id,typeLookup (.type T) "__getitem__" = pure (some (.builtin id))∧s.TypeIs v T∧wpAny (model X.prog X.w) X.A (getItem v (.ref sl)) (EP X pins σ Q) X.xe s
theorem SlR.or{r r':V→Option Int→Option Int→Hp→VK→Prop}(h:SlR X r)(h':SlR X r'):SlR X (fun x lo hi H Q=>r x lo hi H Q∨r' x lo hi H Q):=by
 intro pins s σ H x v vl vu lo hi sl Q I rx hs pl pu q;rcases q with q|q
 ·exact h pins s σ H x v vl vu lo hi sl Q I rx hs pl pu q
 ·exact h' pins s σ H x v vl vu lo hi sl Q I rx hs pl pu q
noncomputable def tSl (r:V→Option Int→Option Int→Hp→VK→Prop) (te:TE) (tl th:TO):TE:=fun σ H Q=>te σ H fun x H1=>tl σ H1 fun l H2=>th σ H2 fun u H3=>r x l u H3 Q
theorem Ub {r:V→Option Int→Option Int→Hp→VK→Prop}(hr:SlR X r) (he:PE X e te) (hl:PO X lo tl) (hu:PO X hi th):PE X (.Subscript e (.Slice lo hi none p2) pos) (tSl r te tl th):=by intro pins s σ H Q I h;refine Subscript_ (thn (he pins s σ H _ I h) fun v s1 ⟨x,H1,I1,r1,q1⟩=>?_);refine wpAny_Slice (thn (hl pins s1 σ H1 _ I1 q1) fun vl s2 ⟨l,H2,I2,pl,q2⟩=>thn (hu pins s2 σ H2 _ I2 q2) fun vu s3 ⟨u,H3,I3,pu,q3⟩=>?_);rw[evalPart_none];refine wpAny_pure ?_;have I4:Inv X pins σ H3 {s3 with heap:=s3.heap.push {cls:=.type "slice",data:=.fields #[vl,vu,.none]}}:=I3.kept (t':=s3.toks) fun b ob q=>Heap.get?_push_of_some _ q;obtain⟨T,id,hT,ht,hg⟩:=hr pins {s3 with heap:=s3.heap.push {cls:=.type "slice",data:=.fields #[vl,vu,.none]}} σ H3 x v vl vu l u s3.heap.objs.size Q I4 r1 (Heap.IsSliceOf.new ..) pl pu q3;show wpAny (model X.prog X.w) X.A (subscriptTail e (.Slice lo hi none p2) v (.ref s3.heap.objs.size)) (EP X pins σ Q) X.xe {s3 with heap:=s3.heap.push {cls:=.type "slice",data:=.fields #[vl,vu,.none]}};exact tail_any (ops:=[.ref s3.heap.objs.size,v]) ht hT hg (by with_unfolding_all rfl)
noncomputable def Jr (xs:List V) (lo hi:Option Int):List V:=(xs.drop (HT.sIx xs.length 0 lo)).take (HT.sIx xs.length xs.length hi - HT.sIx xs.length 0 lo)
theorem XD(xs:List V)(lo hi:Option Int):(Jr xs lo hi).length≤xs.length:=by unfold Jr;rw[qV,List.length_drop];omega
def Gu (K:PySem.W.Frag):V→Option Int→Option Int→Hp→VK→Prop:=fun x lo hi H Q=>∃ a xs,x=.ref a∧SqT K H a xs∧
 ¬ (HT.sIx xs.length 0 lo=0∧HT.sIx xs.length xs.length hi=xs.length)∧∀ p,H p=none→Q (.ref p) (upd H p (.tup (Jr xs lo hi)))
theorem sl_tup:SlR X (Gu X.K):=by
 intro pins s σ H x v vl vu lo hi sl Q I rx hs pl pu h;obtain⟨a,xs,rfl,hx,hw,q⟩:=h;cases rx;obtain⟨its,r,ht,hz⟩:=I.tuple hx;have hlen:its.toArray.size=xs.length:=by rw[qC];exact r.length.symm
 refine⟨"tuple",_,PyProof.Rows.slot_tuple_getitem.lookup,ht.typeIs,?_⟩;refine HT.getItem_tuple_cut ht hs pl pu (by rw[hlen];exact hw) ?_ (by rw[hlen];exact hz);rw[hlen];refine⟨.ref s.heap.objs.size,_,I.laid (t':=s.toks) (o:=.tup (Jr xs lo hi)) (fun b ob q=>Heap.get?_push_of_some _ q) (zJ _) ?_,rfl,q _ (I.hok.fresh (zJ _))⟩;exact⟨zH (XD xs lo hi) hz,_,(r.drop (HT.sIx xs.length 0 lo)).take (HT.sIx xs.length xs.length hi - HT.sIx xs.length 0 lo),IsTup.new _ _⟩
noncomputable def GG (K:PySem.W.Frag):R2:=fun x y H Q=>∃ a b ns ms,x=.ref a∧y=.ref b∧SqT K H a (ns.map V.int)∧SqT K H b (ms.map V.int)∧Q (.bl (HT.lexLt ns ms)) H
theorem EX(hu:X.A.units<cLine):OpR X (compareOp .Lt) (GG X.K):=by intro pins s σ H x y v u Q I rx ry h;obtain⟨a,b,ns,ms,rfl,rfl,ha,hb,q⟩:=h;cases rx;cases ry;obtain⟨its,r1,p1,_⟩:=I.tuple ha;obtain⟨its2,r2,p2,_⟩:=I.tuple hb;have i1:IntsAre its.toArray.toList ns:=Zu r1;have i2:IntsAre its2.toArray.toList ms:=Zu r2;exact HT.lt_tupInts p1 p2 i1 i2 hu ⟨.bl (HT.lexLt ns ms),H,I,rfl,q⟩
noncomputable def DS (K:PySem.W.Frag):R2:=fun x y H Q=>∃ a b xs ys,x=.ref a∧y=.ref b∧SqT K H a xs∧SqT K H b ys∧xs≠[]∧xs.length+ys.length≤sizeLine∧
 (ys=[]→Q (.ref a) H)∧(ys≠[]→∀ p,H p=none→Q (.ref p) (upd H p (.tup (xs++ys))))
theorem Vals.nil_iff{xs:List V}{us:List Value}(r:Vals xs us):us=[]↔xs=[]:=by
 cases r with
 |nil=>simp
 |cons _ _=>simp
theorem CW:OpR X (binaryOp .Add) (DS X.K):=by intro pins s σ H x y v u Q I rx ry h;obtain⟨a,b,xs,ys,rfl,rfl,ha,hb,hx,hz,q1,q2⟩:=h;cases rx;cases ry;obtain⟨its,r1,p1,_⟩:=I.tuple ha;obtain⟨its2,r2,p2,_⟩:=I.tuple hb;refine HT.cat_tup p1 p2 (fun z=>hx (r1.nil_iff.mp z)) (fun z=>⟨.ref a,H,I,rfl,q1 (r2.nil_iff.mp z)⟩) (fun z=>?_) (by rw[←r1.length,←r2.length];exact hz);refine⟨.ref s.heap.objs.size,_,I.laid (t':=s.toks) (o:=.tup (xs++ys)) (fun b ob q=>Heap.get?_push_of_some _ q) (zJ _) ?_,rfl,q2 (fun w=>z (r2.nil_iff.mpr w)) _ (I.hok.fresh (zJ _))⟩;exact⟨by rw[qU];exact hz,_,r1.append r2,IsTup.new _ _⟩
end
noncomputable def ixN (n:Nat) (i:Int):Option Nat:=if 0≤i then(if i<n then some i.toNat else none)else if -(n:Int)≤i then some (i+n).toNat else none
noncomputable def atI {α:Type}(xs:List α) (i:Int):Option α:=(ixN xs.length i).bind fun j=>xs[j]?
theorem MY{n:Nat}{i:Int}{j:Nat}(h:ixN n i=some j):seqIndex? i n=some j∧j<n∧-(n:Int)≤i∧i<n:=by
 unfold ixN at h;by_cases h0:0≤i
 ·rw[if_pos h0]at h;by_cases h1:i<n
  ·rw[if_pos h1]at h;have e:i.toNat=j:=Option.some.inj h;exact⟨by rw[seqIndex_of h0 h1,e],by omega,by omega,h1⟩
  ·rw[if_neg h1]at h;cases h
 ·rw[if_neg h0]at h;by_cases h1:-(n:Int)≤i
  ·rw[if_pos h1]at h;have e:(i+n).toNat=j:=Option.some.inj h;exact⟨by rw[seqIndex_neg (by omega) h1,e],by omega,h1,by omega⟩
  ·rw[if_neg h1]at h;cases h
theorem Jj{α:Type}{xs:List α}{i:Int}{v:α}(h:atI xs i=some v):∃ j,seqIndex? i xs.length=some j∧xs[j]?=some v∧j<xs.length∧-(xs.length:Int)≤i∧i<xs.length:=by
 unfold atI at h;cases e:ixN xs.length i with
 |none=>rw[e]at h;cases h
 |some j =>rw[e]at h;obtain⟨h1,h2,h3,h4⟩:=MY e;exact⟨j,h1,h,h2,h3,h4⟩
def Jk (b:Expr):Prop:=∀ o i,subscripted b false o i=operate [o,i] (getItem o i)
def IxR (X:Cx) (r:R2):Prop :=
 ∀ (value slice:Expr) (pins:List (Addr×Obj)) (s:Shared) (σ:St) (H:Hp) (x y:V) (v u:Value) (Q:VK),Inv X pins σ H s→RelV x v→RelV y u→r x y H Q→
  subscripted slice false v u=operate [v,u] (getItem v u)→wpAny (model X.prog X.w) X.A (subscriptTail value slice v u) (EP X pins σ Q) X.xe s
def MtR (X:Cx) (id:String) (r:V→List V→Hp→VK→Prop):Prop :=
 ∀ (pins:List (Addr×Obj)) (s:Shared) (σ:St) (H:Hp) (x:V) (xs:List V) (v:Value) (us:List Value) (Q:VK),Inv X pins σ H s→RelV x v→Vals xs us→r x xs H Q→
  wpAny (model X.prog X.w) X.A (call (.builtin id) (v::us)) (EP X pins σ Q) X.xe s
section
variable {X:Cx}{a b:Expr}{ta tb:TE}{pos:Pos}
theorem IxR.or{r r':R2}(h:IxR X r)(h':IxR X r'):IxR X (fun x y H Q=>r x y H Q∨r' x y H Q):=by
 intro value slice pins s σ H x y v u Q I rx ry q hs;rcases q with q|q
 ·exact h value slice pins s σ H x y v u Q I rx ry q hs
 ·exact h' value slice pins s σ H x y v u Q I rx ry q hs
theorem MtR.or{id:String}{r r':V→List V→Hp→VK→Prop}(h:MtR X id r)(h':MtR X id r'):MtR X id (fun x xs H Q=>r x xs H Q∨r' x xs H Q):=by
 intro pins s σ H x xs v us Q I rx rs q;rcases q with q|q
 ·exact h pins s σ H x xs v us Q I rx rs q
 ·exact h' pins s σ H x xs v us Q I rx rs q
theorem GF{r:R2}(hr:IxR X r)(ha:PE X a ta)(hb:PE X b tb)(hs:Jk b):PE X (.Subscript a b pos) (tOp r ta tb):=by intro pins s σ H Q I h;exact Subscript_ (EG ha hb I h fun v u s2 x y H2 I2 rx ry q=>hr a b pins s2 σ H2 x y v u Q I2 rx ry q (hs _ _))
noncomputable def Iz (K:PySem.W.Frag):R2:=fun x y H Q=>∃ p xs i v,x=.ref p∧y=.int i∧SqL K H p xs∧atI xs i=some v∧Q v H
noncomputable def HD (K:PySem.W.Frag):R2:=fun x y H Q=>∃ p xs i v,x=.ref p∧y=.int i∧SqT K H p xs∧atI xs i=some v∧Q v H
noncomputable def Ib:R2:=fun x y H Q=>∃ z i c,x=.str z∧y=.int i∧z.length≤sizeLine∧atI z.cps.toList i=some c∧Q (.str ⟨#[c]⟩) H
theorem ix_list:IxR X (Iz X.K):=by
 intro value slice pins s σ H x y v u Q I rx ry h hs;obtain⟨p,xs,i,z,rfl,rfl,hq,he,q⟩:=h;cases rx;obtain⟨t,rfl⟩:=ry;obtain⟨its,r,pl,hz⟩:=I.list hq;obtain⟨j,h1,h2,h3,h4,h5⟩:=Jj he;obtain⟨w,ew,rw'⟩:=r.get h2;have hl:=r.length;have hn:=YM;have fin:EP X pins σ Q w s:=⟨z,H,I,rw',q⟩
 by_cases h0:0≤i
 ·have hj:i.toNat=j:=by
   rw[seqIndex_of h0 h5]at h1;exact Option.some.inj h1
  exact item_listR pl.isList h0 (by omega) (by rw[hj];simpa using ew) fin hs
 ·have hj:(i+(its.toArray.size:Int)).toNat=j:=by
   rw[seqIndex_neg (by omega) h4]at h1;rw[qC,←hl];exact Option.some.inj h1
  exact subscriptTail_builtinR (x:=w) pl.isList.typeIs slot_list_getitem.lookup
   (wpAny_getItem_list_neg (Q:=fun r s'=>r=w∧EP X pins σ Q r s') pl.isList (by omega) (by rw[qC]<;>omega) (by omega) (by rw[hj];simpa using ew) ⟨rfl,fin⟩) hs
theorem ix_tup:IxR X (HD X.K):=by
 intro value slice pins s σ H x y v u Q I rx ry h hs;obtain⟨p,xs,i,z,rfl,rfl,hq,he,q⟩:=h;cases rx;obtain⟨t,rfl⟩:=ry;obtain⟨its,r,pl,hz⟩:=I.tuple hq;obtain⟨j,h1,h2,h3,h4,h5⟩:=Jj he;obtain⟨w,ew,rw'⟩:=r.get h2;have hl:=r.length;have hn:=YM;have fin:EP X pins σ Q w s:=⟨z,H,I,rw',q⟩
 exact subscriptTail_builtinR (x:=w) pl.typeIs slot_tuple_getitem.lookup
  (getItem_tuple (j:=j) (Q:=fun r s'=>r=w∧EP X pins σ Q r s') pl (by omega) (by omega) (by rw[qC,←hl];exact h1) (by simpa using ew) ⟨rfl,fin⟩) hs
theorem Et:IxR X Ib:=by
 intro value slice pins s σ H x y v u Q I rx ry h hs;obtain⟨z,i,c,rfl,rfl,hz,he,q⟩:=h;obtain⟨t,rfl⟩:=rx;obtain⟨t',rfl⟩:=ry;obtain⟨j,h1,h2,h3,h4,h5⟩:=Jj he;have hl:z.cps.toList.length=z.length:=by simp[Str.length]
 rw[hl]at h1 h4 h5;have hn:=YM;exact tail_any (typeIs_str s z t) slot_str_getitem.lookup (getItem_str (c:=c) (by
   have e1:decide (i < -(2 ^ 63:Int))=false:=qP (by omega)
   have e2:decide (i≥2 ^ 63)=false:=qP (by omega)
   rw[e1,e2,Bool.or_false]) (by rw[h1];simpa using h2) ⟨.str ⟨#[c]⟩,H,I.tok _,⟨_,rfl⟩,q⟩) hs
noncomputable def rIx (K:PySem.W.Frag):R2:=fun x y H Q=>Iz K x y H Q∨HD K x y H Q∨Ib x y H Q
theorem ix_seq:IxR X (rIx X.K):=ix_list.or (ix_tup.or Et)
theorem ME (its:List Value) (n j:Nat) (u:Value):Obj.mapSeq (·.setIfInBounds j u) {cls:=.type "list",data:=.seq its.toArray n}={cls:=.type "list",data:=.seq (its.set j u).toArray n}:=by simp[Obj.mapSeq]
theorem Inv.lst{pins:List (Addr×Obj)}{σ:St}{H:Hp}{s:Shared}{p:Addr}{xs:List V}(I:Inv X pins σ H s)(h:H p=some (.lst xs)) :
  ∃ (its:List Value) (n:Nat),Vals xs its∧s.heap.get? p=some {cls:=.type "list",data:=.seq its.toArray n}∧xs.length≤sizeLine:=by
 obtain⟨z,its,n,r,e⟩:=I.hok p _ h;exact⟨its,n,r,e,z⟩
theorem Inv.lstUpd{pins:List (Addr×Obj)}{σ:St}{H:Hp}{s:Shared}{p:Addr}{xs ys:List V}{its its':List Value}{n n':Nat}{f:Obj→Obj}(I:Inv X pins σ H s)(h:H p=some (.lst xs))
  (ho:s.heap.get? p=some {cls:=.type "list",data:=.seq its.toArray n}) (hf:f {cls:=.type "list",data:=.seq its.toArray n}={cls:=.type "list",data:=.seq its'.toArray n'}) (r:Vals ys its') (hz:ys.length≤sizeLine) (t:Nat) :
  Inv X pins σ (upd H p (.lst ys)) {s with heap:=s.heap.update p f,toks:=t}:=by
 have e:(s.heap.update p f).get? p=some {cls:=.type "list",data:=.seq its'.toArray n'}:=by rw[Heap.get?_update_self f ho (by rw[hf]<;>rfl),hf]
 refine I.write (x:=p) (e:=p) (by rw[h];trivial) (.inl rfl) (fun b u hb q=>(Heap.get?_update_other _ _ (Ne.symm hb)).trans q) ⟨_,e⟩ ?_;exact⟨hz,its',n',r,e⟩
def DA:V→V→V→Hp→(Hp→Prop)→Prop:=fun o i v H Q=>∃ p xs k j,o=.ref p∧i=.int k∧H p=some (.lst xs)∧ixN xs.length k=some j∧Q (upd H p (.lst (xs.set j v)))
theorem Bb:PSet X DA:=by
 intro pins s σ H o i v ov iv u Q I ro ri rv h;obtain⟨p,xs,k,j,rfl,rfl,hp,hj,q⟩:=h;cases ro;obtain⟨t,rfl⟩:=ri;obtain⟨its,n,r,ho,hz⟩:=I.lst hp;obtain⟨h1,h2,h3,h4⟩:=MY hj;have hl:=r.length;have hn:=YM;have I':Inv X pins σ (upd H p (.lst (xs.set j v))) {s with heap:=s.heap.update p (Obj.mapSeq (·.setIfInBounds j u))} :=
  I.lstUpd hp ho (ME its n j u) (r.set rv j) (by rw[List.length_set];exact hz) s.toks
 by_cases h0:0≤k
 ·have hk:k.toNat=j:=by
   rw[seqIndex_of h0 h4]at h1;exact Option.some.inj h1
  exact PySem.W.ki_setAt ho h0 (by omega) (by rw[qC,←hl];exact h4) (by rw[hk];exact⟨_,I',q⟩)
 ·have hk:(k+(its.toArray.size:Int)).toNat=j:=by
   rw[seqIndex_neg (by omega) h3]at h1;rw[qC,←hl];exact Option.some.inj h1
  exact PySem.W.ki_setBack ho (by omega) (by rw[qC,←hl];exact h3) (by omega) (by rw[hk];exact⟨_,I',q⟩)
theorem Jl(lo hi:Option Int)(n:Nat):(sliceBounds lo hi none n).1=((HT.sIx n 0 lo:Nat):Int)∧(sliceBounds lo hi none n).2.1=((HT.sIx n n hi:Nat):Int)∧(sliceBounds lo hi none n).2.2=1:=by
 refine⟨?_,?_,rfl⟩
 ·cases lo with
  |none=>simp[sliceBounds,HT.sIx]
  |some i =>
   simp only[sliceBounds,HT.sIx,Option.getD_none,show(1:Int) > 0 by decide,if_true];by_cases h:i<0
   ·simp only[h,if_true]<;>omega
   ·simp only[h,if_false]<;>omega
 ·cases hi with
  |none=>simp[sliceBounds,HT.sIx]
  |some i =>
   simp only[sliceBounds,HT.sIx,Option.getD_none,show(1:Int) > 0 by decide,if_true];by_cases h:i<0
   ·simp only[h,if_true]<;>omega
   ·simp only[h,if_false]<;>omega
theorem Wy(its:List Value)(lo hi:Option Int):slicePick its.toArray lo hi none=((its.drop (HT.sIx its.length 0 lo)).take (HT.sIx its.length its.length hi - HT.sIx its.length 0 lo)).toArray:=by obtain⟨h1,h2,h3⟩:=Jl lo hi its.toArray.size;unfold slicePick;rw[h1,h2,h3];simp only[sliceRange_one,pick_run,qC]<;>rfl
def Gw (K:PySem.W.Frag):V→Option Int→Option Int→Hp→VK→Prop:=fun x lo hi H Q=>∃ a xs,x=.ref a∧SqL K H a xs∧∀ p,H p=none→Q (.ref p) (upd H p (.lst (Jr xs lo hi)))
theorem sl_list:SlR X (Gw X.K):=by intro pins s σ H x v vl vu lo hi sl Q I rx hs pl pu h;obtain⟨a,xs,rfl,hx,q⟩:=h;cases rx;obtain⟨its,r,ht,hz⟩:=I.list hx;have hlen:=r.length;refine⟨"list",_,slot_list_getitem.lookup,ht.isList.typeIs,?_⟩;refine wpAny_getItem_list_slice ht.isList hs pl pu .none (by simp) ?_ (by rw[qC]<;>omega);rw[Wy,←hlen];refine⟨.ref s.heap.objs.size,_,I.laid (t':=s.toks) (o:=.lst (Jr xs lo hi)) (fun b ob q=>Heap.get?_push_of_some _ q) (zJ _) ?_,rfl,q _ (I.hok.fresh (zJ _))⟩;exact⟨zH (XD xs lo hi) hz,_,0,(r.drop (HT.sIx xs.length 0 lo)).take (HT.sIx xs.length xs.length hi - HT.sIx xs.length 0 lo),Heap.get?_push_size _ rfl⟩
noncomputable def eqV:V→V→Bool
 |.non,.non=>true
 |.bl a,.bl b=>a==b
 |.bl a,.int b=>(if a then 1 else 0)==b
 |.int a,.bl b=>a==(if b then 1 else 0)
 |.int a,.int b=>a==b
 |.str a,.str b=>a==b
 |_,_=>false
noncomputable def inV (x:V) (xs:List V):Bool:=xs.any fun y=>eqV y x
theorem JJ:OpR X (compareOp .NotIn) (fun x y H Q=>∃ i j,x=.str i∧y=.str j∧Q (.bl (!(!(Builtin.Str.occurrences j i 0 j.length 1).isEmpty))) H):=by intro pins s σ H x y v u Q I rx ry h;obtain⟨i,j,rfl,rfl,q⟩:=h;obtain⟨t,rfl⟩:=rx;obtain⟨t',rfl⟩:=ry;exact notIn_str ⟨.bl _,H,I,rfl,q⟩
theorem call_len_seq:CallR X (.builtin "len") (fun xs H Q=>∃ p ys,xs=[.ref p]∧(SqL X.K H p ys∨SqT X.K H p ys)∧Q (.int ys.length) H):=by
 intro pins s σ H xs us Q I r h;obtain⟨p,ys,rfl,hq,q⟩:=h;obtain⟨u,rfl,rx⟩:=ZJ r;cases rx;have hn:=YM;rcases hq with hq|hq
 ·obtain⟨its,r',pl,hz⟩:=I.list hq;have hlen:=r'.length;exact Calls.call_len_list pl.isList (by simp only[qC]<;>omega) ⟨.int ys.length,H,I.tok _,⟨s.toks+1,by rw[qC,hlen]⟩,q⟩
 ·obtain⟨its,r',pl,hz⟩:=I.tuple hq;have hlen:=r'.length;exact len_tuple pl (by simp only[qC]<;>omega) ⟨.int ys.length,H,I.tok _,⟨s.toks+1,by rw[qC,hlen]⟩,q⟩
theorem JT:CallR X (.builtin "len") (fun xs H Q=>∃ z,xs=[.str z]∧z.length≤sizeLine∧Q (.int z.length) H):=by intro pins s σ H xs us Q I r h;obtain⟨z,rfl,hz,q⟩:=h;obtain⟨u,rfl,t,rfl⟩:=ZJ r;have hn:=YM;exact len_str (by omega) ⟨.int z.length,H,I.tok _,⟨_,rfl⟩,q⟩
theorem CallR.or{f:Value}{r r':List V→Hp→VK→Prop}(h:CallR X f r)(h':CallR X f r'):CallR X f (fun xs H Q=>r xs H Q∨r' xs H Q):=by
 intro pins s σ H xs us Q I rs q;rcases q with q|q
 ·exact h pins s σ H xs us Q I rs q
 ·exact h' pins s σ H xs us Q I rs q
theorem Ji:CallR X (.type "list") (fun xs H Q=>∃ p ys,xs=[.ref p]∧(SqL X.K H p ys∨SqT X.K H p ys)∧∀ l,H l=none→Q (.ref l) (upd H l (.lst ys))):=by
 intro pins s σ H xs us Q I r h;obtain⟨p,ys,rfl,hq,q⟩:=h;obtain⟨u,rfl,rx⟩:=ZJ r;cases rx;have fin:∀ (its:List Value),Vals ys its→ys.length≤sizeLine→∀ (h':Heap) (c':Nat),(∀ b o',s.heap.get? b=some o'→h'.get? b=some o')→
   h'.get? s.heap.objs.size=some {cls:=.type "list",dict:=none,data:=.seq its.toArray c',slots:=#[]}→EP X pins σ Q (.ref s.heap.objs.size) {s with heap:=h'}:=fun its r' hz h' c' kp e =>
  ⟨.ref s.heap.objs.size,_,I.laid (t':=s.toks) kp (zJ _) (show ObjOk X.prog X.w _ h' _ (.lst ys) from ⟨hz,its,c',r',e⟩),rfl,q _ (I.hok.fresh (zJ _))⟩
 rcases hq with hq|hq
 ·obtain⟨its,r',pl,hz⟩:=I.list hq;have hlen:=r'.length;obtain⟨o,ho,hc,n,hd⟩:=pl.isList;exact call_list_seq p (.inl rfl) ho hc hd (fun h' c' kp e=>fin its r' hz h' c' kp e) (by simp only[qC]<;>omega)
 ·obtain⟨its,r',pl,hz⟩:=I.tuple hq;have hlen:=r'.length;obtain⟨o,ho,hc,n,hd⟩:=pl;exact call_list_seq p (.inr rfl) ho hc hd (fun h' c' kp e=>fin its r' hz h' c' kp e) (by simp only[qC]<;>omega)
theorem WF:CallR X (.type "tuple") (fun xs H Q=>∃ p ys,xs=[.ref p]∧((SqL X.K H p ys∧∀ l,H l=none→Q (.ref l) (upd H l (.tup ys)))∨(SqT X.K H p ys∧Q (.ref p) H))):=by
 intro pins s σ H xs us Q I r h;obtain⟨p,ys,rfl,h⟩:=h;obtain⟨u,rfl,rx⟩:=ZJ r;cases rx;rcases h with⟨hq,q⟩|⟨hq,q⟩
 ·obtain⟨its,r',pl,hz⟩:=I.list hq;have hlen:=r'.length;refine call_tuple_list pl.isList (fun h' kp=>?_) (by simp only[qC]<;>omega);have I1:Inv X pins σ H {s with heap:=h'}:=I.kept (t':=s.toks) kp;have I2:Inv X pins σ (upd H h'.objs.size (.tup ys)) {s with heap:=h'.push {cls:=.type "tuple",data:=.seq its.toArray}} :=
   I1.laid (t':=s.toks) (fun b o e=>Heap.get?_push_of_some _ e) (zJ _) (show ObjOk X.prog X.w _ _ _ (.tup ys) from ⟨hz,its,r',IsTup.new _ _⟩)
  exact⟨.ref h'.objs.size,_,I2,rfl,q _ (I1.hok.fresh (zJ _))⟩
 ·obtain⟨its,r',pl,hz⟩:=I.tuple hq;exact call_tuple_same pl ⟨.ref p,H,I,rfl,q⟩
def tyV (K:PySem.W.Frag) (T:String) (x:V) (H:Hp):Prop:=match x with
 |.str _=>T = "str"
 |.int _=>T = "int"
 |.ref p=>(T = "list"∧∃ xs,SqL K H p xs)∨(T = "tuple"∧∃ o,K.lookup p=some o∧o.cls=.type "tuple"∧o.dict=none)∨
   (T = "dict"∧((∃ kvs,H p=some (.dK kvs))∨∃ kvs,H p=some (.dT kvs)))∨(T = "set"∧∃ S n,H p=some (.set S n))
 |_=>False
theorem E0{pins:List (Addr×Obj)}{σ:St}{H:Hp}{s:Shared}{T:String}{x:V}{v:Value}(I:Inv X pins σ H s)(r:RelV x v)(ty:tyV X.K T x H) :
  s.TypeIs v T∧∀ a,v=.ref a→∃ ob,s.heap.get? a=some ob∧ob.dict=none:=by
 cases x with
 |str z =>obtain⟨t,rfl⟩:=r;cases (show T = "str" from ty);exact⟨typeIs_str s z t,fun _ e=>nomatch e⟩
 |int i =>obtain⟨t,rfl⟩:=r;cases (show T = "int" from ty);exact⟨typeIs_int s i t,fun _ e=>nomatch e⟩
 |ref p =>
  cases r;rcases ty with⟨rfl,xs,hq⟩|⟨rfl,o,hk,hc,hd⟩|⟨rfl,hk⟩|⟨rfl,S,n,hk⟩
  ·obtain⟨its,_,pl,_⟩:=I.list hq;refine⟨pl.isList.typeIs,fun a e=>?_⟩;cases e;obtain⟨o,n,e,c,hd,_⟩:=pl;exact⟨o,e,hd⟩
  ·refine⟨⟨o,I.kIn p o hk,hc⟩,fun a e=>?_⟩;cases e;exact⟨o,I.kIn _ o hk,hd⟩
  ·have z:∃ o,s.heap.get? p=some o∧o.ExactDict:=by
    rcases hk with⟨kvs,hk⟩|⟨kvs,hk⟩
    ·obtain⟨_,_,_,_,o,_,_,e,ex,_⟩:=I.hok p _ hk;exact⟨o,e,ex⟩
    ·obtain⟨_,_,_,_,o,_,_,e,ex,_⟩:=I.hok p _ hk;exact⟨o,e,ex⟩
   obtain⟨o,e,ex⟩:=z;refine⟨⟨o,e,ex.1⟩,fun a e2=>?_⟩;cases e2;exact⟨o,e,ex.2.1⟩
  ·obtain⟨o,_,_,_,e,ex,_⟩:=I.hok p _ hk;refine⟨⟨o,e,ex.1⟩,fun a e2=>?_⟩;cases e2;exact⟨o,e,ex.2.1⟩
 |_=>exact False.elim ty
noncomputable def tBM (K:PySem.W.Frag) (T:String) (r:V→List V→Hp→VK→Prop) (to:TE) (t:TA):TE:=fun σ H Q=>to σ H fun x H1=>tyV K T x H1∧t σ H1 fun xs H2=>r x xs H2 Q
variable {o e:Expr}{es:List Expr}{to:TE}{t:TA}{name:Str}{apos cpos:Pos}{T id:String}{r:V→List V→Hp→VK→Prop}
theorem Iy (pa:PlainAttrs T) (slot:Slot T name id) (hty:typeOf (.builtin id)=pure (.type "method_descriptor")) (hm:MtR X id r) (ho:PE X o to) (ha:PA X (e::es) t)
  (hbase:attributeBase o name X.env (eval o X.env)=eval o X.env:=by rfl)
  (hfew:((backTo cpos (starEach (e::es) X.env)).all (fun x=>!x.1)&&(backToKw cpos (keywordEach [] X.env)).all (fun x=>x.1.isSome)
    && decide ((e::es).length+([]:List Keyword).length+(if([]:List Keyword).isEmpty then 0 else 1)<30))=true:=by rfl)
  (hline:(apos.endLine==cpos.line)=true:=by rfl) (hs:starEach (e::es) X.env=(false,eval e X.env)::starEach es X.env:=by rfl) (hplain:(backTo cpos (starEach es X.env)).any (·.1)=false:=by rfl) :
  PE X (.Call (.Attribute o name apos) (e::es) [] cpos) (tBM X.K T r to t):=by
 intro pins s σ H Q I h;refine wpAny_Call_method_late hbase hfew hline rfl (thn (ho pins s σ H _ I h) fun v s1 ⟨x,H1,I1,r1,ty,q1⟩=>?_);obtain⟨h1,h2⟩:=E0 I1 r1 ty;refine⟨T,id,pa,slot,hty,h1,h2,?_⟩;have hA:=ha cpos pins s1 σ H1 _ I1 q1;rw[hs]at hA ⊢;refine Calls.callWith_builtin (by show(false||(backTo cpos (starEach es X.env)).any (·.1))=false;rw[hplain]<;>rfl) (Calls.evalArgs_plain ?_);exact thn hA fun us s2 ⟨vs,H2,I2,r2,q2⟩=>hm pins s2 σ H2 x vs v us Q I2 r1 r2 q2
/- xs.append(e),list.index on a module's tuple .. are MtR facts of 06m -/
end
def MtM (X:Cx) (id:String) (r:V→List V→Hp→VK→Prop):Prop :=
 ∀ (pins:List (Addr×Obj)) (s:Shared) (σ:St) (H:Hp) (x:V) (xs:List V) (v:Value) (us:List Value) (Q:VK),Inv X pins σ H s→RelV x v→Vals xs us→r x xs H Q→
  wpAny (model X.prog X.w) X.A (call (.builtin id) (v::us)) (EP X pins σ Q) X.xe s
theorem Vals.one:∀ {x:V}{us:List Value},Vals [x] us→∃ u,us=[u]∧RelV x u
 |_,_,.cons r .nil=>⟨_,rfl,r⟩
theorem Vals.two:∀ {x y:V}{us:List Value},Vals [x,y] us→∃ u v,us=[u,v]∧RelV x u∧RelV y v
 |_,_,_,.cons r (.cons q .nil)=>⟨_,_,rfl,r,q⟩
theorem Vals.zero:∀ {us:List Value},Vals [] us→us=[]
 |_,.nil=>rfl
theorem Vals.dropLast{xs:List V}{us:List Value}(h:Vals xs us):Vals xs.dropLast us.dropLast:=by
 induction h with
 |nil=>exact .nil
 |cons r t ih =>
  cases t with
  |nil=>exact .nil
  |cons q t'=>exact .cons r ih
theorem Vals.eraseIdx:∀ {xs:List V}{us:List Value}(i:Nat),Vals xs us→Vals (xs.eraseIdx i) (us.eraseIdx i)
 |_,_,_,.nil=>.nil
 |_,_,0,.cons _ t=>t
 |_,_,i+1,.cons r t=>.cons r (Vals.eraseIdx i t)
theorem Vals.reverse{xs:List V}{us:List Value}(h:Vals xs us):Vals xs.reverse us.reverse:=by
 induction h with
 |nil=>exact .nil
 |cons r t ih=>rw[List.reverse_cons,List.reverse_cons];exact Vals.append ih (.cons r .nil)
theorem Vals.rep{xs:List V}{us:List Value}(h:Vals xs us):∀ k:Nat,Vals (List.replicate k xs).flatten (List.replicate k us).flatten
 |0=>.nil
 |k+1=>by rw[List.replicate_succ,List.replicate_succ,List.flatten_cons,List.flatten_cons];exact Vals.append h (Vals.rep h k)
theorem W0(its:List Value):∀ (k:Nat) (acc:List Value),
  List.foldl (fun x1 x2=>x1++x2) acc.toArray (List.replicate k its.toArray)=(acc++(List.replicate k its).flatten).toArray
 |0,acc=>by simp
 |k+1,acc=>by
  have e:acc.toArray++its.toArray=(acc++its).toArray:=by simp
  have e2:(acc++its)++(List.replicate k its).flatten=acc++(List.replicate (k+1) its).flatten:=by rw[List.replicate_succ,List.flatten_cons,List.append_assoc]
  rw[←e2,←W0 its k (acc++its),←e,List.replicate_succ,List.foldl_cons]
section
variable {X:Cx}{pins:List (Addr×Obj)}{σ:St}{H:Hp}{s:Shared}{l b:Addr}{xs ys zs:List V}
theorem Inv.lset{its its':List Value}{n:Nat}{f:Array Value→Array Value}{t':Nat}(I:Inv X pins σ H s)(hH:H l=some (.lst xs))
  (e:s.heap.get? l=some {cls:=.type "list",data:=.seq its.toArray n}) (hf:f its.toArray=its'.toArray) (hv:Vals ys its') (hz:ys.length≤sizeLine) :
  Inv X pins σ (upd H l (.lst ys)) {s with heap:=s.heap.update l (Obj.mapSeq f),toks:=t'}:=by
 have q:=PySem.IsL.update e f;rw[hf]at q;refine I.write (x:=l) (e:=l) (by rw[hH];exact trivial) (.inl rfl) (fun b' u hb hu=>(Heap.get?_update_other s.heap (Obj.mapSeq f) (Ne.symm hb)).trans hu) ⟨_,q⟩ ?_;exact⟨hz,its',_,hv,q⟩
theorem Inv.lnew{its:List Value}{t':Nat}(I:Inv X pins σ H s)(hv:Vals ys its)(hz:ys.length≤sizeLine) :
  Inv X pins σ (upd H s.heap.objs.size (.lst ys)) {s with heap:=s.heap.push {cls:=.type "list",data:=.seq its.toArray},toks:=t'} :=
 I.laid (fun _ _ q=>Heap.get?_push_of_some _ q) (zJ _) ⟨hz,its,0,hv,Heap.get?_push_size _ rfl⟩
theorem Inv.fresh(I:Inv X pins σ H s):H s.heap.objs.size=none:=I.hok.fresh (zJ _)
theorem Inv.lstM (I:Inv X pins σ H s) (hH:H l=some (.lst xs)):xs.length≤sizeLine∧∃ (its:List Value) (n:Nat),Vals xs its∧xs.length=its.length∧s.heap.get? l=some {cls:=.type "list",data:=.seq its.toArray n}:=by obtain⟨z,its,n,r,e⟩:=I.hok l _ hH;exact⟨z,its,n,r,r.length,e⟩
theorem U3{n:Nat}(h:n≤sizeLine):Builtin.List.listTooLong n=false:=by unfold Builtin.List.listTooLong;exact qP (by omega)
end
section
variable {X:Cx}
def M4:V→List V→Hp→VK→Prop:=fun x vs H Q=>∃ l xs y,x=.ref l∧vs=[y]∧H l=some (.lst xs)∧xs.length<sizeLine∧Q .non (upd H l (.lst (xs++[y])))
theorem OH:MtM X "list.append" M4:=by intro pins s σ H x vs v us Q I rx rv h;obtain⟨l,xs,y,rfl,rfl,hH,hz,q⟩:=h;cases rx;obtain⟨u,rfl,ru⟩:=rv.one;obtain⟨z,its,n,r,hl,e⟩:=I.lstM hH;refine call_meets F.slot_list_append ⟨_,e,rfl⟩ F.entry_list_append (F.args_list_append_2 _ _) (PySem.list_append l its.toArray n u (by rw[qC];omega)) ⟨e,?_⟩;refine⟨.non,_,I.lset (its':=its++[u]) hH e (by simp) (r.append (.cons ru .nil)) ?_,rfl,q⟩;rw[qU,List.length_singleton];omega
noncomputable def HW:R2:=fun x y H Q=>∃ l b xs zs,x=.ref l∧y=.ref b∧H l=some (.lst xs)∧H b=some (.lst zs)∧xs.length+zs.length≤sizeLine∧∀ p,H p=none→Q (.ref p) (upd H p (.lst (xs++zs)))
theorem F4:OpR X (binaryOp .Add) HW:=by
 intro pins s σ H x y v u Q I rx ry h;obtain⟨l,b,xs,zs,rfl,rfl,hH,hB,hz,q⟩:=h;cases rx;cases ry;obtain⟨z,its,n,r,hl,e⟩:=I.lstM hH;obtain⟨z2,its2,n2,r2,hl2,e2⟩:=I.lstM hB;refine PySem.P.add_list e e2 ?_ (by rw[qC,qC];omega);have ea:its.toArray++its2.toArray=(its++its2).toArray:=by simp
 rw[ea];exact⟨.ref _,_,I.lnew (t':=s.toks) (r.append r2) (by rw[qU];omega),rfl,q _ I.fresh⟩
noncomputable def HF:R2:=fun x y H Q=>∃ l k xs,x=.ref l∧y=.int k∧H l=some (.lst xs)∧-(2 ^ 63)≤k∧k<2 ^ 63∧xs.length*k.toNat≤sizeLine∧
 ∀ p,H p=none→Q (.ref p) (upd H p (.lst (List.replicate k.toNat xs).flatten))
theorem C9{α:Type}(xs:List α)(k:Nat):(List.replicate k xs).flatten.length=k*xs.length:=by
 induction k with
 |zero=>simp
 |succ k ih=>rw[List.replicate_succ,List.flatten_cons,qU,ih,Nat.succ_mul,Nat.add_comm]
theorem op_rep:OpR X (binaryOp .Mult) HF:=by
 intro pins s σ H x y v u Q I rx ry h;obtain⟨l,k,xs,rfl,rfl,hH,h1,h2,hz,q⟩:=h;cases rx;obtain⟨t,rfl⟩:=ry;obtain⟨z,its,n,r,hl,e⟩:=I.lstM hH;have hlen:its.toArray.size*k.toNat≤sizeLine:=by rw[qC,←hl];exact hz
 have hcap:¬ its.toArray.size*k.toNat > (2 ^ 63 - 1) / 8:=by
  have:(sizeLine:Nat)≤(2 ^ 63 - 1) / 8:=by decide
  omega
 have hfit:¬ (!Builtin.List.listFitsIndex k)=true:=by rw[fitsIndex_both h1 h2];exact Bool.false_ne_true
 have hlong:¬ Builtin.List.listTooLong (its.toArray.size*k.toNat)=true:=by rw[U3 hlen];exact Bool.false_ne_true
 have hnew:List.foldl (fun x1 x2=>x1++x2) #[] (List.replicate (if its.toArray.isEmpty=true then 0 else k.toNat) its.toArray)=(List.replicate k.toNat its).flatten.toArray:=by
  have f0:∀ m:Nat,List.foldl (fun x1 x2=>x1++x2) #[] (List.replicate m its.toArray)=(List.replicate m its).flatten.toArray:=fun m=>by have:=W0 its m [];rw[List.nil_append]at this;exact this
  rw[f0];cases its with
  |nil=>simp
  |cons a r'=>rw[if_neg (by simp)]
 refine wpAny_binaryOp_repeat_ref (T:="list") (U:="int") (by decide) ⟨_,e,rfl⟩ (fun s'=>typeIs_int s' k t) noFill_list_mul F.fills_int_mul F.slot_int_rmul repeat_list F.slot_int_index.lookup
  (call_meets F.slot_int_rmul (typeIs_int s k t) F.entry_int_rmul (F.args_int_rmul_2 _ _) (int___rmul___int_list k t l its.toArray n)
    ⟨e,rfl,⟨_,e,rfl⟩,call_meets F.slot_list_mul ⟨_,e,rfl⟩ F.entry_list_mul (F.args_list_mul_2 _ _) (AutoListH.list___mul___list_int_3 l its.toArray n k t hfit hcap hlong) ⟨e,?_⟩⟩)
 rw[hnew];exact⟨.ref _,_,I.lnew (t':=s.toks) (r.rep k.toNat) (by rw[C9,Nat.mul_comm];exact hz),rfl,q _ I.fresh⟩
end
end L2
namespace Att
open PySem PySem.W PySem.Calls PyProof.Rows
theorem XF{P:Params}{h:Heap}:∀ (ns:List Int) (vs:List Value),WellAll P h vs (ns.map WData.int)→IntsAre vs ns:=by
 intro ns;induction ns with
 |nil =>intro vs w;rw[List.map_nil]at w;cases w;exact .nil
 |cons n ns ih =>
  intro vs w;rw[qG]at w;cases w with
  |cons a b =>cases a;exact .cons _ _ (ih _ b)
theorem Oo{l:OpenLaw}{n:Nat}(hn:l.most=some n){P:Params}{h:Heap}{args:List WData}{vals:List Value}
  (hpre:l.row.toRowW.claim.pre args=true) (hwl:WellAll P h vals args) :
  ∃ a vs ns,vals=[Value.ref a]∧args=[WData.list (ns.map WData.int)]∧h.get? a=some {cls:=.type "list",data:=.seq vs.toArray}∧IntsAre vs ns∧ns.length≤n:=by
 have hsh:WShape.hasAll [] args [.list .int]=true:=(pre_splitW hpre).1;have hc:l.pre.holds [] {args:=args}=true:=(pre_splitW hpre).2;obtain⟨d,r,rfl,h1,h2⟩:=hasAllW_cons hsh;obtain rfl:=hasAllW_nil h2;obtain⟨xs,rfl,h3⟩:=hasW_list h1;obtain⟨ns,rfl⟩:=items_int h3;have hlen:ns.length≤n:=by
  unfold OpenLaw.pre at hc;have h4:(WTm.not (.lt (.lit (.int (n:Int))) (.len (.arg 0)))).holds [] {args:=[.list (ns.map .int)]}=true:=by have h4:=(holds_andW hc).1;rw[hn]at h4;exact h4
  have h5:=condW_of h4 (w_not (w_lt w_lit (w_len_list (w_arg rfl))));rw[qA]at h5;refine Nat.le_of_not_lt fun q=>?_;have q':(n:Int)<((ns.length:Nat):Int):=by omega
  first
   |(rw[qQ q']at h5;exact absurd h5 (by decide))
   |(simp at h5;omega)
 cases hwl with
 |cons w1 w2 =>
  cases w2;cases w1 with
  |list ho hall=>exact⟨_,_,ns,rfl,rfl,ho,XF ns _ hall,hlen⟩
theorem Ox(l:OpenLaw)(args:List WData):l.row.toRowW.claim.post args (.bool true) args=true :=
 postW_of (r:=l.row.toRowW) (X:=(true==true))
  (show WShape.has [] (.bool true) .bool=true by first|rfl|decide|simp[WShape.has,WShape.arms,WShape.armsAll])
  (show(WTm.eq .res (.lit (.bool true))).value [] {args:=args,res:=some (.bool true),after:=args}=some (.bool (true==true)) from w_eq_bool (w_res rfl) w_lit) rfl
theorem attach_call{l:OpenLaw}{n:Nat}{q:Program}{loose:List Str}{XP:(Str→Option Value)→Heap→Prop}{YP:World→Heap→Prop}{d:DefRec}
  (hn:l.most=some n) (hdf:d.params.defaults=[])
  (call:∀ (w:World) (s₀ s₁:Shared) (mg mb:Str→Option Value) (fa:Addr) (o:Obj) (pm cd doc:Value) (a:Addr) (vs:List Value) (ns:List Int),
    Ground q loose [] XP w s₀ mg mb s₁.heap→YP w s₁.heap→
    s₁.heap.get? fa=some o→o.data=.func (docDef d.name d.params d.body d.scope pm cd doc)→s₁.heap.CodeRec cd d.name→mg d.name=some (.ref fa)→
    s₁.heap.get? a=some {cls:=.type "list",data:=.seq vs.toArray}→IntsAre vs ns→ns.length≤n→s₁.gens=#[]→
    codeAny (model l.prog w) callerA (.call (.ref fa) ⟨[.ref a],[]⟩) (fun r s'=>r=.ok (.ret (.bool true))∧OldK s₁.heap s'.heap∧s'.os=s₁.os∧AllBare s'.gens) s₁) :
  WalkO q loose XP YP l.row.toRowW d [] (fun f vs=>PySem.call f vs):=by
 intro w s₀ s₁ mg mb G Y fa o pm cd doc dV kV ho hd hcd hD hmg hg args vals as hpre hlay hrd hwl hlo;obtain rfl:dV=.none:=Dflts.none hD hdf;obtain rfl:kV=.none:=Dflts.noKw hD;obtain⟨a,vs,ns,rfl,rfl,hobj,hints,hlen⟩:=Oo hn hpre hwl;refine enter_call (codeAny_mono (call w s₀ s₁ mg mb fa o pm cd doc a vs ns G Y ho (fd_plain hd) hcd hmg hobj hints hlen hg) fun r s' hq=>?_);obtain⟨rfl,h2,h3,h4⟩:=hq;exact⟨.inl ⟨.bool true,.bool true,[],rfl,fun _=>rfl,.bool true,Ox l _,fun _=>⟨List.Pairwise.nil,fun _ hm=>(nomatch hm)⟩⟩,h2,h3,h4⟩
end Att
namespace L2
open PySem PySem.Spec PyProof.Rows
theorem Xu:∀ {vs:List Value}{ns:List Int},IntsAre vs ns→Vals (ns.map V.int) vs
 |_,_,.nil=>.nil
 |_,_,.cons n t h=>.cons ⟨t,rfl⟩ (Xu h)
def Fr (H:Hp):Prop:=∀ b,H b=none∨∃ o xs,H b=some (.frz o (.lst xs))
theorem AR{P:Program}{w:World}{K:PySem.W.Frag}{mg mb:Str→Option Value}{CX:CXT}{k:Nat}{fa a:Addr}{fd:FuncData}{x:Str}{sp:Sp}{s₁:Shared}{vs:List Value}{ns:List Int}
  (KX:K.In s₁.heap) (hns:s₁.heap.Ns mainGlobals mg) (hb:s₁.heap.Ns builtinsNs mb) (hbb:∀ x:Str,x≠"__name__"→mb x=bootBuiltins x) (hlim:s₁.heap.NoLimit) (hg:s₁.gens=#[])
  (ha:s₁.heap.get? a=some {cls:=.type "list",data:=.seq vs.toArray}) (hi:IntsAre vs ns) (hl:ns.length≤sizeLine) (hr:Room k callerA)
  (F:∀ base:Heap,K.In base→base.Ns mainGlobals mg→FnOk P w K mg base CX k fa fd [x] sp) (hbind:∀ (s:Shared) (u:Value),BindsTo s fd ⟨[u],[]⟩ [(x,u)])
  (hsp:∀ H:Hp,Fr H→SqL K H a (ns.map V.int)→sp [.ref a] H (fun v _=>v=.bl true) fun _ _ _=>False)
  (hCX:∀ H e s',CX [] H s₁ (fun _ _ _=>False) e s'→False) :
  codeAny (model P w) callerA (.call (.ref fa) ⟨[.ref a],[]⟩) (fun r s'=>r=.ok (.ret (.bool true))∧OldK s₁.heap s'.heap∧s'.os=s₁.os∧AllBare s'.gens) s₁:=by
 have rv:=Xu hi;have lenV:=hi.length;have core:∀ H:Hp,Fr H→SqL K H a (ns.map V.int)→HOk P w H s₁.heap→(∀ b,H b≠none→b=a)→(H a≠none→K.lookup a=none)→
   codeAny (model P w) callerA (.call (.ref fa) ⟨[.ref a],[]⟩) (fun r s'=>r=.ok (.ret (.bool true))∧OldK s₁.heap s'.heap∧s'.os=s₁.os∧AllBare s'.gens) s₁:=by
  intro H hO hS hok hA hK;have base_of:∀ {b:Addr}{o:Obj},s₁.heap.get? b=some o→H b=none→(JV s₁.heap H).get? b=some o:=fun e n=>AC e n;have noA:∀ {b:Addr}{o:Obj}{es:Array DictEntry}{ep:Nat},s₁.heap.get? b=some o→o.data=.dict es ep→H b=none:=fun {b o es ep} e d=>by
   cases q:H b with
   |none=>rfl
   |some u =>have e':b=a:=hA b (by rw[q];simp);subst e';rw[ha]at e;cases e;have d':Data.seq vs.toArray _=Data.dict es ep:=d;cases d'
  have nsK:∀ {b:Addr}{m:Str→Option Value},s₁.heap.Ns b m→(JV s₁.heap H).Ns b m:=fun {b m} ⟨o,es,ep,e,d,r⟩=>⟨o,es,ep,base_of e (noA e d),d,r⟩
  have hKb:K.In (JV s₁.heap H):=fun b o e=>base_of (KX b o e) (by
    cases q:H b with
    |none=>rfl
    |some u =>
      have e':b=a:=hA b (by rw[q];simp)
      subst e'
      rw[hK (by rw[q];simp)]at e;cases e)
  have hM:Mod K mg (JV s₁.heap H):=⟨hKb,nsK hns,⟨mb,nsK hb,hbb⟩,let ⟨mc,h1,h2⟩:=hlim;⟨mc,nsK h1,h2⟩⟩
  have e0:Env0 P w K mg (JV s₁.heap H) callerA [] s₁ H:=⟨rfl,hM,fun b o e=>Ce e,Nat.le_of_eq (OP _ _),trivial,fun b hb=>absurd (show b∈([]:List Addr) from hb) (by simp),hok,.of_eq hg⟩
  refine codeAny_mono ((F _ hKb (nsK hns)).run callerA [] s₁ H ⟨[.ref a],[]⟩ [.ref a] [.ref a] _ _ hr e0 (hbind s₁ (.ref a)) (.cons rfl .nil) (hsp H hO hS)) fun r s' h=>?_;cases r with
  |error e=>exact(hCX H e s' h).elim
  |ok fl =>
   cases fl with
   |next=>exact False.elim h
   |brk=>exact False.elim h
   |cont=>exact False.elim h
   |ret u =>
    obtain⟨v,H',os,bare,un,hok',r',q⟩:=h;have q':v=.bl true:=q;subst q';obtain rfl:u=Value.bool true:=r';refine⟨rfl,OldK.of_keep fun b o e=>?_,os,bare⟩;cases q:H b with
    |none=>exact un.keep b o e q (by intro z;exact absurd (show b∈([]:List Addr) from z) (by simp)) (by simp)
    |some u =>
     rcases hO b with z|⟨ob,xs,z⟩
     ·rw[q]at z;cases z
     ·have z2:=un.frzs b ob _ z;obtain⟨e1,_⟩:=hok b _ z;obtain⟨e2,_⟩:=hok' b _ z2;rw[e]at e1;cases e1;exact e2
 cases hk:K.lookup a with
 |some o =>have e:=KX a o hk;rw[ha]at e;cases e;refine core (fun _=>none) (fun _=>.inl rfl) (.inr ⟨_,vs.toArray,_,hk,rfl,rfl,rfl,by rw[qC,lenV];exact hl,by simpa using rv⟩) (fun b u z=>by have z':(none:Option HO)=some u:=z;cases z') (fun b z=>absurd rfl z) fun z=>absurd rfl z
 |none =>
  refine core (fun b=>if b=a then some (.frz {cls:=.type "list",data:=.seq vs.toArray} (.lst (ns.map V.int)))else none) (fun b=>?_) (.inl (.inr ⟨{cls:=.type "list",data:=.seq vs.toArray},if_pos rfl⟩)) (fun b u z=>?_) (fun b z=>?_) fun _=>hk
  ·by_cases hb:b=a
   ·exact .inr ⟨_,_,if_pos hb⟩
   ·exact .inl (if_neg hb)
  ·by_cases hb:b=a
   ·have z':=(if_pos hb).symm.trans z;cases z';subst hb;exact⟨ha,by rw[qA];exact hl,vs,_,rv,ha⟩
   ·have z':=(if_neg hb).symm.trans z;cases z'
  ·by_cases hb:b=a
   ·exact hb
   ·exact absurd (if_neg hb) z
noncomputable def Ym (s:Stmt):Arguments:=match s with
 |.FunctionDef _ a _ _ _ _ _ _ _ _=>a
 |_=>{posonlyargs:=[],args:=[],vararg:=none,kwonlyargs:=[],kw_defaults:=[],kwarg:=none,defaults:=[]}
noncomputable def ZR (s:Stmt):List Stmt:=match s with
 |.FunctionDef _ _ b _ _ _ _ _ _ _=>b
 |_=>[]
noncomputable def Zo (s:Stmt):Scope:=match s with
 |.FunctionDef _ _ _ _ _ _ sc _ _ _=>sc
 |_=>{kind:=.function,names:=[],isGenerator:=false,isCoroutine:=false}
noncomputable abbrev CX0:CXT:=fun _ _ _ _ _ _=>False
structure Fun (K:PySem.W.Frag) (x qual:Str) (st:Stmt) (f:Addr) (fd:FuncData):Prop where
 ex:∃ (oc:Value) (od:Option Addr) (kV doc pm:Value) (an:Option Addr) (cdv ct:Value) (osl:Array (Option Value)),
  fd=PySem.W.fnOf x qual (Ym st) (ZR st) (Zo st) .none kV doc pm an cdv ct∧K.lookup f=some ⟨oc,od,.func fd,osl⟩∧PySem.W.codeIn K cdv qual=true
 kp:PySem.W.keepIn K (.ref f)=true
section
variable {P:Program}{w:World}{K:PySem.W.Frag}{mg:Str→Option Value}{base:Heap}
theorem Fun.ok{x qual:Str}{st:Stmt}{f:Addr}{fd:FuncData}{N ps:List Str}{k:Nat}{sp:Sp}(F:Fun K x qual st f fd)(S:FnScope N ps (Zo st))(len:∀ vs H Q E,sp vs H Q E→vs.length=ps.length)
  (hbody:∀ (cdv:Value) (A:Around) (outer:List Env) (s:Shared) (H:Hp) (vs:List V) (Q:VK) (E:XK),Room k (A.deeper (envOfC qual (Zo st) s.heap.objs.size f cdv))→sp vs H Q E→
    ∃ t,PSs (Ww CX0 P w K mg base N qual (Zo st) f cdv A outer s H E).nox (ZR st) t∧t { nx:=fun _ H'=>Q .non H',rt:=Q } (start N vs) H):FnOk P w K mg base CX0 (k+1) f fd ps sp:=by
 obtain⟨oc,od,kV,doc,pm,an,cdv,ct,osl,rfl,lk,hcd⟩:=F.ex;refine DC lk hcd S len fun A outer s H vs Q E hr hsp=>?_;obtain⟨t,h,q⟩:=hbody cdv A outer s H vs Q E hr hsp;exact⟨t,h.nox,q⟩
theorem Fun.binds{x qual:Str}{st:Stmt}{f:Addr}{fd:FuncData}{ps:List Str}(F:Fun K x qual st f fd)
  (h:∀ (kV doc pm:Value) (an:Option Addr) (cdv ct:Value) (us:List Value),us.length=ps.length→bindArgs (PySem.W.fnOf x qual (Ym st) (ZR st) (Zo st) .none kV doc pm an cdv ct) ⟨us,[]⟩=pure (ps.zip us)):Binds K fd ps []:=by
 obtain⟨oc,od,kV,doc,pm,an,cdv,ct,osl,rfl,lk,hcd⟩:=F.ex;exact .all (h kV doc pm an cdv ct)
theorem UT{x qual:Str}{st:Stmt}{f:Addr}{oc:Value}{od an:Option Addr}{osl:Array (Option Value)}{kV doc pm cdv ct:Value}(l:K.lookup f=some ⟨oc,od,.func (PySem.W.fnOf x qual (Ym st) (ZR st) (Zo st) .none kV doc pm an cdv ct),osl⟩)
  (c:PySem.W.codeIn K cdv qual=true) (k:PySem.W.keepIn K (.ref f)=true):Fun K x qual st f (PySem.W.fnOf x qual (Ym st) (ZR st) (Zo st) .none kV doc pm an cdv ct):=⟨⟨oc,od,kV,doc,pm,an,cdv,ct,osl,rfl,l,c⟩,k⟩
end
section
variable {X:Cx}
theorem pv (i:Nat){x:Str}{pos:Pos}(hN:X.N[i]?=some x:=by rfl) (hv:Vis X.env.scope x:=by first|exact Or.inl rfl|exact Or.inr (Or.inl rfl)|exact Or.inr (Or.inr rfl)) (hd:(x==("__debug__" : Str))=false:=by decide)
  (hcd:(x==("__classdict__" : Str))=false:=by decide):PE X (.Name x pos) (Iq i):=UN hN hv hd hcd
end
def Same (H H':Hp):Prop:=∀ b o,H b=some o→H' b=some o
theorem Same.refl(H:Hp):Same H H:=fun _ _ h=>h
theorem Same.trans{H H1 H2:Hp}(a:Same H H1)(b:Same H1 H2):Same H H2:=fun c o h=>b c o (a c o h)
theorem Same.free{H H':Hp}(e:Same H H'){l:Addr}(h:H' l=Option.none):H l=Option.none:=by
 cases q:H l with
 |none=>rfl
 |some o =>rw[e l o q]at h;cases h
theorem Same.seq{K:PySem.W.Frag}{H H':Hp}{a:Addr}{xs:List V}(e:Same H H')(h:SqL K H a xs):SqL K H' a xs:=by
 rcases h with(h|⟨o,h⟩)|h
 ·exact .inl (.inl (e _ _ h))
 ·exact .inl (.inr ⟨o,e _ _ h⟩)
 ·exact .inr h
end L2
set_option maxHeartbeats 4000000
namespace L2
open PySem PySem.Spec PyProof.Rows
theorem HOk.track{P:Program}{w:World}{H:Hp}{h:Heap}{a:Addr}{o:HO}(x:HOk P w H h)(hn:H a=none)(new:ObjOk P w (upd H a o) h a o):HOk P w (upd H a o) h:=fun b u e=>by
 by_cases hb:b=a
 ·subst hb;rw[upd_same]at e;cases e;exact new
 ·rw[upd_ne hb]at e;exact(x b u e).stay (fun c v _ q=>q) (fun c q=>by rw[upd_ne (Zj q hn)];exact q) fun c xs q=>by rw[upd_ne (Zj q hn)];exact q
theorem HOk.same{P:Program}{w:World}{H:Hp}{h h':Heap}{C:Addr}(x:HOk P w H h)(hn:H C=none)(hs:Heap.SameBut C h h'):HOk P w H h':=fun b u e=>by
 refine(x b u e).stay (fun c v hc q=>hs.extBut c v ?_ q) (fun _ q=>q) fun _ _ q=>q;rcases hc with z|z
 ·rw[z];exact Zj e hn
 ·exact Zj z hn
noncomputable def Zy (X:Cx) (scope:Scope) (N':List Str) (cl:List (Str×Addr)) (C:Addr) (s:Shared) (H:Hp) (ex:List Addr):Cx where
 prog:=X.prog
 w:=X.w
 K:=X.K
 mg:=X.mg
 base:=X.base
 A:=X.A
 N:=N'
 s₀:=s
 H₀:=H
 env:=compEnvC scope cl C X.env
 outer:=X.stack
 stack:=X.stack
 ex:=ex
 fn:=fun _=>false
 calm:=X.calm
 pn:=[]
 xe:=fun _ _=>False
noncomputable def Z4 (X:Cx) (x:List Str) (caps:List Nat):List Str:=x++caps.map fun j=>X.N.getD j Str.empty
noncomputable def MQ (σ:St) (caps:List Nat):St:=caps.map fun j=>(σ[j]?).getD none
structure BlkOk (X:Cx) (scope:Scope) (x:List Str) (caps:List Nat):Prop where
 kind:scope.kind=.function
 nocell:∀ y∈scope.names,y.2≠.cell
 locs:∀ y∈scope.names,y.2=.local→scope.names.lookup y.1=some .local
 own:∀ y∈x,scope.names.lookup y=some .local
 frees:∀ y∈scope.names,y.2=.free→X.env.kindOf y.1=some .cell
 cap:∀ j∈caps,(X.N[j]?).isSome=true∧X.env.kindOf (X.N.getD j Str.empty)=some .cell∧scope.names.lookup (X.N.getD j Str.empty)=some .free
 nd:(Z4 X x caps).Nodup
theorem Yp{env:Env}:∀ (names:List (Str×NameKind)) (acc:List (Str×Addr)),(∀ y∈names,y.2=.free→∃ c,env.cells.lookup y.1=some c)→(∀ x c,acc.lookup x=some c→env.cells.lookup x=some c)→
  ∃ cl,(forIn names acc fun(p:Str×NameKind) (r:List (Str×Addr))=>(do
    if(p.2 == NameKind.free)=true then do let a←cellOf env p.1;pure (ForInStep.yield ((p.1,a)::r))else pure (ForInStep.yield r):Sem _))=pure cl∧
   (∀ x c,cl.lookup x=some c→env.cells.lookup x=some c)∧(∀ x c,acc.lookup x=some c→∃ c',cl.lookup x=some c')∧∀ x,(x,NameKind.free)∈names→∃ c,cl.lookup x=some c
 |[],acc,_,ha=>⟨acc,rfl,ha,fun x c h=>⟨c,h⟩,fun x h=>nomatch h⟩
 |(n,k)::r,acc,hn,ha=>by
  by_cases hk:k=.free
  ·subst hk;obtain⟨c,hc⟩:=hn (n,.free) qT rfl;have ha':∀ x d,(((n,c)::acc:List (Str×Addr))).lookup x=some d→env.cells.lookup x=some d:=fun x d h=>by
    rw[qO]at h;cases e:x==n with
    |true =>
     rw[e]at h;have:x=n:=by simpa using e
     subst this;cases h;exact hc
    |false=>rw[e]at h;exact ha x d h
   obtain⟨cl,h1,h2,h3,h4⟩:=Yp r ((n,c)::acc) (fun y hy=>hn y (qI _ hy)) ha';refine⟨cl,?_,h2,fun x d h=>?_,fun x hx=>?_⟩
   ·rw[List.forIn_cons];have e:cellOf env n=pure c:=by unfold cellOf;rw[hc]
    simp only[beq_self_eq_true,if_true,e];exact h1
   ·by_cases hx:x=n
    ·subst hx;exact h3 x c (by rw[qO];simp)
    ·exact h3 x d (by rw[qO,beq_false_of_ne hx];exact h)
   ·rcases qE.mp hx with e|hx
    ·cases e;exact h3 _ c (by rw[qO];simp)
    ·exact h4 x hx
  ·have hb:(k==NameKind.free)=false:=by simpa using hk
   obtain⟨cl,h1,h2,h3,h4⟩:=Yp r acc (fun y hy=>hn y (qI _ hy)) ha;refine⟨cl,?_,h2,h3,fun x hx=>?_⟩
   ·rw[List.forIn_cons];simp only[hb,Bool.false_eq_true,if_false];exact h1
   ·rcases qE.mp hx with e|hx
    ·cases e;exact absurd rfl hk
    ·exact h4 x hx
theorem Z0{env:Env}:∀ {names:List (Str×NameKind)}{x:Str}{k:NameKind},(names.map fun(n,k)=>if(k==NameKind.free&&env.scope.kind == .function&&env.kindOf n==some .cell)then(n,NameKind.cell)else(n,k)).lookup x=some k→
  (∃ k0,(x,k0)∈names∧names.lookup x=some k0∧(k0=k∨(k0=.free∧k=.cell)))
 |[],_,_,h=>by simp at h
 |(n,k0)::r,x,k,h=>by
  rw[qG,qO]at h;cases hx:x==n with
  |true =>
   have e:x=n:=by simpa using hx
   subst e;refine⟨k0,qT,by rw[qO];simp,?_⟩;by_cases hc:(k0==NameKind.free&&env.scope.kind == .function&&env.kindOf x==some .cell)=true
   ·rw[if_pos hc]at h;simp at h;have:k0=.free:=by
     simp only[bAq]at hc;simpa using hc.1.1
    exact .inr ⟨this,h.symm⟩
   ·rw[if_neg hc]at h;simp at h;exact .inl h
  |false =>
   have h':(r.map fun(n,k)=>if(k==NameKind.free&&env.scope.kind == .function&&env.kindOf n==some .cell)then(n,NameKind.cell)else(n,k)).lookup x=some k:=by
    by_cases hc:(k0==NameKind.free&&env.scope.kind == .function&&env.kindOf n==some .cell)=true
    ·rw[if_pos hc]at h;simpa[hx]using h
    ·rw[if_neg hc]at h;simpa[hx]using h
   obtain⟨k1,a,b,c⟩:=Z0 h';exact⟨k1,qI _ a,by rw[qO,hx];exact b,c⟩
def PIfs (X:Cx) (ifs:List Expr) (t:TT):Prop :=
 ∀ (pins:List (Addr×Obj)) (s:Shared) (σ:St) (H:Hp) (Q:Bool→Hp→Prop),Inv X pins σ H s→t σ H Q→
  wpAny (model X.prog X.w) X.A (forIn ifs true fun c r=>if r=true then do let ok←isTrue c X.env (eval c X.env);pure (ForInStep.yield ok)else pure (ForInStep.yield r)) (TP X pins σ Q) X.xe s
noncomputable def LM:TT:=fun _ H Q=>Q true H
theorem pifs_nil{X:Cx}:PIfs X [] LM:=fun _ _ _ H _ I h=>wpAny_tests_nil ⟨H,I,h⟩
theorem Y4{X:Cx}{c:Expr}{t:TT}(h:PT X c t):PIfs X [c] t:=fun pins s σ H Q I hq=>wpAny_tests_one (h pins s σ H Q I hq)
def Dr (J:It) (tg:TG) (tc:TT) (te:TE) (Fin:List V→Hp→Prop) (W:Nat→Nat→List V→St→Hp→Prop):Prop :=
 ∀ i m ys τ H,W i m ys τ H→ys.length<sizeLine∧((J.stop i H∧Fin ys H)∨(J.go i H∧∃ N:List V→St→Hp→Prop,(∀ ys' τ' H',N ys' τ' H'→∃ m',m'<m∧W (i+1) m' ys' τ' H')∧∀ x H',J.yld i H x H'→
   tg x τ H' fun τ' H1=>tc τ' H1 fun b H2=>if b=true then te τ' H2 fun y H3=>N (ys++[y]) τ' H3 else N ys τ' H2))
noncomputable def A8 (wi:TI) (k:Nat) (caps:List Nat) (tg:TG) (tc:TT) (te:TE):TE:=fun σ H Q=>wi σ H fun J H1=>∃ W:Nat→Nat→List V→St→Hp→Prop,(∃ m,W 0 m [] (List.replicate k none++MQ σ caps) H1)∧
 Dr J tg tc te (fun ys H=>∀ p,H p=none→Q (.ref p) (upd H p (.lst ys))) W
section
variable {X:Cx}{pins:List (Addr×Obj)}{σ:St}{H2:Hp}{s2:Shared}
theorem OG{scope:Scope}{x:List Str}{caps:List Nat}{cl:List (Str×Addr)}{fp:List Addr}{s3:Shared}{D:Addr}{h1:Heap}{tk:Nat}{m:Str→Option Value}(B:BlkOk X scope x caps)(I2:Inv X pins σ H2 s2)(f2:∀ b∈fp,Xq X pins H2 b)
  (c1:∀ x c,cl.lookup x=some c→X.env.cells.lookup x=some c) (c2:∀ x,(x,NameKind.free)∈scope.names→∃ c,cl.lookup x=some c)
  (I3:Inv X pins σ H2 s3) (hD:D=s2.heap.objs.size) (h3:s3.heap.objs.size=D+1) (old:∀ b o,s3.heap.get? b=some o→h1.get? b=some o) (hfp:∀ b∈fp,b<s2.heap.objs.size)
  (hn:h1.Ns s3.heap.objs.size m) :
  Inv (Zy X scope (Z4 X x caps) cl s3.heap.objs.size s3 H2 (D::fp)) [] (List.replicate x.length none++MQ σ caps) H2 {s3 with heap:=h1,toks:=tk}:=by
 have neD:∀ b o,s2.heap.get? b=some o→b≠D:=fun b o e=>by rw[hD];exact zI (Heap.lt_size e)
 have exlt:∀ b∈D::fp,b<s3.heap.objs.size:=fun b hb=>by
  rw[h3];rcases qE.mp hb with e|hb
  ·rw[e];exact Nat.lt_succ_self _
  ·exact Nat.lt_succ_of_lt (by rw[hD];exact hfp b hb)
 have keeps:=I3.hok.kept (h':=h1) old;refine⟨⟨I2.mod,B.kind,I2.ok.glob,I2.ok.blt,zJ _,fun y z c e1 e2=>?_,fun y hy=>?_,fun y c e _=>(by cases e),fun hc=>I2.ok.hd hc,I2.ok.frames,.inl rfl,fun b hb=>?_,fun b o e=>?_,?_,fun b o e hb=>?_,fun b hb hf=>?_,I3.stack,fun b hb=>I2.stkFree b hb⟩,
   rfl,I3.bare,Un.kept old,⟨m,hn,fun i y v e1 e2 e3=>?_⟩,fun y c e=>?_,I3.hok.fresh (zJ _),fun y c e=>I3.freeC y c (c1 y c e),fun p hp=>(nomatch hp),keeps,?_⟩
 ·exact I2.ok.inj y z c (c1 y c e1) (c1 z c e2)
 ·have hy:(relabel scope X.env).names.lookup y=some .cell∨(relabel scope X.env).names.lookup y=some .free:=hy;rcases hy with hy|hy
  ·obtain⟨k0,a,b,c⟩:=Z0 hy;rcases c with c|⟨c,_⟩
   ·subst c;exact absurd rfl (B.nocell _ a)
   ·subst c;exact c2 y a
  ·obtain⟨k0,a,b,c⟩:=Z0 hy;rcases c with c|⟨_,c⟩
   ·subst c;exact c2 y a
   ·cases c
 ·refine⟨zI (exlt b hb),fun y c e z=>?_⟩;have e':=c1 y c e;rcases qE.mp hb with q|q
  ·obtain⟨v,o,ho,_⟩:=I2.cell y c e';exact neD c o ho (z.trans q)
  ·exact(f2 b q).2.2.2.2.1 y c e' z
 ·exact I3.bs b o e
 ·exact zH I2.ok.bsz (zH I2.sz (show s2.heap.objs.size≤s3.heap.objs.size by rw[h3,hD];exact Nat.le_succ _))
 ·rcases qE.mp hb with q|q
  ·exact neD b o (I2.bk b o e) q
  ·rcases (f2 b q).2.2.2.1 with z|z
   ·exact I2.ok.noex b o e z
   ·exact absurd (qR (Heap.lt_size (I2.ok.bs b o e).1) z) (zO _)
 ·have hf:b∈frs X.stack:=hf;rcases qE.mp (I2.stkSub b hf)with z|z
  ·rcases qE.mp hb with q|q
   ·exact absurd I2.lt (by rw[←z,q,hD];exact zO _)
   ·exact(f2 b q).2.1 z
  ·rcases qE.mp hb with q|q
   ·exact I2.nofs (a:=b) (by rw[q,hD];exact zJ _) z
   ·exact(f2 b q).2.2.1 z
 ·by_cases hik:i<x.length
  ·rw[List.getElem?_append_left (by rw[qX];exact hik),List.getElem?_replicate,if_pos hik]at e2;cases e2
  ·have e1:(x++caps.map fun j=>X.N.getD j Str.empty)[i]?=some y:=e1;rw[List.getElem?_append_right (by omega)]at e1;rw[List.getElem?_append_right (by rw[qX];omega),qX]at e2;generalize i - x.length=j at e1 e2;have e2:(caps.map fun j=>(σ[j]?).getD none)[j]?=some (some v):=e2;rw[qF]at e1 e2;cases hj:caps[j]? with
   |none=>rw[hj]at e1;cases e1
   |some q =>
    rw[hj]at e1 e2;have e1':X.N.getD q Str.empty=y:=Option.some.inj e1;have e2':(σ[q]?).getD none=some v:=Option.some.inj e2;obtain⟨hs,hk,hsc⟩:=B.cap q (qY hj);obtain⟨y',hy'⟩:=zB.mp hs;have ey:y'=y:=by rw[←e1',qN,hy'];rfl
    subst ey;have es:σ[q]?=some (some v):=by
     cases hq:σ[q]? with
     |none=>rw[hq]at e2';cases e2'
     |some o=>rw[hq]at e2';exact congrArg some e2'
    rw[e1']at hk hsc;obtain⟨m2,_,hl⟩:=I3.loc;have hk':X.env.scope.names.lookup y'=some .cell:=hk;obtain⟨u,r,l⟩:=hl q y' v hy' es (.inr (.inl hk'));refine⟨u,r,.inr ⟨?_,?_⟩⟩
    ·rcases e3 with e3|e3|e3
     ·obtain⟨k0,a,b,c⟩:=Z0 (show(relabel scope X.env).names.lookup y'=some .local from e3);rw[hsc]at b;cases b;rcases c with c|⟨_,c⟩<;>cases c
     ·exact .inl e3
     ·exact .inr e3
    ·rcases l with⟨l,_⟩|⟨_,c,hc,z⟩
     ·rw[hk]at l;cases l
     ·obtain⟨c',hc'⟩:=c2 y' (PySem.mem_of_lookup hsc);have ec:c'=c:=Option.some.inj ((c1 y' c' hc').symm.trans hc);subst ec;obtain⟨o,ho,hd⟩:=z;exact⟨c',hc',o,old c' o ho,hd⟩
 ·obtain⟨v,o,ho,hd⟩:=I3.cell y c (c1 y c e);exact⟨v,o,old c o ho,hd⟩
 ·show _=(Z4 X x caps).length;unfold Z4 MQ;rw[qU,qU,qA,qA,qX]
theorem YI{scope:Scope}{env:Env}(h:∀ y∈scope.names,y.2=.free→∃ c,env.cells.lookup y.1=some c) :
  ∃ cl,closureFor scope env=pure cl∧(∀ x c,cl.lookup x=some c→env.cells.lookup x=some c)∧∀ x,(x,NameKind.free)∈scope.names→∃ c,cl.lookup x=some c:=by
 obtain⟨cl,h1,h2,_,h4⟩:=Yp (env:=env) scope.names [] h (fun x c e=>nomatch e);refine⟨cl,?_,h2,h4⟩;simp only[closureFor];have e:(forIn scope.names ([]:List (Str×Addr)) fun x r =>
     (match x with
     | (name,kind)=>if(kind == NameKind.free)=true then do let a←cellOf env name;pure (ForInStep.yield ((name,a)::r))else pure (ForInStep.yield r):Sem (ForInStep (List (Str×Addr)))))=pure cl:=h1
 first
  |(rw[e];rfl)
  |(refine Eq.trans (congrArg (· >>= pure) ?_) (rfl:(pure cl >>= pure:Sem _)=pure cl);exact e)
theorem Kf{prog:Program}{w:World}{A:Around}{R:Result→Shared→Prop}{s:Shared}{elt target iter:Expr}{ifs:List Expr}{scope:Scope}{pos:Pos}{it acc:Value}{env:Env}(I:Nat→Shared→Prop)
  (turn:∀ n s,I n s→wpAny (model prog w) A (pyNext it) (fun r s₁=>match r with
    |none=>R (.ok .next) s₁
    | some v=>wpAny (model prog w) A (letOwnedTupleGo target it v) (fun _ s₁=>wpAny (model prog w) A (assign target env v) (fun _ s₂ =>
        wpAny (model prog w) A (forIn ifs true fun c r=>if r=true then do let ok←isTrue c env (eval c env);pure (ForInStep.yield ok)else pure (ForInStep.yield r)) (fun ok s₃ =>
          if ok=true then wpAny (model prog w) A (eval elt env) (fun x s₄ =>
            wpAny (model prog w) A (call (.builtin "list.append") [acc,x]) (fun _ s₅=>∃ m,m<n∧I m s₅) (fun _ _=>False) s₄) (fun _ _=>False) s₃
          else ∃ m,m<n∧I m s₃) (fun _ _=>False) s₂) (fun _ _=>False) s₁) (fun _ _=>False) s₁) (fun _ _=>False) s)
  (n:Nat) (h:I n s) :
  codeAny (model prog w) A (.compLoop (.ListComp elt [⟨target,iter,ifs,0⟩] scope pos) 0 it acc env) R s:=by
 refine codeAny_loop rfl I (fun n s hI=>?_) n h;show wpAny _ A ((compTurn (.ListComp elt [⟨target,iter,ifs,0⟩] scope pos) 0 it acc env).onRaise (fun x=>do noteFrame x env;theTreesLotGoes x)) _ _ s;refine wpAny_noted ?_;rw[compTurn_list];refine wpAny_bind (wpAny_standAt (wpAny_bind (wpAny_mono (turn n s hI) (fun r s₁ h₁=>?_) fun _ _ h'=>h'.elim)));cases r with
 |none=>exact wpAny_pure h₁
 |some v =>
  refine wpAny_bind (wpAny_mono h₁ (fun _ s₁ h₁=>?_) fun _ _ h'=>h'.elim);refine wpAny_bind (wpAny_mono h₁ (fun _ s₂ h₂=>wpAny_bind (wpAny_mono h₂ (fun ok s₃ h₃=>?_) fun _ _ h'=>h'.elim)) fun _ _ h'=>h'.elim);cases ok with
  |false=>exact wpAny_pure ⟨rfl,h₃⟩
  |true =>exact wpAny_bind (wpAny_bind (wpAny_mono h₃ (fun x s₄ h₄=>wpAny_bind (wpAny_mono h₄ (fun _ s₅ h₅=>wpAny_pure (wpAny_pure ⟨rfl,h₅⟩)) fun _ _ h'=>h'.elim)) fun _ _ h'=>h'.elim))
theorem WM{scope:Scope}{x:List Str}{tgt:Expr}{tg:TG}{caps:List Nat}{elt iter:Expr}{ifs:List Expr}{pos:Pos}{cl:List (Str×Addr)}{fp:List Addr}{it:Addr}{tn:Nat→Heap→Prop}{J:It}{tc:TT}{te:TE}{Fin:List V→Hp→Prop}{W:Nat→Nat→List V→St→Hp→Prop}{E:Value→Shared→Prop}
  {RR:Value→Addr→Result→Shared→Prop}{m0:Nat}(hc:X.calm=true) (B:BlkOk X scope x caps) (I2:Inv X pins σ H2 s2) (T:Turn X.prog X.w X.K tgt J fp it tn) (st2:tn 0 s2.heap) (f2:∀ b∈fp,Xq X pins H2 b)
  (c1:∀ x c,cl.lookup x=some c→X.env.cells.lookup x=some c) (c2:∀ x,(x,NameKind.free)∈scope.names→∃ c,cl.lookup x=some c)
  (hI:∀ cl C s H ex,PIfs (Zy X scope (Z4 X x caps) cl C s H ex) ifs tc) (hE:∀ cl C s H ex,PE (Zy X scope (Z4 X x caps) cl C s H ex) elt te)
  (hG:∀ cl C s H ex,PG (Zy X scope (Z4 X x caps) cl C s H ex) tgt tg) (w0:W 0 m0 [] (List.replicate x.length none++MQ σ caps) H2) (cw:Dr J tg tc te Fin W)
  (hRR:∀ D C s' H' ys m,H' D=none→s'.heap.Ns C m→Xq X pins (upd H' D (.lst ys)) C→Inv X pins σ (upd H' D (.lst ys)) s'→Fin ys H'→RR (.ref D) C (.ok .next) s') :
  wpAny (model X.prog X.w) X.A (newList []) (fun acc s₃=>wpAny (model X.prog X.w) X.A (newFunctionEnv scope X.env.globals cl [] X.env.qual none .none (some X.env)) (fun cenv s₄ =>
    codeAny (model X.prog X.w) X.A (.compStart (.ListComp elt [⟨tgt,iter,ifs,0⟩] scope pos) 0 (.ref it) acc { cenv with scope:=relabel scope X.env }) (RR acc cenv.locals) s₄) E s₃) E s2:=by
 refine wpAny_newObj_type (wpAny_newFunctionEnv B.nocell (by intro y hy;simp at hy) (fun h₁ hns₁ hsb₁=>?_) B.kind);dsimp only at hns₁ hsb₁ ⊢;have hfp:∀ b∈fp,b<s2.heap.objs.size:=fun b hb=>by obtain⟨o,e,_⟩:=T.obj _ _ st2 b hb;exact Heap.lt_size e
 have I3:Inv X pins σ H2 {s2 with heap:=s2.heap.push {cls:=.type "list",dict:=none,data:=.seq ([]:List Value).toArray}}:=I2.kept (t':=s2.toks) fun b o e=>Heap.get?_push_of_some _ e;have h3:(s2.heap.push {cls:=.type "list",dict:=none,data:=.seq ([]:List Value).toArray}).objs.size=s2.heap.objs.size+1:=Heap.size_push ..;have hobj:(s2.heap.push {cls:=.type "list",dict:=none,data:=.seq ([]:List Value).toArray}).get? s2.heap.objs.size=some {cls:=.type "list",dict:=none,data:=.seq ([]:List Value).toArray}:=Heap.get?_push_size _ rfl;have old3:∀ b o,s2.heap.get? b=some o→(s2.heap.push {cls:=.type "list",dict:=none,data:=.seq ([]:List Value).toArray}).get? b=some o:=fun b o e=>Heap.get?_push_of_some _ e;generalize hH3:s2.heap.push {cls:=.type "list",dict:=none,data:=.seq ([]:List Value).toArray}=h3' at hns₁ hsb₁ I3 h3 hobj old3 ⊢;have old:∀ b o,h3'.get? b=some o→h₁.get? b=some o:=fun b o e=>hsb₁.extBut b o (zI (Heap.lt_size e)) (Heap.get?_push_of_some _ e);have hDC:s2.heap.objs.size≠h3'.objs.size:=by rw[h3];exact zI (Nat.lt_succ_self _)
 have IB:=OG (cl:=cl) (fp:=fp) (s3:={s2 with heap:=h3'}) (D:=s2.heap.objs.size) (h1:=h₁) (tk:=s2.toks+([]:List (Str×Value)).length) B I2 f2 c1 c2 I3 rfl h3 old hfp hns₁;generalize hY:Zy X scope (Z4 X x caps) cl h3'.objs.size {s2 with heap:=h3'} H2 (s2.heap.objs.size::fp)=Y at IB;have yP:Y.prog=X.prog:=by rw[←hY];rfl
 have yw:Y.w=X.w:=by rw[←hY];rfl
 have yK:Y.K=X.K:=by rw[←hY];rfl
 have yA:Y.A=X.A:=by rw[←hY];rfl
 have yc:Y.calm=true:=by rw[←hY];exact hc
 have yenv:Y.env=compEnvC scope cl h3'.objs.size X.env:=by rw[←hY];rfl
 have hIY:PIfs Y ifs tc:=by rw[←hY];exact hI _ _ _ _ _
 have hEY:PE Y elt te:=by rw[←hY];exact hE _ _ _ _ _
 have yxe:Y.xe=fun _ _=>False:=by rw[←hY];rfl
 have ypn:Y.pn=[]:=by rw[←hY];rfl
 have hgN:PG Y tgt tg:=by rw[←hY];exact hG _ _ _ _ _
 have fD:∀ {H':Hp},H' s2.heap.objs.size=none→Xq Y [] H' s2.heap.objs.size:=fun {H'} hn=>by
  refine⟨hn,?_,?_,?_,?_,fun p hp=>?_⟩
  ·rw[yenv];exact hDC
  ·exact IB.ok.exfs _ (by rw[←hY];exact qT)
  ·exact .inl (by rw[←hY];exact qT)
  ·exact fun y c e=>(IB.ok.exf _ (by rw[←hY];exact qT)).2 y c e
  ·rw[ypn]at hp;exact nomatch hp
 have fF:∀ {H':Hp},(∀ b∈fp,H' b=none)→∀ b∈fp,Xq Y [] H' b:=fun {H'} hn b hb=>by
  have hm:b∈Y.ex:=by rw[←hY];exact qI _ hb
  refine⟨hn b hb,?_,IB.ok.exfs b hm,.inl hm,fun y c e=>(IB.ok.exf b hm).2 y c e,fun p hp=>?_⟩
  ·exact(IB.ok.exf b hm).1
  ·rw[ypn]at hp;exact nomatch hp
 have acc0:h₁.PlainList s2.heap.objs.size ([]:List Value).toArray:=⟨0,by exact old _ _ hobj⟩
 have loop:∀ s₃:Shared,s₃={s2 with heap:=h₁,toks:=s2.toks+([]:List (Str×Value)).length}→
   codeAny (model X.prog X.w) X.A (.compLoop (.ListComp elt [⟨tgt,iter,ifs,0⟩] scope pos) 0 (.ref it) (.ref s2.heap.objs.size) (compEnvC scope cl h3'.objs.size X.env)) (RR (.ref s2.heap.objs.size) h3'.objs.size) s₃:=by
  rintro s₃ rfl;refine Kf (fun n s'=>∃ i ys its τ H',Inv Y [] τ H' s'∧tn i s'.heap∧(∀ b∈fp,H' b=none)∧H' s2.heap.objs.size=none∧Vals ys its∧s'.heap.PlainList s2.heap.objs.size its.toArray∧W i n ys τ H') ?_ m0
   ⟨0,[],[],_,H2,IB,T.keep _ _ _ st2 (fun b hb o e=>old _ _ (old3 _ _ e)),fun b hb=>(f2 b hb).1,I2.fresh,.nil,acc0,w0⟩
  rintro n s3 ⟨i,ys,its,τ,H3,I3',st3,fr3,frD,rv,pl,w3⟩;have cv:∀ {α:Type}{f:Sem α}{Q Q':α→Shared→Prop}{s:Shared},wpAny (model Y.prog Y.w) Y.A f Q Y.xe s→(∀ a s',Q a s'→Q' a s')→wpAny (model X.prog X.w) X.A f Q' (fun _ _=>False) s:=fun {α f Q Q' s} h hq=>by rw[yP,yw,yA,yxe]at h;exact wpAny_mono h hq fun _ _ e=>e
  have cvX:∀ {α:Type}{f:Sem α}{Q Q':α→Shared→Prop}{s:Shared},wpAny (model X.prog X.w) Y.A f Q (fun _ _=>False) s→(∀ a s',Q a s'→Q' a s')→wpAny (model X.prog X.w) X.A f Q' (fun _ _=>False) s:=fun {α f Q Q' s} h hq=>by rw[yA]at h;exact wpAny_mono h hq fun _ _ e=>e
  obtain⟨nD,hD3⟩:=id pl;have plD:∀ b∈[s2.heap.objs.size],∃ o,s3.heap.get? b=some o∧∀ v,o.data≠.cell v:=fun b hb=>by
   have e:b=s2.heap.objs.size:=by simpa using hb
   subst e;exact⟨_,hD3,fun v z=>by cases z⟩
  have IP:=I3'.pinned (fp:=[s2.heap.objs.size]) (fun b hb=>by
    have e:b=s2.heap.objs.size:=by simpa using hb
    subst e
    exact fD frD) plD
  have memD:=ZZ (fp:=[s2.heap.objs.size]) (zL.mpr rfl) hD3;have fF':∀ b∈fp,Xq Y ([]++YX [s2.heap.objs.size] s3.heap) H3 b:=fun b hb=>by
   obtain⟨q1,q2,q3,q4,q5,q6⟩:=fF fr3 b hb;refine⟨q1,q2,q3,q4,q5,fun p hp=>?_⟩;rw[ypn]at hp;obtain⟨hp1,_⟩:=WS (show p∈YX [s2.heap.objs.size] s3.heap by simpa using hp);have e:p.1=s2.heap.objs.size:=by simpa using hp1
   rw[e];exact(zI (hfp b hb)).symm
  obtain⟨hys,h|⟨go,N,hN,step⟩⟩:=cw i n ys τ H3 w3
  ·obtain⟨stop,fin⟩:=h;refine cvX (T.done Y yP yw yK yc i _ s3 _ H3 _ IP fF' st3 stop) fun r s4 ⟨hr,I4⟩=>?_;subst hr;obtain⟨m4,hm4,_⟩:=I4.loc;rw[yenv]at hm4;have base4:Un (frs X.stack) (s2.heap.objs.size::fp) H2 H3 h3' s4.heap:=by
    have:=I4.base;rw[←hY]at this;exact this
   have hok4:HOk X.prog X.w H3 s4.heap:=by have:=I4.hok;rw[yP,yw]at this;exact this
   have pl4:=(I4.pin _ (qL _ (qL _ memD))).1;have nC:H3 h3'.objs.size=none:=by have:=I4.free;rw[yenv]at this;exact this
   have hlen:ys.length≤sizeLine:=Nat.le_of_lt hys;have osEq:s4.os=s2.os:=by have:=I4.os;rw[←hY]at this;exact this
   have neD:∀ b o,s2.heap.get? b=some o→b≠s2.heap.objs.size:=fun b o e=>zI (Heap.lt_size e);have nin:∀ b o,s2.heap.get? b=some o→b∉fp→b∉s2.heap.objs.size::fp:=fun b o e hb z=>(qE.mp z).elim (neD b o e) hb;have hokN:HOk X.prog X.w (upd H3 s2.heap.objs.size (.lst ys)) s4.heap:=hok4.track frD ⟨hlen,its,nD,rv,pl4⟩;have U:Un (frs X.stack) fp H2 (upd H3 s2.heap.objs.size (.lst ys)) s2.heap s4.heap:=by
    refine⟨fun b o e hn hf hx=>base4.keep b o (old3 b o e) hn hf (nin b o e hx),fun b o e hn hf hx=>base4.slot b o (old3 b o e) hn hf (nin b o e hx),fun b o e hn hx=>?_,fun b o e hx=>base4.there b o (old3 b o e) (nin b o e hx),fun b xs e=>?_,fun b o xs e=>?_,fun b ps e=>?_⟩
    ·rw[upd_ne (neD b o e)];exact base4.free b o (old3 b o e) hn (nin b o e hx)
    ·have q:=base4.tups b xs e;rw[upd_ne (Zj q frD)];exact q
    ·have q:=base4.frzs b o xs e;rw[upd_ne (Zj q frD)];exact q
    ·obtain⟨more,q⟩:=base4.tbls b ps e;exact⟨more,by rw[upd_ne (Zj q frD)];exact q⟩
   have I5:Inv X pins σ (upd H3 s2.heap.objs.size (.lst ys)) s4:=I2.call' (ch:=fp) osEq U hokN I4.bare fun b hb=>by obtain⟨_,q2,_,q4,q5,q6⟩:=f2 b hb;exact⟨q4,q2,q5,q6⟩
   exact hRR _ _ _ _ _ m4 frD hm4 (I2.fpOk (Nat.le_of_lt (by rw[h3];exact Nat.lt_succ_self _)) (by rw[upd_ne hDC.symm];exact nC)) I5 fin
  ·refine cvX (T.item Y yP yw yK yc i _ s3 _ H3 _ IP fF' st3 go) fun r s4 ⟨u,hr,h4⟩=>?_;subst hr;refine cvX h4 fun _ s5 ⟨y,H5,I5,r5,y5,st5,fr5⟩=>?_;have frD5:H5 s2.heap.objs.size=none:=(I5.pin _ (qL _ (qL _ memD))).2.1;have hD5:=(I5.pin _ (qL _ (qL _ memD))).1;have I5p:=I5.unpinned.pinned (fp:=s2.heap.objs.size::fp) (fun b hb=>by
     rcases qE.mp hb with e|hb
     · subst e;exact fD frD5
     · exact fF fr5 b hb) (fun b hb=>by
     rcases qE.mp hb with e|hb
     · subst e;exact⟨_,hD5,fun v z=>by cases z⟩
     · exact T.obj _ _ st5 b hb)
   have memD5:=ZZ (fp:=s2.heap.objs.size::fp) qT hD5;rw[←yenv];refine cv (hgN _ s5 _ H5 y u _ I5p r5 (step y H5 y5)) fun _ s6 ⟨σ6,H6,I6,q6⟩=>?_;have back:∀ {m':Nat}{σ7:St}{H7:Hp}{s7:Shared}{ys':List V}{its':List Value},Inv Y [] σ7 H7 s7→tn (i+1) s7.heap→(∀ b∈fp,H7 b=none)→H7 s2.heap.objs.size=none→Vals ys' its'→s7.heap.PlainList s2.heap.objs.size its'.toArray→m'<n∧W (i+1) m' ys' σ7 H7→
     ∃ m,m<n∧∃ i ys its τ H',Inv Y [] τ H' s7∧tn i s7.heap∧(∀ b∈fp,H' b=none)∧H' s2.heap.objs.size=none∧Vals ys its∧s7.heap.PlainList s2.heap.objs.size its.toArray∧W i m ys τ H' :=
    fun {m' σ7 H7 s7 ys' its'} J1 st7 fr7 fd7 rv7 pl7 wm=>⟨m',wm.1,i+1,ys',its',σ7,H7,J1,st7,fr7,fd7,rv7,pl7,wm.2⟩
   have stay:∀ {σ7:St}{H7:Hp}{s7:Shared},Inv Y ([]++YX (s2.heap.objs.size::fp) s5.heap) σ7 H7 s7→tn (i+1) s7.heap∧(∀ b∈fp,H7 b=none)∧H7 s2.heap.objs.size=none∧s7.heap.get? s2.heap.objs.size=some {cls:=.type "list",data:=.seq its.toArray nD}:=by intro σ7 H7 s7 J1;refine⟨T.keep _ _ _ st5 fun b hb o e=>(J1.pin (b,o) (qL _ (qL _ (ZZ (qI _ hb) e)))).1,fun b hb=>?_,(J1.pin _ (qL _ (qL _ memD5))).2.1,(J1.pin _ (qL _ (qL _ memD5))).1⟩;obtain⟨o,e,d⟩:=T.obj _ _ st5 b hb;exact(J1.pin (b,o) (qL _ (qL _ (ZZ (qI _ hb) e)))).2.1
   refine cv (hIY _ s6 _ H6 _ I6 q6) fun ok s7 ⟨H7,I7,q7⟩=>?_;cases ok with
   |false =>rw[if_neg (by decide)]at q7;rw[if_neg (by decide)];obtain⟨m',wm⟩:=hN _ _ _ q7;obtain⟨a1,a2,a3,a4⟩:=stay I7;exact back I7.unpinned a1 a2 a3 rv ⟨nD,a4⟩ wm
   |true =>
    rw[if_pos rfl]at q7;rw[if_pos rfl];refine cv (hEY _ s7 _ H7 _ I7 q7) fun z s8 ⟨vz,H8,I8,rz,wm⟩=>?_;obtain⟨m',wm⟩:=hN _ _ _ wm;obtain⟨a1,a2,a3,a4⟩:=stay I8;have hlen:=rv.length;refine wpAny_list_append_plain (hsz:=by rw[qC];omega) (⟨nD,a4⟩:s8.heap.PlainList _ its.toArray) fun h9 hl9 hs9=>?_;obtain⟨q1,q2,q3,q4,q5,q6⟩:=fD a3;have I9:Inv Y [] _ H8 {s8 with heap:=h9}:=I8.unpinned.turned (t':=s8.toks) (fun b o hb e=>hs9.extBut b o hb e) q1 q2 q4 q5 q6;refine back I9 (T.keep _ _ _ a1 fun b hb o e=>hs9.extBut b o (zI (hfp b hb)) e) a2 a3 (its':=its++[z]) (rv.append (.cons rz .nil)) ?_ wm;have e:its.toArray.push z=(its++[z]).toArray:=by simp
    rw[e]at hl9;exact hl9
 exact codeAny_compStart_list (loop _ rfl) (T.self _ 0 _ _ _ (T.keep _ _ _ st2 (fun b hb o e=>old _ _ (old3 _ _ e))) (loop _ rfl))
theorem AN{scope:Scope}{x:List Str}{tgt:Expr}{tg:TG}{caps:List Nat}{elt iter:Expr}{ifs:List Expr}{pos:Pos}{wi:TI}{tc:TT}{te:TE}(hc:X.calm=true)(B:BlkOk X scope x caps)(hi:PI X tgt iter wi)(hG:∀ cl C s H ex,PG (Zy X scope (Z4 X x caps) cl C s H ex) tgt tg)
  (hI:∀ cl C s H ex,PIfs (Zy X scope (Z4 X x caps) cl C s H ex) ifs tc) (hE:∀ cl C s H ex,PE (Zy X scope (Z4 X x caps) cl C s H ex) elt te)
  (hs:∀ x,foldedSetIterable iter X.env x=pure x:=by intro _;rfl):PE X (.ListComp elt [⟨tgt,iter,ifs,0⟩] scope pos) (A8 wi x.length caps tg tc te):=by
 intro pins s σ H Q I h;obtain⟨cl,hcl,c1,c2⟩:=YI (scope:=scope) (env:=X.env) fun y hy e=>I.ok.has y.1 (.inl (B.frees y hy e));rw[eval_ListComp];refine wpAny_comprehension_free (use:=none) rfl hs hcl B.kind B.locs (thn (hi pins s σ H _ I h) fun v s1 h1=>thn h1 fun itv s2 h2=>?_);obtain⟨it,fp,tn,J,H2,e,I2,T,st2,f2,W,⟨m0,w0⟩,cw⟩:=h2;subst e;refine WM (RR:=fun acc C=>compPost (model X.prog X.w) X.A X.xe none (EP X pins σ Q) acc C) hc B I2 T st2 f2 c1 c2 hI hE hG w0 cw ?_;intro D C s' H' ys m hD hn fC I' fin;obtain⟨q1,q2,q3,q4,q5,q6⟩:=fC;exact⟨m,hn,fun h' hs'=>⟨.ref D,_,I'.turned (t':=s'.toks) (fun b o hb e=>hs'.extBut b o hb e) q1 q2 q4 q5 q6,rfl,fin D hD⟩⟩
theorem Uq{scope:Scope}{x:List Str}{y:Str}{tgt:Expr}{tg:TG}{py:Pos}{i:Nat}{caps:List Nat}{elt iter:Expr}{ifs:List Expr}{pos spos:Pos}{wi:TI}{tc:TT}{te:TE}(hN:X.N.Nodup)(hi':X.N[i]?=some y)(hy:Loc X.env.scope y)(hc:X.calm=true)(B:BlkOk X scope x caps)(hi:PI X tgt iter wi)(hG:∀ cl C s H ex,PG (Zy X scope (Z4 X x caps) cl C s H ex) tgt tg)
  (hI:∀ cl C s H ex,PIfs (Zy X scope (Z4 X x caps) cl C s H ex) ifs tc) (hE:∀ cl C s H ex,PE (Zy X scope (Z4 X x caps) cl C s H ex) elt te)
  (hs:∀ x,foldedSetIterable iter X.env x=pure x:=by intro _;rfl)
  (hsw:swapsWith (.ListComp elt [⟨tgt,iter,ifs,0⟩] scope pos) (some (.Name y py)) spos.line X.env=pure true:=by rfl)
  (hf:X.fn y=true∨X.env.scope.names.lookup y=some .local:=by first|exact .inl rfl|exact .inr rfl|assumption) :
  PS X (.Assign [.Name y py] (.ListComp elt [⟨tgt,iter,ifs,0⟩] scope pos) spos) (HB (A8 wi x.length caps tg tc te) (DY i)):=by
 intro pins s σ H D I h;obtain⟨cl,hcl,c1,c2⟩:=YI (scope:=scope) (env:=X.env) fun y hy e=>I.ok.has y.1 (.inl (B.frees y hy e));rw[exec_Assign_Name_used _ _ _ _ hsw];refine wpAny_bind (wpAny_standAt (wpAny_bind ?_));show wpAny _ X.A (do let _←comprehension (.ListComp elt [⟨tgt,iter,ifs,0⟩] scope pos) scope X.env _ (newList []) false (eval iter X.env) (some (assign (.Name y py) X.env))) _ _ s;refine wpAny_bind (wpAny_mono (wpAny_comprehension_free (use:=some (assign (.Name y py) X.env)) (Q:=fun _ s'=>SP X pins D .next s') rfl hs hcl B.kind B.locs
   (thn (hi pins s σ H _ I h) fun v s1 h1=>thn h1 fun itv s2 h2=>?_)) (fun _ s' hq=>wpAny_pure (wpAny_pure hq)) fun _ _ e=>e)
 obtain⟨it,fp,tn,J,H2,e,I2,T,st2,f2,W,⟨m0,w0⟩,cw⟩:=h2;subst e;refine WM (RR:=fun acc C=>compPost (model X.prog X.w) X.A X.xe (some (assign (.Name y py) X.env)) (fun _ s'=>SP X pins D .next s') acc C) hc B I2 T st2 f2 c1 c2 hI hE hG w0 cw ?_;intro Dd C s' H' ys m hD hn fC I' fin;obtain⟨q1,q2,q3,q4,q5,q6⟩:=fC;show wpAny _ _ (assign (.Name y py) X.env (.ref Dd)) _ _ _;refine wpAny_assign_Name (WJ I' hN hi' hy (v:=.ref Dd) rfl (fun s2 I2 ⟨a,hs2,ha⟩=>?_) hf);have ne:C≠a:=by
  rcases ha with z|z
  ·rw[z];exact q2
  ·exact(q5 y a z).symm
 refine⟨m,hn.sameBut hs2 ne,fun h' hs'=>?_⟩;exact⟨_,_,I2.turned (t':=s2.toks) (fun b o hb e=>hs'.extBut b o hb e) q1 q2 q4 q5 q6,fin Dd hD⟩
end
mutual
inductive IsD (K:PySem.W.Frag) (H:Hp):V→PyData→Prop
 |non:IsD K H .non .none
 |bl (b:Bool):IsD K H (.bl b) (.bool b)
 |int (i:Int):IsD K H (.int i) (.int i)
 |str (x:Str):IsD K H (.str x) (.str x)
 |lst {a:Addr}{xs:List V}{ds:List PyData}:SqL K H a xs→IsDs K H xs ds→IsD K H (.ref a) (.list ds)
 |tup {a:Addr}{xs:List V}{ds:List PyData}:SqT K H a xs→IsDs K H xs ds→IsD K H (.ref a) (.tuple ds)
inductive IsDs (K:PySem.W.Frag) (H:Hp):List V→List PyData→Prop
 |nil:IsDs K H [] []
 |cons {x:V}{xs:List V}{d:PyData}{ds:List PyData}:IsD K H x d→IsDs K H xs ds→IsDs K H (x::xs) (d::ds)
end
section
variable {X:Cx}{pins:List (Addr×Obj)}{σ:St}{H:Hp}{s:Shared}
mutual
theorem IsD.reads(I:Inv X pins σ H s):∀ {v:V}{d:PyData}{u:Value},IsD X.K H v d→RelV v u→∃ as,Reads s.heap u d as
 |_,_,_,.non,r=>by cases r;exact⟨_,.none⟩
 |_,_,_,.bl b,r=>by cases r;exact⟨_,.bool b⟩
 |_,_,_,.int i,r=>by obtain⟨t,rfl⟩:=r;exact⟨_,.int i t⟩
 |_,_,_,.str x,r=>by obtain⟨t,rfl⟩:=r;exact⟨_,.str x t⟩
 |_,_,_,.lst q qs,r=>by cases r;obtain⟨its,rv,⟨o,n,e,c,_,d⟩,_⟩:=I.list q;obtain⟨as,ra⟩:=IsDs.reads I qs rv;exact⟨_,.list e c d (by simpa using ra)⟩
 |_,_,_,.tup q qs,r=>by cases r;obtain⟨its,rv,⟨o,e,c,n,d⟩,_⟩:=I.tuple q;obtain⟨as,ra⟩:=IsDs.reads I qs rv;exact⟨_,.tuple e c d (by simpa using ra)⟩
theorem IsDs.reads(I:Inv X pins σ H s):∀ {vs:List V}{ds:List PyData}{us:List Value},IsDs X.K H vs ds→Vals vs us→∃ as,ReadsAll s.heap us ds as
 |_,_,_,.nil,.nil=>⟨_,.nil⟩
 |_,_,_,.cons q qs,.cons r rs=>by obtain⟨as,ra⟩:=IsD.reads I q r;obtain⟨bs,rb⟩:=IsDs.reads I qs rs;exact⟨_,.cons ra rb⟩
end
end
theorem Same.sqT{K:PySem.W.Frag}{H H':Hp}{a:Addr}{xs:List V}(e:Same H H')(h:SqT K H a xs):SqT K H' a xs:=by
 rcases h with(h|⟨o,h⟩)|h
 ·exact .inl (.inl (e _ _ h))
 ·exact .inl (.inr ⟨o,e _ _ h⟩)
 ·exact .inr h
mutual
theorem IsD.same{K:PySem.W.Frag}{H H':Hp}(e:Same H H'):∀ {v:V}{d:PyData},IsD K H v d→IsD K H' v d
 |_,_,.non=>.non
 |_,_,.bl b=>.bl b
 |_,_,.int i=>.int i
 |_,_,.str x=>.str x
 |_,_,.lst q qs=>.lst (e.seq q) (IsDs.same e qs)
 |_,_,.tup q qs=>.tup (e.sqT q) (IsDs.same e qs)
theorem IsDs.same{K:PySem.W.Frag}{H H':Hp}(e:Same H H'):∀ {vs:List V}{ds:List PyData},IsDs K H vs ds→IsDs K H' vs ds
 |_,_,.nil=>.nil
 |_,_,.cons q qs=>.cons (IsD.same e q) (IsDs.same e qs)
end
theorem IsDs.ints{K:PySem.W.Frag}{H:Hp}:∀ ns:List Int,IsDs K H (ns.map V.int) (ns.map PyData.int)
 |[]=>.nil
 |n::ns=>.cons (.int n) (IsDs.ints ns)
theorem IsDs.length{K:PySem.W.Frag}{H:Hp}:∀ {vs:List V}{ds:List PyData},IsDs K H vs ds→vs.length=ds.length
 |_,_,.nil=>rfl
 |_,_,.cons _ t=>by rw[qB,qB,IsDs.length t]
theorem IsDs.get{K:PySem.W.Frag}{H:Hp}:∀ {vs:List V}{ds:List PyData}{i:Nat}{v:V},IsDs K H vs ds→vs[i]?=some v→∃ d,ds[i]?=some d∧IsD K H v d
 |_,_,_,_,.nil,e=>by simp at e
 |_,_,0,_,.cons q _,e=>by simp at e;subst e;exact⟨_,rfl,q⟩
 |_,_,i+1,v,.cons _ t,e=>by obtain⟨d,h1,h2⟩:=IsDs.get (i:=i) (v:=v) t (by simpa using e);exact⟨d,by simpa using h1,h2⟩
theorem IsDs.append{K:PySem.W.Frag}{H:Hp}:∀ {xs ys:List V}{ds es:List PyData},IsDs K H xs ds→IsDs K H ys es→IsDs K H (xs++ys) (ds++es)
 |_,_,_,_,.nil,h=>h
 |_,_,_,_,.cons q t,h=>.cons q (IsDs.append t h)
section
variable {X:Cx}
noncomputable def Ha (K:PySem.W.Frag):R2:=fun x y H Q=>∃ d e,IsD K H x d∧IsD K H y e∧SeqAt.shaped d=true∧SeqAt.shaped e=true∧Q (.bl (PyData.eqv d e)) H
noncomputable def FB (K:PySem.W.Frag):R2:=fun x y H Q=>∃ d e,IsD K H x d∧IsD K H y e∧SeqAt.shaped d=true∧SeqAt.shaped e=true∧Q (.bl (!PyData.eqv d e)) H
theorem FG(hu:X.A.units+64<cLine):OpR X (compareOp .Eq) (Ha X.K):=by intro pins s σ H x y v u Q I rx ry h;obtain⟨d,e,hd,he,sd,se,q⟩:=h;obtain⟨as,ra⟩:=hd.reads I rx;obtain⟨bs,rb⟩:=he.reads I ry;exact SeqAt.compareEq_shaped ra rb sd se hu ⟨.bl _,H,I,rfl,q⟩
theorem Ud(hu:X.A.units+64<cLine):OpR X (compareOp .NotEq) (FB X.K):=by intro pins s σ H x y v u Q I rx ry h;obtain⟨d,e,hd,he,sd,se,q⟩:=h;obtain⟨as,ra⟩:=hd.reads I rx;obtain⟨bs,rb⟩:=he.reads I ry;exact SeqAt.compareNe_shaped ra rb sd se hu ⟨.bl _,H,I,rfl,q⟩
inductive TyV (K:PySem.W.Frag) (H:Hp):V→Value→Prop
 |of {x:V}{t:Value}:TyOf K H x t→TyV K H x t
 |tup {a:Addr}{xs:List V}:SqT K H a xs→TyV K H (.ref a) (.type "tuple")
 |lst {a:Addr}{xs:List V}:SqL K H a xs→TyV K H (.ref a) (.type "list")
theorem TyV.int {K:PySem.W.Frag}{H:Hp}(i:Int):TyV K H (.int i) (.type "int"):=.of (.int i)
theorem A9:CallR X (.builtin "isinstance") (fun xs H Q=>∃ x T t b,xs=[x,.ty T]∧TyV X.K H x t∧PySem.W.kitOne X.K t (.type T)=some b∧Q (.bl b) H):=by
 intro pins s σ H xs us Q I r h;obtain⟨x,T,t,b,rfl,ty,e,q⟩:=h;obtain⟨u,v,rfl,ru,rv⟩:=Kz r;cases rv;cases ty with
 |of ty=>exact OA I ru ty e fun tk=>⟨.bl b,H,I.tok tk,rfl,q⟩
 |tup hq =>cases ru;obtain⟨its,_,⟨o,h1,h2,_⟩,_⟩:=I.tuple hq;exact PySem.W.kia_one PySem.W.kitx_tuple I.kIn ⟨o,h1,h2⟩ e (fun z=>nomatch z) fun tk=>⟨.bl b,H,I.tok tk,rfl,q⟩
 |lst hq =>cases ru;obtain⟨its,_,⟨o,n,h1,h2,_⟩,_⟩:=I.list hq;exact PySem.W.kia_one PySem.W.kitx_list I.kIn ⟨o,h1,h2⟩ e (fun z=>nomatch z) fun tk=>⟨.bl b,H,I.tok tk,rfl,q⟩
theorem MI{pins:List (Addr×Obj)}{σ:St}{H:Hp}{s:Shared}{A:Around}{E:Value→Shared→Prop}{Q:Value→Shared→Prop}{b:Bool}{x:V}{u t:Value}{tp:Addr}{dd:Option Addr}{its:List Value}{n:Nat}{sl:Array (Option Value)}(I:Inv X pins σ H s)(rx:RelV x u)(ty:TyOf X.K H x t)
  (htp:s.heap.get? tp=some ⟨.type "tuple",dd,.seq its.toArray n,sl⟩) (e:PySem.W.kitAny X.K t its=some b) (h:∀ tk,Q (.bool b) {s with toks:=tk}) :
  wpAny (model X.prog X.w) A (call (.builtin "isinstance") [u,.ref tp]) Q E s:=by
 cases ty with
 |non=>cases (show u=Value.none from rx);exact PySem.W.kia_tup PySem.W.kitx_none I.kIn True.intro htp e (fun z=>nomatch z) h
 |bl y=>cases (show u=Value.bool y from rx);exact PySem.W.kia_tup PySem.W.kitx_bool I.kIn True.intro htp e (fun z=>nomatch z) h
 |int i=>obtain⟨t,q⟩:=(show ∃ t,u=Value.int i t from rx);cases q;exact PySem.W.kia_tup PySem.W.kitx_int I.kIn True.intro htp e (fun z=>nomatch z) h
 |str y=>obtain⟨t,q⟩:=(show ∃ t,u=Value.str y t from rx);cases q;exact PySem.W.kia_tup PySem.W.kitx_str I.kIn True.intro htp e (fun z=>nomatch z) h
 |flt y=>obtain⟨t,q⟩:=(show ∃ t,u=Value.float y t from rx);cases q;exact PySem.W.kia_tup PySem.W.kitx_float I.kIn True.intro htp e (fun z=>nomatch z) h
 |@lst a xs ea =>
  cases (show u=Value.ref a from rx);obtain⟨_,_,n,_,h1⟩:=(show ObjOk X.prog X.w H s.heap a (.lst xs) from I.hok a _ ea)
  exact PySem.W.kia_tup PySem.W.kitx_list I.kIn ⟨_,h1,rfl⟩ htp e (fun z=>nomatch z) h
 |@frz a ob xs ea =>
  cases (show u=Value.ref a from rx);obtain⟨_,_,_,n,_,h1⟩:=(show ObjOk X.prog X.w H s.heap a (.frz ob (.lst xs)) from I.hok a _ ea)
  exact PySem.W.kia_tup PySem.W.kitx_list I.kIn ⟨_,h1,rfl⟩ htp e (fun z=>nomatch z) h
 |@tup a xs ea =>
  cases (show u=Value.ref a from rx);obtain⟨_,_,_,p⟩:=(show ObjOk X.prog X.w H s.heap a (.tup xs) from I.hok a _ ea)
  obtain⟨o,h1,h2,_⟩:=p;exact PySem.W.kia_tup PySem.W.kitx_tuple I.kIn ⟨o,h1,h2⟩ htp e (fun z=>nomatch z) h
 |@dK a kvs ea =>
  cases (show u=Value.ref a from rx);obtain⟨_,_,vs,_,p⟩:=(show ObjOk X.prog X.w H s.heap a (.dK kvs) from I.hok a _ ea)
  obtain⟨o,es,ep,h1,h2,_⟩:=p;exact PySem.W.kia_tup PySem.W.kitx_dict I.kIn ⟨o,h1,h2.1⟩ htp e (fun z=>nomatch z) h
 |@dT a kvs ea =>
  cases (show u=Value.ref a from rx);obtain⟨_,_,xs,_,o,es,ep,h1,h2,_⟩:=(show ObjOk X.prog X.w H s.heap a (.dT kvs) from I.hok a _ ea)
  exact PySem.W.kia_tup PySem.W.kitx_dict I.kIn ⟨o,h1,h2.1⟩ htp e (fun z=>nomatch z) h
 |@ins a C dx fs ea cl ha hn htk hm =>cases (show u=Value.ref a from rx);obtain⟨mA,O,_⟩:=M7 I.hok ea;obtain⟨od,J,_⟩:=O.look;exact PySem.W.kia_tup (PySem.W.kitx_own (cl.get _) cl.hd ha hn htk hm) I.kIn J htp e (fun z=>nomatch z) h
theorem Uj:∀ {Ts:List String}{us:List Value},Vals (Ts.map V.ty) us→us=Ts.map Value.type
 |[],_,.nil=>rfl
 |T::Ts,_,.cons r rs=>by rw[qG,←Uj rs];exact congrArg (· :: _) r
theorem OM:CallR X (.builtin "isinstance") (fun xs H Q=>∃ x p,∃ Ts:List String,∃ t b,xs=[x,.ref p]∧H p=some (.tup (Ts.map V.ty))∧TyV X.K H x t∧PySem.W.kitAny X.K t (Ts.map Value.type)=some b∧Q (.bl b) H):=by
 intro pins s σ H xs us Q I r h;obtain⟨x,p,Ts,t,b,rfl,hp,ty,e,q⟩:=h;obtain⟨u,v,rfl,ru,rv⟩:=Kz r;cases rv;obtain⟨its,r',⟨⟨oc,od,dt,sl⟩,e1,c1,n,d1⟩,hz⟩:=I.tuple (SqT.of hp);simp only at c1 d1;subst c1 d1;have:=Uj r';subst this;cases ty with
 |of ty=>exact MI I ru ty e1 e fun tk=>⟨.bl b,H,I.tok tk,rfl,q⟩
 |tup hq =>cases ru;obtain⟨its,_,⟨o,h1,h2,_⟩,_⟩:=I.tuple hq;exact PySem.W.kia_tup PySem.W.kitx_tuple I.kIn ⟨o,h1,h2⟩ e1 e (fun z=>nomatch z) fun tk=>⟨.bl b,H,I.tok tk,rfl,q⟩
 |lst hq =>cases ru;obtain⟨its,_,⟨o,n,h1,h2,_⟩,_⟩:=I.list hq;exact PySem.W.kia_tup PySem.W.kitx_list I.kIn ⟨o,h1,h2⟩ e1 e (fun z=>nomatch z) fun tk=>⟨.bl b,H,I.tok tk,rfl,q⟩
theorem Bp (hc:X.calm=true):CallR X (.builtin "all") (fun xs H Q=>∃ p,∃ bs:List Bool,xs=[.ref p]∧SqL X.K H p (bs.map V.bl)∧Q (.bl (bs.all id)) H):=by
 intro pins s σ H xs us Q I r h;obtain⟨p,bs,rfl,hq,q⟩:=h;obtain⟨u,rfl,rx⟩:=ZJ r;cases rx;obtain⟨its,rv,pl,hz⟩:=I.list hq;have hlen:=rv.length;rw[qA]at hlen;have hlt:p<s.heap.objs.size:=by obtain⟨o,n,e,_⟩:=pl;exact Heap.lt_size e
 refine call_all_walk (wpAny_pyIter_list pl.isList ?_);refine⟨s.heap.objs.size,_,_,its.toArray.size,_,_,fun i=>bs.getD i true,rfl,Walks.list (A:=X.A.in1) (I.ok.hd hc) s.heap.objs.size p (zI hlt) its.toArray,⟨⟨_,Heap.get?_push_size _ rfl,rfl,rfl⟩,pl.isList.push _⟩,?_,fun h' tk hk=>?_⟩
 ·intro i v s' Q' E' hP hQ;have hP:its[i]?=some v:=by simpa using hP
  have hb:(bs.map V.bl)[i]?=some (.bl (bs.getD i true)):=by
   have hi:i<bs.length:=by have:=(qK.mp hP).1;omega
   rw[qF,qN];simp[hi]
  obtain⟨u,hu,ru⟩:=rv.get hb;rw[hP]at hu;cases hu;cases ru;exact wpAny_truthy_bool hQ
 ·have e:(List.range its.toArray.size).all (fun i=>bs.getD i true)=bs.all id:=by
   rw[qC,←hlen,Bool.eq_iff_iff,List.all_eq_true,List.all_eq_true];constructor
   ·intro h b hb;obtain⟨i,hi,rfl⟩:=List.mem_iff_getElem.mp hb;have:=h i (List.mem_range.mpr hi);rw[qN,qH hi]at this;exact this
   ·intro h i hi;have hi:=List.mem_range.mp hi;rw[qN,qH hi];exact h _ (List.getElem_mem hi)
  rw[e];refine⟨.bl _,H,I.kept (t':=tk) (fun b o e=>hk b o (fun hm=>?_) (Heap.get?_push_of_some _ e)),rfl,q⟩;have:b=s.heap.objs.size:=by simpa using hm
  exact absurd (this▸Heap.lt_size e) (zO _)
noncomputable def sortI (ns:List Int):List Int:=ns.mergeSort fun a b=>decide (a≤b)
theorem X0(ns:List Int):(sortI ns).Perm ns:=List.mergeSort_perm ns _
theorem Br(ns:List Int):(sortI ns).Pairwise (·≤·):=by have h:=List.pairwise_mergeSort (le:=fun a b:Int=>decide (a≤b)) (fun a b c h1 h2=>by simp at *;omega) (fun a b=>by simp;omega) ns;exact h.imp fun h=>by simpa using h
theorem Wd{ns ms:List Int}(hp:ms.Perm ns)(hs:ms.Pairwise (·≤·)):ms=sortI ns:=PySem.W.ksm_same (hp.trans (X0 ns).symm) hs (Br ns)
theorem Xl(ns:List Int):(sortI ns).length=ns.length:=(X0 ns).length_eq
theorem Xa:∀ {vs:List Value}{ns:List Int},IntsAre vs ns→Vals (ns.map V.int) vs:=Xu
theorem call_sorted:CallR X (.builtin "sorted") (fun xs H Q=>∃ p,∃ ns:List Int,xs=[.ref p]∧SqL X.K H p (ns.map V.int)∧ns.length<64∧∀ l,H l=none→Q (.ref l) (upd H l (.lst ((sortI ns).map V.int)))):=by intro pins s σ H xs us Q I r h;obtain⟨p,ns,rfl,hq,h64,q⟩:=h;obtain⟨u,rfl,rx⟩:=ZJ r;cases rx;obtain⟨its,rv,pl,hz⟩:=I.list hq;have hlen:=rv.length;rw[qA]at hlen;refine sorted_ints pl.isList (Zu rv) (by omega) fun out ns' a1 a2 a3=>?_;have e:=Wd a2 a3;subst e;obtain⟨n,he⟩:=sortedAll_at s.heap its out;refine⟨.ref (s.heap.objs.size+1),_,I.laid (a:=s.heap.objs.size+1) (o:=.lst ((sortI ns).map V.int)) (t':=s.toks) (fun b o e=>sortedAll_old e) (Nat.le_succ _) ?_,rfl,q _ (I.hok.fresh (Nat.le_succ _))⟩;exact⟨by rw[qA,Xl];rw[qA]at hz;exact hz,out.toList,n,Xa a1,by simpa[seqObj]using he⟩
theorem A7:CallR X (.type "set") (fun xs H Q=>∃ p,∃ ns:List Int,xs=[.ref p]∧SqL X.K H p (ns.map V.int)∧ns.length<4000∧X.calm=true∧
    ∀ l S n,H l=none→n=(firstMet (fun i=>ns.getD i 0) ns.length).length→Q (.ref l) (upd H l (.set S n))):=by
 intro pins s σ H xs us Q I r h;obtain⟨p,ns,rfl,hq,h4,hc,q⟩:=h;obtain⟨u,rfl,rx⟩:=ZJ r;cases rx;obtain⟨its,rv,pl,hz⟩:=I.list hq;have hlen:=rv.length;rw[qA]at hlen;refine call_set_list (I.ok.hd hc) pl.isList (by simpa using Zu rv) (by rw[qC];show its.length+1<4096;omega) fun h' tk hS hk=>?_;refine⟨.ref s.heap.objs.size,_,I.laid (a:=s.heap.objs.size) (o:=.set _ _) (t':=tk) (fun b o e=>hk b o (Heap.lt_size e) e) (zJ _) hS,rfl,q _ _ _ (I.hok.fresh (zJ _)) ?_⟩;rw[qC,hlen]
theorem N7:CallR X (.builtin "len") (fun xs H Q=>∃ p S n,xs=[.ref p]∧H p=some (.set S n)∧Q (.int n) H):=by
 intro pins s σ H xs us Q I r h;obtain⟨p,S,n,rfl,hq,q⟩:=h;obtain⟨u,rfl,rx⟩:=ZJ r;cases rx;obtain⟨o,es,ep,t,e,hex,hd,_,_,hb,hf,hn⟩:=(show ObjOk X.prog X.w H s.heap p (.set S n) from I.hok p _ hq)
 subst hn;exact call_len_set e hex hd hf (by have:es.size<4096:=hb;omega) ⟨.int _,H,I.tok _,⟨_,rfl⟩,q⟩
theorem Os{pins:List (Addr×Obj)}{σ:St}{H:Hp}{s:Shared}{p:Addr}{i j:Int}(I:Inv X pins σ H s)(hq:SqT X.K H p [.int i,.int j]) :
  ∃ its:List Value,its.length=2∧IsTup s.heap p its.toArray∧p<s.heap.objs.size∧∀ k v,its[k]?=some v→∃ t,v=Value.int ([i,j].getD k 0) t:=by
 obtain⟨its,rv,pl,hz⟩:=I.tuple hq;refine⟨its,rv.length.symm,pl,?_,fun k v hv=>?_⟩
 ·obtain⟨o,e,_⟩:=pl;exact Heap.lt_size e
 ·have hk:k<2:=by
   have:=(qK.mp hv).1;rw[←rv.length]at this;exact this
  have hb:([V.int i,V.int j]:List V)[k]?=some (.int ([i,j].getD k 0)):=by
   match k,hk with
   |0,_=>rfl
   |1,_=>rfl
  obtain⟨u,hu,ru⟩:=rv.get hb;rw[hv]at hu;cases hu;exact ru
theorem N5 (hc:X.calm=true):CallR X (.builtin "max") (fun xs H Q=>∃ p i j,xs=[.ref p]∧SqT X.K H p [.int i,.int j]∧Q (.int (if j > i then j else i)) H):=by
 intro pins s σ H xs us Q I r h;obtain⟨p,i,j,rfl,hq,q⟩:=h;obtain⟨u,rfl,rx⟩:=ZJ r;cases rx;obtain⟨its,hl,pl,hlt,hv⟩:=Os I hq;refine call_max_walk (wpAny_pyIter_tuple (show s.heap.IsTuple p its.toArray from pl) ?_);refine⟨s.heap.objs.size,_,_,its.toArray.size,_,_,fun a b=>decide ([i,j].getD a 0 > [i,j].getD b 0),rfl,Walks.tuple (A:=X.A.in1) (I.ok.hd hc) s.heap.objs.size p (zI hlt) its.toArray,⟨⟨_,Heap.get?_push_size _ rfl,rfl,rfl⟩,?_⟩,?_,?_,?_,fun v h' tk hP hk=>?_⟩
 ·obtain⟨o,e,r⟩:=pl;exact⟨o,Heap.get?_push_of_some _ e,r⟩
 ·intro b hb;show b<(s.heap.push _).objs.size;rw[Heap.size_push];rcases qE.mp hb with e|hb
  ·rw[e];exact Nat.lt_succ_self _
  ·have:b=p:=by simpa using hb
   rw[this];exact Nat.lt_succ_of_lt hlt
 ·rw[qC,hl];decide
 ·exact CmpOf.ints_gt (fun k=>[i,j].getD k 0) fun k v hP=>hv k v (by simpa using hP)
 ·rw[qC,hl]at hP;have hP:its[argBest (fun a b=>decide ([i,j].getD a 0 > [i,j].getD b 0)) 1]?=some v:=by simpa using hP
  obtain⟨t,rfl⟩:=hv _ _ hP;have e:([i,j].getD (argBest (fun a b=>decide ([i,j].getD a 0 > [i,j].getD b 0)) 1) 0)=if j > i then j else i:=by
   unfold argBest;show([i,j].getD (if decide (j > i)=true then 1 else 0) 0)=_;by_cases hji:j > i
   ·have h2:i<j:=hji;simp[h2]
   ·have h2:¬ i<j:=hji;simp[h2]
  rw[e];refine⟨.int _,H,I.kept (t':=tk) (fun b o e=>hk b o (fun hm=>?_) (Heap.get?_push_of_some _ e)),⟨_,rfl⟩,q⟩;have:b=s.heap.objs.size:=by simpa using hm
  exact absurd (this▸Heap.lt_size e) (zO _)
end
section
variable {X:Cx}{x:Str}{p pos:Pos}{e:Expr}{es:List Expr}{t:TA}
theorem Hw {T:String}(hg:Gl X x) (hm:X.mg x=none) (hv:bootBuiltins x=some (.type T)) (hn:x≠"__name__":=by decide) (hd:(x==("__debug__" : Str))=false:=by decide):PE X (.Name x pos) (tC (.ty T)):=MS hg hm hv rfl hn hd
end
noncomputable def Yc (scope sc:Scope) (N:List Str) (x:List Str) (caps:List Nat):Bool :=
 scope.names.all (fun y=>y.2 != .cell)&&scope.names.all (fun y=>y.2 != .local||scope.names.lookup y.1==some .local)&&x.all (fun y=>scope.names.lookup y==some .local) &&
 scope.names.all (fun y=>y.2 != .free||sc.names.lookup y.1==some .cell) &&
 caps.all (fun j=>decide (j<N.length)&&sc.names.lookup (N.getD j Str.empty)==some .cell&&scope.names.lookup (N.getD j Str.empty)==some .free)&&decide (x++caps.map fun j=>N.getD j Str.empty).Nodup
theorem KJ{X:Cx}{scope sc:Scope}{x:List Str}{caps:List Nat}{N:List Str}(hsc:X.env.scope=sc)(hN:X.N=N)(hk:scope.kind=.function)(h:Yc scope sc N x caps=true):BlkOk X scope x caps:=by
 unfold Yc at h;simp only[bAq]at h;obtain⟨⟨⟨⟨⟨h1,h2⟩,h3⟩,h4⟩,h5⟩,h6⟩:=h;rw[List.all_eq_true]at h1 h2 h4 h5;refine⟨hk,fun y hy=>by simpa using h1 y hy,fun y hy e=>?_,fun y hy=>by simpa using List.all_eq_true.mp h3 y hy,fun y hy e=>?_,fun j hj=>?_,?_⟩
 ·have:=h2 y hy;rw[e]at this;simpa using this
 ·have:=h4 y hy;rw[e]at this;show X.env.scope.names.lookup y.1=_;rw[hsc];simpa using this
 ·have:=h5 j hj;simp only[bAq,decide_eq_true_eq,beq_iff_eq]at this;obtain⟨⟨a,b⟩,c⟩:=this;refine⟨?_,?_,?_⟩
  ·rw[hN,qH a];rfl
  ·show X.env.scope.names.lookup _=_;rw[hsc,hN];exact b
  ·rw[hN];exact c
 ·unfold Z4;rw[hN];exact of_decide_eq_true h6
def Keep (r:Addr) (H H':Hp):Prop:=∀ b o,H b=some o→b≠r→H' b=some o
theorem Same.keep{H H':Hp}(e:Same H H')(r:Addr):Keep r H H':=fun b o h _=>e b o h
theorem Keep.refl(r:Addr)(H:Hp):Keep r H H:=fun _ _ h _=>h
theorem Keep.trans{r:Addr}{H H1 H2:Hp}(a:Keep r H H1)(b:Keep r H1 H2):Keep r H H2:=fun c o h n=>b c o (a c o h n) n
theorem Keep.upd{r:Addr}{H:Hp}{o:HO}:Keep r H (L2.upd H r o):=fun b u h n=>by rw[upd_ne n];exact h
theorem Keep.free{r:Addr}{H H':Hp}(e:Keep r H H'){l:Addr}(hr:∃ o,H' r=some o)(h:H' l=Option.none):H l=Option.none:=by
 cases q:H l with
 |none=>rfl
 |some o =>
  by_cases hl:l=r
  ·subst hl;obtain⟨o',z⟩:=hr;rw[h]at z;cases z
  ·rw[e l o q hl]at h;cases h
mutual
noncomputable def K7:PyData→Bool
 |.list _=>false
 |.tuple xs=>noLists xs
 |.dict _=>false
 |_=>true
noncomputable def noLists:List PyData→Bool
 |[]=>true
 |x::xs=>K7 x&&noLists xs
end
theorem SqT.keep{K:PySem.W.Frag}{r a:Addr}{H H':Hp}{zs xs:List V}(k:Keep r H H')(hr:H r=some (.lst zs))(h:SqT K H a xs):SqT K H' a xs:=by
 rcases h with(h|⟨o,h⟩)|h
 ·exact .inl (.inl (k _ _ h (AE h hr (by intro z;cases z))))
 ·exact .inl (.inr ⟨o,k _ _ h (AE h hr (by intro z;cases z))⟩)
 ·exact .inr h
theorem SqL.keep{K:PySem.W.Frag}{r a:Addr}{H H':Hp}{xs:List V}(k:Keep r H H')(hr:a≠r)(h:SqL K H a xs):SqL K H' a xs:=by
 rcases h with(h|⟨o,h⟩)|h
 ·exact .inl (.inl (k _ _ h hr))
 ·exact .inl (.inr ⟨o,k _ _ h hr⟩)
 ·exact .inr h
mutual
theorem IsD.keep{K:PySem.W.Frag}{r:Addr}{H H':Hp}{zs:List V}(k:Keep r H H')(hr:H r=some (.lst zs)):∀ {v:V}{d:PyData},IsD K H v d→K7 d=true→IsD K H' v d
 |_,_,.non,_=>.non
 |_,_,.bl b,_=>.bl b
 |_,_,.int i,_=>.int i
 |_,_,.str x,_=>.str x
 |_,_,.lst q qs,h=>by cases h
 |_,_,.tup q qs,h=>.tup (q.keep k hr) (IsDs.keep k hr qs h)
theorem IsDs.keep{K:PySem.W.Frag}{r:Addr}{H H':Hp}{zs:List V}(k:Keep r H H')(hr:H r=some (.lst zs)):∀ {vs:List V}{ds:List PyData},IsDs K H vs ds→noLists ds=true→IsDs K H' vs ds
 |_,_,.nil,_=>.nil
 |_,_,.cons q qs,h=>by have h':=Bool.and_eq_true_iff.mp (show(K7 _&&noLists _)=true from h);exact .cons (IsD.keep k hr q h'.1) (IsDs.keep k hr qs h'.2)
end
noncomputable abbrev Tie:=Int×Int×Int
noncomputable def Lm (t:Tie):PyData:=.tuple [.int t.1,.int t.2.1,.int t.2.2]
theorem IsD.tie{K:PySem.W.Frag}{H:Hp}{a:Addr}{x y c:Int}(h:SqT K H a [.int x,.int y,.int c]):IsD K H (.ref a) (Lm (x,y,c)):=.tup h (.cons (.int x) (.cons (.int y) (.cons (.int c) .nil)))
theorem ifT{c:Bool}{A B:Prop}(e:c=true)(h:A):if c=true then A else B:=by rw[if_pos e];exact h
theorem ifF{c:Bool}{A B:Prop}(e:c=false)(h:B):if c=true then A else B:=by rw[e,if_neg Bool.false_ne_true];exact h
structure BrOk (ns:List Int):Prop where
 one:1≤ns.length
 ten:ns.length≤10
 rng:∀ n∈ns,0≤n∧n≤999
 nd:ns.Nodup
structure TieOk (ns:List Int) (t:Tie):Prop where
 a:t.1∈ns
 b:t.2.1∈ns
 ne:t.1≠t.2.1
 lo:1≤t.2.2
 hi:t.2.2≤1000
structure TsOk (ns:List Int) (ts:List Tie):Prop where
 few:ts.length≤16
 each:∀ t∈ts,TieOk ns t
noncomputable def mn (x y:Int):Int:=if y<x then y else x
noncomputable def mx (x y:Int):Int:=if y > x then y else x
noncomputable def loT (t:Tie):Tie:=(mn t.1 t.2.1,mx t.1 t.2.1,t.2.2)
section
variable {X:Cx}(K:PySem.W.Frag) (h:X.K=K)
include h
end
section
variable {prog:Program}{w:World}{A:Around}{E:Value→Shared→Prop}{s:Shared}
theorem Mc{it t:Addr}{i:Nat}{items:Array Value}{x:Value}{Q:Value→Shared→Prop}(hit:s.heap.IsTupleIter it t i)(ht:s.heap.IsTuple t items)(hx:items[i]?=some x)
  (hQ:∀ h',h'.IsTupleIter it t (i+1)→Heap.SameBut it s.heap h'→Q x {s with heap:=h'}):wpAny (model prog w) A (Builtin.SmallTypes.nextOf (.ref it)) Q E s:=by
 obtain⟨o,ho,hc,hd⟩:=id hit;obtain⟨ot,hot,_,nt,hdt⟩:=ht;unfold Builtin.SmallTypes.nextOf;refine wpAny_bind (wpAny_callSpecial?_slot (name:=Str.ofString "__next__") hit.typeIs F.slot_tuple_iterator_next (wpAny_call_entry F.slot_tuple_iterator_next hit.typeIs F.entry_tuple_iterator_next ?_ (F.args_tuple_iterator_next_1 _)));show wpAny _ _ (field (.ref it) 0 >>= _) _ _ s;refine wpAny_bind (wpAny_field ho hd (x:=.ref t) rfl ?_);show wpAny _ _ (if(Value.ref t==Value.none)=true then _ else _) _ _ s;rw[if_neg (show ¬ ((Value.ref t==Value.none)=true) from Bool.false_ne_true)];show wpAny _ _ (field (.ref it) 1 >>= _) _ _ s;refine wpAny_bind (wpAny_field ho hd (x:=.int i 0) rfl ?_);show wpAny _ _ (seqItems? (.ref t) >>= _) _ _ s;refine wpAny_bind (wpAny_seqItems hot hdt ?_);simp only[Int.toNat_natCast,hx];refine wpAny_bind (wpAny_setField ho hd (by simp) (wpAny_pure ⟨x,rfl,wpAny_pure (hQ _ ⟨_,Heap.get?_update_self _ ho (Obj.isFreed_of_fields (Obj.data_mapFields hd _)),(Obj.cls_mapFields ..).trans hc,?_⟩ (Heap.SameBut.update ..))⟩));rw[Obj.data_mapFields hd];simp[rawInt]
theorem WX{it t:Addr}{i:Nat}{items:Array Value}{Q:Value→Shared→Prop}(hh:A.handled=none)(hit:s.heap.IsTupleIter it t i)(ht:s.heap.IsTuple t items)(hx:items[i]?=none)
  (hE:∀ h' e,Heap.ExtBut it s.heap h'→(∃ o,h'.get? e=some o∧o.cls=.type "StopIteration")→E (.ref e) {s with heap:=h'}):wpAny (model prog w) A (Builtin.SmallTypes.nextOf (.ref it)) Q E s:=by
 obtain⟨o,ho,hc,hd⟩:=id hit;obtain⟨ot,hot,_,nt,hdt⟩:=ht;unfold Builtin.SmallTypes.nextOf;refine wpAny_bind (wpAny_callSpecial?_slot (name:=Str.ofString "__next__") hit.typeIs F.slot_tuple_iterator_next (wpAny_call_entry F.slot_tuple_iterator_next hit.typeIs F.entry_tuple_iterator_next ?_ (F.args_tuple_iterator_next_1 _)));show wpAny _ _ (field (.ref it) 0 >>= _) _ _ s;refine wpAny_bind (wpAny_field ho hd (x:=.ref t) rfl ?_);show wpAny _ _ (if(Value.ref t==Value.none)=true then _ else _) _ _ s;rw[if_neg (show ¬ ((Value.ref t==Value.none)=true) from Bool.false_ne_true)];show wpAny _ _ (field (.ref it) 1 >>= _) _ _ s;refine wpAny_bind (wpAny_field ho hd (x:=.int i 0) rfl ?_);show wpAny _ _ (seqItems? (.ref t) >>= _) _ _ s;refine wpAny_bind (wpAny_seqItems hot hdt ?_);simp only[Int.toNat_natCast,hx];refine wpAny_bind (wpAny_rule (wpAny_bind (wpAny_setField ho hd (by simp) ?_)));show wpAny _ _ (newExc (.type "StopIteration") [] >>= _) _ _ _;refine wpAny_bind ?_;simp only[newExc,newTuple];refine wpAny_bind (wpAny_newObj_type (wpAny_bind (m:=firstArgMember _ _) (wpAny_of_eq (a:=Value.none) (by first|rfl|(simp only[firstArgMember];rfl)) (wpAny_newObj_type ?_ (by size_fits)))) (by size_fits));simp only[raiseNew];refine wpAny_bind (wpAny_handled ?_)
 first
 |rw[show A.in1.handled=none from hh]
 |rw[hh]
 exact wpAny_bind (wpAny_pure (wpAny_throw (hE _ _ (((Heap.SameBut.update ..).extBut.push _).push _) ⟨_,Heap.get?_push_size _ rfl,rfl⟩)))
end
theorem FD{prog:Program}{w:World}{A:Around}(hh:A.handled=none)(it t:Addr)(hne:t≠it)(items:Array Value) :
  Draws prog w A it [it,t] items.size (fun i v=>items[i]?=some v) (fun i h=>h.IsTupleIter it t i∧h.IsTuple t items) where
 live:=fun _ _ st=>let ⟨o,ho,_⟩:=st.1;⟨o,ho⟩
 frame:=fun _ _ _ st hk=>⟨st.1.at fun o e=>hk it (by simp) o e,st.2.at fun o e=>hk t (by simp) o e⟩
 item:=fun i s Q E hi st hQ=>Mc st.1 st.2 (x:=items[i]) (by simp[hi]) fun h' hit' hs'=>hQ _ h' s.toks (by simp[hi]) ⟨hit',st.2.extBut hs'.extBut hne⟩ hs'
 done:=fun s Q E st hE=>WX hh st.1 st.2 (by simp) hE
open AutoSeq1 (wpAny_loadPart') in
theorem EA(l:Addr)(items:Array Value)(n:Nat)(dct:Option Addr)(sl:Array (Option Value)) :
  Meets (Builtin.«enumerate.__new__» ⟨[.type "enumerate",.ref l],[]⟩) (fun _ R s=>s.heap.get? l=some { cls:=.type "tuple",dict:=dct,data:=.seq items n,slots:=sl }∧
    R (.ok (.ret (.ref (s.heap.push {cls:=.type "tuple_iterator",data:=.fields #[.ref l,.int 0 0]}).objs.size)))
      { s with heap:=(s.heap.push { cls:=.type "tuple_iterator",data:=.fields #[.ref l,.int 0 0] }).push { cls:=.type "enumerate",data:=.fields #[.none,.bool false,.ref s.heap.objs.size,rawInt 0,.none,.none] } }) :=
 .of_wp fun prog w A R s h=>by
  obtain⟨hp,g,d,tk,os⟩:=s;obtain⟨hl,h⟩:=h;have hsub:=sub_enumerate;have hL:Heap.IsTuple (Shared.heap ⟨hp,g,d,tk,os⟩) l items:=⟨_,hl,rfl,n,rfl⟩
  wp_walk using wpAny_loadPart' hl
  refine wpAny_stack_any fun st=>wpAny_pure ?_;split
  ·rename_i c _ _ _ _ _;cases (c==Value.type "enumerate")<;>(wp_walk using wpAny_loadPart' hl,wpAny_pyIter_tuple hL;exact⟨_,rfl,h⟩)
  ·wp_walk using wpAny_loadPart' hl,wpAny_pyIter_tuple hL;exact⟨_,rfl,h⟩
theorem KQ{prog:Program}{w:World}{A:Around}{E:Value→Shared→Prop}{s:Shared}{l:Addr}{items:Array Value}{Q:Value→Shared→Prop}(hL:s.heap.IsTuple l items)
  (h:∀ h',IsEnum h' (s.heap.objs.size+1) s.heap.objs.size 0 .none→h'.IsTupleIter s.heap.objs.size l 0→(∀ b o,s.heap.get? b=some o→h'.get? b=some o)→Q (.ref (s.heap.objs.size+1)) {s with heap:=h'}) :
  wpAny (model prog w) A (call (.type "enumerate") [.ref l]) Q E s:=by
 obtain⟨⟨c,dct,dt,sl⟩,hl,hc,n,hd⟩:=hL;simp only at hc hd;subst hc hd;refine callType_new F.called_enumerate (by decide) (F.typeCall_enumerate_1 _) (F.newCall_enumerate_1 _) (fun obj=>F.args_object_init_2 obj _) F.entry_enumerate_new (EA l items n dct sl) ⟨hl,?_⟩;have hz:(s.heap.push {cls:=.type "tuple_iterator",data:=.fields #[.ref l,.int 0 0]}).objs.size=s.heap.objs.size+1:=Heap.size_push ..;have hg:=Heap.get?_push_size (s.heap.push {cls:=.type "tuple_iterator",data:=.fields #[.ref l,.int 0 0]}) (o:={cls:=.type "enumerate",data:=.fields #[.none,.bool false,.ref s.heap.objs.size,rawInt 0,.none,.none]}) rfl;rw[hz]at hg;show _∧_;rw[hz];exact⟨⟨_,hg,rfl⟩,h _ hg ⟨_,Heap.get?_push_of_some _ (Heap.get?_push_size _ rfl),rfl,rfl⟩ fun b o x=>Heap.get?_push_of_some _ (Heap.get?_push_of_some _ x)⟩
section
variable {X:Cx}{pins:List (Addr×Obj)}{σ:St}{H:Hp}{s:Shared}{h':Heap}
theorem Inv.turnedL{t':Nat}{ch:List Addr}(I:Inv X pins σ H s)(k:∀ b o,b∉ch→s.heap.get? b=some o→h'.get? b=some o)(hc:∀ b∈ch,Xq X pins H b):Inv X pins σ H {s with heap:=h',toks:=t'}:=by
 have nit:∀ b u,H b=some u→b∉ch:=fun b u e z=>by rw[(hc b z).1]at e;cases e
 refine I.step (g':=s.gens) (d':=s.drawn) (ch:=ch) (fun b hb=>?_) (fun b o _ _ hcb e _=>k b o hcb e) (fun b o _ _ hcb e _=>⟨o.slots,k b o hcb e⟩) (fun _ _ _ _ n=>n)
  (fun b o hcb e=>⟨o,k b o hcb e⟩) (fun _ _ e=>e) (fun _ _ _ e=>e) (fun b ps e=>⟨#[],by rw[e];simp⟩) (fun m hm=>?_) (fun b u e=>?_) I.bare
 ·obtain⟨_,q2,_,q4,q5,q6⟩:=hc b hb;exact⟨q4,q2,q5,q6⟩
 ·obtain⟨o,es,ep,ho,r⟩:=hm;exact⟨o,es,ep,k _ o (fun z=>(hc _ z).2.1 rfl) ho,r⟩
 ·refine(I.hok b u e).stay (fun c v hcc q=>k c v ?_ q) (fun _ q=>q) fun _ _ q=>q;rcases hcc with z|z
  ·rw[z];exact nit b u e
  ·exact nit c _ z
theorem Inv.track{T:Addr}{o:HO}(I:Inv X pins σ H s)(hT:H T=none)(h0:X.s₀.heap.objs.size≤T)(hL:T≠X.env.locals)(hcl:∀ x c,X.env.cells.lookup x=some c→c≠T)(hp:∀ p∈X.pn++pins,p.1≠T)
  (new:ObjOk X.prog X.w (upd H T o) s.heap T o):Inv X pins σ (upd H T o) s:=by
 have neT:∀ b ob,X.s₀.heap.get? b=some ob→b≠T:=fun b ob e=>zI (qR (Heap.lt_size e) h0);refine⟨I.ok,I.os,I.bare,⟨I.base.keep,I.base.slot,fun b ob e n hx=>?_,I.base.there,fun b xs e=>?_,fun b ob xs e=>?_,fun b ps e=>?_⟩,I.loc,I.cell,?_,fun x c e=>?_,fun p hpp=>?_,I.hok.track hT new,I.len⟩
 ·rw[upd_ne (neT b ob e)];exact I.base.free b ob e n hx
 ·have q:=I.base.tups b xs e;rw[upd_ne (Zj q hT)];exact q
 ·have q:=I.base.frzs b ob xs e;rw[upd_ne (Zj q hT)];exact q
 ·obtain⟨m,q⟩:=I.base.tbls b ps e;exact⟨m,by rw[upd_ne (Zj q hT)];exact q⟩
 ·rw[upd_ne hL.symm];exact I.free
 ·rw[upd_ne (hcl x c e)];exact I.freeC x c e
 ·obtain⟨a,b,c,d,e⟩:=I.pin p hpp;exact⟨a,by rw[upd_ne (hp p hpp)];exact b,c,d,e⟩
end
noncomputable def Ite (K:PySem.W.Frag) (a:Addr):It :=
 ⟨fun i H=>∃ xs x,SqT K H a xs∧xs[i]?=some x,fun i H v H'=>∃ p,v=.ref p∧H p=none∧∀ xs x,SqT K H a xs→xs[i]?=some x→H'=upd H p (.tup [.int i,x]),fun i H=>∃ xs,SqT K H a xs∧xs.length≤i⟩
theorem MR{P:Program}{w:World}{K:PySem.W.Frag}{es:List Expr}{kk:Nat}{tp:Pos}(a it e:Addr)(hne:e≠it) :
  Turn P w K (.Tuple es kk tp) (Ite K a) [e,it] e (fun i h=>(∃ old,IsEnum h e it i old)∧h.IsTupleIter it a i) where
 mem:=by simp
 obj:=fun i h st b hb=>by
  obtain⟨⟨old,h1⟩,o2,e2,_,d2⟩:=st;rcases qE.mp hb with q|q
  ·subst q;exact⟨_,h1,fun v z=>by cases z⟩
  ·have q:b=it:=by simpa using q
   subst q;exact⟨o2,e2,fun v z=>by rw[d2]at z;cases z⟩
 keep:=fun i h h' st k=>⟨let ⟨old,h1⟩:=st.1;⟨old,k e (by simp) _ h1⟩,st.2.at fun o q=>k it (by simp) o q⟩
 item:=by
  intro X hP hw hK hc i pins s σ H E I hf st hg;subst hP hw hK;obtain⟨xs,x,hq,hx⟩:=hg;obtain⟨its,rv,pl,hz⟩:=I.tuple hq;obtain⟨u,hu,ru⟩:=rv.get hx;have hsz:=rv.length;have hi:i<its.toArray.size:=by rw[qC];exact(qK.mp hu).1
  obtain⟨⟨old,h1⟩,h2⟩:=st;have hfi:=hf it (by simp);have hai:a≠it:=fun z=>by obtain⟨o,ho,hcl,_⟩:=h2;obtain⟨o',ho',hcl',_⟩:=pl;rw[z,ho]at ho';cases ho';rw[hcl]at hcl';exact absurd (Value.type.inj hcl') (by decide)
  have hae:e∉[it,a]:=fun z=>by
   rcases qE.mp z with z|z
   ·exact hne z
   ·have z:e=a:=by simpa using z
    obtain⟨o',ho',hcl',_⟩:=pl;rw[←z,h1]at ho';cases ho';exact absurd (Value.type.inj hcl') (by decide)
  refine wpAny_pyNext_enum_itemD (FD (A:=X.A.in1) (I.ok.hd hc) it a hai its.toArray) h1 ⟨h2,pl⟩ hi hne hae fun v h3 tk hv hout hst3 hT _ hk=>?_;have ev:v=u:=by
   have hv:its[i]?=some v:=by simpa using hv
   rw[hu]at hv;exact(Option.some.inj hv).symm
  subst ev;have nT:∀ b∈[e,it],s.heap.objs.size≠b:=fun b hb z=>by
   rcases qE.mp hb with q|q
   ·exact absurd (Heap.lt_size h1) (by rw[←q,←z];exact zO _)
   ·have q:b=it:=by simpa using q
    obtain⟨o,ho,_⟩:=h2;exact absurd (Heap.lt_size ho) (by rw[←q,←z];exact zO _)
  have hfr:=I.fpOk (H':=H) (zJ s.heap.objs.size) I.fresh;refine⟨.ref s.heap.objs.size,rfl,wpAny_letOwnedTupleGo_enum hout fun h4 he4 hs4=>?_⟩;have I4:Inv X pins σ H {s with heap:=h4,toks:=tk+1}:=I.turnedL (t':=tk+1) (ch:=[e,it]) (fun b o hb q=>hs4.extBut b o (fun z=>hb (by simp[z])) (hk b o (fun z=>hb (by simp[z])) (fun z=>hb (by simp[z])) q)) hf;have hT4:h4.get? s.heap.objs.size=some {cls:=.type "tuple",data:=.seq #[.int i tk,v]}:=hs4.extBut _ _ (nT e (by simp)) hT;obtain⟨f0,f1,f2,f3,f4,f5⟩:=hfr;have I5:Inv X pins σ (upd H s.heap.objs.size (.tup [.int i,x])) {s with heap:=h4,toks:=tk+1}:=I4.track f0 I.sz f1 f4 f5 ⟨by show 2≤sizeLine;decide,[.int i tk,v],.cons ⟨tk,rfl⟩ (.cons ru .nil),_,hT4,rfl,_,rfl⟩;refine⟨.ref s.heap.objs.size,_,I5,rfl,⟨s.heap.objs.size,rfl,f0,fun ys y hy hyi=>?_⟩,⟨⟨v,by simpa using he4⟩,hst3.1.at fun o q=>hs4.extBut it o (Ne.symm hne) q⟩,fun b hb=>?_⟩
  ·have ey:ys=xs:=I.tuple_inj hy hq;rw[ey,hx]at hyi;rw[Option.some.inj hyi]
  ·rw[upd_ne (nT b hb).symm];exact(hf b hb).1
 done:=by
  intro X hP hw hK hc i pins s σ H E I hf st hg;subst hP hw hK;obtain⟨xs,hq,hx⟩:=hg;obtain⟨its,rv,pl,hz⟩:=I.tuple hq;have hl:=rv.length;obtain⟨⟨old,h1⟩,h2⟩:=st;have hai:a≠it:=fun z=>by obtain⟨o,ho,hcl,_⟩:=h2;obtain⟨o',ho',hcl',_⟩:=pl;rw[z,ho]at ho';cases ho';rw[hcl]at hcl';exact absurd (Value.type.inj hcl') (by decide)
  have hT:s.TypeIs (.ref e) "enumerate":=⟨_,h1,rfl⟩
  unfold pyNext;refine wpAny_bind (wpAny_attempt (wpAny_callSpecial?_slot (name:=Str.ofString "__next__") hT F.slot_enumerate_next (wpAny_call_entry F.slot_enumerate_next hT F.entry_enumerate_next ?_ (F.args_enumerate_next_1 _))));show wpAny _ _ (field (.ref e) 2 >>= _) _ _ _;refine wpAny_bind (wpAny_field h1 rfl (x:=.ref it) rfl ?_);refine wpAny_bind (WX (A:=X.A.in1) (I.ok.hd hc) h2 pl (by simp;omega) fun h' x he' hx'=>?_);obtain⟨o,ho,hcl⟩:=hx';refine wpAny_bind (wpAny_isInstance (T:="StopIteration") (b:=true) ⟨o,ho,hcl⟩ isSubtype_stop (wpAny_pure ⟨rfl,?_⟩));exact I.turnedL (t':=s.toks) (ch:=[it]) (fun b ob hb q=>he' b ob (fun z=>hb (by simp[z])) q) fun b hb=>hf b (qI _ hb)
 self:=fun A i s Q E st h=>by obtain⟨⟨old,h1⟩,_⟩:=st;exact wpAny_pyIter_enum h1 h
section
variable {X:Cx}
noncomputable def F5 (K:PySem.W.Frag) (ta:TA):TI:=fun σ H R=>ta σ H fun vs H1=>∃ a,vs=[.ref a]∧(∃ xs,SqT K H1 a xs)∧R (Ite K a) H1
theorem Am {es:List Expr}{kk:Nat}{tp p pos:Pos}{e:Expr}{ta:TA}(hg:Gl X "enumerate") (hm:X.mg "enumerate" = none) (ha:PA X [e] ta) (hs:starEach [e] X.env=[(false,eval e X.env)]:=by rfl) :
  PI X (.Tuple es kk tp) (.Call (.Name "enumerate" p) [e] [] pos) (F5 X.K ta):=by
 intro pins s σ H R I h;refine Call_ (Yu (u:=.type "enumerate") I hg hm (by kernel_rfl) (PyProof.Rows.callWith_type1 (T:="enumerate") (thn (ha pos pins s σ H _ I h) fun us s1 ⟨vs,H1,I1,r1,q1⟩=>?_) hs rfl));obtain⟨a,e1,⟨xs,hq⟩,q⟩:=q1;subst e1;obtain⟨u,rfl,ru⟩:=ZJ r1;cases ru;obtain⟨its,rv,pl,hz⟩:=I1.tuple hq;refine KQ pl fun h2 he2 hi2 hk2=>?_;have I2:Inv X pins σ H1 {s1 with heap:=h2}:=I1.kept (t':=s1.toks) hk2;refine wpAny_pyIter_enum he2 ⟨s1.heap.objs.size+1,[s1.heap.objs.size+1,s1.heap.objs.size],_,_,H1,rfl,I2,MR a s1.heap.objs.size (s1.heap.objs.size+1) (Nat.ne_of_gt (Nat.lt_succ_self _)),⟨⟨_,he2⟩,hi2⟩,fun b hb=>?_,q⟩;have hb':s1.heap.objs.size≤b:=by
  rcases qE.mp hb with z|z
  ·rw[z];exact Nat.le_succ _
  ·have z:b=s1.heap.objs.size:=by simpa using z
   rw[z];exact zJ _
 exact I1.fpOk hb' (I1.hok.fresh hb')
end
end L2
namespace L2
open PySem PySem.Spec PyProof.Rows
open PySem.Builtin PySem.Builtin.Str
noncomputable abbrev TJ:=St→Hp→Str→(Str→Hp→Prop)→Prop
def PJ (X:Cx) (vs:List Expr) (t:TJ):Prop :=
 ∀ (pins:List (Addr×Obj)) (s:Shared) (σ:St) (H:Hp) (acc:Str) (Q:Str→Hp→Prop),Inv X pins σ H s→t σ H acc Q→
  Joins (model X.prog X.w) X.A X.xe (evalEach vs X.env) acc (fun out s1=>∃ H1,Inv X pins σ H1 s1∧out.length≤sizeLine∧Q out H1) s
noncomputable def Lb:TJ:=fun _ H acc Q=>acc.length≤sizeLine∧Q acc H
noncomputable def GZ (te:TE) (tr:TJ):TJ:=fun σ H acc Q=>te σ H fun x H1=>∃ y,x=.str y∧(acc++y).length≤sizeLine∧tr σ H1 (acc++y) Q
section
variable {X:Cx}{e:Expr}{es:List Expr}{te:TE}{tr:TJ}{pos:Pos}
theorem pj_nil:PJ X [] Lb:=fun pins s σ H acc Q I h=>⟨H,I,h.1,h.2⟩
theorem Bv(he:PE X e te)(hr:PJ X es tr)(hs:evalEach (e::es) X.env=eval e X.env::evalEach es X.env:=by rfl):PJ X (e::es) (GZ te tr):=by intro pins s σ H acc Q I h;rw[hs];show wpAny _ _ _ _ _ _;refine thn (he pins s σ H _ I h) fun v s1 ⟨x,H1,I1,r1,y,e1,hz,q1⟩=>?_;subst e1;obtain⟨t,rfl⟩:=r1;exact⟨y,t,rfl,hz,hr pins s1 σ H1 (acc++y) Q I1 q1⟩
theorem Joins.imp{M:Model}{A:Around}{E:Value→Shared→Prop}:∀ {ps:List (Sem Value)}{acc:Str}{Q Q':Str→Shared→Prop}{s:Shared},(∀ o s,Q o s→Q' o s)→Joins M A E ps acc Q s→Joins M A E ps acc Q' s
 |[],_,_,_,_,f,h=>f _ _ h
 |_::_,_,_,_,_,f,h=>thn h fun v s1 ⟨y,t,e,hz,hr⟩=>⟨y,t,e,hz,Joins.imp f hr⟩
end
noncomputable def XA (x:Str):List Nat:=x.cps.toList
noncomputable def dg (n:Int):Str:=Str.ofString (toString n)
noncomputable def NT (m:Nat):List Nat:=(Nat.toDigits 10 m).map Char.toNat
theorem UL(m:Nat):XA (dg (m:Int))=NT m:=PySem.W.KIN.signs_num m
noncomputable def Dv (m:Nat):Bool:=decide (1≤(NT m).length)&&decide ((NT m).length≤4)&&(NT m).all (fun c=>decide (48≤c)&&decide (c≤57))&&(if m=0 then NT m==[48]else(NT m).head? != some 48)
theorem BW:(List.range 1001).all Dv=true:=by decide +kernel
structure FigOk (n:Int):Prop where
 one:1≤(XA (dg n)).length
 four:(XA (dg n)).length≤4
 fig:∀ c∈XA (dg n),48≤c∧c≤57
 nought:n=0→XA (dg n)=[48]
 first:n≠0→(XA (dg n)).head?≠some 48
theorem D5{n:Int}(h0:0≤n)(h1:n≤1000):FigOk n:=by
 obtain⟨m,rfl⟩:∃ m:Nat,n=(m:Int):=⟨n.toNat,by omega⟩
 have h:=List.all_eq_true.mp BW m (List.mem_range.mpr (by omega));unfold Dv at h;simp only[bAq,decide_eq_true_eq]at h;obtain⟨⟨⟨a,b⟩,c⟩,d⟩:=h;rw[←UL]at a b c d;refine⟨a,b,fun k hk=>?_,fun e=>?_,fun e=>?_⟩
 ·have:=List.all_eq_true.mp c k hk;simpa using this
 ·have e:m=0:=by omega
  rw[if_pos e]at d;simpa using d
 ·have e:¬ m=0:=by omega
  rw[if_neg e]at d;simpa using d
noncomputable def wT:Str:="tie"
noncomputable def nl:Str:="\n"
noncomputable def fl (ls:List Str):List Nat:=(ls.map fun l=>XA l++[10]).flatten
structure NetOk (bs:List Int) (ts:List Tie):Prop where
 br:BrOk bs
 ti:TsOk bs ts
 so:sortI bs=bs
 lo:ts.map loT=ts
theorem BrOk.fig{bs:List Int}(h:BrOk bs){n:Int}(hn:n∈bs):FigOk n:=D5 (h.rng n hn).1 (by have:=(h.rng n hn).2;omega)
theorem FigOk.no{n:Int}(h:FigOk n){c:Nat}(hc:c<48):c∉XA (dg n):=fun m=>by have:=(h.fig c m).1;omega
end L2
namespace L2
open PySem PySem.Spec PyProof.Rows
theorem ObjOk.obj{P:Program}{w:World}{H:Hp}{h:Heap}{a:Addr}{o:HO}(x:ObjOk P w H h a o):∃ u,h.get? a=some u:=by
 cases o with
 |lst xs=>obtain⟨_,_,_,_,e⟩:=x;exact⟨_,e⟩
 |tup xs=>obtain⟨_,_,_,ob,e,_⟩:=x;exact⟨_,e⟩
 |dK kvs=>obtain⟨_,_,_,_,o,_,_,e,_⟩:=x;exact⟨_,e⟩
 |dT kvs=>obtain⟨_,_,_,_,o,_,_,e,_⟩:=x;exact⟨_,e⟩
 |set S n=>obtain⟨o,_,_,_,e,_⟩:=x;exact⟨_,e⟩
 |ins C dx fs=>obtain⟨_,_,_,e,_⟩:=x;exact⟨_,e⟩
 |own y=>exact x
 |xd fs=>obtain⟨_,⟨_,_,_,e,_⟩,_⟩:=x;exact⟨_,e⟩
 |rng lo hi=>obtain⟨_,_,_,e⟩:=x;exact⟨_,e⟩
 |frz ob u=>exact⟨_,x.1⟩
 |tbl ps=>exact⟨_,(show h.get? a=some _ from x)⟩
 |met f y=>exact⟨_,(show h.get? a=some _ from x)⟩
 |ext φ=>exact x.2.1
def Id (h:Heap) (a:Addr) (cls:Value) (T:Option Addr):Prop :=
 ∃ oe vs a0,h.get? a=some oe∧oe.cls=cls∧oe.data=.fields vs∧vs[0]?=some a0∧
  match T with
  |none=>vs[1]?=some .none
  |some T=>vs[1]?=some (.ref T)∧T≠a∧∃ oT ts,h.get? T=some oT∧oT.data=.fields ts∧ts[3]?=some .none
structure Fl (P:Program) (w:World) (l:List Env) (H:Hp) (s:Shared) (H':Hp) (a:Addr) (cls:Value) (s':Shared):Prop where
 os:s'.os=s.os
 bare:AllBare s'.gens
 un:Un (frs l) [] H H' s.heap s'.heap
 hok:HOk P w H' s'.heap
 na:s.heap.get? a=none
 ha:H' a=none
 ex:∃ T,Id s'.heap a cls T∧∀ t,T=some t→s.heap.get? t=none∧H' t=none
noncomputable def CX1 (P:Program) (w:World):CXT:=fun l H s E e s'=>∃ a cls H',e=.ref a∧Fl P w l H s H' a cls s'∧E cls none H'
def XW (X:Cx) (E:XK):Prop:=∀ (pins:List (Addr×Obj)) (σ:St) (H:Hp) (s:Shared) (H':Hp) (a:Addr) (cls:Value) (s':Shared),
 Inv X pins σ H s→Fl X.prog X.w X.stack H s H' a cls s'→E cls none H'→X.xe (.ref a) s'
theorem XW.passes{X:Cx}{E:XK}(h:XW X E):Jy (CX1 X.prog X.w) X E:=fun pins σ H s e s' I ⟨a,cls,H',z,f,q⟩=>by subst z;exact h pins σ H s H' a cls s' I f q
section
variable {M:Model}{A:Around}{E:Value→Shared→Prop}{s:Shared}{B:Heap}{env:Env}{outer:List Env}{L a:Addr}{cls:Value}{T:Option Addr}{Q:Unit→Shared→Prop}
noncomputable def Wu (h:Heap) (l:List Env) (a:Addr) (T:Option Addr):Heap:=PySem.W.hideAll h (a::(T.toList++frs l))
theorem Xz(h:Heap)(l:List Env)(a:Addr)(T:Option Addr):(Wu h l a T).StaysIn h:=fun b o e=>PySem.W.of_hideAll _ e
theorem Ks{h:Heap}{l:List Env}(a:Addr)(T:Option Addr)(hl:h.FunFrames B l):h.FunFrames (Wu h l a T) l :=
 PySem.W.funFrames_hide hl fun e he b hb=>qI _ (qL _ (zM.mpr ⟨e,he,hb⟩))
theorem NL(h:Heap)(l:List Env)(a:Addr)(T:Option Addr):(Wu h l a T).get? a=none:=PySem.W.hideAll_none _ qT
theorem Ch(h:Heap)(l:List Env)(a t:Addr):(Wu h l a (some t)).get? t=none:=PySem.W.hideAll_none _ (qI _ (qM _ (by simp)))
theorem K9(hfr:A.frames=some (env::outer))(hf:env.frame=some L)(hl:s.heap.FunFrames B (env::outer))(hx:Id s.heap a cls T)
  (h:∀ h' a0,Heap.LeftW (Wu s.heap (env::outer) a T) (env::outer) a cls a0 s.heap h'→Q () {s with heap:=h'}):wpAny M A (leaving env (.ref a)) Q E s:=by
 obtain⟨oe,vs,a0,he,hc,hd,h0,ht⟩:=hx;cases T with
 |none =>subst hc;exact wpAny_leaving_firstW hfr (Ks a none hl) hf he (Xz _ _ _ _) (NL _ _ _ _) hd ht h0 fun h' z=>h h' a0 z
 |some t =>obtain⟨h1,hne,oT,ts,e1,e2,e3⟩:=ht;exact wpAny_leaving_nextW hfr (Ks a (some t) hl) hf ⟨oe,vs,t,oT,ts,he,⟨hc,h0⟩,hd,h1,Ch _ _ _ _,hne,e1,e2,e3⟩ (Xz _ _ _ _) (NL _ _ _ _) fun h' z=>h h' a0 z
end
theorem Fl.left{P:Program}{w:World}{l:List Env}{H H':Hp}{s s':Shared}{a:Addr}{cls a0:Value}{h' B:Heap}(f:Fl P w l H s H' a cls s'){T:Option Addr}(hT:∀ t,T=some t→s.heap.get? t=none∧H' t=none)
  (hl:s'.heap.FunFrames B l) (hfr:∀ b∈frs l,H' b=none) (z:Heap.LeftW (Wu s'.heap l a T) l a cls a0 s'.heap h'):Fl P w l H s H' a cls {s' with heap:=h'}:=by
 obtain⟨k1,k2,k3,k4⟩:=z;have inb:∀ b o,s'.heap.get? b=some o→b≠a→(∀ t,T=some t→b≠t)→b∉frs l→h'.get? b=some o:=fun b o e na nt nf=>k1 b o (PySem.W.hideAll_get _ e (by
   intro m
   rcases qE.mp m with m|m
   · exact na m
   · rcases q9.mp m with m|m
     · cases T with
       |none=>cases m
       |some t=>exact nt t rfl (by simpa using m)
     · exact nf m))
 have slot:∀ b o,s'.heap.get? b=some o→b∈frs l→∃ sl,h'.get? b=some {o with slots:=sl}:=fun b o e hb=>by obtain⟨_,o2,e2,nf⟩:=hl.mem hb;rw[e]at e2;cases e2;exact k4 b o e nf
 have old:∀ b o,s.heap.get? b=some o→b≠a∧∀ t,T=some t→b≠t:=fun b o e=>⟨(fun z=>by rw[z,f.na]at e;cases e),(fun t ht z=>by rw[z,(hT t ht).1]at e;cases e)⟩
 refine⟨f.os,f.bare,⟨fun b o e n nf _=>?_,fun b o e n hb _=>?_,f.un.free,fun b o e _=>?_,f.un.tups,f.un.frzs,f.un.tbls⟩,?_,f.na,f.ha,?_⟩
 ·exact inb b o (f.un.keep b o e n nf (by simp)) (old b o e).1 (old b o e).2 nf
 ·obtain⟨sl,e1⟩:=f.un.slot b o e n hb (by simp);obtain⟨sl',e2⟩:=slot b _ e1 hb;exact⟨sl',e2⟩
 ·obtain⟨o1,e1⟩:=f.un.there b o e (by simp);by_cases hb:b∈frs l
  ·obtain⟨sl,e2⟩:=slot b _ e1 hb;exact⟨_,e2⟩
  ·exact⟨o1,inb b o1 e1 (old b o e).1 (old b o e).2 hb⟩
 ·intro b u e;have good:∀ c v,H' c=some v→∀ ob,s'.heap.get? c=some ob→h'.get? c=some ob:=fun c v ec ob eo =>
   inb c ob eo (fun z=>by rw[z,f.ha]at ec;cases ec) (fun t ht z=>by rw[z,(hT t ht).2]at ec;cases ec) fun m=>by rw[hfr c m]at ec;cases ec
  refine(f.hok b u e).stay (fun c v hc q=>?_) (fun _ q=>q) fun _ _ q=>q;rcases hc with z|z
  ·rw[z]at q ⊢;exact good b u e v q
  ·exact good c _ z v q
 ·obtain⟨oe,vs,t',oT,ts,e1,⟨e2,e3⟩,e4,e5,e6,e7,e8,e9,e10⟩:=k3;refine⟨some t',⟨oe,vs,a0,e1,e2,e4,e3,e5,e7,oT,ts,e8,e9,e10⟩,fun t ht=>?_⟩;cases ht;have hid:∀ o,s'.heap.get? t'=some o→T=some t':=fun o e=>by
   have nin:¬ (t'∉(a::(T.toList++frs l))):=fun m=>by have q:(Wu s'.heap l a T).get? t'=some o:=PySem.W.hideAll_get _ e m;rw[e6]at q;cases q
   have m:=Classical.not_not.mp nin;rcases qE.mp m with m|m
   ·exact absurd m e7
   ·rcases q9.mp m with m|m
    ·cases T with
     |none=>cases m
     |some t=>rw[show t'=t by simpa using m]
    ·obtain⟨_,o2,q,nf⟩:=k2.mem m;rw[e8]at q;cases q;exact absurd e9 (nf ts)
  constructor
  ·cases q:s.heap.get? t' with
   |none=>rfl
   |some o =>obtain⟨o1,q1⟩:=f.un.there t' o q (by simp);have:=(hT t' (hid o1 q1)).1;rw[q]at this;cases this
  ·cases q:H' t' with
   |none=>rfl
   |some u =>obtain⟨o1,q1⟩:=(f.hok t' u q).obj;have:=(hT t' (hid o1 q1)).2;rw[q]at this;cases this
section
variable {P:Program}{w:World}{K:PySem.W.Frag}{mg:Str→Option Value}{base:Heap}
theorem Inv.raised{X:Cx}{pins:List (Addr×Obj)}{σ:St}{H H':Hp}{s s':Shared}{a:Addr}{cls:Value}(I:Inv X pins σ H s)(f:Fl X.prog X.w X.stack H s H' a cls s'):Inv X pins σ H' s' :=
 I.call' (ch:=[]) f.os f.un f.hok f.bare (fun b z=>absurd z (by simp))
theorem KM{X:Cx}(ok:X.Ok)(h:X.stack=X.env::X.outer):X.env.frame=some X.env.locals:=by
 rcases ok.stk with e|e
 ·rw[h]at e;exact absurd (congrArg List.length e) (by simp)
 ·exact e.2
theorem E2{N:List Str}{qual:Str}{scope:Scope}{f:Addr}{cd:Value}{A:Around}{outer:List Env}{s:Shared}{H:Hp}{E:XK}:XW (Ww (CX1 P w) P w K mg base N qual scope f cd A outer s H E) E:=by
 intro pins σ H2 s2 H' a cls s' I f q;have J:=I.raised f;obtain⟨T,hx,hT⟩:=f.ex;show wpAny _ _ (leaving _ _) _ _ _;refine K9 (outer:=outer) J.ok.frames (KM J.ok rfl) J.stack hx fun h' a0 z=>?_;have f2:=f.left hT J.stack J.stkFree z;have J2:=I.raised f2;have back:∀ b,s2.heap.get? b=none→s.heap.get? b=none:=fun b e=>by
  cases z:s.heap.get? b with
  |none=>rfl
  |some o =>obtain⟨o',e'⟩:=I.base.there b o z (by intro m;cases m);rw[e]at e';cases e'
 obtain⟨T2,hx2,hT2⟩:=f2.ex;exact⟨a,cls,H',rfl,⟨J2.os,J2.bare,J2.base,J2.hok,back a f2.na,f2.ha,T2,hx2,fun t ht=>⟨back t (hT2 t ht).1,(hT2 t ht).2⟩⟩,q⟩
theorem Fun.ok1{x qual:Str}{st:Stmt}{f:Addr}{fd:FuncData}{N ps:List Str}{k:Nat}{sp:Sp}(F:Fun K x qual st f fd)(S:FnScope N ps (Zo st))(len:∀ vs H Q E,sp vs H Q E→vs.length=ps.length)
  (hbody:∀ (cdv:Value) (A:Around) (outer:List Env) (s:Shared) (H:Hp) (vs:List V) (Q:VK) (E:XK),Room k (A.deeper (envOfC qual (Zo st) s.heap.objs.size f cdv))→sp vs H Q E→
    XW (Ww (CX1 P w) P w K mg base N qual (Zo st) f cdv A outer s H E) E→
    ∃ t,PSs (Ww (CX1 P w) P w K mg base N qual (Zo st) f cdv A outer s H E) (ZR st) t∧t { nx:=fun _ H'=>Q .non H',rt:=Q } (start N vs) H):FnOk P w K mg base (CX1 P w) (k+1) f fd ps sp:=by
 obtain⟨oc,od,kV,doc,pm,an,cdv,ct,osl,rfl,lk,hcd⟩:=F.ex;exact DC lk hcd S len fun A outer s H vs Q E hr hsp=>hbody cdv A outer s H vs Q E hr hsp E2
end
def XP (X:Cx) (pins:List (Addr×Obj)) (σ:St) (E:XK) (v:Value) (s':Shared):Prop :=
 ∃ a cls H1 H' s1,v=.ref a∧Inv X pins σ H1 s1∧Fl X.prog X.w X.stack H1 s1 H' a cls s'∧E cls none H'
noncomputable def xcO (a:Addr) (cls:Value):HO:=.ext fun h=>∃ o vs,h.get? a=some o∧o.cls=cls∧o.data=.fields vs
noncomputable abbrev Cx.caught (X:Cx) (a:Addr):Cx:={X with A:=X.A.mark (some (.ref a)),calm:=false,xe:=fun _ _=>False}
section
variable {X:Cx}{pins:List (Addr×Obj)}{σ:St}{H H':Hp}{s s':Shared}{a:Addr}{cls:Value}
theorem Inv.caught(I:Inv X pins σ H s)(a:Addr):Inv (X.caught a) pins σ H s :=
 ⟨⟨I.ok.mod,I.ok.kind,I.ok.glob,I.ok.blt,I.ok.above,I.ok.inj,I.ok.has,I.ok.cab,fun z=>Bool.noConfusion z,I.ok.frames,I.ok.stk,I.ok.exf,I.ok.bs,I.ok.bsz,I.ok.noex,I.ok.exfs,I.ok.funs,I.ok.frf⟩,I.os,I.bare,I.base,I.loc,I.cell,I.free,I.freeC,I.pin,I.hok,I.len⟩
end
end L2
namespace L2
open PySem PySem.Spec PySem.W PySem.Calls PyProof.Rows PySem.Builtin PySem.Builtin.ObjectAttr PySem.Builtin.Getset_descriptor
section
variable {prog:Program}{w:World}{A:Around}{E:Value→Shared→Prop}{K:Frag}{h:Heap}{g:Array GenState}{d:Drawn}{t:Nat}{os:OsState}{a C:Addr}{o:Obj}
structure XCls (K:Frag) (C:Addr):Prop where
 ga:findIn K (.ref C) "__getattribute__" = some (some (.builtin "BaseException.__getattribute__"))
 gr:findIn K (.ref C) "__getattr__" = some none
 cl:findIn K (.ref C) "__class__" = some (some (.builtin "object.__class__"))
 mo:mroIn K C (.type "object")=some true
 mb:mroIn K C (.type "BaseException")=some true
 ci:(clsIn K C).isSome=true
end
end L2
namespace L2
open PySem PySem.Spec PyProof.Rows
section
variable {X:Cx}
theorem Wx:CallR X (.type "int") (fun xs H Q=>∃ z n,xs=[.str z]∧PySem.intText? z=some n∧z.length≤640∧Q (.int n) H):=by intro pins s σ H xs us Q I r h;obtain⟨z,n,rfl,e,hl,q⟩:=h;obtain⟨u,rfl,t,rfl⟩:=ZJ r;exact PySem.W.KIN.call_text e hl ⟨.int n,H,I.tok _,⟨_,rfl⟩,q⟩
end
end L2
namespace L2
open PySem PySem.Spec PyProof.Rows
open PySem.Builtin PySem.Builtin.Str
noncomputable def OQ (z:Str) (lo hi:Option Int):Str:=if(strSliceIndices lo hi 1 z.length).length=z.length then z else⟨((strSliceIndices lo hi 1 z.length).filterMap (z.cps[·]?)).toArray⟩
theorem AK(z:Str)(lo hi:Option Int):(OQ z lo hi).length≤z.length:=by
 unfold OQ;split
 ·exact zJ _
 ·show((strSliceIndices lo hi 1 z.length).filterMap (z.cps[·]?)).toArray.size≤_;rw[qC];exact zH (List.length_filterMap_le _ _) (indices_len_le lo hi z.length)
section
variable {X:Cx}
def HS:V→Option Int→Option Int→Hp→VK→Prop:=fun x lo hi H Q=>∃ z,x=.str z∧z.length≤sizeLine∧Q (.str (OQ z lo hi)) H
theorem NG{v:Value}{lo:Option Int}(h:IsPart v lo):∃ l:Option (Int×Tok),v=partValue l∧l.map (·.1)=lo:=by
 cases h with
 |none=>exact⟨none,rfl,rfl⟩
 |int i t=>exact⟨some (i,t),rfl,rfl⟩
theorem sl_str:SlR X HS:=by
 intro pins s σ H x v vl vu lo hi sl Q I rx hs pl pu h;obtain⟨z,rfl,hz,q⟩:=h;obtain⟨t,rfl⟩:=rx;refine⟨"str",_,slot_str_getitem.lookup,typeIs_str s z t,?_⟩;obtain⟨l,rfl,el⟩:=NG pl;obtain⟨u,rfl,eu⟩:=NG pu;have hs':s.heap.IsSlice sl l u none:=hs;refine wpAny_getItem_str_slice hs' rfl ?_;have e:sliceMade z t l u none=if(strSliceIndices lo hi 1 z.length).length=z.length then .val (.str z t)else .str ⟨((strSliceIndices lo hi 1 z.length).filterMap (z.cps[·]?)).toArray⟩:=by unfold sliceMade slicePicked;rw[el,eu];simp
 rw[e];have cl:=AK z lo hi;unfold OQ at q cl;split
 ·rename_i hh;rw[if_pos hh]at q;exact⟨.str z,H,I,⟨t,rfl⟩,q⟩
 ·rename_i hh;rw[if_neg hh]at q cl;exact⟨zH cl hz,.str _,H,I.tok _,⟨_,rfl⟩,q⟩
end
section
variable {X:Cx}
theorem MU(z:Str):∀ (n:Nat) (a:Array Nat),((List.replicate n z.cps).foldl (· ++ ·) a).size=a.size+n*z.cps.size
 |0,a=>by simp
 |n+1,a=>by rw[List.replicate_succ,List.foldl_cons,MU z n,Array.size_append,Nat.succ_mul];omega
theorem Vals.ins{xs:List V}{us:List Value}{y:V}{u:Value}(r:Vals xs us)(ry:RelV y u)(k:Nat):Vals (xs.take k++y::xs.drop k) (us.take k++u::us.drop k):=(r.take k).append (.cons ry (r.drop k))
end
end L2
namespace L2
open PySem PySem.Spec PyProof.Rows
section
variable {X:Cx}(K:PySem.W.Frag) (h:X.K=K)
include h
end
end L2
namespace L2
open PySem PySem.Spec PyProof.Rows
open PySem.Builtin PySem.Builtin.Str
section
variable {X:Cx}
noncomputable def EZ (z:Str) (n:Nat):Str:=⟨(List.replicate n z.cps).foldl (· ++ ·) #[]⟩
theorem WP(z:Array Nat):∀ (n:Nat) (a:Array Nat),((List.replicate n z).foldl (· ++ ·) a).toList=a.toList++(List.replicate n z.toList).flatten
 |0,a=>by simp
 |n+1,a=>by rw[List.replicate_succ,List.foldl_cons,WP z n,List.replicate_succ,List.flatten_cons,Array.toList_append,List.append_assoc]
noncomputable def Dy:R2:=fun x y H Q=>∃ z k,x=.str z∧y=.int k∧2≤k∧k≤1000000∧1≤z.length∧z.length*k.toNat≤1000000∧Q (.str (EZ z k.toNat)) H
theorem B3:OpR X (binaryOp .Mult) Dy:=by
 intro pins s σ H x y v u Q I rx ry h;obtain⟨z,k,rfl,rfl,h2,h6,h1,hz,q⟩:=h;obtain⟨t,rfl⟩:=rx;obtain⟨t',rfl⟩:=ry;have big:(1000000:Nat)≤sizeLine:=by decide
 have nb:(k==1||z.length==0)=false:=by have e1:(k==1)=false:=beq_false_of_ne (by omega);have e2:(z.length==0)=false:=beq_false_of_ne (by omega);rw[e1,e2];rfl
 have zl:z.length≤1000000:=by have:z.length*1≤z.length*k.toNat:=Nat.mul_le_mul_left _ (by omega);omega
 have hr:(decide (k < -(2 ^ 63:Int))||decide (k≥2 ^ 63))=false:=by rw[qP (by omega),qP (by omega)];rfl
 have hb:¬ k<1→(k==1||z.length==0)=false→¬ ((z.length:Int) > (2 ^ 63 - 1) / k):=fun _ _=>by have:(1000000:Int)≤(2 ^ 63 - 1) / k:=(Int.le_ediv_iff_mul_le (by omega)).mpr (by omega);omega
 have hl:¬ k<1→(k==1||z.length==0)=false→tooLong (z.length*k.toNat)=false:=fun _ _=>by unfold tooLong;exact qP (by omega)
 refine P.mul_str hr hb hl ?_;rw[if_neg (by omega),if_neg (by rw[nb];exact Bool.false_ne_true)];have el:(⟨(List.replicate k.toNat z.cps).foldl (· ++ ·) #[]⟩:Str).length=z.length*k.toNat:=by show((List.replicate k.toNat z.cps).foldl (· ++ ·) #[]).size=_;rw[MU,Nat.mul_comm z.length];simp[Str.length]
 exact⟨by rw[el];omega,.str _,H,I.tok _,⟨_,rfl⟩,q⟩
variable {c y z a b:Str}{k1 k2 k3:Nat}{p1 p2 p3 p4 pa pb apos cpos:Pos}
end
end L2
namespace L2
open PySem PySem.Spec PyProof.Rows
section
variable {X:Cx}
noncomputable def DO (K:PySem.W.Frag):R2:=fun x y H Q=>∃ a b ys,x=.ref a∧y=.ref b∧SqT K H a []∧SqT K H b ys∧Q (.ref b) H
theorem op_cat0:OpR X (binaryOp .Add) (DO X.K):=by
 intro pins s σ H x y v u Q I rx ry h;obtain⟨a,b,ys,rfl,rfl,ha,hb,q⟩:=h;cases rx;cases ry;obtain⟨its,r1,p1,_⟩:=I.tuple ha;obtain⟨its2,r2,p2,_⟩:=I.tuple hb;cases r1;obtain⟨⟨cls,dd,data,sl⟩,ho,hc,n,hd⟩:=id p1;obtain⟨⟨cls2,dd2,data2,sl2⟩,ho2,hc2,n2,hd2⟩:=id p2;simp only at hc hd hc2 hd2;subst hc hd hc2 hd2;exact concat_meets ⟨_,ho,rfl⟩ ⟨_,ho2,rfl⟩ noFill_tuple_add seq_tuple_add PySem.F.slot_tuple_add PySem.F.entry_tuple_add (PySem.F.args_tuple_add_2 _ _)
  (tuple_addW0 a b _ _ n n2 dd dd2 sl sl2 rfl) ⟨ho,ho2,.ref b,H,I,rfl,q⟩
noncomputable def GM:R2:=fun x y H Q=>∃ a b,x=.bl a∧y=.bl b∧Q (.bl (a != b)) H
theorem FI:OpR X (compareOp .IsNot) GM:=by intro pins s σ H x y v u Q I rx ry h;obtain⟨a,b,rfl,rfl,q⟩:=h;cases rx;cases ry;exact isnot_bool (U4 I q rfl)
theorem Nc{xs:Array (Int×Tok)}{k:Nat}(h:k<xs.size):numAt xs k∈xs.toList.map (·.1):=by rw[numAt_eq];exact PySem.getD_mem (by rw[qA,zG];exact h)
theorem NR (hc:X.calm=true):CallR X (.builtin "min") (fun xs H Q=>∃ p,∃ ns:List Int,xs=[.ref p]∧SqL X.K H p (ns.map V.int)∧ns≠[]∧∀ M,M∈ns→(∀ a∈ns,M≤a)→Q (.int M) H):=by
 intro pins s σ H xs us Q I r h;obtain⟨p,ns,rfl,hq,hne,q⟩:=h;obtain⟨u,rfl,rx⟩:=ZJ r;cases rx;obtain⟨its,rv,pl,hz⟩:=I.list hq;have hi:=Zu rv;obtain⟨xs,e⟩:=hi.allInts.items;have hns:ns=xs.toList.map (·.1):=by rw[←hi.numsOf,←nums_intItems,←e]
 have hsz:0<xs.size:=by have h3:=zE.mpr hne;rw[hns,qA,zG]at h3;exact h3
 have hl:=pl.isList;rw[e]at hl;refine min_intList (I.ok.hd hc) hl hsz fun v h' tk hv hk=>?_;obtain⟨t,rfl⟩:=intItems_at hv;obtain⟨h1,h2⟩:=argBest_lt (numAt xs) (xs.size - 1);refine⟨.int _,H,I.kept (t':=tk) hk,⟨t,rfl⟩,q _ ?_ fun a ha=>?_⟩
 ·rw[hns];exact Nc (by omega)
 ·rw[hns]at ha;obtain⟨j,hj,rfl⟩:=mem_getD ha;rw[qA,zG]at hj;rw[←numAt_eq];exact h2 j (by omega)
theorem Mz (hc:X.calm=true):CallR X (.builtin "min") (fun xs H Q=>∃ p,∃ ns:List Int,xs=[.ref p]∧SqT X.K H p (ns.map V.int)∧ns≠[]∧∀ M,M∈ns→(∀ a∈ns,M≤a)→Q (.int M) H):=by
 intro pins s σ H xs us Q I r h;obtain⟨p,ns,rfl,hq,hne,q⟩:=h;obtain⟨u,rfl,rx⟩:=ZJ r;cases rx;obtain⟨its,rv,pl,hz⟩:=I.tuple hq;have hlt:p<s.heap.objs.size:=by obtain⟨o,e,_⟩:=pl;exact Heap.lt_size e
 have hl:its.length=ns.length:=by rw[←rv.length,qA]
 have hn:=zE.mpr hne;have hv:∀ k v,its[k]?=some v→∃ t,v=Value.int (ns.getD k 0) t:=fun k v hv=>by
  have hk:=(qK.mp hv).1;rw[hl]at hk;have hb:(ns.map V.int)[k]?=some (.int (ns.getD k 0)):=by rw[qF,qH hk,qN,qH hk];rfl
  obtain⟨u,hu,ru⟩:=rv.get hb;rw[hv]at hu;cases hu;exact ru
 refine call_min_walk (wpAny_pyIter_tuple (show s.heap.IsTuple p its.toArray from pl) ?_);refine⟨s.heap.objs.size,_,_,its.toArray.size,_,_,fun a b=>decide (ns.getD a 0<ns.getD b 0),rfl,Walks.tuple (A:=X.A.in1) (I.ok.hd hc) s.heap.objs.size p (zI hlt) its.toArray,⟨⟨_,Heap.get?_push_size _ rfl,rfl,rfl⟩,?_⟩,?_,?_,?_,fun v h' tk hP hk=>?_⟩
 ·obtain⟨o,e,r⟩:=pl;exact⟨o,Heap.get?_push_of_some _ e,r⟩
 ·intro b hb;show b<(s.heap.push _).objs.size;rw[Heap.size_push];rcases qE.mp hb with e|hb
  ·rw[e];exact Nat.lt_succ_self _
  ·have:b=p:=by simpa using hb
   rw[this];exact Nat.lt_succ_of_lt hlt
 ·rw[qC,hl];exact hn
 ·exact CmpOf.ints_lt (fun k=>ns.getD k 0) fun k v hP=>hv k v (by simpa using hP)
 ·rw[qC,hl]at hP;have hP:its[argBest (fun a b=>decide (ns.getD a 0<ns.getD b 0)) (ns.length - 1)]?=some v:=by simpa using hP
  obtain⟨t,rfl⟩:=hv _ _ hP;obtain⟨h1,h2⟩:=argBest_lt (fun k=>ns.getD k 0) (ns.length - 1);refine⟨.int _,H,I.kept (t':=tk) (fun b o e=>hk b o (fun hm=>?_) (Heap.get?_push_of_some _ e)),⟨_,rfl⟩,q _ (PySem.getD_mem (by omega)) fun a ha=>?_⟩
  ·have:b=s.heap.objs.size:=by simpa using hm
   exact absurd (this▸Heap.lt_size e) (zO _)
  ·obtain⟨j,hj,rfl⟩:=mem_getD ha;exact h2 j (by omega)
theorem Oz (hc:X.calm=true):CallR X (.builtin "max") (fun xs H Q=>∃ p,∃ ns:List Int,xs=[.ref p]∧SqL X.K H p (ns.map V.int)∧ns≠[]∧∀ M,M∈ns→(∀ a∈ns,a≤M)→Q (.int M) H):=by
 intro pins s σ H xs us Q I r h;obtain⟨p,ns,rfl,hq,hne,q⟩:=h;obtain⟨u,rfl,rx⟩:=ZJ r;cases rx;obtain⟨its,rv,pl,hz⟩:=I.list hq;have hi:=Zu rv;obtain⟨xs,e⟩:=hi.allInts.items;have hns:ns=xs.toList.map (·.1):=by rw[←hi.numsOf,←nums_intItems,←e]
 have hsz:0<xs.size:=by have h3:=zE.mpr hne;rw[hns,qA,zG]at h3;exact h3
 have hl:=pl.isList;rw[e]at hl;refine max_intList (I.ok.hd hc) hl hsz fun v h' tk hv hk=>?_;obtain⟨t,rfl⟩:=intItems_at hv;obtain⟨h1,h2⟩:=argBest_gt (numAt xs) (xs.size - 1);refine⟨.int _,H,I.kept (t':=tk) hk,⟨t,rfl⟩,q _ ?_ fun a ha=>?_⟩
 ·rw[hns];exact Nc (by omega)
 ·rw[hns]at ha;obtain⟨j,hj,rfl⟩:=mem_getD ha;rw[qA,zG]at hj;rw[←numAt_eq];exact h2 j (by omega)
end
mutual
inductive SamV (K:PySem.W.Frag) (H:Hp):Nat→V→V→Prop
 |non {n:Nat}:SamV K H n .non .non
 |bl {n:Nat}(b:Bool):SamV K H n (.bl b) (.bl b)
 |int {n:Nat}(i:Int):SamV K H n (.int i) (.int i)
 |str {n:Nat}(x:Str):SamV K H n (.str x) (.str x)
 |ref {n:Nat}(a:Addr):SamV K H n (.ref a) (.ref a)
 |lst {n:Nat}{a b:Addr}{xs ys:List V}:SqL K H a xs→SqL K H b ys→SamVs K H n xs ys→SamV K H (n+1) (.ref a) (.ref b)
 |tup {n:Nat}{a b:Addr}{xs ys:List V}:SqT K H a xs→SqT K H b ys→SamVs K H n xs ys→SamV K H (n+1) (.ref a) (.ref b)
inductive SamVs (K:PySem.W.Frag) (H:Hp):Nat→List V→List V→Prop
 |nil {n:Nat}:SamVs K H n [] []
 |cons {n:Nat}{x y:V}{xs ys:List V}:SamV K H n x y→SamVs K H n xs ys→SamVs K H n (x::xs) (y::ys)
end
theorem Do{x:V}{xs:List V}{its:List Value}(hl:(x::xs).length=its.length):(its.toArray.size != (#[]:Array Value).size)=true:=by
 cases its with
 |nil=>cases hl
 |cons y ys=>simp
theorem JE(n:Nat):(List.range n).all (fun _=>true)=true:=by simp
theorem SamVs.length{K:PySem.W.Frag}{H:Hp}:∀ {n:Nat}{xs ys:List V},SamVs K H n xs ys→xs.length=ys.length
 |_,_,_,.nil=>rfl
 |_,_,_,.cons _ t=>by rw[qB,qB,SamVs.length t]
section
variable {X:Cx}{pins:List (Addr×Obj)}{σ:St}{H:Hp}{s:Shared}
mutual
theorem SamV.eqAt(I:Inv X pins σ H s):∀ {n:Nat}{x y:V}{u v:Value}{A:Around},SamV X.K H n x y→RelV x u→RelV y v→A.units+n<cLine→SeqAt.EqAt A s u v true
 |_,_,_,_,_,A,.non,r,q,_=>by cases r;cases q;exact SeqAt.EqAt.same _
 |_,_,_,_,_,A,.bl b,r,q,_=>by cases r;cases q;exact SeqAt.EqAt.same _
 |_,_,_,_,_,A,.int i,r,q,_=>by
  obtain⟨t,rfl⟩:=r;obtain⟨t',rfl⟩:=q;have:=SeqAt.EqAt.int_int (A:=A) (s:=s) i t i t'
  rwa [beq_self_eq_true]at this
 |_,_,_,_,_,A,.str x,r,q,_=>by
  obtain⟨t,rfl⟩:=r;obtain⟨t',rfl⟩:=q;have:=SeqAt.EqAt.str_str (A:=A) (s:=s) x t x t'
  rwa [beq_self_eq_true]at this
 |_,_,_,_,_,A,.ref a,r,q,_=>by cases r;cases q;exact SeqAt.EqAt.same _
 |n+1,_,_,_,_,A,.lst (a:=a) (b:=b) ha hb hs,r,q,hu=>by
  cases r;cases q;by_cases hab:a=b
  ·subst hab;exact SeqAt.EqAt.same _
  ·obtain⟨its,rv,pl,_⟩:=I.list ha;obtain⟨its2,rv2,pl2,_⟩:=I.list hb;have hl:=hs.length;have h1:=rv.length;have h2:=rv2.length;have hz:its.toArray.size=its2.toArray.size:=by rw[qC,qC,←h1,←h2,hl]
   have:=SeqAt.RcAt.lists (A:=A) (e:=fun _=>true) pl.isList pl2.isList hz (by omega) fun j j1 j2=>SamVs.eqAt I hs rv rv2 (A:=A.in1) (by have:A.in1.units=A.units+1:=rfl;omega) j j1 j2;rw[JE]at this;exact SeqAt.EqAt.of_refs hab this
 |n+1,_,_,_,_,A,.tup (a:=a) (b:=b) ha hb hs,r,q,hu=>by
  cases r;cases q;by_cases hab:a=b
  ·subst hab;exact SeqAt.EqAt.same _
  ·obtain⟨its,rv,pl,_⟩:=I.tuple ha;obtain⟨its2,rv2,pl2,_⟩:=I.tuple hb;have hl:=hs.length;have h1:=rv.length;have h2:=rv2.length;have hz:its.toArray.size=its2.toArray.size:=by rw[qC,qC,←h1,←h2,hl]
   have:=SeqAt.RcAt.tuples (A:=A) (e:=fun _=>true) (show s.heap.IsTuple a its.toArray from pl) (show s.heap.IsTuple b its2.toArray from pl2) (by omega) fun j j1 j2=>SamVs.eqAt I hs rv rv2 (A:=A.in1) (by have:A.in1.units=A.units+1:=rfl;omega) j j1 j2;rw[JE,hz,beq_self_eq_true,Bool.and_self]at this;exact SeqAt.EqAt.of_refs hab this
theorem SamVs.eqAt(I:Inv X pins σ H s):∀ {n:Nat}{xs ys:List V}{us vs:List Value}{A:Around},SamVs X.K H n xs ys→Vals xs us→Vals ys vs→A.units+n<cLine→∀ (j:Nat) (j1:j<us.toArray.size) (j2:j<vs.toArray.size),SeqAt.EqAt A s us.toArray[j] vs.toArray[j] true
 |_,_,_,_,_,_,.nil,.nil,_,_,j,j1,_=>by simp at j1
 |_,_,_,_,_,_,.cons h t,.cons r rs,.cons q qs,hu,0,_,_=>by simpa using SamV.eqAt I h r q hu
 |_,_,_,_,_,_,.cons h t,.cons r rs,.cons q qs,hu,j+1,j1,j2=>by have:=SamVs.eqAt I t rs qs hu j (by simpa using j1) (by simpa using j2);simpa using this
end
end
section
variable {X:Cx}
noncomputable def Gi (K:PySem.W.Frag):R2:=fun x y H Q=>∃ a b xs ys,x=.ref a∧y=.ref b∧SqL K H a xs∧SqL K H b ys∧SamVs K H 8 xs ys∧Q (.bl false) H
theorem Ei(hu:X.A.units+64<cLine):OpR X (compareOp .NotEq) (Gi X.K):=by
 intro pins s σ H x y v u Q I rx ry h;obtain⟨a,b,xs,ys,rfl,rfl,ha,hb,hs,q⟩:=h;cases rx;cases ry;obtain⟨its,rv,pl,_⟩:=I.list ha;obtain⟨its2,rv2,pl2,_⟩:=I.list hb;have hz:its.toArray.size=its2.toArray.size:=by rw[qC,qC,←rv.length,←rv2.length,hs.length]
 have:=SeqAt.RcNeAt.lists (A:=X.A) (e:=fun _=>true) pl.isList pl2.isList hz (by omega) fun j j1 j2=>hs.eqAt I rv rv2 (A:=X.A.in1) (by have:X.A.in1.units=X.A.units+1:=rfl;omega) j j1 j2;rw[JE]at this;exact this X.prog X.w X.xe _ ⟨.bl false,H,I,rfl,q⟩
noncomputable def BL (K:PySem.W.Frag) (n:Bool):R2:=fun x y H Q=>∃ a b xs,x=.ref a∧y=.ref b∧SqL K H a xs∧SqL K H b []∧Q (.bl (n ^^ xs.isEmpty)) H
theorem Be(hu:X.A.units+64<cLine):OpR X (compareOp .Eq) (BL X.K false):=by
 intro pins s σ H x y v u Q I rx ry h;obtain⟨a,b,xs,rfl,rfl,ha,hb,q⟩:=h;cases rx;cases ry;obtain⟨its,rv,pl,_⟩:=I.list ha;obtain⟨its2,rv2,pl2,_⟩:=I.list hb;cases rv2;have hl:=rv.length;cases xs with
 |nil =>have:its=[]:=List.length_eq_zero_iff.mp hl.symm;subst this;exact SeqAt.RcAt.lists (A:=X.A) (e:=fun _=>true) pl.isList pl2.isList rfl (by omega) (fun j j1 _=>by simp at j1) X.prog X.w X.xe _ ⟨.bl true,H,I,rfl,q⟩
 |cons x xs =>exact SeqAt.RcAt.lists_lengths (A:=X.A) pl.isList pl2.isList (Do hl) (by omega) X.prog X.w X.xe _ ⟨.bl false,H,I,rfl,q⟩
theorem Ul(hu:X.A.units+64<cLine):OpR X (compareOp .NotEq) (BL X.K true):=by
 intro pins s σ H x y v u Q I rx ry h;obtain⟨a,b,xs,rfl,rfl,ha,hb,q⟩:=h;cases rx;cases ry;obtain⟨its,rv,pl,_⟩:=I.list ha;obtain⟨its2,rv2,pl2,_⟩:=I.list hb;cases rv2;have hl:=rv.length;cases xs with
 |nil =>have:its=[]:=List.length_eq_zero_iff.mp hl.symm;subst this;exact SeqAt.RcNeAt.lists (A:=X.A) (e:=fun _=>true) pl.isList pl2.isList rfl (by omega) (fun j j1 _=>by simp at j1) X.prog X.w X.xe _ ⟨.bl false,H,I,rfl,q⟩
 |cons x xs =>exact SeqAt.RcNeAt.lists_lengths (A:=X.A) pl.isList pl2.isList (Do hl) (by omega) X.prog X.w X.xe _ ⟨.bl true,H,I,rfl,q⟩
end
def ZSt (z TI TO i1 i2 a b:Addr) (i:Nat) (h:Heap):Prop:=IsZip h z TI TO .none∧IsPair h TI (.ref i1) (.ref i2)∧(∃ u v,IsPair h TO u v)∧h.IsListIter i1 a i∧h.IsListIter i2 b i
theorem ZSt.keep{z TI TO i1 i2 a b:Addr}{i:Nat}{h h':Heap}(st:ZSt z TI TO i1 i2 a b i h)(k:∀ c∈[z,TI,TO,i1,i2],∀ o,h.get? c=some o→h'.get? c=some o):ZSt z TI TO i1 i2 a b i h':=by obtain⟨h1,h2,⟨u,v,h3⟩,h4,h5⟩:=st;exact⟨k z (by simp) _ h1,k TI (by simp) _ h2,⟨u,v,k TO (by simp) _ h3⟩,h4.at fun o q=>k i1 (by simp) o q,h5.at fun o q=>k i2 (by simp) o q⟩
theorem ZSt.obj {z TI TO i1 i2 a b:Addr}{i:Nat}{h:Heap}(st:ZSt z TI TO i1 i2 a b i h):∀ c∈[z,TI,TO,i1,i2],∃ o,h.get? c=some o∧(∀ v,o.data≠.cell v)∧o.cls≠.type "list":=by
 obtain⟨h1,h2,⟨u,v,h3⟩,⟨o4,e4,c4,d4⟩,⟨o5,e5,c5,d5⟩⟩:=st;intro c hc;simp only[qE,List.not_mem_nil,or_false]at hc;rcases hc with rfl|rfl|rfl|rfl|rfl
 ·exact⟨_,h1,(fun v z=>(by cases z)),(show Value.type "zip"≠.type "list" by decide)⟩
 ·exact⟨_,h2,(fun v z=>(by cases z)),(show Value.type "tuple"≠.type "list" by decide)⟩
 ·exact⟨_,h3,(fun v z=>(by cases z)),(show Value.type "tuple"≠.type "list" by decide)⟩
 ·exact⟨_,e4,(fun v z=>(by rw[d4]at z;cases z)),(by rw[c4];decide)⟩
 ·exact⟨_,e5,(fun v z=>(by rw[d5]at z;cases z)),(by rw[c5];decide)⟩
section
variable {X:Cx}
theorem Jw:CallR X (.type "str") (fun xs H Q=>∃ z,xs=[.str z]∧Q (.str z) H):=by intro pins s σ H xs us Q I r h;obtain⟨z,rfl,q⟩:=h;obtain⟨u,rfl,t,rfl⟩:=ZJ r;exact PySem.P.str_of_str ⟨.str _,H,I,⟨_,rfl⟩,q⟩
noncomputable def GS (te:TE):TE:=fun σ H Q=>te σ H fun x H1=>(∃ i,x=.int i∧i.natAbs.log2<1920∧Q (.str (toString i)) H1)∨∃ z,x=.str z∧z.length≤sizeLine∧Q (.str z) H1
theorem B4{e:Expr}{te:TE}{pos:Pos}(he:PE X e te):PE X (.FormattedValue e (-1) none pos) (GS te):=by
 intro pins s σ H Q I h;refine wpAny_FormattedValue_plain (thn (he pins s σ H _ I h) fun v s1 ⟨x,H1,I1,r1,q1⟩=>?_);rcases q1 with⟨i,e1,hd,q1⟩|⟨z,e1,hz,q1⟩
 ·subst e1;obtain⟨t,rfl⟩:=r1;exact wpAny_formatField_int hd ⟨.str _,H1,I1.tok _,⟨_,rfl⟩,q1⟩
 ·subst e1;obtain⟨t,rfl⟩:=r1;exact wpAny_formatField_str ⟨.str _,H1,I1,⟨_,rfl⟩,q1⟩ ⟨.str _,H1,I1.tok _,⟨_,rfl⟩,q1⟩ hz
noncomputable def CF (K:PySem.W.Frag) (neg:Bool):R2:=fun x y H Q=>∃ ds d,(IsD K H y (.tuple ds)∨IsD K H y (.list ds))∧IsD K H x d∧PyData.canLayAll0 ds=true∧d.canLay0=true∧d.depth≤64∧Q (.bl (if neg then !ds.any (fun e=>PyData.eqv e d)else ds.any fun e=>PyData.eqv e d)) H
theorem FS(hu:X.A.units+65<cLine):OpR X (compareOp .In) (CF X.K false):=by
 intro pins s σ H x y v u Q I rx ry h;obtain⟨ds,d,hd,he,sd,se,hdp,q⟩:=h;obtain⟨bs,rb⟩:=he.reads I rx;have hr:X.A.units+1+min (PyData.depthAll ds) d.depth<cLine:=by have:min (PyData.depthAll ds) d.depth≤d.depth:=Nat.min_le_right _ _;omega
 rcases hd with hd|hd
 ·obtain⟨as,ra⟩:=hd.reads I ry;exact SeqAt.in_tuple_reads ra rb sd se hr ⟨.bl _,H,I,rfl,q⟩
 ·obtain⟨as,ra⟩:=hd.reads I ry;exact SeqAt.in_list_reads ra rb sd se hr ⟨.bl _,H,I,rfl,q⟩
theorem OI(hu:X.A.units+65<cLine):OpR X (compareOp .NotIn) (CF X.K true):=by
 intro pins s σ H x y v u Q I rx ry h;obtain⟨ds,d,hd,he,sd,se,hdp,q⟩:=h;obtain⟨bs,rb⟩:=he.reads I rx;have hr:X.A.units+1+min (PyData.depthAll ds) d.depth<cLine:=by have:min (PyData.depthAll ds) d.depth≤d.depth:=Nat.min_le_right _ _;omega
 rcases hd with hd|hd
 ·obtain⟨as,ra⟩:=hd.reads I ry;exact SeqAt.notIn_tuple_reads ra rb sd se hr ⟨.bl _,H,I,rfl,q⟩
 ·obtain⟨as,ra⟩:=hd.reads I ry;exact SeqAt.notIn_list_reads ra rb sd se hr ⟨.bl _,H,I,rfl,q⟩
end
def ZSy (z TI TO i1 i2 a b:Addr) (i:Nat) (h:Heap):Prop:=IsZip h z TI TO .none∧IsPair h TI (.ref i1) (.ref i2)∧(∃ u v,IsPair h TO u v)∧h.IsTupleIter i1 a i∧h.IsTupleIter i2 b i
theorem ZSy.keep{z TI TO i1 i2 a b:Addr}{i:Nat}{h h':Heap}(st:ZSy z TI TO i1 i2 a b i h)(k:∀ c∈[z,TI,TO,i1,i2],∀ o,h.get? c=some o→h'.get? c=some o):ZSy z TI TO i1 i2 a b i h':=by obtain⟨h1,h2,⟨u,v,h3⟩,h4,h5⟩:=st;exact⟨k z (by simp) _ h1,k TI (by simp) _ h2,⟨u,v,k TO (by simp) _ h3⟩,h4.at fun o q=>k i1 (by simp) o q,h5.at fun o q=>k i2 (by simp) o q⟩
theorem ZSy.obj{z TI TO i1 i2 a b:Addr}{i:Nat}{h:Heap}(st:ZSy z TI TO i1 i2 a b i h):∀ c∈[z,TI,TO,i1,i2],∃ o,h.get? c=some o∧∀ v,o.data≠.cell v:=by
 obtain⟨h1,h2,⟨u,v,h3⟩,⟨o4,e4,c4,d4⟩,⟨o5,e5,c5,d5⟩⟩:=st;intro c hc;simp only[qE,List.not_mem_nil,or_false]at hc;rcases hc with rfl|rfl|rfl|rfl|rfl
 ·exact⟨_,h1,fun v z=>by cases z⟩
 ·exact⟨_,h2,fun v z=>by cases z⟩
 ·exact⟨_,h3,fun v z=>by cases z⟩
 ·exact⟨_,e4,fun v z=>by rw[d4]at z;cases z⟩
 ·exact⟨_,e5,fun v z=>by rw[d5]at z;cases z⟩
section
variable {κ:Type} [DecidableEq κ]
noncomputable def YG (kvs:List (κ×V)) (k:κ):Option V:=(kvs.find? fun kv=>decide (kv.1=k)).map (·.2)
noncomputable def putK (kvs:List (κ×V)) (k:κ) (v:V):List (κ×V) :=
 if(kvs.any fun kv=>decide (kv.1=k))=true then kvs.map (fun kv=>if kv.1=k then(kv.1,v)else kv)else kvs++[(k,v)]
noncomputable def dropK (kvs:List (κ×V)) (k:κ):List (κ×V):=kvs.filter fun kv=>decide (kv.1≠k)
theorem Ys{p:κ×V}{r:List (κ×V)}{k:κ}(e:p.1=k):YG (p::r) k=some p.2:=by simp[YG,List.find?_cons,e]
theorem Yw{p:κ×V}{r:List (κ×V)}{k:κ}(e:¬ p.1=k):YG (p::r) k=YG r k:=by simp[YG,List.find?_cons,e]
theorem Yy(k:κ):∀ kvs:List (κ×V),(kvs.any fun kv=>decide (kv.1=k))=(YG kvs k).isSome
 |[]=>rfl
 |p::r=>by
  rw[List.any_cons];by_cases e:p.1=k
  ·simp only[Ys e,qQ e,Bool.true_or,Option.isSome_some]
  ·rw[Yw e,qP e,Bool.false_or];exact Yy k r
theorem Yx(kvs:List (κ×V))(k:κ)(v:V):(putK kvs k v).length≤kvs.length+1:=by
 unfold putK;split
 ·rw[qA];omega
 ·rw[qU,qB,List.length_nil];omega
theorem RelO.isSome_eq{o:Option V}{u:Option Value}(r:RelO o u):o.isSome=u.isSome:=by
 cases o with
 |none=>cases u with
  |none=>rfl
  |some _=>exact(show False from r).elim
 |some _=>cases u with
  |none=>exact(show False from r).elim
  |some _=>rfl
theorem RelO.getD{o:Option V}{u:Option Value}{d:V}{d':Value}(r:RelO o u)(rd:RelV d d'):RelV (o.getD d) (u.getD d'):=by
 cases o with
 |none=>cases u with
  |none=>exact rd
  |some _=>exact(show False from r).elim
 |some _=>cases u with
  |none=>exact(show False from r).elim
  |some _=>exact r
theorem KV.val{kvs:List (κ×V)}{vs:List (κ×Value)}(r:KV kvs vs)(k:κ):RelO (YG kvs k) (valueAt vs k):=by
 unfold KV at r;induction r with
 |nil=>exact True.intro
 |@cons p q ps qs h t ih =>
  obtain⟨h1,h2⟩:=h;by_cases e:p.1=k
  ·have e':q.1=k:=h1.symm.trans e;have b:valueAt (q::qs) k=some q.2:=by simp[valueAt,List.find?_cons,e']
   rw[Ys e,b];exact h2
  ·have e':¬ q.1=k:=fun z=>e (h1.trans z);have b:valueAt (q::qs) k=valueAt qs k:=by simp[valueAt,List.find?_cons,e']
   rw[Yw e,b];exact ih
theorem KV.any{kvs:List (κ×V)}{vs:List (κ×Value)}(r:KV kvs vs)(k:κ):(kvs.any fun kv=>decide (kv.1=k))=vs.any fun kv=>decide (kv.1=k):=by
 unfold KV at r;induction r with
 |nil=>rfl
 |cons h t ih=>rw[List.any_cons,List.any_cons,ih,h.1]
theorem KV.repl{kvs:List (κ×V)}{vs:List (κ×Value)}(r:KV kvs vs)(k:κ){y:V}{u:Value}(ry:RelV y u) :
  KV (kvs.map fun kv=>if kv.1=k then(kv.1,y)else kv) (vs.map fun kv=>if kv.1=k then(kv.1,u)else kv):=by
 unfold KV at r ⊢;induction r with
 |nil=>exact .nil
 |@cons p q ps qs h t ih =>
  rw[qG,qG];refine .cons ?_ ih;obtain⟨h1,h2⟩:=h;by_cases e:p.1=k
  ·rw[if_pos e,if_pos (h1.symm.trans e)];exact⟨h1,ry⟩
  ·rw[if_neg e,if_neg (fun z=>e (h1.trans z))];exact⟨h1,h2⟩
theorem KV.put{kvs:List (κ×V)}{vs:List (κ×Value)}(r:KV kvs vs)(k:κ){y:V}{u:Value}(ry:RelV y u):KV (putK kvs k y) (stored vs k u):=by
 unfold putK stored;rw[r.any k];by_cases e:(vs.any fun kv=>decide (kv.1=k))=true
 ·rw[if_pos e,if_pos e];exact r.repl k ry
 ·rw[if_neg e,if_neg e];exact Paired.snoc r ⟨rfl,ry⟩
theorem KV.drop{kvs:List (κ×V)}{vs:List (κ×Value)}(r:KV kvs vs)(k:κ):KV (dropK kvs k) (without vs k):=by
 unfold KV at r ⊢;unfold dropK without;induction r with
 |nil=>exact .nil
 |@cons p q ps qs h t ih =>
  obtain⟨h1,h2⟩:=h;rw[List.filter_cons,List.filter_cons];by_cases e:p.1=k
  ·have a:¬ decide (p.1≠k)=true:=by simp[e]
   have b:¬ decide (q.1≠k)=true:=by simp[h1.symm.trans e]
   rw[if_neg a,if_neg b];exact ih
  ·have e':¬ q.1=k:=fun z=>e (h1.trans z);have a:decide (p.1≠k)=true:=by simp[e]
   have b:decide (q.1≠k)=true:=by simp[e']
   rw[if_pos a,if_pos b];exact .cons ⟨h1,h2⟩ ih
theorem KV.keys{kvs:List (κ×V)}{vs:List (κ×Value)}(r:KV kvs vs):kvs.map (·.1)=vs.map (·.1):=by
 unfold KV at r;induction r with
 |nil=>rfl
 |cons h t ih=>rw[qG,qG,ih,h.1]
theorem KV.length{kvs:List (κ×V)}{vs:List (κ×Value)}(r:KV kvs vs):kvs.length=vs.length:=Paired.length r
end
theorem Wo{P:Program}{w:World}{k:Key}{u:Value}(r:RelV (kV k) u):(Zn P w).is k u=true:=by
 cases k with
 |inl i=>obtain⟨t,e⟩:=(show ∃ t,u=Value.int i t from r);subst e;exact Kr P w i t
 |inr x=>obtain⟨t,e⟩:=(show ∃ t,u=Value.str x t from r);subst e;exact Kx P w x t
theorem WI{P:Program}{w:World}:∀ {ks:List Key}{us:List Value},Vals (ks.map kV) us→ItemsAre (Zn P w) ks us
 |[],_,r=>by rw[List.map_nil]at r;cases r;exact .nil
 |k::ks,_,r=>by
  rw[qG]at r;cases r with
  |cons h t=>exact .cons (Wo h) (WI t)
abbrev KTd (H:Hp):List (List Key×V)→List (List Key×Addr×Value)→Prop:=Paired fun p q=>p.1=q.1∧H q.2.1=some (.tup (p.1.map kV))∧RelV p.2 q.2.2
theorem KTd.val{H:Hp}{kvs:List (List Key×V)}{xs:List (List Key×Addr×Value)}(r:KTd H kvs xs)(k:List Key):RelO (YG kvs k) ((atKey xs k).map (·.2)):=by
 induction r with
 |nil=>exact True.intro
 |@cons p q ps qs h t ih =>
  obtain⟨h1,_,h2⟩:=h;by_cases e:p.1=k
  ·have e':q.1=k:=h1.symm.trans e;have b:atKey (q::qs) k=some q.2:=by simp[atKey,List.find?_cons,e']
   rw[Ys e,b];exact h2
  ·have e':¬ q.1=k:=fun z=>e (h1.trans z);have b:atKey (q::qs) k=atKey qs k:=by simp[atKey,List.find?_cons,e']
   rw[Yw e,b];exact ih
theorem KTd.repl{H:Hp}{kvs:List (List Key×V)}{xs:List (List Key×Addr×Value)}(r:KTd H kvs xs)(k:List Key){y:V}{u:Value}(ry:RelV y u) :
  KTd H (kvs.map fun kv=>if kv.1=k then(kv.1,y)else kv) (xs.map (putAt k u)):=by
 induction r with
 |nil=>exact .nil
 |@cons p q ps qs h t ih =>
  rw[qG,qG];refine .cons ?_ ih;obtain⟨h1,h2,h3⟩:=h;unfold putAt;by_cases e:p.1=k
  ·rw[if_pos e,if_pos (h1.symm.trans e)];exact⟨h1,h2,ry⟩
  ·rw[if_neg e,if_neg (fun z=>e (h1.trans z))];exact⟨h1,h2,h3⟩
theorem KTd.put{H:Hp}{kvs:List (List Key×V)}{xs:List (List Key×Addr×Value)}(r:KTd H kvs xs)(k:List Key){b:Addr}{y:V}{u:Value}(hb:H b=some (.tup (k.map kV)))(ry:RelV y u) :
  KTd H (putK kvs k y) (storedH xs k b u):=by
 have e:(kvs.any fun kv=>decide (kv.1=k))=(atKey xs k).isSome:=by rw[Yy,(r.val k).isSome_eq,Option.isSome_map]
 unfold putK storedH;rw[e];by_cases q:(atKey xs k).isSome=true
 ·rw[if_pos q,if_pos q];exact r.repl k ry
 ·rw[if_neg q,if_neg q];exact Paired.snoc r ⟨rfl,hb,ry⟩
theorem KTd.keeps{H H':Hp}{kvs:List (List Key×V)}{xs:List (List Key×Addr×Value)}(r:KTd H kvs xs)(ht:∀ b ys,H b=some (.tup ys)→H' b=some (.tup ys)):KTd H' kvs xs :=
 Paired.mapP r fun _ _ z=>⟨z.1,ht _ _ z.2.1,z.2.2⟩
section
variable {P:Program}{w:World}{H:Hp}{h:Heap}{a:Addr}
theorem DX{u:HO}(ok:HOk P w H h)(e:Rd H a u):ObjOk P w H h a u:=e.ok ok
theorem XC{kvs:List (Key×V)}(ok:HOk P w H h)(e:Rd H a (.dK kvs)):kvs.length≤sizeLine∧(a==sysModules)=false∧∃ vs,KV kvs vs∧h.DictOf (Zn P w) a vs :=
 show ObjOk P w H h a (.dK kvs) from DX ok e
theorem Ui{kvs:List (Key×V)}(ok:HOk P w H h)(e:H a=some (.dK kvs)):kvs.length≤sizeLine∧(a==sysModules)=false∧∃ vs,KV kvs vs∧h.DictOf (Zn P w) a vs:=XC ok (.inl e)
theorem key_of{ks:List Key}(ok:HOk P w H h)(e:H a=some (.tup (ks.map kV))):(tupleKind (Zn P w)).is h ks a:=by
 obtain⟨_,its,r,o,h1,h2,n,h3⟩:=(show ObjOk P w H h a (.tup (ks.map kV)) from ok a _ e)
 exact⟨o,its.toArray,n,h1,h2,h3,by simpa using WI r⟩
theorem Ja{kvs:List (List Key×V)}(ok:HOk P w H h)(e:Rd H a (.dT kvs)):kvs.length≤sizeLine∧(a==sysModules)=false∧
  ∃ xs,KTd H kvs xs∧h.DictOfH (tupleKind (Zn P w)) a xs:=by
 obtain⟨z,y,xs,r,o,es,ep,h1,h2,h3,h4,h5⟩:=(show ObjOk P w H h a (.dT kvs) from DX ok e)
 refine⟨z,y,xs,r,o,es,ep,h1,h2,h3,h4,fun x hx=>?_,h5⟩;have all:∀ {l:List (List Key×V)}{m:List (List Key×Addr×Value)},KTd H l m→∀ x∈m,(tupleKind (Zn P w)).is h x.1 x.2.1:=by
  intro l m q;induction q with
  |nil=>intro x hx;exact nomatch hx
  |@cons p q ps qs hq t ih =>
   intro x hx;rcases qE.mp hx with e|hx
   ·subst e;exact key_of ok (by rw[←hq.1];exact hq.2.1)
   ·exact ih x hx
 exact all r x hx
theorem G7{kvs:List (List Key×V)}(ok:HOk P w H h)(e:H a=some (.dT kvs)):kvs.length≤sizeLine∧(a==sysModules)=false∧
  ∃ xs,KTd H kvs xs∧h.DictOfH (tupleKind (Zn P w)) a xs:=Ja ok (.inl e)
end
def DGet (H:Hp) (a:Addr) (y:V) (r:Option V):Prop :=
 (∃ kvs k,Rd H a (.dK kvs)∧y=kV k∧r=YG kvs k)∨∃ kvs k b,Rd H a (.dT kvs)∧y=.ref b∧H b=some (.tup (k.map kV))∧r=YG kvs k
def DPut (H:Hp) (a:Addr) (y v:V) (H':Hp):Prop :=
 (∃ kvs k,H a=some (.dK kvs)∧y=kV k∧kvs.length<sizeLine∧H'=upd H a (.dK (putK kvs k v)))∨
 ∃ kvs k b,H a=some (.dT kvs)∧y=.ref b∧H b=some (.tup (k.map kV))∧kvs.length<sizeLine∧H'=upd H a (.dT (putK kvs k v))
theorem DGet.k{H:Hp}{a:Addr}{kvs:List (Key×V)}{k:Key}(e:H a=some (.dK kvs)):DGet H a (kV k) (YG kvs k):=.inl ⟨kvs,k,.inl e,rfl,rfl⟩
theorem DGet.t{H:Hp}{a b:Addr}{kvs:List (List Key×V)}{k:List Key}(e:H a=some (.dT kvs))(eb:H b=some (.tup (k.map kV))):DGet H a (.ref b) (YG kvs k):=.inr ⟨kvs,k,b,.inl e,rfl,eb,rfl⟩
theorem DPut.k{H:Hp}{a:Addr}{kvs:List (Key×V)}{k:Key}{v:V}(e:H a=some (.dK kvs))(hl:kvs.length<sizeLine):DPut H a (kV k) v (upd H a (.dK (putK kvs k v))):=.inl ⟨kvs,k,e,rfl,hl,rfl⟩
theorem DPut.t{H:Hp}{a b:Addr}{kvs:List (List Key×V)}{k:List Key}{v:V}(e:H a=some (.dT kvs))(eb:H b=some (.tup (k.map kV)))(hl:kvs.length<sizeLine) :
  DPut H a (.ref b) v (upd H a (.dT (putK kvs k v))):=.inr ⟨kvs,k,b,e,rfl,eb,hl,rfl⟩
section
variable {X:Cx}{pins:List (Addr×Obj)}{σ:St}{H:Hp}{s:Shared}{a:Addr}{y v:V}{u r:Value}{o:Option V}{A:Around}{E:Value→Shared→Prop}
theorem Inv.big(I:Inv X pins σ H s):sysModules<s.heap.objs.size:=by have h:mainGlobals<s.heap.objs.size:=(I.mod.glob.keeps I.bk).lt;exact Nat.lt_trans (by decide) h
theorem Ou{Q:Value→Shared→Prop}(hu:A.units+1<cLine)(I:Inv X pins σ H s)(g:DGet H a y (some v))(ry:RelV y u)(h:∀ w' s',Inv X pins σ H s'→RelV v w'→Q w' s') :
  wpAny (model X.prog X.w) A (getItem (.ref a) u) Q E s:=by
 rcases g with⟨kvs,k,e,ey,l⟩|⟨kvs,k,b,e,ey,eb,l⟩
 ·subst ey;obtain⟨z,hd,vs,rel,dd⟩:=XC I.hok e;obtain⟨w',hw,rw'⟩:=RelO.some_of (v:=v) (o:=valueAt vs k) (by rw[l];exact rel.val k);exact wpAny_getItem_of (Wo ry) dd.mapOf hw (h w' _ (I.tok _) rw')
 ·subst ey;cases (show u=Value.ref b from ry);obtain⟨z,hd,xs,rel,dd⟩:=Ja I.hok e;obtain⟨w',hw,rw'⟩:=RelO.some_of (v:=v) (o:=(atKey xs k).map (·.2)) (by rw[l];exact rel.val k);obtain⟨p,hp,hp2⟩:=qD.mp hw;refine wpAny_getItem_heap (tupleKind_room_in1 hu) (key_of I.hok eb) dd hp ?_;rw[hp2];exact h w' _ (I.tok _) rw'
theorem L5{Q:Value→Shared→Prop}(hu:A.units+1<cLine)(I:Inv X pins σ H s)(g:DGet H a y o)(ry:RelV y u)(h:∀ s',Inv X pins σ H s'→Q (.bool o.isSome) s') :
  wpAny (model X.prog X.w) A (compareOp .In u (.ref a)) Q E s:=by
 rcases g with⟨kvs,k,e,ey,l⟩|⟨kvs,k,b,e,ey,eb,l⟩
 ·subst ey;obtain⟨z,hd,vs,rel,dd⟩:=XC I.hok e;refine wpAny_in_of (Wo ry) hd dd.mapOf ?_;rw[←(rel.val k).isSome_eq,←l];exact h _ (I.tok _)
 ·subst ey;cases (show u=Value.ref b from ry);obtain⟨z,hd,xs,rel,dd⟩:=Ja I.hok e;refine wpAny_in_heap (tupleKind_room_in1 hu) (key_of I.hok eb) hd dd ?_;have q:=(rel.val k).isSome_eq;rw[Option.isSome_map]at q;rw[←q,←l];exact h _ (I.tok _)
theorem BH{Q:Value→Shared→Prop}(hu:A.units+1<cLine)(I:Inv X pins σ H s)(g:DGet H a y o)(ry:RelV y u)(h:∀ s',Inv X pins σ H s'→Q (.bool (!o.isSome)) s') :
  wpAny (model X.prog X.w) A (compareOp .NotIn u (.ref a)) Q E s:=by
 rcases g with⟨kvs,k,e,ey,l⟩|⟨kvs,k,b,e,ey,eb,l⟩
 ·subst ey;obtain⟨z,hd,vs,rel,dd⟩:=XC I.hok e;refine wpAny_notIn_of (Wo ry) hd dd.mapOf ?_;rw[←(rel.val k).isSome_eq,←l];exact h _ (I.tok _)
 ·subst ey;cases (show u=Value.ref b from ry);obtain⟨z,hd,xs,rel,dd⟩:=Ja I.hok e;refine wpAny_notIn_heap (tupleKind_room_in1 hu) (key_of I.hok eb) hd dd ?_;have q:=(rel.val k).isSome_eq;rw[Option.isSome_map]at q;rw[←q,←l];exact h _ (I.tok _)
theorem Jx{h':Heap}{t':Nat}{ob:HO}(I:Inv X pins σ H s)(mu:Mut (H a))(hs:Heap.SameBut a s.heap h')(he:∃ q,h'.get? a=some q)(new:ObjOk X.prog X.w (upd H a ob) h' a ob) :
  Inv X pins σ (upd H a ob) {s with heap:=h',toks:=t'} :=
 I.write (x:=a) (e:=a) mu (.inl rfl) (fun b q hb z=>(hs.2 b hb).trans z) he new
theorem Uy{P:Program}{w:World}{H':Hp}{h':Heap}{kvs:List (Key×V)}{vs:List (Key×Value)}(z:kvs.length≤sizeLine)(hd:(a==sysModules)=false)(rel:KV kvs vs)(dd:h'.DictOf (Zn P w) a vs) :
  ObjOk P w H' h' a (.dK kvs):=⟨z,hd,vs,rel,dd⟩
theorem N8{H':Hp}{Q:Unit→Shared→Prop}(hu:A.units+1<cLine)(I:Inv X pins σ H s)(g:DPut H a y v H')(ry:RelV y u)(rv:RelV v r)(h:∀ s',Inv X pins σ H' s'→Q () s') :
  wpAny (model X.prog X.w) A (setItem (.ref a) u r) Q E s:=by
 rcases g with⟨kvs,k,e,ey,l,eH⟩|⟨kvs,k,b,e,ey,eb,l,eH⟩
 ·subst ey eH;obtain⟨z,hd,vs,rel,dd⟩:=Ui I.hok e;have hz:vs.length≤sizeLine:=by rw[←rel.length];exact z
  have hl:(putK kvs k v).length≤sizeLine:=by have:=Yx kvs k v;omega
  refine wpAny_setItem_pairs (hsz:=hz) (Wo ry) dd fun h' dd' hs=>h _ ?_;have he:∃ q,h'.get? a=some q:=let ⟨q,_,_,hq,_⟩:=dd';⟨q,hq⟩;exact Jx I (by rw[e];exact True.intro) hs he (Uy hl hd (rel.put k rv) dd')
 ·subst ey eH;cases (show u=Value.ref b from ry);obtain⟨z,hd,xs,rel,dd⟩:=G7 I.hok e;have hz:xs.length≤sizeLine:=by rw[←Paired.length rel];exact z
  have hl:(putK kvs k v).length≤sizeLine:=by have:=Yx kvs k v;omega
  refine wpAny_setItem_heap (hsz:=hz) (tupleKind_room_in1 hu) (key_of I.hok eb) dd fun h' dd' hs=>h _ ?_;obtain⟨q,es,ep,hq,h2,h3,h4,_,h5⟩:=dd';refine Jx I (by rw[e];exact True.intro) hs ⟨q,hq⟩ ⟨hl,hd,_,(rel.put k eb rv).keeps fun c ys ec=>?_,q,es,ep,hq,h2,h3,h4,h5⟩;rw[upd_ne (AE ec e (fun z=>nomatch z))];exact ec
end
section
variable {X:Cx}{pins:List (Addr×Obj)}{σ:St}{H:Hp}{s:Shared}{a:Addr}{kvs:List (Key×V)}{k:Key}{u:Value}{A:Around}{E:Value→Shared→Prop}
theorem GT {Q:Value→Shared→Prop}(I:Inv X pins σ H s) (e:Rd H a (.dK kvs)) (h:∀ t s',Inv X pins σ H s'→Q (.int kvs.length t) s'):wpAny (model X.prog X.w) A (call (.builtin "len") [.ref a]) Q E s:=by obtain⟨z,hd,vs,rel,dd⟩:=XC I.hok e;refine call_len_dict hd dd (by rw[←rel.length];rw[sizeLine_eq]at z;omega) ?_;rw[←rel.length];exact h _ _ (I.tok _)
end
theorem KG {X:Cx}{pins:List (Addr×Obj)}{σ:St}{H:Hp}{s:Shared}{a:Addr}{y:V}{o:Option V}(I:Inv X pins σ H s) (g:DGet H a y o):s.TypeIs (.ref a) "dict":=by
 rcases g with⟨kvs,k,e,_,_⟩|⟨kvs,k,b,e,_,_,_⟩
 ·obtain⟨_,_,vs,_,dd⟩:=XC I.hok e;exact dd.typeIs
 ·obtain⟨_,_,xs,_,dd⟩:=Ja I.hok e;exact dd.typeIs
theorem Kq {P:Program}{w:World}{H:Hp}(h:Heap) (hb:sysModules<h.objs.size):ObjOk P w H (h.push {cls:=.type "dict",data:=.dict #[]}) h.objs.size (.dK []) :=
 ⟨Nat.zero_le _,beq_eq_false_iff_ne.mpr (Ne.symm (zI hb)),[],.nil,Heap.DictOf.new h⟩
theorem AW {P:Program}{w:World}{H:Hp}(h:Heap) (hb:sysModules<h.objs.size):ObjOk P w H (h.push {cls:=.type "dict",data:=.dict #[]}) h.objs.size (.dT []) :=
 ⟨Nat.zero_le _,beq_eq_false_iff_ne.mpr (Ne.symm (zI hb)),[],.nil,_,#[],0,Heap.get?_push_size _ rfl,⟨rfl,rfl,rfl⟩,rfl,rfl,List.nodup_nil⟩
noncomputable def D8:TE:=fun _ H Q=>∀ p,H p=none→Q (.ref p) (upd H p (.dK []))
noncomputable def Fu:TE:=fun _ H Q=>∀ p,H p=none→Q (.ref p) (upd H p (.dT []))
section
variable {X:Cx}{pos:Pos}
theorem pe_dnewK:PE X (.Dict [] [] pos) D8:=fun pins s σ H Q I h =>
 wpAny_Dict_empty ⟨.ref s.heap.objs.size,_,I.laid (a:=s.heap.objs.size) (o:=.dK []) (t':=s.toks) (fun _ _ q=>Heap.get?_push_of_some _ q) (zJ _) (Kq s.heap I.big),rfl,h _ (I.hok.fresh (zJ _))⟩
theorem pe_dnewT:PE X (.Dict [] [] pos) Fu:=fun pins s σ H Q I h =>
 wpAny_Dict_empty ⟨.ref s.heap.objs.size,_,I.laid (a:=s.heap.objs.size) (o:=.dT []) (t':=s.toks) (fun _ _ q=>Heap.get?_push_of_some _ q) (zJ _) (AW s.heap I.big),rfl,h _ (I.hok.fresh (zJ _))⟩
end
def JP:List (TE×TE)→St→Hp→(List (V×V)→Hp→Prop)→Prop
 |[],_,H,Q=>Q [] H
 |(tk,tv)::r,σ,H,Q=>tk σ H fun x H1=>tv σ H1 fun y H2=>JP r σ H2 fun ps H3=>Q ((x,y)::ps) H3
abbrev VV:List (V×V)→List (Value×Value)→Prop:=Paired fun p q=>RelV p.1 q.1∧RelV p.2 q.2
def PPs (X:Cx) (pos:Pos) (keys:List (Option Expr)) (values:List Expr) (trs:List (TE×TE)):Prop :=
 ∀ (pins:List (Addr×Obj)) (s:Shared) (σ:St) (H:Hp) (Q:List (V×V)→Hp→Prop),Inv X pins σ H s→JP trs σ H Q→
  wpAny (model X.prog X.w) X.A (evalPairs (pairTrees keys values X.env pos)) (fun vs s'=>∃ ps H',Inv X pins σ H' s'∧VV ps vs∧Q ps H') X.xe s
theorem CQ{X:Cx}{pos:Pos}:PPs X pos [] [] []:=fun pins s σ H Q I h=>pairTrees_nil_walk ⟨[],H,I,.nil,h⟩
theorem U8{X:Cx}{pos:Pos}{k v:Expr}{ks:List (Option Expr)}{vs:List Expr}{tk tv:TE}{trs:List (TE×TE)}(hk:PE X k tk)(hv:PE X v tv)(hr:PPs X pos ks vs trs) :
  PPs X pos (some k::ks) (v::vs) ((tk,tv)::trs):=fun pins s σ H Q I h =>
 pairTrees_cons_walk (thn (hk pins s σ H _ I h) fun u s1 ⟨x,H1,I1,rx,q1⟩=>thn (hv pins s1 σ H1 _ I1 q1) fun w2 s2 ⟨y,H2,I2,ry,q2⟩ =>
   thn (hr pins s2 σ H2 _ I2 q2) fun ws s3 ⟨ps,H3,I3,rel,q3⟩=>⟨(x,y)::ps,H3,I3,.cons ⟨rx,ry⟩ rel,q3⟩)
noncomputable def Yz (kvs more:List (Key×V)):List (Key×V):=more.foldl (fun acc kv=>putK acc kv.1 kv.2) kvs
theorem KV.merge:∀ {more:List (Key×V)}{rs:List (Key×Value)}{kvs:List (Key×V)}{vs:List (Key×Value)},KV more rs→KV kvs vs→KV (Yz kvs more) (merged vs rs):=by
 intro more rs kvs vs r;unfold KV at r;induction r generalizing kvs vs with
 |nil=>intro q;exact q
 |@cons p q ps qs h t ih =>
  intro r0;have e:KV (putK kvs p.1 p.2) (stored vs q.1 q.2):=by have:=r0.put p.1 h.2;rw[←h.1];exact this
  exact ih e
theorem YK:∀ (more kvs:List (Key×V)),(Yz kvs more).length≤kvs.length+more.length
 |[],kvs=>by show kvs.length≤kvs.length+0;omega
 |p::r,kvs=>by have h1:=YK r (putK kvs p.1 p.2);have h2:=Yx kvs p.1 p.2;show(Yz (putK kvs p.1 p.2) r).length≤_;rw[qB];omega
theorem Wl{P:Program}{w:World}:∀ {kvs:List (Key×V)}{ws:List (Value×Value)},VV (kvs.map fun kv=>(kV kv.1,kv.2)) ws→∃ rs,Carries (Zn P w) ws rs∧KV kvs rs
 |[],_,r=>by rw[List.map_nil]at r;cases r;exact⟨[],True.intro,.nil⟩
 |p::kvs,_,r=>by
  rw[qG]at r;cases r with
  |@cons a b as bs h t =>obtain⟨rs,c,q⟩:=Wl (P:=P) (w:=w) t;obtain⟨b1,b2⟩:=b;exact⟨(p.1,b2)::rs,⟨Wo h.1,rfl,c⟩,.cons ⟨rfl,h.2⟩ q⟩
noncomputable def GE (trs:List (TE×TE)):TE:=fun σ H Q=>∀ p,H p=none→JP trs σ (upd H p (.dK [])) fun ps H2=>H2 p=some (.dK [])∧∃ kvs:List (Key×V),ps=kvs.map (fun kv=>(kV kv.1,kv.2))∧kvs.length≤15∧Q (.ref p) (upd H2 p (.dK (Yz [] kvs)))
theorem BF{X:Cx}{pos:Pos}{keys:List (Option Expr)}{values:List Expr}{trs:List (TE×TE)}(h:PPs X pos keys values trs)(hall:keys.all (·.isSome)=true)(hl:keys.length=values.length)(h0:keys≠[])
  (h15:keys.length≤15):PE X (.Dict keys values pos) (GE trs):=by
 intro pins s σ H Q I q;have hn:=I.hok.fresh (zJ s.heap.objs.size);have I1:=I.laid (a:=s.heap.objs.size) (o:=.dK []) (h':=s.heap.push {cls:=.type "dict",data:=.dict #[]}) (t':=s.toks) (fun _ _ q=>Heap.get?_push_of_some _ q) (zJ _) (Kq s.heap I.big);refine wpAny_Dict_walk (knd:=Zn X.prog X.w) hall hl h0 h15 (thn (h pins _ σ _ _ I1 (q _ hn)) fun ws s2 ⟨ps,H2,I2,rel,e,kvs,ep,lk,q2⟩=>?_);subst ep;obtain⟨rs,c,rk⟩:=Wl (P:=X.prog) (w:=X.w) rel;obtain⟨z,hd,vs0,r0,dd⟩:=Ui I2.hok e;cases r0;refine⟨rs,c,dd,fun h' dd' hs=>⟨.ref s.heap.objs.size,_,?_,rfl,q2⟩⟩;have hz:(Yz [] kvs).length≤sizeLine:=by have h1:=YK kvs [];rw[List.length_nil]at h1;rw[sizeLine_eq];omega
 have he:∃ q,h'.get? s.heap.objs.size=some q:=let ⟨q,_,_,hq,_⟩:=dd';⟨q,hq⟩;exact Jx I2 (by rw[e];exact True.intro) hs he (Uy hz hd (rk.merge .nil) dd')
section
variable {X:Cx}{pins:List (Addr×Obj)}{σ:St}{H:Hp}{s:Shared}{a:Addr}{y d:V}{u r:Value}{o:Option V}{A:Around}{E:Value→Shared→Prop}
theorem Fg{Q:Value→Shared→Prop}(hu:A.units+1<cLine)(I:Inv X pins σ H s)(g:DGet H a y o)(ry:RelV y u)(rd:RelV d r)(h:∀ w' s',Inv X pins σ H s'→RelV (o.getD d) w'→Q w' s') :
  wpAny (model X.prog X.w) A (call (.builtin "dict.get") [.ref a,u,r]) Q E s:=by
 rcases g with⟨kvs,k,e,ey,l⟩|⟨kvs,k,b,e,ey,eb,l⟩
 ·subst ey;obtain⟨z,hd,vs,rel,dd⟩:=XC I.hok e;refine call_meetsIn PySem.F.slot_dict_get dd.typeIs PySem.F.entry_dict_get (PySem.F.args_dict_get_3 _ _ _) (meets_dict_get_default (Zn X.prog X.w) a (Wo ry) hd r) ⟨_,dd.mapOf,h _ _ (I.tok _) ?_⟩;rw[l];exact(rel.val k).getD rd
 ·subst ey;cases (show u=Value.ref b from ry);obtain⟨z,hd,xs,rel,dd⟩:=Ja I.hok e;refine call_meetsIn PySem.F.slot_dict_get dd.typeIs PySem.F.entry_dict_get (PySem.F.args_dict_get_3 _ _ _) (meetsH_dict_get_default (tupleKind (Zn X.prog X.w)) a b hd r) ⟨tupleKind_room_in1 hu,k,xs,key_of I.hok eb,dd,h _ _ (I.tok _) ?_⟩;rw[l];exact(rel.val k).getD rd
end
section
variable {X:Cx}
theorem Oi:CallR X (.builtin "len") (fun xs H Q=>∃ a kvs,xs=[V.ref a]∧H a=some (.dK kvs)∧Q (.int kvs.length) H):=by intro pins s σ H xs us Q I r h;obtain⟨a,kvs,rfl,ha,q⟩:=h;obtain⟨u,rfl,ru⟩:=ZJ r;cases ru;exact GT I (.inl ha) fun t s' I'=>⟨.int kvs.length,H,I',⟨t,rfl⟩,q⟩
end
end L2
namespace Own
noncomputable abbrev Ad:=Nat
inductive Val where
 |non|bl (b:Bool)|int (i:Int)|str (s:String)|tup (xs:List Val)|ref (a:Ad)|scr (ns:List Int)|key (i j:Int)
 deriving Inhabited
mutual
noncomputable def Val.eqb:Val→Val→Bool
 |.non,.non=>true
 |.bl a,.bl b=>a==b
 |.int a,.int b=>a==b
 |.str a,.str b=>a==b
 |.tup a,.tup b=>Val.eqs a b
 |.ref a,.ref b=>a==b
 |.scr a,.scr b=>a==b
 |.key a b,.key c d=>a==c&&b==d
 |_,_=>false
noncomputable def Val.eqs:List Val→List Val→Bool
 |[],[]=>true
 |x::xs,y::ys=>Val.eqb x y&&Val.eqs xs ys
 |_,_=>false
end
mutual
theorem Val.eqb_iff:∀ {a b:Val},Val.eqb a b=true↔a=b
 |.non,b=>by cases b<;>simp[Val.eqb]
 |.bl _,b=>by cases b<;>simp[Val.eqb]
 |.int _,b=>by cases b<;>simp[Val.eqb]
 |.str _,b=>by cases b<;>simp[Val.eqb]
 |.tup _,b=>by cases b<;>simp[Val.eqb,Val.eqs_iff]
 |.ref _,b=>by cases b<;>simp[Val.eqb]
 |.scr _,b=>by cases b<;>simp[Val.eqb]
 |.key _ _,b=>by cases b<;>simp[Val.eqb]
theorem Val.eqs_iff:∀ {a b:List Val},Val.eqs a b=true↔a=b
 |[],b=>by cases b<;>simp[Val.eqs]
 |_::_,b=>by cases b<;>simp[Val.eqs,Val.eqb_iff,Val.eqs_iff]
end
noncomputable instance:DecidableEq Val:=fun a b=>if h:Val.eqb a b=true then isTrue (Val.eqb_iff.mp h)else isFalse fun e=>h (Val.eqb_iff.mpr e)
inductive Ob where
 |lst (xs:List Val)|dct (kvs:List (Val×Val))|ins (C:String) (fs:List (String×Val))|exc (C:String)|frz (kvs:List (Val×Val))|dtp (kvs:List (Val×Val))
 deriving Inhabited
noncomputable def DM (sep:List Char):List (List Char)→List Char
 |[]=>[]
 |[x]=>x
 |x::y::r=>x++(sep++DM sep (y::r))
noncomputable def DJ (sep:String) (xs:List String):String:=String.ofList (DM sep.toList (xs.map String.toList))
noncomputable def MC (c:Char):List Char→List (List Char)
 |[]=>[[]]
 |x::xs=>if x=c then []::MC c xs else match MC c xs with
  |[]=>[[x]]
  |y::ys=>(x::y)::ys
noncomputable def Mx (c:Char) (s:String):List String:=(MC c s.toList).map String.ofList
noncomputable def figB (c:Char):Bool:=decide (48≤c.toNat)&&decide (c.toNat≤57)
noncomputable def decN (l:List Char):Nat:=l.foldl (fun a c=>10*a+(c.toNat - 48)) 0
noncomputable def O0:List Val→Option (List String)
 |[]=>some []
 |.str s::xs=>(O0 xs).map (s :: ·)
 |_=>none
noncomputable def Xy:Val→Option String
 |.str s=>some s
 |_=>none
noncomputable def oneC (s:String):Option Char:=match s.toList with
 |[c]=>some c
 |_=>none
noncomputable def M9 (i:Int):String:=toString i
noncomputable def fmtV:Val→Option String
 |.str s=>some s
 |.int i=>if i.natAbs<10 ^ 200 then some (M9 i)else none
 |_=>none
noncomputable abbrev Hs:=Ad→Option Ob
@[irreducible] noncomputable def upd (h:Hs) (a:Ad) (o:Ob):Hs:=fun b=>if b=a then some o else h b
theorem upd_same{h:Hs}{a:Ad}{o:Ob}:upd h a o a=some o:=by simp[upd]
theorem upd_ne{h:Hs}{a b:Ad}{o:Ob}(e:b≠a):upd h a o b=h b:=by simp[upd,e]
theorem upd_upd{h:Hs}{a:Ad}{o u:Ob}:upd (upd h a o) a u=upd h a u:=by funext b;simp only[upd];split<;>rfl
noncomputable abbrev Env:=List (Option Val)
noncomputable abbrev Q1:=Val→Hs→Prop
noncomputable abbrev XQ:=String→Hs→Prop
noncomputable abbrev Fs:=String→List Val→Hs→Q1→XQ→Prop
noncomputable def lim:Nat:=1000000
@[irreducible] noncomputable def go {α:Type}(o:Option α) (k:α→Prop):Prop:=match o with|some a=>k a|none=>False
@[simp] theorem go_some{α:Type}{a:α}{k:α→Prop}:go (some a) k=k a:=by unfold go;rfl
@[simp] theorem II{α:Type}{k:α→Prop}:go none k=False:=by unfold go;rfl
theorem go_of{α:Type}{o:Option α}{a:α}{k:α→Prop}(e:o=some a)(h:k a):go o k:=by rw[e,go_some];exact h
inductive Bop where|add|sub|mul|fdiv|mod|pow
inductive Cop where|eq|ne|lt|le|gt|ge|isin|notin|is|isnot|nes|eqE|neE|ntT|neX
inductive Bi where
 |len|int|str|bool|abs|min2|max2|minL|maxL|minD|sum|all|any|sorted|sortedI|sortedSet|lenSet|list|tuple|dict|isi (Ts:List String)|isx (Ts:List String)|repr|listRev|listRange|tupRange|dictEnum
inductive Bm where
 |append|extend|pop|popAt|insert|remove|clear|reverse|index|count|dget|dgetD|dpop|dpopD|setdefault|join|split|replace|upper|partition|sidx
inductive Pt where|one (i:Nat)|many (is:List Nat)|nest (i:Nat) (is:List Nat)
mutual
inductive E where
 |cst (v:Val)|var (i:Nat)|glob (x:String) (v:Val)
 |bin (op:Bop) (a b:E)|neg (a:E)|not (a:E)|and (a b:E)|or (a b:E)
 |cmp (op:Cop) (a b:E)|chain (o1 o2:Cop) (a b c:E)
 |call (f:String) (as:Es)|make (C:String) (as:Es)|meth (C m:String) (o:E) (as:Es)|fld (o:E) (f:String)
 |bi (f:Bi) (as:Es)|bm (m:Bm) (o:E) (as:Es)
 |idx (a i:E)|slc (a:E) (lo hi:Oe)|rev (a:E)
 |tup (es:Es)|lst (es:Es)|dct (es:Es)
 |ife (c:Tt) (a b:E)
 |comp (caps:List Nat) (n:Nat) (p:Pt) (it:It) (c:Tt) (e:E)
 |fstr (es:Es)
 |split (o a:E)
 |repl (o:E) (y z:String)
 |key (es:Es)|dctP
inductive Es where|nil|cons (e:E) (es:Es)
inductive Oe where|none|some (e:E)
inductive Tt where|yes|val (e:E)|not (t:Tt)|and (a b:Tt)|or (a b:Tt)
inductive It where
 |seq (e:E)|chars (e:E)|range (a:E)|range2 (a b:E)|enum (e:E)|zip (a b:E)|items (e:E)|rev (e:E)
end
mutual
inductive S where
 |set (p:Pt) (e:E)|setIdx (a i e:E)|setFld (o:E) (f:String) (e:E)
 |augVar (i:Nat) (op:Bop) (e:E)|augFld (o:E) (f:String) (op:Bop) (n:Int)|augIdx (a i:E) (op:Bop) (n:Int)
 |setPair (a i b j e:E)
 |expr (e:E)|ret (e:E)|retN|ite (c:Tt) (a b:Ss)|whl (c:Tt) (b:Ss)|for (p:Pt) (it:It) (b:Ss)|forI (k:Bool) (p:Pt) (e:E) (b:Ss)
 |never|brk|cnt|pass|raise (C:String) (as:Es)|try (t:Option Nat) (e:E) (hs:Hn)
inductive Ss where|nil|cons (s:S) (ss:Ss)
inductive Hn where|nil|cons (C:String) (n:Option Nat) (b:Ss) (r:Hn)
end
noncomputable def ixN (n:Nat) (i:Int):Option Nat:=if 0≤i then(if i<n then some i.toNat else none)else if -(n:Int)≤i then some (i+n).toNat else none
noncomputable def atI {α:Type}(xs:List α) (i:Int):Option α:=(ixN xs.length i).bind fun j=>xs[j]?
noncomputable def cutAt (n d:Nat):Option Int→Nat
 |none=>d
 |some i=>if 0≤i then min i.toNat n else(i+n).toNat
noncomputable def cut {α:Type}(xs:List α) (lo hi:Option Int):List α:=(xs.drop (cutAt xs.length 0 lo)).take (cutAt xs.length xs.length hi - cutAt xs.length 0 lo)
noncomputable def lsOf:Option Ob→Option (List Val)
 |some (.lst xs)=>some xs
 |_=>none
@[simp] theorem ZX{xs:List Val}:lsOf (some (.lst xs))=some xs:=rfl
noncomputable def Y7 (h:Hs):Val→Option (List Val)
 |.ref a=>lsOf (h a)
 |.tup xs=>some xs
 |.scr ns=>some (ns.map .int)
 |_=>none
noncomputable def dcOf:Option Ob→Option (List (Val×Val))
 |some (.dct kvs)=>some kvs
 |_=>none
noncomputable def lookK (kvs:List (Val×Val)) (k:Val):Option Val:=(kvs.find? fun p=>p.1==k).map (·.2)
noncomputable def hasK (kvs:List (Val×Val)) (k:Val):Bool:=kvs.any fun p=>p.1==k
noncomputable def putK (kvs:List (Val×Val)) (k v:Val):List (Val×Val):=if hasK kvs k then kvs.map fun p=>if p.1==k then(k,v)else p else kvs++[(k,v)]
noncomputable def dropK (kvs:List (Val×Val)) (k:Val):List (Val×Val):=kvs.filter fun p=>!(p.1==k)
noncomputable def isKey:Val→Bool
 |.int _=>true
 |.str _=>true
 |_=>false
inductive D where
 |non|bl (b:Bool)|int (i:Int)|str (s:String)|tup (ds:List D)|lst (ds:List D)
 deriving Inhabited
mutual
noncomputable def D.eqv:D→D→Bool
 |.non,.non=>true
 |.bl a,.bl b=>a==b
 |.bl a,.int i=>(if a then 1 else 0)==i
 |.int i,.bl a=>i==(if a then 1 else 0)
 |.int a,.int b=>a==b
 |.str a,.str b=>a==b
 |.tup a,.tup b=>D.eqvs a b
 |.lst a,.lst b=>D.eqvs a b
 |_,_=>false
noncomputable def D.eqvs:List D→List D→Bool
 |[],[]=>true
 |x::xs,y::ys=>D.eqv x y&&D.eqvs xs ys
 |_,_=>false
end
noncomputable def dat (h:Hs):Nat→Val→Option D
 |_,.non=>some .non
 |_,.bl b=>some (.bl b)
 |_,.int i=>some (.int i)
 |_,.str s=>some (.str s)
 |0,_=>none
 |n+1,.tup xs=>(xs.mapM (dat h n)).map .tup
 |n+1,.ref a=>(lsOf (h a)).bind fun xs=>(xs.mapM (dat h n)).map .lst
 |n+1,.scr ns=>some (.lst (ns.map .int))
 |_+1,.key _ _=>none
noncomputable def deep:Nat:=12
noncomputable def eqV (h:Hs) (v u:Val):Option Bool:=(dat h deep v).bind fun d=>(dat h deep u).map fun e=>D.eqv d e
noncomputable def intsOf:List Val→Option (List Int)
 |[]=>some []
 |.int i::xs=>(intsOf xs).map (i :: ·)
 |_=>none
noncomputable def lexI:List Int→List Int→Bool
 |[],[]=>false
 |[],_::_=>true
 |_::_,[]=>false
 |x::xs,y::ys=>if x=y then lexI xs ys else decide (x<y)
noncomputable def ltV:Val→Val→Option Bool
 |.int i,.int j=>some (decide (i<j))
 |.tup xs,.tup ys=>(intsOf xs).bind fun ns=>(intsOf ys).map fun ms=>lexI ns ms
 |_,_=>none
noncomputable def inL (h:Hs) (x:Val) (ys:List Val):Option Bool:=(dat h deep x).bind fun d=>(ys.mapM (dat h (deep - 1))).map fun ds=>ds.any fun e=>D.eqv e d
noncomputable def leV:Val→Val→Option Bool
 |.int i,.int j=>some (decide (i≤j))
 |_,_=>none
noncomputable def isKeyT:Val→Bool
 |.key _ _=>true
 |_=>false
noncomputable def inV (h:Hs) (v u:Val):Option Bool:=match u with
 |.tup xs=>inL h v xs
 |.ref a=>match h a with
  |some (.lst xs)=>inL h v xs
  |some (.dct kvs)=>if isKey v then some (hasK kvs v)else none
  |some (.frz kvs)=>if isKey v then some (hasK kvs v)else none
  |some (.dtp kvs)=>if isKeyT v then some (hasK kvs v)else none
  |_=>none
 |.str t=>(match v with|.str s=>(oneC s).map fun c=>decide (c∈t.toList)|_=>none)
 |_=>none
noncomputable def isV (v u:Val):Option Bool:=match u with
 |.non=>some (decide (v=.non))
 |.bl b=>some (decide (v=.bl b))
 |_=>none
noncomputable def samL (f:Val→Val→Bool):List Val→List Val→Bool
 |[],[]=>true
 |x::xs,y::ys=>f x y&&samL f xs ys
 |_,_=>false
noncomputable def sam (h:Hs):Nat→Val→Val→Bool
 |_,.non,.non=>true
 |_,.bl a,.bl b=>a==b
 |_,.int a,.int b=>a==b
 |_,.str a,.str b=>a==b
 |0,.ref a,.ref b=>a==b
 |n+1,.tup xs,.tup ys=>samL (sam h n) xs ys
 | n+1,.ref a,.ref b=>a == b||(match lsOf (h a),lsOf (h b)with
   |some xs,some ys=>samL (sam h n) xs ys
   | _,_=>false)
 |_,_,_=>false
noncomputable def asLst (h:Hs):Val→Option (List Val)
 |.ref a=>lsOf (h a)
 |_=>none
noncomputable def noPairs:Option Ob→Bool
 |some (.dct [])=>true
 |_=>false
noncomputable def sam0 (h:Hs) (v u:Val):Bool:=(match asLst h v,asLst h u with
    |some xs,some ys=>samL (sam h 8) xs ys
    |_,_=>false)||(match v,u with
    |.ref a,.ref b=>a==b&&noPairs (h a)
    | _,_=>false)
noncomputable def cmpV (h:Hs) (op:Cop) (v u:Val):Option Bool:=match op with
 |.eq=>eqV h v u
 |.ne=>(eqV h v u).map (!·)
 |.lt=>ltV v u
 |.gt=>ltV u v
 |.le=>leV v u
 |.ge=>leV u v
 |.isin=>inV h v u
 |.notin=>(inV h v u).map (!·)
 |.is=>isV v u
 |.isnot=>(isV v u).map (!·)
 |.nes=>(asLst h v).bind fun xs=>(asLst h u).bind fun ys=>if samL (sam h 8) xs ys then some false else none
 |.eqE=>(asLst h v).bind fun xs=>(asLst h u).bind fun ys=>if ys.isEmpty then some xs.isEmpty else none
 |.neE=>(asLst h v).bind fun xs=>(asLst h u).bind fun ys=>if ys.isEmpty then some (!xs.isEmpty)else none
 |.neX=>if sam0 h v u=true then some false else(eqV h v u).map (!·)
 |.ntT=>match v,u with
  |.bl a,.bl b=>some (a != b)
  |_,_=>none
noncomputable def YQ (h:Hs):Val→Option Bool
 |.bl b=>some b
 |.int i=>some (decide (i≠0))
 |.non=>some false
 |.str s=>if s.length≤lim then some (decide (s.length≠0))else none
 |.tup xs=>some (!xs.isEmpty)
 |.scr ns=>some (!ns.isEmpty)
 |.ref a=>match h a with
  |some (.lst xs)=>some (!xs.isEmpty)
  |some (.dct kvs)=>some (!kvs.isEmpty)
  |_=>none
 |.key _ _=>none
def mulOk (i j:Int):Prop:=(i.natAbs<2 ^ 64∨j.natAbs<2 ^ 64)∨(i.natAbs≤10 ^ 200∧j.natAbs≤10 ^ 200)
instance (i j:Int):Decidable (mulOk i j):=inferInstanceAs (Decidable (_∨_))
@[irreducible] noncomputable def new (h:Hs) (o:Ob) (Q:Q1):Prop:=∀ p,h p=none→Q (.ref p) (upd h p o)
theorem Ut{h:Hs}{o:Ob}{Q:Q1}(q:∀ p,h p=none→Q (.ref p) (upd h p o)):new h o Q:=by unfold new;exact q
inductive Rs where|val (v:Val)|new (o:Ob)|no
@[irreducible] noncomputable def Rs.wp (r:Rs) (h:Hs) (Q:Q1):Prop:=match r with|.val v=>Q v h|.new o=>Own.new h o Q|.no=>False
@[simp] theorem Rs.wp_val{v:Val}{h:Hs}{Q:Q1}:(Rs.val v).wp h Q=Q v h:=by unfold Rs.wp;rfl
@[simp] theorem Rs.wp_new{o:Ob}{h:Hs}{Q:Q1}:(Rs.new o).wp h Q=Own.new h o Q:=by unfold Rs.wp;rfl
@[simp] theorem Rs.wp_no{h:Hs}{Q:Q1}:Rs.no.wp h Q=False:=by unfold Rs.wp;rfl
noncomputable def Rs.ofO:Option Val→Rs
 |some v=>.val v
 |none=>.no
noncomputable def Rs.lst (xs:List Val):Rs:=if xs.length≤lim then .new (.lst xs)else .no
noncomputable def addV (h:Hs):Val→Val→Rs
 |.int i,.int j=>.val (.int (i+j))
 |.str s,.str t=>if s.length+t.length≤lim then .val (.str (s++t))else .no
 |.tup xs,.tup ys=>if xs.length+ys.length≤lim then .val (.tup (xs++ys))else .no
 |.ref a,.ref b=>match h a,h b with
  |some (.lst xs),some (.lst ys)=>Rs.lst (xs++ys)
  |_,_=>.no
 |_,_=>.no
noncomputable def repT (s:String) (n:Nat):String:=String.ofList (List.replicate n s.toList).flatten
noncomputable def mulV (h:Hs):Val→Val→Rs
 |.int i,.int j=>if mulOk i j then .val (.int (i*j))else .no
 |.ref a,.int k=>match h a with
  |some (.lst xs)=>if -(2 ^ 62)<k∧k<2 ^ 62∧xs.length*k.toNat≤lim then Rs.lst (List.replicate k.toNat xs).flatten else .no
  |_=>.no
 |.str s,.int k=>if 2≤k∧k≤1000000∧1≤s.length∧s.length*k.toNat≤lim then .val (.str (repT s k.toNat))else .no
 |_,_=>.no
noncomputable def intV (f:Int→Int→Rs):Val→Val→Rs
 |.int i,.int j=>f i j
 |_,_=>.no
noncomputable def binV (h:Hs) (op:Bop) (v u:Val):Rs:=match op with
 |.add=>addV h v u
 |.sub=>intV (fun i j=>.val (.int (i - j))) v u
 |.mul=>mulV h v u
 |.fdiv=>intV (fun i j=>if 0<j∧j<1073741824 then .val (.int (i / j))else .no) v u
 |.mod=>intV (fun i j=>if 0<j then .val (.int (i % j))else .no) v u
 |.pow=>intV (fun i j=>if 0≤j∧j≤1000000∧i.natAbs<2 ^ 64 then .val (.int (i ^ j.toNat))else .no) v u
noncomputable def asInt:Val→Option Int
 |.int i=>some i
 |_=>none
noncomputable def idxV (h:Hs):Val→Val→Option Val
 |.tup xs,.int k=>atI xs k
 |.str s,.int k=>if s.length≤lim then(atI s.toList k).map fun c=>.str (String.singleton c)else none
 |.ref a,k=>match h a with
  |some (.lst xs)=>(asInt k).bind (atI xs)
  |some (.dct kvs)=>if isKey k then lookK kvs k else none
  |some (.frz kvs)=>if isKey k then lookK kvs k else none
  |some (.dtp kvs)=>if isKeyT k then lookK kvs k else none
  |_=>none
 |.scr ns,.int i=>atI (ns.map .int) i
 |_,_=>none
noncomputable def slcV (h:Hs) (v:Val) (lo hi:Option Int):Rs :=
 match v with
 |.tup xs=>if cutAt xs.length 0 lo=0∧cutAt xs.length xs.length hi=xs.length then .no else .val (.tup (cut xs lo hi))
 |.ref a=>match lsOf (h a)with
  |some xs=>.new (.lst (cut xs lo hi))
  |none=>.no
 |.scr ns=>.new (.lst (cut (ns.map .int) lo hi))
 |.str s=>if s.length≤lim then .val (.str (String.ofList (cut s.toList lo hi)))else .no
 |_=>.no
noncomputable def sortI (ns:List Int):List Int:=ns.mergeSort fun a b=>decide (a≤b)
noncomputable def blsOf:List Val→Option (List Bool)
 |[]=>some []
 |.bl b::xs=>(blsOf xs).map (b :: ·)
 |_=>none
noncomputable def minL:List Val→Option Val
 |[]=>none
 |x::xs=>xs.foldl (fun m y=>m.bind fun b=>(ltV y b).map fun c=>if c then y else b) (some x)
noncomputable def maxL:List Val→Option Val
 |[]=>none
 |x::xs=>xs.foldl (fun m y=>m.bind fun b=>(ltV b y).map fun c=>if c then y else b) (some x)
noncomputable def dedup:List Int→List Int
 |[]=>[]
 |x::xs=>x::(dedup xs).filter (· != x)
noncomputable def excSub (c d:String):Bool:=c==d||d == "ShutError" || d == "ValueError" || d == "Exception"
noncomputable def kindV (h:Hs):Val→Option String
 |.non=>some "NoneType"
 |.bl _=>some "bool"
 |.int _=>some "int"
 |.str _=>some "str"
 |.tup _=>some "tuple"
 |.scr _=>some "list"
 |.ref a=>match h a with
  |some (.lst _)=>some "list"
  |some (.dct _)=>some "dict"
  |_=>none
 |.key _ _=>none
noncomputable def isiV (h:Hs) (v:Val) (T:String):Option Bool:=(kindV h v).map fun t=>t==T||(t == "bool" && T == "int")
noncomputable def Ik:Option Ob→Option String
 |some (.exc c)=>some c
 |_=>none
noncomputable def Ph (h:Hs):Val→Option String
 |.ref a=>Ik (h a)
 |_=>none
noncomputable def isiAny (h:Hs) (v:Val):List String→Option Bool
 |[]=>some false
 |T::Ts=>(isiV h v T).bind fun b=>(isiAny h v Ts).map (b || ·)
noncomputable def Nh (h:Hs):List Val→Option (List (Val×Val))
 |[]=>some []
 |v::vs=>match v with
  |.tup [k,x]=>if isKey k then(Nh h vs).map ((k,x) :: ·)else none
  |_=>none
noncomputable def pairUp:List Val→Option (List (Val×Val))
 |[]=>some []
 |k::v::r=>if isKey k then(pairUp r).map ((k,v) :: ·)else none
 |_=>none
noncomputable def putAll (kvs:List (Val×Val)):List (Val×Val)→List (Val×Val)
 |[]=>kvs
 |(k,v)::r=>putAll (putK kvs k v) r
noncomputable def lenV (h:Hs):Val→Rs
 |.ref a=>match h a with
  |some (.lst xs)=>.val (.int xs.length)
  |some (.dct kvs)=>.val (.int kvs.length)
  |_=>.no
 |.tup xs=>.val (.int xs.length)
 |.scr ns=>.val (.int ns.length)
 |.str s=>if s.length≤lim then .val (.int s.length)else .no
 |_=>.no
noncomputable def Gr:Val→Rs
 |.int i=>.val (.int i)
 |.bl b=>.val (.int (if b then 1 else 0))
 |.str s=>if s.length≤640∧s.toList≠[]∧s.toList.all figB=true then .val (.int (decN s.toList))else .no
 |_=>.no
noncomputable def FX:Val→Rs
 |.bl b=>.val (.bl b)
 |_=>.no
noncomputable def Gx:Val→Rs
 |.str s=>.val (.str s)
 |.int i=>if i.natAbs<10 ^ 200 then .val (.str (M9 i))else .no
 |_=>.no
noncomputable def absV:Val→Rs
 |.int i=>.val (.int (if i<0 then -i else i))
 |_=>.no
noncomputable def biOf1 (f:Val→Rs):List Val→Rs
 |[v]=>f v
 |_=>.no
noncomputable def biOf2 (f:Val→Val→Rs):List Val→Rs
 |[v,u]=>f v u
 |_=>.no
noncomputable def rowsOf:List Val→Option (List (List Int))
 |[]=>some []
 |.tup xs::r=>(intsOf xs).bind fun ns=>(rowsOf r).map (ns :: ·)
 |_=>none
noncomputable def minR (b:List Int):List (List Int)→List Int
 |[]=>b
 |y::r=>minR (if lexI y b then y else b) r
noncomputable def biMinD (h:Hs) (v:Val):Rs:=match v with
 |.ref a=>match (lsOf (h a)).bind rowsOf with
  |some []=>.val .non
  |some (x::r)=>.val (.tup ((minR x r).map .int))
  |none=>.no
 |_=>.no
noncomputable def min2V:Val→Val→Rs
 |.int i,.int j=>.val (.int (if j<i then j else i))
 |.tup xs,.tup ys=>match intsOf xs,intsOf ys with
  |some ns,some ms=>.val (if lexI ms ns=true then .tup ys else .tup xs)
  |_,_=>.no
 |_,_=>.no
noncomputable def Li (h:Hs):Val→Rs
 |.ref a=>.ofO ((lsOf (h a)).bind fun xs=>(blsOf xs).map fun bs=>.bl (bs.any id))
 |_=>.no
noncomputable def Lz (h:Hs):Val→Rs
 |.ref a=>.ofO ((lsOf (h a)).bind fun xs=>(blsOf xs).map fun bs=>.bl (bs.all id))
 |_=>.no
noncomputable def sortOf (h:Hs):Val→Option (List Int)
 |.ref a=>(lsOf (h a)).bind intsOf
 |.scr ns=>some ns
 |_=>none
noncomputable def keysOf (kvs:List (Val×Val)):Option (List Int):=intsOf (kvs.map (·.1))
noncomputable def sortAny (h:Hs) (v:Val):Option (List Int):=match v with
 |.ref a=>match h a with
  |some (.lst xs)=>intsOf xs
  |some (.dct kvs)=>keysOf kvs
  |_=>none
 |.scr ns=>some ns
 |_=>none
noncomputable def Hx (rows:List (List Int)):List (List Int):=rows.mergeSort fun a b=>!lexI b a
noncomputable def Ew (h:Hs) (v:Val):Option (List (List Int)):=match v with
 |.ref a=>(lsOf (h a)).bind rowsOf
 |_=>none
noncomputable def OE (h:Hs) (v:Val):Rs:=match Ew h v with
 |some rows=>if rows.length<64∧(rows.all fun r=>!r.isEmpty)=true then .new (.lst ((Hx rows).map fun r=>.tup (r.map .int)))else .no
 |none=>.no
noncomputable def Wj (h:Hs) (v:Val):Rs:=match sortAny h v with
 |some ns=>if ns.length<64 then .new (.lst ((sortI ns).map .int))else .no
 |none=>OE h v
noncomputable def biSortedI (h:Hs) (v:Val):Rs:=match sortAny h v with
 |some ns=>if ns.length<64 then .new (.lst ((sortI ns).map .int))else .no
 |none=>.no
noncomputable def Kl (h:Hs) (v:Val):Rs:=match sortOf h v with
 |some ns=>if ns.length<64 then .new (.lst ((sortI (dedup ns)).map .int))else .no
 |none=>.no
noncomputable def biLenSet (h:Hs) (v:Val):Rs:=match sortOf h v with
 |some ns=>if ns.length<4000 then .val (.int (dedup ns).length)else .no
 |none=>.no
noncomputable def toList (h:Hs):Val→Rs
 |.ref a=>match h a with
  |some (.lst xs)=>.new (.lst xs)
  |_=>.no
 |.tup xs=>.new (.lst xs)
 |_=>.no
noncomputable def JQ (h:Hs):Val→Rs
 |.ref a=>match h a with
  |some (.lst xs)=>.val (.tup xs)
  |_=>.no
 |.tup xs=>.val (.tup xs)
 |_=>.no
noncomputable def EB (h:Hs):Val→Rs
 |.ref a=>match h a with
  |some (.dct kvs)=>.new (.dct kvs)
  |some (.lst xs)=>match Nh h xs with
   |some kvs=>.new (.dct (putAll [] kvs))
   |none=>.no
  |_=>.no
 |_=>.no
noncomputable def Du:Nat→List Val→List (Val×Val)
 |_,[]=>[]
 |k,x::xs=>(.int (k:Nat),x)::Du (k+1) xs
noncomputable def BD:Val→Rs
 |.tup xs=>.new (.dct (Du 0 xs))
 |_=>.no
noncomputable def minI:List Int→Int
 |[]=>0
 |x::r=>r.foldl (fun a b=>if b<a then b else a) x
noncomputable def maxI:List Int→Int
 |[]=>0
 |x::r=>r.foldl (fun a b=>if b > a then b else a) x
noncomputable def intsAt (h:Hs):Val→Option (List Int)
 |.ref a=>(lsOf (h a)).bind intsOf
 |_=>none
noncomputable def pairI:Val→Option (Int×Int)
 |.tup [.int i,.int j]=>some (i,j)
 |_=>none
noncomputable def Oj (h:Hs) (v:Val):Rs:=match asLst h v with
 |some xs=>.new (.lst xs.reverse)
 |none=>.no
noncomputable def rangeL:Val→Rs
 |.int k=>if 0≤k∧k≤1000 then .new (.lst ((List.range k.toNat).map fun n=>.int (n:Nat)))else .no
 |_=>.no
noncomputable def Fk:Val→Rs
 |.int k=>if 0≤k∧k≤1000 then .val (.tup ((List.range k.toNat).map fun n=>.int (n:Nat)))else .no
 |_=>.no
noncomputable def tupI:Val→Option (List Int)
 |.tup xs=>intsOf xs
 |_=>none
noncomputable def biMinL (h:Hs) (v:Val):Rs:=match pairI v with
 |some p=>.val (.int (if p.2<p.1 then p.2 else p.1))
 |none=>match (tupI v).or (intsAt h v)with
  |some (x::r)=>.val (.int (minI (x::r)))
  |_=>match (asLst h v).bind rowsOf with
   |some (x::r)=>.val (.tup ((minR x r).map .int))
   |_=>.no
noncomputable def biMaxL (h:Hs) (v:Val):Rs:=match pairI v with
 |some p=>.val (.int (if p.2 > p.1 then p.2 else p.1))
 |none=>match intsAt h v with
  |some (x::r)=>.val (.int (maxI (x::r)))
  |_=>.no
noncomputable def biV (h:Hs) (b:Bi) (vs:List Val):Rs:=match b with
 |.len=>biOf1 (lenV h) vs
 |.int=>biOf1 Gr vs
 |.str=>biOf1 Gx vs
 |.bool=>biOf1 FX vs
 |.abs=>biOf1 absV vs
 |.min2=>biOf2 min2V vs
 |.max2=>biOf2 (intV fun i j=>.val (.int (if j > i then j else i))) vs
 |.minL=>biOf1 (biMinL h) vs
 |.maxL=>biOf1 (biMaxL h) vs
 |.minD=>biOf1 (biMinD h) vs
 |.sum=>biOf1 (fun v=>.ofO ((Y7 h v).bind fun xs=>(intsOf xs).map fun ns=>.int ns.sum)) vs
 |.all=>biOf1 (Lz h) vs
 |.any=>biOf1 (Li h) vs
 |.sorted=>biOf1 (Wj h) vs
 |.sortedI=>biOf1 (biSortedI h) vs
 |.sortedSet=>biOf1 (Kl h) vs
 |.lenSet=>biOf1 (biLenSet h) vs
 |.list=>biOf1 (toList h) vs
 |.tuple=>biOf1 (JQ h) vs
 |.dict=>biOf1 (EB h) vs
 |.isi Ts=>biOf1 (fun v=>.ofO ((isiAny h v Ts).map .bl)) vs
 |.isx Ts=>biOf1 (fun v=>.ofO ((Ph h v).map fun c=>.bl (Ts.any (excSub c)))) vs
 |.repr=>.no
 |.listRev=>biOf1 (Oj h) vs
 |.listRange=>biOf1 rangeL vs
 |.tupRange=>biOf1 Fk vs
 |.dictEnum=>biOf1 BD vs
noncomputable def bmL (h:Hs) (v:Val) (f:Ad→List Val→Option (Val×Hs)):Option (Val×Hs):=match v with
 |.ref a=>(lsOf (h a)).bind (f a)
 |_=>none
noncomputable def bmD (h:Hs) (v:Val) (f:Ad→List (Val×Val)→Option (Val×Hs)):Option (Val×Hs):=match v with
 |.ref a=>(dcOf (h a)).bind (f a)
 |_=>none
noncomputable def Bh (h:Hs) (vs:List Val) (a:Ad) (xs:List Val):Option (Val×Hs):=match vs with
 |[v]=>if xs.length<lim then some (.non,upd h a (.lst (xs++[v])))else none
 |_=>none
noncomputable def A6 (h:Hs) (vs:List Val) (a:Ad) (xs:List Val):Option (Val×Hs):=match vs with
 |[.ref b]=>(lsOf (h b)).bind fun ys=>if xs.length+ys.length≤lim then some (.non,upd h a (.lst (xs++ys)))else none
 |_=>none
noncomputable def HA (h:Hs) (vs:List Val) (a:Ad) (xs:List Val):Option (Val×Hs):=match vs with
 |[]=>(xs[xs.length - 1]?).map fun v=>(v,upd h a (.lst xs.dropLast))
 |_=>none
noncomputable def Bz (h:Hs) (vs:List Val) (a:Ad) (xs:List Val):Option (Val×Hs):=match vs with
 |[.int i]=>if -(2 ^ 62)<i∧i<2 ^ 62 then(ixN xs.length i).bind fun k=>(xs[k]?).map fun v=>(v,upd h a (.lst (xs.eraseIdx k)))else none
 |_=>none
noncomputable def As (h:Hs) (vs:List Val) (a:Ad) (xs:List Val):Option (Val×Hs):=match vs with
 |[.int i,v]=>if 0≤i∧i≤xs.length∧xs.length<lim then some (.non,upd h a (.lst (xs.take i.toNat++v::xs.drop i.toNat)))else none
 |_=>none
noncomputable def Um (h:Hs) (vs:List Val) (a:Ad) (xs:List Val):Option (Val×Hs):=match vs with
 |[.int i]=>(intsOf xs).bind fun ns=>if i∈ns then some (.non,upd h a (.lst ((ns.erase i).map .int)))else none
 |_=>none
noncomputable def Cs (h:Hs) (vs:List Val) (a:Ad) (xs:List Val):Option (Val×Hs):=match vs with
 |[]=>some (.non,upd h a (.lst []))
 |_=>none
noncomputable def OJ (h:Hs) (vs:List Val) (a:Ad) (xs:List Val):Option (Val×Hs):=match vs with
 |[]=>some (.non,upd h a (.lst xs.reverse))
 |_=>none
noncomputable def Ff (h:Hs) (v:Val) (vs:List Val):Option (Val×Hs):=match v,vs with
 |.str sep,[.ref a]=>(lsOf (h a)).bind fun xs=>(O0 xs).bind fun ss=>if(ss.map String.length).sum+ss.length*sep.length≤lim then some (.str (DJ sep ss),h)else none
 |_,_=>none
noncomputable def B9 (h:Hs) (v:Val) (vs:List Val):Option (Val×Hs):=match vs with
 |[.int i]=>((Y7 h v).bind intsOf).bind fun ns=>if i∈ns then some (.int (ns.idxOf i),h)else none
 |_=>none
noncomputable def GO (h:Hs) (vs:List Val) (a:Ad) (kvs:List (Val×Val)):Option (Val×Hs):=match vs with
 |[k]=>if isKey k then some ((lookK kvs k).getD .non,h)else none
 |_=>none
noncomputable def bmGetD (h:Hs) (vs:List Val) (a:Ad) (kvs:List (Val×Val)):Option (Val×Hs):=match vs with
 |[k,d]=>if isKey k then some ((lookK kvs k).getD d,h)else none
 |_=>none
noncomputable def dpAt (h:Hs):Val→Option (List (Val×Val))
 |.ref a=>match h a with
  |some (.dtp kvs)=>some kvs
  |_=>none
 |_=>none
noncomputable def bmGetT (h:Hs) (vs:List Val) (kvs:List (Val×Val)):Option (Val×Hs):=match vs with
 |[k,d]=>if isKeyT k then some ((lookK kvs k).getD d,h)else none
 |_=>none
noncomputable def MH (h:Hs) (v:Val) (vs:List Val):Option (Val×Hs):=match dpAt h v with
 |some kvs=>bmGetT h vs kvs
 |none=>bmD h v (bmGetD h vs)
noncomputable def Fc (h:Hs) (vs:List Val) (a:Ad) (kvs:List (Val×Val)):Option (Val×Hs):=match vs with
 |[k]=>if isKey k then(lookK kvs k).map fun v=>(v,upd h a (.dct (dropK kvs k)))else none
 |_=>none
noncomputable def Da (h:Hs) (vs:List Val) (a:Ad) (kvs:List (Val×Val)):Option (Val×Hs):=match vs with
 |[k,d]=>if isKey k then some ((lookK kvs k).getD d,upd h a (.dct (dropK kvs k)))else none
 |_=>none
noncomputable def Ef (h:Hs) (v:Val) (vs:List Val):Option (Val×Hs):=match v,vs with
 |.str t,[.str s]=>if t = "0123456789" then(oneC s).bind fun c=>if figB c=true then some (.int ((c.toNat - 48:Nat):Int),h)else none else none
 |_,_=>none
noncomputable def bmV (h:Hs) (m:Bm) (v:Val) (vs:List Val):Option (Val×Hs):=match m with
 |.append=>bmL h v (Bh h vs)
 |.extend=>bmL h v (A6 h vs)
 |.pop=>bmL h v (HA h vs)
 |.popAt=>bmL h v (Bz h vs)
 |.insert=>bmL h v (As h vs)
 |.remove=>bmL h v (Um h vs)
 |.clear=>bmL h v (Cs h vs)
 |.reverse=>bmL h v (OJ h vs)
 |.index=>B9 h v vs
 |.join=>Ff h v vs
 |.sidx=>Ef h v vs
 |.dget=>bmD h v (GO h vs)
 |.dgetD=>MH h v vs
 |.dpop=>bmD h v (Fc h vs)
 |.dpopD=>bmD h v (Da h vs)
 |.count=>none
 |.setdefault=>none
 |.split=>none
 |.replace=>none
 |.upper=>none
 |.partition=>none
noncomputable def isLst:Option Ob→Bool
 |some (.lst _)=>true
 |_=>false
noncomputable def isDct:Option Ob→Bool
 |some (.dct _)=>true
 |some (.dtp _)=>true
 |_=>false
inductive Ty where|l|d|s|t
noncomputable def Bm.ty:Bm→Ty
 |.dget=>.d
 |.dgetD=>.d
 |.dpop=>.d
 |.dpopD=>.d
 |.setdefault=>.d
 |.join=>.s
 |.split=>.s
 |.replace=>.s
 |.upper=>.s
 |.partition=>.s
 |.sidx=>.s
 |.index=>.t
 |_=>.l
noncomputable def YU (p:Option Ob→Bool) (h:Hs):Val→Bool
 |.ref a=>p (h a)
 |_=>false
noncomputable def FR:Val→Bool
 |.str _=>true
 |_=>false
noncomputable def E7:Val→Bool
 |.tup _=>true
 |_=>false
noncomputable def bmTy (h:Hs) (m:Bm) (v:Val):Bool:=match m.ty with
 |.l=>YU isLst h v
 |.d=>YU isDct h v
 |.s=>FR v
 |.t=>YU isLst h v||E7 v
noncomputable def putF:List (String×Val)→String→Val→List (String×Val)
 |[],f,v=>[(f,v)]
 |(g,x)::r,f,v=>if g=f then(g,v)::r else(g,x)::putF r f v
noncomputable def getV (env:Env) (i:Nat):Option Val:=match env[i]? with
 |some (some v)=>some v
 |_=>none
noncomputable def asBl:Val→Option Bool
 |.bl b=>some b
 |_=>none
noncomputable def Yd:Val→Option Ad
 |.ref a=>some a
 |_=>none
noncomputable def Na:Option Ob→Option (String×List (String×Val))
 |some (.ins C fs)=>some (C,fs)
 |_=>none
noncomputable def IF:Val→Option (Val×Val)
 |.tup [x,y]=>some (x,y)
 |_=>none
noncomputable def tupOf:Val→Option (List Val)
 |.tup xs=>some xs
 |_=>none
noncomputable def bindL:List Nat→List Val→Env→Option Env
 |[],[],env=>some env
 |i::is,x::xs,env=>bindL is xs (env.set i (some x))
 |_,_,_=>none
noncomputable def bind (p:Pt) (h:Hs) (v:Val) (env:Env):Option Env :=
 match p with
 |.one i=>some (env.set i (some v))
 |.many is=>(tupOf v).bind fun xs=>bindL is xs env
 |.nest i is=>(tupOf v).bind fun xs=>match xs with
  |[x,y]=>(tupOf y).bind fun ys=>bindL is ys (env.set i (some x))
  |_=>none
def wComp (st:Hs→Prop) (step:Val→Hs→(Option Val→Hs→Prop)→XQ→Prop):List Val→List Val→Hs→(List Val→Hs→Prop)→XQ→Prop
 |[],acc,h,Q,_=>st h∧Q acc h
 |v::vs,acc,h,Q,X=>st h∧step v h (fun r h'=>wComp st step vs (acc++r.toList) h' Q X) X
noncomputable def enumL:Nat→List Val→List Val
 |_,[]=>[]
 |k,x::xs=>.tup [.int k,x]::enumL (k+1) xs
noncomputable def FU:List Val→List Val→List Val
 |x::xs,y::ys=>.tup [x,y]::FU xs ys
 |_,_=>[]
noncomputable def GA (s:String):List Val:=s.toList.map fun c=>.str (String.singleton c)
noncomputable def itV (h:Hs):Val→Option ((Hs→Prop)×List Val)
 |.tup xs=>some (fun _=>True,xs)
 |.scr ns=>some (fun _=>True,ns.map .int)
 |.ref a=>(lsOf (h a)).map fun xs=>(fun g=>lsOf (g a)=some xs,xs)
 |_=>none
noncomputable def Ie (h:Hs):Val→Val→Option ((Hs→Prop)×List Val)
 |.tup xs,.tup ys=>some (fun _=>True,FU xs ys)
 |.ref p,.ref q=>(lsOf (h p)).bind fun xs=>(lsOf (h q)).map fun ys=>(fun g=>lsOf (g p)=some xs∧lsOf (g q)=some ys,FU xs ys)
 |_,_=>none
noncomputable def JF (k:Bool) (p:Val×Val):Val:=if k then p.1 else .tup [p.1,p.2]
noncomputable def rangeV (i j:Int):List Val:=(List.range (j - i).toNat).map fun(k:Nat)=>.int (i+k)
noncomputable def putV (h:Hs) (o k v:Val):Option Hs :=
 match o with
 |.ref p=>match h p with
  |some (.lst xs)=>(asInt k).bind fun n=>(ixN xs.length n).map fun j=>upd h p (.lst (xs.set j v))
  |some (.dct kvs)=>if isKey k∧kvs.length<lim then some (upd h p (.dct (putK kvs k v)))else none
  |some (.dtp kvs)=>if isKeyT k∧kvs.length<lim then some (upd h p (.dtp (putK kvs k v)))else none
  |_=>none
 |_=>none
noncomputable def W2 (h:Hs) (o:Val) (f:String) (v:Val):Option Hs :=
 match o with
 |.ref p=>match h p with
  |some (.ins C fs)=>if fs.length<900 then some (upd h p (.ins C (putF fs f v)))else none
  |_=>none
 |_=>none
noncomputable def NP (h:Hs) (o:Val) (f:String):Option Val:=(Yd o).bind fun a=>(Na (h a)).bind fun p=>p.2.lookup f
noncomputable def U2 (h:Hs) (o:Val) (m:String):Option String:=(Yd o).bind fun a=>(Na (h a)).bind fun p=>if(p.2.lookup m).isNone then some p.1 else none
noncomputable def Mb (op:Bop) (x y:Val):Option Val:=match op,x,y with
 |.add,.int i,.int j=>some (.int (i+j))
 |.sub,.int i,.int j=>some (.int (i - j))
 |_,_,_=>none
mutual
def xE (Φ:Fs):E→Env→Hs→Q1→XQ→Prop
 |.cst v,_,h,Q,_=>Q v h
 |.glob _ v,_,h,Q,_=>Q v h
 |.var i,env,h,Q,_=>go (getV env i) fun v=>Q v h
 |.bin op a b,env,h,Q,X=>xE Φ a env h (fun v h1=>xE Φ b env h1 (fun u h2=>(binV h2 op v u).wp h2 Q) X) X
 |.neg a,env,h,Q,X=>xE Φ a env h (fun v h1=>go (asInt v) fun i=>Q (.int (-i)) h1) X
 |.not a,env,h,Q,X=>xE Φ a env h (fun v h1=>go (asBl v) fun b=>Q (.bl (!b)) h1) X
 |.and a b,env,h,Q,X=>xE Φ a env h (fun v h1=>go (asBl v) fun c=>if c=true then xE Φ b env h1 Q X else Q (.bl false) h1) X
 |.or a b,env,h,Q,X=>xE Φ a env h (fun v h1=>go (asBl v) fun c=>if c=true then Q (.bl true) h1 else xE Φ b env h1 Q X) X
 |.cmp op a b,env,h,Q,X=>xE Φ a env h (fun v h1=>xE Φ b env h1 (fun u h2=>go (cmpV h2 op v u) fun c=>Q (.bl c) h2) X) X
 | .chain o1 o2 a b c,env,h,Q,X=>xE Φ a env h (fun v h1=>xE Φ b env h1 (fun u h2=>go (cmpV h2 o1 v u) fun k =>
     if k=true then xE Φ c env h2 (fun w h3=>go (cmpV h3 o2 u w) fun k2=>Q (.bl k2) h3) X else Q (.bl false) h2) X) X
 |.call f as,env,h,Q,X=>xA Φ as env h (fun vs h1=>Φ f vs h1 Q X) X
 |.make C as,env,h,Q,X=>xA Φ as env h (fun vs h1=>∀ p,h1 p=none→Φ (C ++ ".__init__") (.ref p::vs) (upd h1 p (.ins C [])) (fun v h2=>v=.non∧Q (.ref p) h2) X) X
 |.meth C m o as,env,h,Q,X=>xE Φ o env h (fun v h1=>U2 h1 v m=some C∧xA Φ as env h1 (fun vs h2=>Φ (C ++ "." ++ m) (v::vs) h2 Q X) X) X
 |.fld o f,env,h,Q,X=>xE Φ o env h (fun v h1=>go (NP h1 v f) fun u=>Q u h1) X
 |.bi f as,env,h,Q,X=>xA Φ as env h (fun vs h1=>(biV h1 f vs).wp h1 Q) X
 |.bm m o as,env,h,Q,X=>xE Φ o env h (fun v h1=>bmTy h1 m v=true∧xA Φ as env h1 (fun vs h2=>go (bmV h2 m v vs) fun r=>Q r.1 r.2) X) X
 |.idx a i,env,h,Q,X=>xE Φ a env h (fun v h1=>xE Φ i env h1 (fun k h2=>go (idxV h2 v k) fun u=>Q u h2) X) X
 |.slc a lo hi,env,h,Q,X=>xE Φ a env h (fun v h1=>xO Φ lo env h1 (fun l h2=>xO Φ hi env h2 (fun u h3=>(slcV h3 v l u).wp h3 Q) X) X) X
 |.rev a,env,h,Q,X=>xE Φ a env h (fun v h1=>go (Yd v) fun p=>go (lsOf (h1 p)) fun xs=>new h1 (.lst xs.reverse) Q) X
 |.tup es,env,h,Q,X=>xA Φ es env h (fun vs h1=>Q (.tup vs) h1) X
 |.key es,env,h,Q,X=>xA Φ es env h (fun vs h1=>go (pairI (.tup vs)) fun p=>Q (.key p.1 p.2) h1) X
 |.dctP,env,h,Q,X=>new h (.dtp []) Q
 |.lst es,env,h,Q,X=>xA Φ es env h (fun vs h1=>new h1 (.lst vs) Q) X
 |.dct es,env,h,Q,X=>new h (.dct []) fun r h1=>go (Yd r) fun p=>xA Φ es env h1 (fun vs h2=>go (pairUp vs) fun kvs=>h2 p=some (.dct [])∧Q (.ref p) (upd h2 p (.dct (putAll [] kvs)))) X
 |.ife c a b,env,h,Q,X=>xT Φ c env h (fun k h1=>if k=true then xE Φ a env h1 Q X else xE Φ b env h1 Q X) X
 | .comp caps n p it c e,env,h,Q,X=>xI Φ it env h (fun st xs h1=>xs.length<lim∧
     wComp st (fun v h2 K X2=>go (bind p h2 v (List.replicate n none++caps.map fun j=>(env[j]?).getD none)) fun env2 =>
       xT Φ c env2 h2 (fun k h3=>if k=true then xE Φ e env2 h3 (fun u h4=>K (some u) h4) X2 else K none h3) X2) xs [] h1 (fun ys h5=>new h5 (.lst ys) Q) fun _ _=>False) X
 |.fstr es,env,h,Q,X=>xJ Φ es env h "" (fun s h1=>Q (.str s) h1) X
 |.split o a,env,h,Q,X=>xE Φ o env h (fun v h1=>go (Xy v) fun s=>xE Φ a env h1 (fun u h2=>go ((Xy u).bind oneC) fun c=>s.length+2≤lim∧new h2 (.lst ((Mx c s).map .str)) Q) X) X
 |.repl o y z,env,h,Q,X=>xE Φ o env h (fun v h1=>go (Xy v) fun s=>go (oneC y) fun c=>(s.length≤lim∧z.length≤8∧y≠z)∧Q (.str (DJ z (Mx c s))) h1) X
def xA (Φ:Fs):Es→Env→Hs→(List Val→Hs→Prop)→XQ→Prop
 |.nil,_,h,Q,_=>Q [] h
 |.cons e es,env,h,Q,X=>xE Φ e env h (fun v h1=>xA Φ es env h1 (fun vs h2=>Q (v::vs) h2) X) X
def xJ (Φ:Fs):Es→Env→Hs→String→(String→Hs→Prop)→XQ→Prop
 |.nil,_,h,acc,Q,_=>Q acc h
 |.cons e es,env,h,acc,Q,X=>xE Φ e env h (fun v h1=>go (fmtV v) fun s=>acc.length+s.length≤lim∧xJ Φ es env h1 (acc++s) Q X) X
def xO (Φ:Fs):Oe→Env→Hs→(Option Int→Hs→Prop)→XQ→Prop
 |.none,_,h,Q,_=>Q none h
 |.some e,env,h,Q,X=>xE Φ e env h (fun v h1=>go (asInt v) fun i=>Q (some i) h1) X
def xT (Φ:Fs):Tt→Env→Hs→(Bool→Hs→Prop)→XQ→Prop
 |.yes,_,h,Q,_=>Q true h
 |.val e,env,h,Q,X=>xE Φ e env h (fun v h1=>go (YQ h1 v) fun k=>Q k h1) X
 |.not a,env,h,Q,X=>xT Φ a env h (fun k h1=>Q (!k) h1) X
 |.and a b,env,h,Q,X=>xT Φ a env h (fun k h1=>if k=true then xT Φ b env h1 Q X else Q false h1) X
 |.or a b,env,h,Q,X=>xT Φ a env h (fun k h1=>if k=true then Q true h1 else xT Φ b env h1 Q X) X
def xI (Φ:Fs):It→Env→Hs→((Hs→Prop)→List Val→Hs→Prop)→XQ→Prop
 |.seq e,env,h,Q,X=>xE Φ e env h (fun v h1=>go (itV h1 v) fun p=>Q p.1 p.2 h1) X
 |.chars e,env,h,Q,X=>xE Φ e env h (fun v h1=>go (Xy v) fun s=>Q (fun _=>True) (GA s) h1) X
 |.range a,env,h,Q,X=>xE Φ a env h (fun v h1=>go (asInt v) fun n=>(-(2 ^ 62)≤n∧n<2 ^ 62)∧Q (fun _=>True) (rangeV 0 n) h1) X
 | .range2 a b,env,h,Q,X=>xE Φ a env h (fun v h1=>xE Φ b env h1 (fun u h2=>go (asInt v) fun i=>go (asInt u) fun j =>
     (-(2 ^ 62)≤i∧i<2 ^ 62∧-(2 ^ 62)≤j∧j<2 ^ 62)∧Q (fun _=>True) (rangeV i j) h2) X) X
 |.enum e,env,h,Q,X=>xE Φ e env h (fun v h1=>go (tupOf v) fun xs=>Q (fun _=>True) (enumL 0 xs) h1) X
 |.zip a b,env,h,Q,X=>xE Φ a env h (fun v h1=>xE Φ b env h1 (fun u h2=>go (Ie h2 v u) fun p=>Q p.1 p.2 h2) X) X
 |.items e,env,h,Q,X=>xE Φ e env h (fun v h1=>go (Yd v) fun a=>go (dcOf (h1 a)) fun kvs=>Q (fun g=>g a=some (.frz kvs)) (kvs.map (JF true)) (upd h1 a (.frz kvs))) X
 |.rev e,env,h,Q,X=>xE Φ e env h (fun v h1=>go (Y7 h1 v) fun xs=>Q (fun g=>Y7 g v=some xs) xs.reverse h1) X
end
@[irreducible] noncomputable def wE:Fs→E→Env→Hs→Q1→XQ→Prop:=xE
@[irreducible] noncomputable def wA:Fs→Es→Env→Hs→(List Val→Hs→Prop)→XQ→Prop:=xA
@[irreducible] noncomputable def wJ:Fs→Es→Env→Hs→String→(String→Hs→Prop)→XQ→Prop:=xJ
theorem Km:wJ=xJ:=by unfold wJ;rfl
@[irreducible] noncomputable def wO:Fs→Oe→Env→Hs→(Option Int→Hs→Prop)→XQ→Prop:=xO
@[irreducible] noncomputable def wT:Fs→Tt→Env→Hs→(Bool→Hs→Prop)→XQ→Prop:=xT
@[irreducible] noncomputable def wI:Fs→It→Env→Hs→((Hs→Prop)→List Val→Hs→Prop)→XQ→Prop:=xI
theorem wE_eq:wE=xE:=by unfold wE;rfl
theorem Zc:wA=xA:=by unfold wA;rfl
theorem Ze:wO=xO:=by unfold wO;rfl
theorem Zd:wT=xT:=by unfold wT;rfl
theorem Zb:wI=xI:=by unfold wI;rfl
noncomputable abbrev NQ:=Env→Hs→Prop
noncomputable abbrev EQ:=Env→String→Hs→Prop
def wFor (st:Hs→Prop) (W:Val→Env→Hs→NQ→NQ→Prop) (N:NQ):List Val→Env→Hs→Prop
 |[],env,h=>st h∧N env h
 |v::vs,env,h=>st h∧W v env h (fun e g=>wFor st W N vs e g) N
def wWhile (T:Env→Hs→(Bool→Hs→Prop)→Prop) (W:Env→Hs→NQ→NQ→Prop) (N:NQ):Nat→Env→Hs→Prop
 |0,_,_=>False
 |n+1,env,h=>T env h fun k h1=>if k=true then W env h1 (fun e g=>wWhile T W N n e g) N else N env h1
def wC (Φ:Fs):E→Env→Hs→Q1→XQ→Prop
 |.call f as,env,h,Q,X=>wA Φ as env h (fun vs h1=>Φ f vs h1 Q X) fun _ _=>False
 |.meth C m o as,env,h,Q,X=>wE Φ o env h (fun v h1=>U2 h1 v m=some C∧wA Φ as env h1 (fun vs h2=>Φ (C ++ "." ++ m) (v::vs) h2 Q X) fun _ _=>False) fun _ _=>False
 |_,_,_,_,_=>False
noncomputable def Ar (env:Env):Option Nat→Val→Env
 |none,_=>env
 |some j,v=>env.set j (some v)
mutual
def xS (Φ:Fs):S→Env→Hs→NQ→Q1→NQ→NQ→EQ→Prop
 |.set p e,env,h,N,_,_,_,X=>wE Φ e env h (fun v h1=>go (bind p h1 v env) fun env2=>N env2 h1) (X env)
 |.setIdx a i e,env,h,N,_,_,_,X=>wE Φ e env h (fun v h1=>wE Φ a env h1 (fun o h2=>wE Φ i env h2 (fun k h3=>go (putV h3 o k v) fun g=>N env g) (X env)) (X env)) (X env)
 |.setFld o f e,env,h,N,_,_,_,X=>wE Φ e env h (fun v h1=>wE Φ o env h1 (fun u h2=>go (W2 h2 u f v) fun g=>N env g) (X env)) (X env)
 |.augVar i op e,env,h,N,_,_,_,X=>go (getV env i) fun x=>wE Φ e env h (fun v h1=>go (Mb op x v) fun y=>N (env.set i (some y)) h1) (X env)
 |.augFld o f op n,env,h,N,_,_,_,X=>wE Φ o env h (fun u h1=>go (NP h1 u f) fun x=>go (Mb op x (.int n)) fun y=>go (W2 h1 u f y) fun g=>N env g) (X env)
 |.augIdx a i op n,env,h,N,_,_,_,X=>wE Φ a env h (fun o h1=>wE Φ i env h1 (fun k h2=>go (idxV h2 o k) fun x=>go (Mb op x (.int n)) fun y=>go (putV h2 o k y) fun g=>N env g) (X env)) (X env)
 | .setPair a i b j e,env,h,N,_,_,_,X=>wE Φ e env h (fun v h1=>go (IF v) fun p=>wE Φ a env h1 (fun o h2=>wE Φ i env h2 (fun k h3=>go (putV h3 o k p.1) fun g =>
     wE Φ b env g (fun o2 h4=>wE Φ j env h4 (fun k2 h5=>go (putV h5 o2 k2 p.2) fun g2=>N env g2) (X env)) (X env)) (X env)) (X env)) (X env)
 |.expr e,env,h,N,_,_,_,X=>wE Φ e env h (fun _ h1=>N env h1) (X env)
 |.ret e,env,h,_,R,_,_,X=>wE Φ e env h R (X env)
 |.retN,_,h,_,R,_,_,_=>R .non h
 |.ite c a b,env,h,N,R,B,C,X=>wT Φ c env h (fun k h1=>if k=true then xSs Φ a env h1 N R B C X else xSs Φ b env h1 N R B C X) (X env)
 |.whl c b,env,h,N,R,_,_,X=>∃ n,wWhile (fun e g K=>wT Φ c e g K (X e)) (fun e g K M=>xSs Φ b e g K R M K X) N n env h
 |.for p it b,env,h,N,R,_,_,X=>wI Φ it env h (fun st xs h1=>wFor st (fun v e g K M=>go (bind p g v e) fun e2=>xSs Φ b e2 g K R M K X) N xs env h1) (X env)
 | .forI k p e b,env,h,N,R,_,_,X=>wE Φ e env h (fun v h1=>go (Yd v) fun a=>go (dcOf (h1 a)) fun kvs =>
     wFor (fun g=>g a=some (.frz kvs)) (fun v e g K M=>go (bind p g v e) fun e2=>xSs Φ b e2 g K (fun u g2=>g2 a=some (.frz kvs)∧R u (upd g2 a (.dct kvs))) M K fun _ _ _=>False)
       (fun e g=>g a=some (.frz kvs)∧N e (upd g a (.dct kvs))) (kvs.map (JF k)) env (upd h1 a (.frz kvs))) (X env)
 |.never,_,_,_,_,_,_,_=>False
 |.brk,env,h,_,_,B,_,_=>B env h
 |.cnt,env,h,_,_,_,C,_=>C env h
 |.pass,env,h,N,_,_,_,_=>N env h
 |.raise C as,env,h,_,_,_,_,X=>wA Φ as env h (fun _ h1=>X env C h1) (X env)
 |.try t e hs,env,h,N,R,B,C,X=>wC Φ e env h (fun v h1=>N (Ar env t v) h1) fun c g=>xH Φ hs c env g N R B C
def xSs (Φ:Fs):Ss→Env→Hs→NQ→Q1→NQ→NQ→EQ→Prop
 |.nil,env,h,N,_,_,_,_=>N env h
 |.cons s ss,env,h,N,R,B,C,X=>xS Φ s env h (fun e g=>xSs Φ ss e g N R B C X) R B C X
def xH (Φ:Fs):Hn→String→Env→Hs→NQ→Q1→NQ→NQ→Prop
 |.nil,_,_,_,_,_,_,_=>False
 |.cons K none b r,c,env,h,N,R,B,C=>if excSub c K=true then xSs Φ b env h N R B C (fun _ _ _=>False)else xH Φ r c env h N R B C
 |.cons K (some i) b r,c,env,h,N,R,B,C=>if excSub c K=true then(∀ p,h p=none→xSs Φ b (env.set i (some (.ref p))) (upd h p (.exc c)) (fun e g=>N (e.set i none) g) R (fun e g=>B (e.set i none) g) (fun e g=>C (e.set i none) g) fun _ _ _=>False)
  else xH Φ r c env h N R B C
end
@[irreducible] noncomputable def wS:Fs→S→Env→Hs→NQ→Q1→NQ→NQ→EQ→Prop:=xS
@[irreducible] noncomputable def wSs:Fs→Ss→Env→Hs→NQ→Q1→NQ→NQ→EQ→Prop:=xSs
@[irreducible] noncomputable def wH:Fs→Hn→String→Env→Hs→NQ→Q1→NQ→NQ→Prop:=xH
theorem Zx:wS=xS:=by unfold wS;rfl
theorem Zl:wSs=xSs:=by unfold wSs;rfl
theorem Zz:wH=xH:=by unfold wH;rfl
structure Fn where
 ar:Nat
 sz:Nat
 body:Ss
noncomputable abbrev Pg:=String→Option Fn
class In (P:Pg) (f:String) (d:outParam Fn):Prop where
 eq:P f=some d
noncomputable def Fn.env (d:Fn) (vs:List Val):Env:=vs.map some++List.replicate (d.sz - d.ar) none
noncomputable def wF0 (P:Pg):Nat→Fs
 |0=>fun _ _ _ _ _=>False
 |n+1=>fun f vs h Q X=>go (P f) fun d=>vs.length=d.ar∧wSs (wF0 P n) d.body (d.env vs) h (fun _ g=>Q .non g) Q (fun _ _=>False) (fun _ _=>False) fun _ c g=>X c g
@[irreducible] noncomputable def wF (P:Pg) (n:Nat):Fs:=wF0 P n
theorem wF_eq{P:Pg}{n:Nat}:wF P n=wF0 P n:=by unfold wF;rfl
theorem Zt{P:Pg}{n:Nat}{f:String}{d:Fn}{vs:List Val}{h:Hs}{Q:Q1}{X:XQ}(e:P f=some d)(hl:vs.length=d.ar)
  (q:wSs (wF P n) d.body (d.env vs) h (fun _ g=>Q .non g) Q (fun _ _=>False) (fun _ _=>False) fun _ c g=>X c g):wF P (n+1) f vs h Q X:=by
 rw[wF_eq]at q ⊢;exact go_of e ⟨hl,q⟩
section
variable {Φ:Fs}{env:Env}{h:Hs}{Q:Q1}{X:XQ}{a b c e o:E}{as:Es}{v u:Val}
theorem e_cst(q:Q v h):wE Φ (.cst v) env h Q X:=by simp only[wE_eq,Zc,Ze,Zd,Zb]at q ⊢;exact q
theorem e_glob{x:String}(q:Q v h):wE Φ (.glob x v) env h Q X:=by simp only[wE_eq,Zc,Ze,Zd,Zb]at q ⊢;exact q
theorem X5{i:Nat}(g:getV env i=some v)(q:Q v h):wE Φ (.var i) env h Q X:=by rw[wE_eq];exact go_of g q
theorem e_bin{op:Bop}(q:wE Φ a env h (fun v h1=>wE Φ b env h1 (fun u h2=>(binV h2 op v u).wp h2 Q) X) X):wE Φ (.bin op a b) env h Q X:=by simp only[wE_eq,Zc,Ze,Zd,Zb]at q ⊢;exact q
theorem e_neg(q:wE Φ a env h (fun v h1=>go (asInt v) fun i=>Q (.int (-i)) h1) X):wE Φ (.neg a) env h Q X:=by simp only[wE_eq,Zc,Ze,Zd,Zb]at q ⊢;exact q
theorem e_not(q:wE Φ a env h (fun v h1=>go (asBl v) fun b=>Q (.bl (!b)) h1) X):wE Φ (.not a) env h Q X:=by simp only[wE_eq,Zc,Ze,Zd,Zb]at q ⊢;exact q
theorem e_and(q:wE Φ a env h (fun v h1=>go (asBl v) fun c=>if c=true then wE Φ b env h1 Q X else Q (.bl false) h1) X):wE Φ (.and a b) env h Q X:=by simp only[wE_eq,Zc,Ze,Zd,Zb]at q ⊢;exact q
theorem e_or(q:wE Φ a env h (fun v h1=>go (asBl v) fun c=>if c=true then Q (.bl true) h1 else wE Φ b env h1 Q X) X):wE Φ (.or a b) env h Q X:=by simp only[wE_eq,Zc,Ze,Zd,Zb]at q ⊢;exact q
theorem e_cmp{op:Cop}(q:wE Φ a env h (fun v h1=>wE Φ b env h1 (fun u h2=>go (cmpV h2 op v u) fun c=>Q (.bl c) h2) X) X):wE Φ (.cmp op a b) env h Q X:=by simp only[wE_eq,Zc,Ze,Zd,Zb]at q ⊢;exact q
theorem e_chain{o1 o2:Cop}(q:wE Φ a env h (fun v h1=>wE Φ b env h1 (fun u h2=>go (cmpV h2 o1 v u) fun k =>
      if k=true then wE Φ c env h2 (fun w h3=>go (cmpV h3 o2 u w) fun k2=>Q (.bl k2) h3) X else Q (.bl false) h2) X) X):wE Φ (.chain o1 o2 a b c) env h Q X:=by simp only[wE_eq,Zc,Ze,Zd,Zb]at q ⊢;exact q
theorem e_call{f:String}(q:wA Φ as env h (fun vs h1=>Φ f vs h1 Q X) X):wE Φ (.call f as) env h Q X:=by simp only[wE_eq,Zc,Ze,Zd,Zb]at q ⊢;exact q
theorem IS {C:String}(q:wA Φ as env h (fun vs h1=>∀ p,h1 p=none→Φ (C ++ ".__init__") (.ref p::vs) (upd h1 p (.ins C [])) (fun v h2=>v=.non∧Q (.ref p) h2) X) X):wE Φ (.make C as) env h Q X:=by simp only[wE_eq,Zc,Ze,Zd,Zb]at q ⊢;exact q
theorem I0 {C m:String}(q:wE Φ o env h (fun v h1=>U2 h1 v m=some C∧wA Φ as env h1 (fun vs h2=>Φ (C ++ "." ++ m) (v::vs) h2 Q X) X) X):wE Φ (.meth C m o as) env h Q X:=by simp only[wE_eq,Zc,Ze,Zd,Zb]at q ⊢;exact q
theorem PK{f:String}(q:wE Φ o env h (fun v h1=>go (NP h1 v f) fun u=>Q u h1) X):wE Φ (.fld o f) env h Q X:=by simp only[wE_eq,Zc,Ze,Zd,Zb]at q ⊢;exact q
theorem e_bi{f:Bi}(q:wA Φ as env h (fun vs h1=>(biV h1 f vs).wp h1 Q) X):wE Φ (.bi f as) env h Q X:=by simp only[wE_eq,Zc,Ze,Zd,Zb]at q ⊢;exact q
theorem e_bm{m:Bm}(q:wE Φ o env h (fun v h1=>bmTy h1 m v=true∧wA Φ as env h1 (fun vs h2=>go (bmV h2 m v vs) fun r=>Q r.1 r.2) X) X):wE Φ (.bm m o as) env h Q X:=by simp only[wE_eq,Zc,Ze,Zd,Zb]at q ⊢;exact q
theorem e_idx{i:E}(q:wE Φ a env h (fun v h1=>wE Φ i env h1 (fun k h2=>go (idxV h2 v k) fun u=>Q u h2) X) X):wE Φ (.idx a i) env h Q X:=by simp only[wE_eq,Zc,Ze,Zd,Zb]at q ⊢;exact q
theorem e_slc{lo hi:Oe}(q:wE Φ a env h (fun v h1=>wO Φ lo env h1 (fun l h2=>wO Φ hi env h2 (fun u h3=>(slcV h3 v l u).wp h3 Q) X) X) X):wE Φ (.slc a lo hi) env h Q X:=by simp only[wE_eq,Zc,Ze,Zd,Zb]at q ⊢;exact q
theorem e_key{es:Es}(q:wA Φ es env h (fun vs h1=>go (pairI (.tup vs)) fun p=>Q (.key p.1 p.2) h1) X):wE Φ (.key es) env h Q X:=by simp only[wE_eq,Zc,Ze,Zd,Zb]at q ⊢;exact q
theorem e_dctP(q:new h (.dtp []) Q):wE Φ .dctP env h Q X:=by simp only[wE_eq,Zc,Ze,Zd,Zb]at q ⊢;exact q
theorem e_tup{es:Es}(q:wA Φ es env h (fun vs h1=>Q (.tup vs) h1) X):wE Φ (.tup es) env h Q X:=by simp only[wE_eq,Zc,Ze,Zd,Zb]at q ⊢;exact q
theorem e_lst{es:Es}(q:wA Φ es env h (fun vs h1=>new h1 (.lst vs) Q) X):wE Φ (.lst es) env h Q X:=by simp only[wE_eq,Zc,Ze,Zd,Zb]at q ⊢;exact q
theorem e_dct{es:Es}(q:new h (.dct []) fun r h1=>go (Yd r) fun p=>wA Φ es env h1 (fun vs h2=>go (pairUp vs) fun kvs=>h2 p=some (.dct [])∧Q (.ref p) (upd h2 p (.dct (putAll [] kvs)))) X):wE Φ (.dct es) env h Q X:=by simp only[wE_eq,Zc,Ze,Zd,Zb]at q ⊢;exact q
theorem e_ife{t:Tt}(q:wT Φ t env h (fun k h1=>if k=true then wE Φ a env h1 Q X else wE Φ b env h1 Q X) X):wE Φ (.ife t a b) env h Q X:=by simp only[wE_eq,Zc,Ze,Zd,Zb]at q ⊢;exact q
theorem e_comp{caps:List Nat}{n:Nat}{p:Pt}{it:It}{t:Tt}(q:wI Φ it env h (fun st xs h1=>xs.length<lim∧
      wComp st (fun v h2 K X2=>go (bind p h2 v (List.replicate n none++caps.map fun j=>(env[j]?).getD none)) fun env2 =>
        wT Φ t env2 h2 (fun k h3=>if k=true then wE Φ e env2 h3 (fun u h4=>K (some u) h4) X2 else K none h3) X2) xs [] h1 (fun ys h5=>new h5 (.lst ys) Q) fun _ _=>False) X):wE Φ (.comp caps n p it t e) env h Q X:=by simp only[wE_eq,Zc,Ze,Zd,Zb]at q ⊢;exact q
theorem LL {es:Es}(q:wJ Φ es env h "" (fun s h1=>Q (.str s) h1) X):wE Φ (.fstr es) env h Q X:=by simp only[wE_eq,Km]at q ⊢;exact q
theorem PF{acc:String}{QJ:String→Hs→Prop}(q:QJ acc h):wJ Φ .nil env h acc QJ X:=by rw[Km];exact q
theorem LY{es:Es}{acc:String}{QJ:String→Hs→Prop}(q:wE Φ e env h (fun v h1=>go (fmtV v) fun s=>acc.length+s.length≤lim∧wJ Φ es env h1 (acc++s) QJ X) X):wJ Φ (.cons e es) env h acc QJ X:=by simp only[wE_eq,Km]at q ⊢;exact q
theorem IJ(q:wE Φ o env h (fun v h1=>go (Xy v) fun s=>wE Φ a env h1 (fun u h2=>go ((Xy u).bind oneC) fun c=>s.length+2≤lim∧new h2 (.lst ((Mx c s).map .str)) Q) X) X):wE Φ (.split o a) env h Q X:=by simp only[wE_eq,Zc,Ze,Zd,Zb]at q ⊢;exact q
variable {QA:List Val→Hs→Prop}{QO:Option Int→Hs→Prop}{QT:Bool→Hs→Prop}{QI:(Hs→Prop)→List Val→Hs→Prop}
theorem a_nil(q:QA [] h):wA Φ .nil env h QA X:=by simp only[wE_eq,Zc,Ze,Zd,Zb]at q ⊢;exact q
theorem a_cons{es:Es}(q:wE Φ e env h (fun v h1=>wA Φ es env h1 (fun vs h2=>QA (v::vs) h2) X) X):wA Φ (.cons e es) env h QA X:=by simp only[wE_eq,Zc,Ze,Zd,Zb]at q ⊢;exact q
theorem o_none(q:QO none h):wO Φ .none env h QO X:=by simp only[wE_eq,Zc,Ze,Zd,Zb]at q ⊢;exact q
theorem o_some(q:wE Φ e env h (fun v h1=>go (asInt v) fun i=>QO (some i) h1) X):wO Φ (.some e) env h QO X:=by simp only[wE_eq,Zc,Ze,Zd,Zb]at q ⊢;exact q
theorem t_yes(q:QT true h):wT Φ .yes env h QT X:=by simp only[wE_eq,Zc,Ze,Zd,Zb]at q ⊢;exact q
theorem t_val(q:wE Φ e env h (fun v h1=>go (YQ h1 v) fun k=>QT k h1) X):wT Φ (.val e) env h QT X:=by simp only[wE_eq,Zc,Ze,Zd,Zb]at q ⊢;exact q
theorem t_not{t:Tt}(q:wT Φ t env h (fun k h1=>QT (!k) h1) X):wT Φ (.not t) env h QT X:=by simp only[wE_eq,Zc,Ze,Zd,Zb]at q ⊢;exact q
theorem t_and{s t:Tt}(q:wT Φ s env h (fun k h1=>if k=true then wT Φ t env h1 QT X else QT false h1) X):wT Φ (.and s t) env h QT X:=by simp only[wE_eq,Zc,Ze,Zd,Zb]at q ⊢;exact q
theorem t_or{s t:Tt}(q:wT Φ s env h (fun k h1=>if k=true then QT true h1 else wT Φ t env h1 QT X) X):wT Φ (.or s t) env h QT X:=by simp only[wE_eq,Zc,Ze,Zd,Zb]at q ⊢;exact q
theorem i_seq(q:wE Φ e env h (fun v h1=>go (itV h1 v) fun p=>QI p.1 p.2 h1) X):wI Φ (.seq e) env h QI X:=by simp only[wE_eq,Zc,Ze,Zd,Zb]at q ⊢;exact q
theorem IL(q:wE Φ e env h (fun v h1=>go (Xy v) fun s=>QI (fun _=>True) (GA s) h1) X):wI Φ (.chars e) env h QI X:=by simp only[wE_eq,Zc,Ze,Zd,Zb]at q ⊢;exact q
theorem i_range(q:wE Φ a env h (fun v h1=>go (asInt v) fun n=>(-(2 ^ 62)≤n∧n<2 ^ 62)∧QI (fun _=>True) (rangeV 0 n) h1) X):wI Φ (.range a) env h QI X:=by simp only[wE_eq,Zc,Ze,Zd,Zb]at q ⊢;exact q
theorem G4 (q:wE Φ a env h (fun v h1=>wE Φ b env h1 (fun u h2=>go (asInt v) fun i=>go (asInt u) fun j =>
      (-(2 ^ 62)≤i∧i<2 ^ 62∧-(2 ^ 62)≤j∧j<2 ^ 62)∧QI (fun _=>True) (rangeV i j) h2) X) X):wI Φ (.range2 a b) env h QI X:=by simp only[wE_eq,Zc,Ze,Zd,Zb]at q ⊢;exact q
theorem i_enum(q:wE Φ e env h (fun v h1=>go (tupOf v) fun xs=>QI (fun _=>True) (enumL 0 xs) h1) X):wI Φ (.enum e) env h QI X:=by simp only[wE_eq,Zc,Ze,Zd,Zb]at q ⊢;exact q
theorem Pu(q:wE Φ a env h (fun v h1=>wE Φ b env h1 (fun u h2=>go (Ie h2 v u) fun p=>QI p.1 p.2 h2) X) X):wI Φ (.zip a b) env h QI X:=by simp only[wE_eq,Zc,Ze,Zd,Zb]at q ⊢;exact q
theorem IM(q:wE Φ e env h (fun v h1=>go (Yd v) fun a=>go (dcOf (h1 a)) fun kvs=>QI (fun g=>g a=some (.frz kvs)) (kvs.map (JF true)) (upd h1 a (.frz kvs))) X):wI Φ (.items e) env h QI X:=by simp only[wE_eq,Zc,Ze,Zd,Zb]at q ⊢;exact q
theorem Px(q:wE Φ e env h (fun v h1=>go (Y7 h1 v) fun xs=>QI (fun g=>Y7 g v=some xs) xs.reverse h1) X):wI Φ (.rev e) env h QI X:=by simp only[wE_eq,Zc,Ze,Zd,Zb]at q ⊢;exact q
end
section
variable {Φ:Fs}{env:Env}{h:Hs}{N B C:NQ}{R:Q1}{X:EQ}{a b c e o i:E}{as:Es}{v u:Val}{t:Tt}{s1 s2:Ss}{s:S}{p:Pt}{it:It}{hs:Hn}
theorem s_set(q:wE Φ e env h (fun v h1=>go (bind p h1 v env) fun env2=>N env2 h1) (X env)):wS Φ (.set p e) env h N R B C X:=by simp only[Zx,Zl,Zz]at q ⊢;exact q
theorem s_setIdx(q:wE Φ e env h (fun v h1=>wE Φ a env h1 (fun o h2=>wE Φ i env h2 (fun k h3=>go (putV h3 o k v) fun g=>N env g) (X env)) (X env)) (X env)):wS Φ (.setIdx a i e) env h N R B C X:=by simp only[Zx,Zl,Zz]at q ⊢;exact q
theorem GY{f:String}(q:wE Φ e env h (fun v h1=>wE Φ o env h1 (fun u h2=>go (W2 h2 u f v) fun g=>N env g) (X env)) (X env)):wS Φ (.setFld o f e) env h N R B C X:=by simp only[Zx,Zl,Zz]at q ⊢;exact q
theorem GP{k:Nat}{op:Bop}(q:go (getV env k) fun x=>wE Φ e env h (fun v h1=>go (Mb op x v) fun y=>N (env.set k (some y)) h1) (X env)):wS Φ (.augVar k op e) env h N R B C X:=by simp only[Zx,Zl,Zz]at q ⊢;exact q
theorem HK{f:String}{op:Bop}{n:Int}(q:wE Φ o env h (fun u h1=>go (NP h1 u f) fun x=>go (Mb op x (.int n)) fun y=>go (W2 h1 u f y) fun g=>N env g) (X env)):wS Φ (.augFld o f op n) env h N R B C X:=by simp only[Zx,Zl,Zz]at q ⊢;exact q
theorem GC{i:E}{op:Bop}{n:Int}(q:wE Φ a env h (fun o h1=>wE Φ i env h1 (fun k h2=>go (idxV h2 o k) fun x=>go (Mb op x (.int n)) fun y=>go (putV h2 o k y) fun g=>N env g) (X env)) (X env)):wS Φ (.augIdx a i op n) env h N R B C X:=by simp only[Zx,Zl,Zz]at q ⊢;exact q
theorem s_expr(q:wE Φ e env h (fun _ h1=>N env h1) (X env)):wS Φ (.expr e) env h N R B C X:=by simp only[Zx,Zl,Zz]at q ⊢;exact q
theorem s_ret(q:wE Φ e env h R (X env)):wS Φ (.ret e) env h N R B C X:=by simp only[Zx,Zl,Zz]at q ⊢;exact q
theorem Po(q:R .non h):wS Φ .retN env h N R B C X:=by simp only[Zx,Zl,Zz]at q ⊢;exact q
theorem s_ite(q:wT Φ t env h (fun k h1=>if k=true then wSs Φ s1 env h1 N R B C X else wSs Φ s2 env h1 N R B C X) (X env)):wS Φ (.ite t s1 s2) env h N R B C X:=by simp only[Zx,Zl,Zz]at q ⊢;exact q
theorem s_whl(q:∃ n,wWhile (fun e g K=>wT Φ t e g K (X e)) (fun e g K M=>wSs Φ s1 e g K R M K X) N n env h):wS Φ (.whl t s1) env h N R B C X:=by simp only[Zx,Zl,Zz]at q ⊢;exact q
theorem s_for(q:wI Φ it env h (fun st xs h1=>wFor st (fun v e g K M=>go (bind p g v e) fun e2=>wSs Φ s1 e2 g K R M K X) N xs env h1) (X env)):wS Φ (.for p it s1) env h N R B C X:=by simp only[Zx,Zl,Zz]at q ⊢;exact q
theorem LG{k:Bool}(q:wE Φ e env h (fun v h1=>go (Yd v) fun a=>go (dcOf (h1 a)) fun kvs =>
      wFor (fun g=>g a=some (.frz kvs)) (fun v e g K M=>go (bind p g v e) fun e2=>wSs Φ s1 e2 g K (fun u g2=>g2 a=some (.frz kvs)∧R u (upd g2 a (.dct kvs))) M K fun _ _ _=>False)
        (fun e g=>g a=some (.frz kvs)∧N e (upd g a (.dct kvs))) (kvs.map (JF k)) env (upd h1 a (.frz kvs))) (X env)):wS Φ (.forI k p e s1) env h N R B C X:=by simp only[Zx,Zl,Zz]at q ⊢;exact q
theorem Py(q:B env h):wS Φ .brk env h N R B C X:=by simp only[Zx,Zl,Zz]at q ⊢;exact q
theorem Pw(q:C env h):wS Φ .cnt env h N R B C X:=by simp only[Zx,Zl,Zz]at q ⊢;exact q
theorem Pb(q:N env h):wS Φ .pass env h N R B C X:=by simp only[Zx,Zl,Zz]at q ⊢;exact q
theorem IK{D:String}(q:wA Φ as env h (fun _ h1=>X env D h1) (X env)):wS Φ (.raise D as) env h N R B C X:=by simp only[Zx,Zl,Zz]at q ⊢;exact q
theorem PD{t:Option Nat}(q:wC Φ e env h (fun v h1=>N (Ar env t v) h1) fun c g=>wH Φ hs c env g N R B C):wS Φ (.try t e hs) env h N R B C X:=by simp only[Zx,Zl,Zz]at q ⊢;exact q
theorem ss_nil(q:N env h):wSs Φ .nil env h N R B C X:=by simp only[Zx,Zl,Zz]at q ⊢;exact q
theorem ss_cons{ss:Ss}(q:wS Φ s env h (fun e g=>wSs Φ ss e g N R B C X) R B C X):wSs Φ (.cons s ss) env h N R B C X:=by simp only[Zx,Zl,Zz]at q ⊢;exact q
end
section
variable {h:Hs}{Q:Q1}{i j k:Int}{a b:Ad}{xs ys:List Val}{v u:Val}{K:Val→Prop}{KB:Bool→Prop}
theorem wp_val{r:Rs}(e:r=.val v)(q:Q v h):r.wp h Q:=by rw[e,Rs.wp_val];exact q
theorem wp_new{r:Rs}{o:Ob}(e:r=.new o)(q:new h o Q):r.wp h Q:=by rw[e,Rs.wp_new];exact q
theorem b_add(q:Q (.int (i+j)) h):(binV h .add (.int i) (.int j)).wp h Q:=wp_val rfl q
theorem b_sub(q:Q (.int (i - j)) h):(binV h .sub (.int i) (.int j)).wp h Q:=wp_val rfl q
theorem b_mul(m:mulOk i j)(q:Q (.int (i*j)) h):(binV h .mul (.int i) (.int j)).wp h Q:=wp_val (if_pos m) q
theorem b_fdiv(m:0<j∧j<1073741824)(q:Q (.int (i / j)) h):(binV h .fdiv (.int i) (.int j)).wp h Q:=wp_val (if_pos m) q
theorem b_mod(m:0<j)(q:Q (.int (i % j)) h):(binV h .mod (.int i) (.int j)).wp h Q:=wp_val (if_pos m) q
theorem b_pow(m:0≤j∧j≤1000000∧i.natAbs<2 ^ 64)(q:Q (.int (i ^ j.toNat)) h):(binV h .pow (.int i) (.int j)).wp h Q:=wp_val (if_pos m) q
theorem Fz{z:Int}(m:0≤j∧j≤1000000∧i.natAbs<2 ^ 64)(e:i ^ j.toNat=z)(q:Q (.int z) h):(binV h .pow (.int i) (.int j)).wp h Q:=b_pow m (by rw[e];exact q)
theorem A1(m:xs.length+ys.length≤lim)(q:Q (.tup (xs++ys)) h):(binV h .add (.tup xs) (.tup ys)).wp h Q:=wp_val (if_pos m) q
theorem ZN(e1:h a=some (.lst xs))(e2:h b=some (.lst ys))(m:(xs++ys).length≤lim)(q:new h (.lst (xs++ys)) Q):(binV h .add (.ref a) (.ref b)).wp h Q:=by refine wp_new ?_ q;show(match h a,h b with|some (.lst xs),some (.lst ys)=>Rs.lst (xs++ys)|_,_=>.no:Rs)=_;simp only[e1,e2,Rs.lst];rw[if_pos m]
theorem lsE(e1:h a=some (.lst xs)):lsOf (h a)=some xs:=by rw[e1];rfl
theorem dcE{kvs:List (Val×Val)}(e1:h a=some (.dct kvs)):dcOf (h a)=some kvs:=by rw[e1];rfl
theorem g_int{K:Int→Prop}(q:K i):go (asInt (.int i)) K:=go_of rfl q
theorem g_bl{b:Bool}(q:KB b):go (asBl (.bl b)) KB:=go_of rfl q
theorem g_ref{K:Ad→Prop}(q:K a):go (Yd (.ref a)) K:=go_of rfl q
theorem g_tbl{b:Bool}(q:KB b):go (YQ h (.bl b)) KB:=go_of rfl q
theorem Pp(q:KB (decide (i≠0))):go (YQ h (.int i)) KB:=go_of rfl q
theorem Ls(e:h a=some (.lst xs))(q:KB (!xs.isEmpty)):go (YQ h (.ref a)) KB:=go_of (by unfold YQ;simp only[e]) q
theorem ix_tup(e:atI xs i=some v)(q:K v):go (idxV h (.tup xs) (.int i)) K:=go_of e q
theorem Zm(e1:h a=some (.lst xs))(e:atI xs i=some v)(q:K v):go (idxV h (.ref a) (.int i)) K:=go_of (by unfold idxV;simp only[e1];exact e) q
theorem FA{kvs:List (Val×Val)}{i j:Int}(e1:h a=some (.dtp kvs))(e:lookK kvs (.key i j)=some v)(q:K v):go (idxV h (.ref a) (.key i j)) K:=go_of (by unfold idxV;simp only[e1];exact e) q
theorem Bf{kvs:List (Val×Val)}{k:Val}(e1:h a=some (.dct kvs))(hk:isKey k=true)(e:lookK kvs k=some v)(q:K v):go (idxV h (.ref a) k) K:=go_of (by unfold idxV;simp only[e1];rw[if_pos hk];exact e) q
theorem c_lt(q:KB (decide (i<j))):go (cmpV h .lt (.int i) (.int j)) KB:=go_of rfl q
theorem c_gt(q:KB (decide (j<i))):go (cmpV h .gt (.int i) (.int j)) KB:=go_of rfl q
theorem c_le(q:KB (decide (i≤j))):go (cmpV h .le (.int i) (.int j)) KB:=go_of rfl q
theorem c_ge(q:KB (decide (j≤i))):go (cmpV h .ge (.int i) (.int j)) KB:=go_of rfl q
theorem JY:D.eqv (.int i) (.int j)=decide (i=j):=by rw[D.eqv];by_cases e:i=j<;>simp[e]
theorem DG{s t:String}:D.eqv (.str s) (.str t)=decide (s=t):=by rw[D.eqv];by_cases e:s=t<;>simp[e]
theorem c_eqI(q:KB (decide (i=j))):go (cmpV h .eq (.int i) (.int j)) KB:=go_of (by show some (D.eqv (.int i) (.int j))=_;rw[JY]) q
theorem c_neI(q:KB (!decide (i=j))):go (cmpV h .ne (.int i) (.int j)) KB:=go_of (by show some (!D.eqv (.int i) (.int j))=_;rw[JY]) q
theorem PL{s t:String}(q:KB (decide (s=t))):go (cmpV h .eq (.str s) (.str t)) KB:=go_of (by show some (D.eqv (.str s) (.str t))=_;rw[DG]) q
theorem PB{s t:String}(q:KB (!decide (s=t))):go (cmpV h .ne (.str s) (.str t)) KB:=go_of (by show some (!D.eqv (.str s) (.str t))=_;rw[DG]) q
theorem Pz{c d:Bool}(q:KB (c==d)):go (cmpV h .eq (.bl c) (.bl d)) KB:=go_of (by show some (D.eqv (.bl c) (.bl d))=_;rw[D.eqv]) q
theorem c_isN(q:KB (decide (v=.non))):go (cmpV h .is v .non) KB:=go_of (by unfold cmpV;rfl) q
theorem Lx(q:KB (!decide (v=.non))):go (cmpV h .isnot v .non) KB:=go_of (by unfold cmpV;rfl) q
theorem c_eqE(e1:h a=some (.lst xs))(e2:h b=some (.lst []))(q:KB xs.isEmpty):go (cmpV h .eqE (.ref a) (.ref b)) KB:=go_of (by show(lsOf (h a)).bind _=_;rw[e1,ZX];show(lsOf (h b)).bind _=_;rw[e2,ZX];rfl) q
theorem c_ntT{c d:Bool}(q:KB (c != d)):go (cmpV h .ntT (.bl c) (.bl d)) KB:=go_of rfl q
theorem c_neE(e1:h a=some (.lst xs))(e2:h b=some (.lst []))(q:KB (!xs.isEmpty)):go (cmpV h .neE (.ref a) (.ref b)) KB:=go_of (by show(lsOf (h a)).bind _=_;rw[e1,ZX];show(lsOf (h b)).bind _=_;rw[e2,ZX];rfl) q
theorem Uz{v u:Val}(e:sam0 h v u=true)(q:KB false):go (cmpV h .neX v u) KB:=go_of (if_pos e) q
theorem c_neX{v u:Val}{c:Bool}(n:sam0 h v u=false)(e:eqV h v u=some c)(q:KB (!c)):go (cmpV h .neX v u) KB:=go_of (by show(if sam0 h v u=true then some false else(eqV h v u).map (!·))=_;rw[n,e];rfl) q
theorem c_nes(e1:h a=some (.lst xs))(e2:h b=some (.lst ys))(e:samL (sam h 8) xs ys=true)(q:KB false):go (cmpV h .nes (.ref a) (.ref b)) KB:=go_of (by show(lsOf (h a)).bind _=_;rw[e1,ZX];show(lsOf (h b)).bind _=_;rw[e2,ZX];show(if _ then _ else _)=_;rw[if_pos e]) q
theorem AB{n:Nat}{env env':Env}{K:Env→Prop}(e:env.set n (some v)=env')(q:K env'):go (bind (.one n) h v env) K:=by subst e;exact go_of rfl q
theorem Ep{is:List Nat}{env env':Env}{K:Env→Prop}(e:bindL is xs env=some env')(q:K env'):go (bind (.many is) h (.tup xs) env) K:=go_of e q
theorem Jp{n:Nat}{K:Hs→Prop}(e1:h a=some (.lst xs))(e:ixN xs.length i=some n)(q:K (upd h a (.lst (xs.set n v)))):go (putV h (.ref a) (.int i) v) K:=go_of (by unfold putV;simp only[e1,asInt,Option.bind_some,e,Option.map_some]) q
theorem Ea{K:Hs→Prop}{kvs:List (Val×Val)}{i j:Int}(e1:h a=some (.dtp kvs))(m:kvs.length<lim)(q:K (upd h a (.dtp (putK kvs (.key i j) v)))):go (putV h (.ref a) (.key i j) v) K:=go_of (by unfold putV;simp only[e1];exact if_pos ⟨rfl,m⟩) q
theorem Gb{K:Hs→Prop}{kvs:List (Val×Val)}{k:Val}(e1:h a=some (.dct kvs))(m:isKey k=true∧kvs.length<lim)(q:K (upd h a (.dct (putK kvs k v)))):go (putV h (.ref a) k v) K:=go_of (by unfold putV;simp only[e1];rw[if_pos m]) q
theorem GD{kvs:List (Val×Val)}{i j:Int}(e1:h a=some (.dtp kvs))(q:KB (hasK kvs (.key i j))):go (cmpV h .isin (.key i j) (.ref a)) KB:=go_of (by show inV h (.key i j) (.ref a)=_;unfold inV;simp only[e1];rfl) q
theorem LS{C f:String}{fs:List (String×Val)}{K:Hs→Prop}(e1:h a=some (.ins C fs))(m:fs.length<900)(q:K (upd h a (.ins C (putF fs f v)))):go (W2 h (.ref a) f v) K:=go_of (by unfold W2;simp only[e1];rw[if_pos m]) q
theorem L6{C f:String}{fs:List (String×Val)}(e1:h a=some (.ins C fs))(e:fs.lookup f=some v)(q:K v):go (NP h (.ref a) f) K:=go_of (by unfold NP Yd;simp only[e1,Na,Option.bind_some];exact e) q
theorem LK{C m:String}{fs:List (String×Val)}{P:Prop}(e1:h a=some (.ins C fs))(e:fs.lookup m=none)(q:P):U2 h (.ref a) m=some C∧P:=⟨by unfold U2 Yd;simp only[e1,Na,Option.bind_some,e,Option.isNone_none,if_true],q⟩
theorem IW(q:K (.int (i+j))):go (Mb .add (.int i) (.int j)) K:=go_of rfl q
theorem ln_lst(e1:h a=some (.lst xs))(q:Q (.int xs.length) h):(biV h .len [.ref a]).wp h Q:=wp_val (by show lenV h (.ref a)=_;unfold lenV;dsimp only;rw[e1]) q
theorem Lk{ns:List Int}(q:Q (.int ns.length) h):(biV h .len [.scr ns]).wp h Q:=wp_val rfl q
theorem ln_tup(q:Q (.int xs.length) h):(biV h .len [.tup xs]).wp h Q:=wp_val rfl q
theorem Ly{s:String}(q:Q (.str s) h):(biV h .str [.str s]).wp h Q:=wp_val rfl q
theorem in_str{s:String}(m:s.length≤640∧s.toList≠[]∧s.toList.all figB=true)(q:Q (.int (decN s.toList)) h):(biV h .int [.str s]).wp h Q:=wp_val (if_pos m) q
theorem IN(q:Q (.int (if i<0 then -i else i)) h):(biV h .abs [.int i]).wp h Q:=wp_val rfl q
theorem YN{bs:List Bool}(e1:h a=some (.lst xs))(e2:blsOf xs=some bs)(q:Q (.bl (bs.all id)) h):(biV h .all [.ref a]).wp h Q:=wp_val (by show Rs.ofO ((lsOf (h a)).bind _)=_;rw[lsE e1,Option.bind_some,e2];rfl) q
theorem Pv{K:String→Prop}{s:String}(q:K s):go (Xy (.str s)) K:=go_of rfl q
theorem Ps{m:Bm}{P:Prop}{s:String}(hm:m=.join)(q:P):bmTy h m (.str s)=true∧P:=⟨by subst hm;rfl,q⟩
theorem mnT{ns:List Int}(ne:ns≠[])(q:∀ m,Q (.int m) h):(biV h .minL [.tup (ns.map .int)]).wp h Q:=by
 show(biMinL h (.tup (ns.map .int))).wp h Q;unfold biMinL;cases pairI (.tup (ns.map .int))with
 |some p=>exact wp_val rfl (q _)
 |none =>
  have e:∀ ns:List Int,intsOf (ns.map .int)=some ns:=fun ns=>by
   induction ns with
   |nil=>rfl
   |cons n ns ih=>show(intsOf (ns.map Val.int)).map _=_;rw[ih];rfl
  have e1:(tupI (.tup (ns.map .int))).or (intsAt h (.tup (ns.map .int)))=some ns:=by show(intsOf (ns.map .int)).or none=_;rw[e];rfl
  dsimp only;rw[e1];cases ns with
  |nil=>exact absurd rfl ne
  |cons n ns=>exact wp_val rfl (q _)
theorem mnR{x:List Int}{r:List (List Int)}(e1:h a=some (.lst xs))(e0:intsOf xs=none)(e2:rowsOf xs=some (x::r))(q:Q (.tup ((minR x r).map Val.int)) h):(biV h .minL [.ref a]).wp h Q:=wp_val (by show biMinL h (.ref a)=_;unfold biMinL pairI intsAt asLst;simp only[e1,lsOf,Option.bind_some];rw[e0,e2];rfl) q
theorem Ld(q:Q (.int i) h):(biV h .int [.int i]).wp h Q:=wp_val rfl q
theorem in_bl{c:Bool}(q:Q (.int (if c then 1 else 0)) h):(biV h .int [.bl c]).wp h Q:=wp_val rfl q
theorem mn2(q:Q (.int (if j<i then j else i)) h):(biV h .min2 [.int i,.int j]).wp h Q:=wp_val rfl q
theorem mx2(q:Q (.int (if j > i then j else i)) h):(biV h .max2 [.int i,.int j]).wp h Q:=wp_val rfl q
theorem tp_lst(e1:h a=some (.lst xs))(q:Q (.tup xs) h):(biV h .tuple [.ref a]).wp h Q:=wp_val (by show JQ h (.ref a)=_;unfold JQ;dsimp only;rw[e1]) q
theorem LN(q:Q (.tup xs) h):(biV h .tuple [.tup xs]).wp h Q:=wp_val rfl q
theorem Cq{Ts:List String}{c:Bool}(e:isiAny h v Ts=some c)(q:Q (.bl c) h):(biV h (.isi Ts) [v]).wp h Q:=wp_val (by show Rs.ofO ((isiAny h v Ts).map .bl)=_;rw[e];rfl) q
theorem ls_lst(e1:h a=some (.lst xs))(q:new h (.lst xs) Q):(biV h .list [.ref a]).wp h Q:=wp_new (by show toList h (.ref a)=_;unfold toList;dsimp only;rw[e1]) q
theorem ls_tup(q:new h (.lst xs) Q):(biV h .list [.tup xs]).wp h Q:=wp_new rfl q
theorem sl_tup{lo hi:Option Int}(n:¬ (cutAt xs.length 0 lo=0∧cutAt xs.length xs.length hi=xs.length))(q:Q (.tup (cut xs lo hi)) h):(slcV h (.tup xs) lo hi).wp h Q:=wp_val (by unfold slcV;simp only;rw[if_neg n]) q
theorem Fj{m:Bm}{P:Prop}(hm:m.ty=.l∨m.ty=.t)(e:h a=some (.lst xs))(q:P):bmTy h m (.ref a)=true∧P:=⟨by unfold bmTy;rcases hm with hm|hm<;>rw[hm]<;>simp[YU,e,isLst],q⟩
theorem IY{m:Bm}{P:Prop}{kvs:List (Val×Val)}(hm:m.ty=.d)(e:h a=some (.dct kvs))(q:P):bmTy h m (.ref a)=true∧P:=⟨by unfold bmTy;rw[hm];simp[YU,e,isDct],q⟩
noncomputable def GQ:Bi→Bool
 |.sorted=>true
 |.sortedI=>true
 |_=>false
theorem EO{f:Bi}{v:Val}{ns:List Int}(hf:GQ f=true)(e:sortAny h v=some ns)(m:ns.length<64)(q:new h (.lst ((sortI ns).map Val.int)) Q):(biV h f [v]).wp h Q:=by
 cases f with
 |sorted=>exact wp_new (by show Wj h v=_;unfold Wj;simp only[e];exact if_pos m) q
 |sortedI=>exact wp_new (by show biSortedI h v=_;unfold biSortedI;simp only[e];exact if_pos m) q
 |_=>cases hf
theorem FL{f:Bi}{ns:List Int}(e1:h a=some (.lst (ns.map Val.int)))(e2:intsOf (ns.map Val.int)=some ns)(m:ns.length<64)(q:new h (.lst ((sortI ns).map Val.int)) Q)(hf:GQ f=true:=by rfl):(biV h f [.ref a]).wp h Q:=EO hf (by unfold sortAny;simp only[e1,e2]) m q
theorem Fo(e1:h a=some (.lst []))(q:Q .non h):(biV h .minD [.ref a]).wp h Q:=wp_val (by show biMinD h (.ref a)=_;unfold biMinD;simp only[e1,lsOf,Option.bind_some,rowsOf]) q
theorem BZ{x:List Int}{r:List (List Int)}(e1:h a=some (.lst xs))(e2:rowsOf xs=some (x::r))(q:Q (.tup ((minR x r).map Val.int)) h):(biV h .minD [.ref a]).wp h Q:=wp_val (by show biMinD h (.ref a)=_;unfold biMinD;simp only[e1,lsOf,Option.bind_some,e2]) q
theorem sl_str{s:String}{lo hi:Option Int}(n:s.length≤lim)(q:Q (.str (String.ofList (cut s.toList lo hi))) h):(slcV h (.str s) lo hi).wp h Q:=wp_val (by unfold slcV;simp only;rw[if_pos n]) q
theorem sl_lst{lo hi:Option Int}(e1:h a=some (.lst xs))(q:new h (.lst (cut xs lo hi)) Q):(slcV h (.ref a) lo hi).wp h Q:=wp_new (by unfold slcV;simp only[e1,lsOf]) q
theorem sl_scr{ns:List Int}{lo hi:Option Int}(q:new h (.lst (cut (ns.map Val.int) lo hi)) Q):(slcV h (.scr ns) lo hi).wp h Q:=wp_new rfl q
theorem Zw{K:Val×Hs→Prop}(e1:h a=some (.lst xs))(m:xs.length<lim)(q:K (.non,upd h a (.lst (xs++[v])))):go (bmV h .append (.ref a) [v]) K:=go_of (by show(lsOf (h a)).bind _=_;rw[lsE e1];exact if_pos m) q
theorem it_lst{K:(Hs→Prop)×List Val→Prop}(e1:h a=some (.lst xs))(q:K (fun g=>lsOf (g a)=some xs,xs)):go (itV h (.ref a)) K:=go_of (by unfold itV;simp only[e1,lsOf,Option.map_some]) q
theorem it_scr{ns:List Int}{K:(Hs→Prop)×List Val→Prop}(q:K (fun _=>True,ns.map Val.int)):go (itV h (.scr ns)) K:=go_of rfl q
theorem it_tup{K:(Hs→Prop)×List Val→Prop}(q:K (fun _=>True,xs)):go (itV h (.tup xs)) K:=go_of rfl q
theorem Lc{K:List Val→Prop}(q:K xs):go (Y7 h (.tup xs)) K:=go_of rfl q
theorem Lu{K:List Val→Prop}(e1:h a=some (.lst xs))(q:K xs):go (Y7 h (.ref a)) K:=go_of (by unfold Y7;simp only[e1,lsOf]) q
theorem ifT{c:Bool}{A B:Prop}(e:c=true)(q:A):if c=true then A else B:=by rw[if_pos e];exact q
theorem ifF{c:Bool}{A B:Prop}(e:c=false)(q:B):if c=true then A else B:=by rw[if_neg (by rw[e];decide)];exact q
theorem ifP{p:Prop}[Decidable p]{A B:Prop}(q:p→A)(r:¬p→B):if decide p=true then A else B:=by
 by_cases e:p
 ·rw[if_pos (qQ e)];exact q e
 ·rw[if_neg (by simpa using e)];exact r e
end
structure Ext (h g:Hs):Prop where
 get:∀ {a:Ad}{o:Ob},h a=some o→g a=some o
theorem Ext.refl{h:Hs}:Ext h h:=⟨fun e=>e⟩
theorem Ext.trans{h g k:Hs}(e:Ext h g)(f:Ext g k):Ext h k:=⟨fun x=>f.get (e.get x)⟩
theorem Ext.new{h:Hs}{p:Ad}{o:Ob}(e:h p=none):Ext h (upd h p o):=⟨fun {a u} x=>by
  rw[upd_ne (by intro z;rw[z,e]at x;cases x)];exact x⟩
structure ExtB (w:Ad) (h g:Hs):Prop where
 get:∀ {a:Ad}{o:Ob},a≠w→h a=some o→g a=some o
theorem ExtB.refl{h:Hs}{w:Ad}:ExtB w h h:=⟨fun _ e=>e⟩
theorem ExtB.trans{h g k:Hs}{w:Ad}(e:ExtB w h g)(f:ExtB w g k):ExtB w h k:=⟨fun n x=>f.get n (e.get n x)⟩
theorem ExtB.upd{h:Hs}{w:Ad}{o:Ob}:ExtB w h (upd h w o):=⟨fun n x=>by rw[upd_ne n];exact x⟩
theorem ExtB.of{h g:Hs}{w:Ad}(e:Ext h g):ExtB w h g:=⟨fun _ x=>e.get x⟩
theorem Y2{h:Hs}{a p:Ad}{o:Ob}(x:h a=some o)(n:h p=none):a≠p:=by intro z;rw[z,n]at x;cases x
theorem ne_none'{h:Hs}{a p:Ad}{o:Ob}(n:h p=none)(x:h a=some o):a≠p:=Y2 x n
theorem upd_ne'{h:Hs}{a b:Ad}{o:Ob}{r:Option Ob}(n:b≠a)(e:h b=r):upd h a o b=r:=by rw[upd_ne n];exact e
theorem Zq{st:Hs→Prop}{W:Val→Env→Hs→NQ→NQ→Prop}{N:NQ}(I:Nat→Env→Hs→Prop){xs:List Val}{env:Env}{h:Hs}(h0:I 0 env h)(hst:∀ i e g,i≤xs.length→I i e g→st g)
  (step:∀ i v e g,xs[i]?=some v→I i e g→∀ K:NQ,(∀ e' g',I (i+1) e' g'→K e' g')→W v e g K N) (fin:∀ e g,I xs.length e g→N e g):wFor st W N xs env h:=by
 have key:∀ (ys:List Val) (i:Nat) e g,xs.drop i=ys→i≤xs.length→I i e g→wFor st W N ys e g:=by
  intro ys;induction ys with
  |nil =>
   intro i e g hd hi hI;have:i=xs.length:=by have:=congrArg List.length hd;simp at this;omega
   subst this;exact⟨hst _ e g (zJ _) hI,fin e g hI⟩
  |cons v vs ih =>
   intro i e g hd hi hI;have hlt:i<xs.length:=by have:=congrArg List.length hd;simp at this;omega
   have hv:xs[i]?=some v:=by have:=congrArg (fun l=>l[0]?) hd;simpa using this
   refine⟨hst i e g hi hI,step i v e g hv hI _ fun e' g' hI'=>ih (i+1) e' g' ?_ (by omega) hI'⟩;have:=congrArg List.tail hd;simpa using this
 exact key xs 0 env h (by simp) (by omega) h0
theorem Oa{T:Env→Hs→(Bool→Hs→Prop)→Prop}{W:Env→Hs→NQ→NQ→Prop}{N:NQ}(I:Nat→Env→Hs→Prop){env:Env}{h:Hs}{m:Nat}(h0:I m env h)
  (step:∀ m e g,I m e g→∀ K:NQ,(∀ m' e' g',m'<m→I m' e' g'→K e' g')→T e g fun k h1=>if k=true then W e h1 K N else N e h1):∃ n,wWhile T W N n env h:=by
 refine⟨m+1,?_⟩;have key:∀ (n m:Nat) e g,m<n→I m e g→wWhile T W N n e g:=by
  intro n;induction n with
  |zero=>intro m e g hm;omega
  |succ n ih=>intro m e g hm hI;exact step m e g hI _ fun m' e' g' hm' hI'=>ih m' e' g' (by omega) hI'
 exact key (m+1) m env h (by omega) h0
theorem Z1{st:Hs→Prop}{step:Val→Hs→(Option Val→Hs→Prop)→XQ→Prop}{Q:List Val→Hs→Prop}{X:XQ}(I:Nat→List Val→Hs→Prop){xs:List Val}{h:Hs}(h0:I 0 [] h)(hst:∀ i ys g,i≤xs.length→I i ys g→st g)
  (go:∀ i v ys g,xs[i]?=some v→I i ys g→∀ K,(∀ r g',I (i+1) (ys++r.toList) g'→K r g')→step v g K X) (fin:∀ ys g,I xs.length ys g→Q ys g):wComp st step xs [] h Q X:=by
 have key:∀ (zs:List Val) (i:Nat) ys g,xs.drop i=zs→i≤xs.length→I i ys g→wComp st step zs ys g Q X:=by
  intro zs;induction zs with
  |nil =>
   intro i ys g hd hi hI;have:i=xs.length:=by have:=congrArg List.length hd;simp at this;omega
   subst this;exact⟨hst _ ys g (zJ _) hI,fin ys g hI⟩
  |cons v vs ih =>
   intro i ys g hd hi hI;have hlt:i<xs.length:=by have:=congrArg List.length hd;simp at this;omega
   have hv:xs[i]?=some v:=by have:=congrArg (fun l=>l[0]?) hd;simpa using this
   refine⟨hst i ys g hi hI,go i v ys g hv hI _ fun r g' hI'=>ih (i+1) _ g' ?_ (by omega) hI'⟩;have:=congrArg List.tail hd;simpa using this
 exact key xs 0 [] h (by simp) (by omega) h0
theorem ZF{st:Hs→Prop}{step:Val→Hs→(Option Val→Hs→Prop)→XQ→Prop}{Q:List Val→Hs→Prop}{X:XQ}(f:Val→Option Val){xs:List Val}{h:Hs}(hst:st h)
  (go:∀ v∈xs,∀ K,K (f v) h→step v h K X) (fin:Q (xs.filterMap f) h):wComp st step xs [] h Q X:=by
 have key:∀ (zs ys:List Val),(∀ v∈zs,v∈xs)→Q (ys++zs.filterMap f) h→wComp st step zs ys h Q X:=by
  intro zs;induction zs with
  |nil=>intro ys _ q;exact⟨hst,by simpa using q⟩
  |cons v vs ih =>
   intro ys hm q;refine⟨hst,go v (hm v (by simp)) _ (ih _ (fun w hw=>hm w (by simp[hw])) ?_)⟩;cases e:f v with
   |none=>simpa[zN,e]using q
   |some u=>simpa[zN,e]using q
 exact key xs [] (fun _ h=>h) (by simpa using fin)
section
variable {Φ:Fs}{env:Env}{h:Hs}{Q:Q1}{X:XQ}{a b c e o:E}{as:Es}{v u:Val}
theorem q_e_cst:(wE Φ (.cst v) env h Q X)=(Q v h):=by simp only[wE_eq,Zc,Ze,Zd,Zb];rfl
theorem q_e_glob{x:String}:(wE Φ (.glob x v) env h Q X)=(Q v h):=by simp only[wE_eq,Zc,Ze,Zd,Zb];rfl
theorem q_e_bin{op:Bop}:(wE Φ (.bin op a b) env h Q X)=(wE Φ a env h (fun v h1=>wE Φ b env h1 (fun u h2=>(binV h2 op v u).wp h2 Q) X) X):=by simp only[wE_eq,Zc,Ze,Zd,Zb];rfl
theorem q_e_neg:(wE Φ (.neg a) env h Q X)=(wE Φ a env h (fun v h1=>go (asInt v) fun i=>Q (.int (-i)) h1) X):=by simp only[wE_eq,Zc,Ze,Zd,Zb];rfl
theorem q_e_not:(wE Φ (.not a) env h Q X)=(wE Φ a env h (fun v h1=>go (asBl v) fun b=>Q (.bl (!b)) h1) X):=by simp only[wE_eq,Zc,Ze,Zd,Zb];rfl
theorem q_e_and:(wE Φ (.and a b) env h Q X)=(wE Φ a env h (fun v h1=>go (asBl v) fun c=>if c=true then wE Φ b env h1 Q X else Q (.bl false) h1) X):=by simp only[wE_eq,Zc,Ze,Zd,Zb];rfl
theorem q_e_or:(wE Φ (.or a b) env h Q X)=(wE Φ a env h (fun v h1=>go (asBl v) fun c=>if c=true then Q (.bl true) h1 else wE Φ b env h1 Q X) X):=by simp only[wE_eq,Zc,Ze,Zd,Zb];rfl
theorem q_e_cmp{op:Cop}:(wE Φ (.cmp op a b) env h Q X)=(wE Φ a env h (fun v h1=>wE Φ b env h1 (fun u h2=>go (cmpV h2 op v u) fun c=>Q (.bl c) h2) X) X):=by simp only[wE_eq,Zc,Ze,Zd,Zb];rfl
theorem q_e_chain{o1 o2:Cop}:(wE Φ (.chain o1 o2 a b c) env h Q X)=(wE Φ a env h (fun v h1=>wE Φ b env h1 (fun u h2=>go (cmpV h2 o1 v u) fun k=>if k=true then wE Φ c env h2 (fun w h3=>go (cmpV h3 o2 u w) fun k2=>Q (.bl k2) h3) X else Q (.bl false) h2) X) X):=by simp only[wE_eq,Zc,Ze,Zd,Zb];rfl
theorem q_e_call{f:String}:(wE Φ (.call f as) env h Q X)=(wA Φ as env h (fun vs h1=>Φ f vs h1 Q X) X):=by simp only[wE_eq,Zc,Ze,Zd,Zb];rfl
theorem q_e_bi{f:Bi}:(wE Φ (.bi f as) env h Q X)=(wA Φ as env h (fun vs h1=>(biV h1 f vs).wp h1 Q) X):=by simp only[wE_eq,Zc,Ze,Zd,Zb];rfl
theorem q_e_bm{m:Bm}:(wE Φ (.bm m o as) env h Q X)=(wE Φ o env h (fun v h1=>bmTy h1 m v=true∧wA Φ as env h1 (fun vs h2=>go (bmV h2 m v vs) fun r=>Q r.1 r.2) X) X):=by simp only[wE_eq,Zc,Ze,Zd,Zb];rfl
theorem q_e_idx{i:E}:(wE Φ (.idx a i) env h Q X)=(wE Φ a env h (fun v h1=>wE Φ i env h1 (fun k h2=>go (idxV h2 v k) fun u=>Q u h2) X) X):=by simp only[wE_eq,Zc,Ze,Zd,Zb];rfl
theorem q_e_slc{lo hi:Oe}:(wE Φ (.slc a lo hi) env h Q X)=(wE Φ a env h (fun v h1=>wO Φ lo env h1 (fun l h2=>wO Φ hi env h2 (fun u h3=>(slcV h3 v l u).wp h3 Q) X) X) X):=by simp only[wE_eq,Zc,Ze,Zd,Zb];rfl
theorem q_e_key{es:Es}:(wE Φ (.key es) env h Q X)=(wA Φ es env h (fun vs h1=>go (pairI (.tup vs)) fun p=>Q (.key p.1 p.2) h1) X):=by simp only[wE_eq,Zc,Ze,Zd,Zb];rfl
theorem q_e_dctP:(wE Φ .dctP env h Q X)=(new h (.dtp []) Q):=by simp only[wE_eq,Zc,Ze,Zd,Zb];rfl
theorem q_e_tup{es:Es}:(wE Φ (.tup es) env h Q X)=(wA Φ es env h (fun vs h1=>Q (.tup vs) h1) X):=by simp only[wE_eq,Zc,Ze,Zd,Zb];rfl
theorem q_e_lst{es:Es}:(wE Φ (.lst es) env h Q X)=(wA Φ es env h (fun vs h1=>new h1 (.lst vs) Q) X):=by simp only[wE_eq,Zc,Ze,Zd,Zb];rfl
theorem q_e_dct{es:Es}:(wE Φ (.dct es) env h Q X)=(new h (.dct []) fun r h1=>go (Yd r) fun p=>wA Φ es env h1 (fun vs h2=>go (pairUp vs) fun kvs=>h2 p=some (.dct [])∧Q (.ref p) (upd h2 p (.dct (putAll [] kvs)))) X):=by simp only[wE_eq,Zc,Ze,Zd,Zb];rfl
theorem q_e_ife{t:Tt}:(wE Φ (.ife t a b) env h Q X)=(wT Φ t env h (fun k h1=>if k=true then wE Φ a env h1 Q X else wE Φ b env h1 Q X) X):=by simp only[wE_eq,Zc,Ze,Zd,Zb];rfl
theorem q_e_comp{caps:List Nat}{n:Nat}{p:Pt}{it:It}{t:Tt}:(wE Φ (.comp caps n p it t e) env h Q X)=(wI Φ it env h (fun st xs h1=>xs.length<lim∧wComp st (fun v h2 K X2=>go (bind p h2 v (List.replicate n none++caps.map fun j=>(env[j]?).getD none)) fun env2=>  wT Φ t env2 h2 (fun k h3=>if k=true then wE Φ e env2 h3 (fun u h4=>K (some u) h4) X2 else K none h3) X2) xs [] h1 (fun ys h5=>new h5 (.lst ys) Q) fun _ _=>False) X):=by simp only[wE_eq,Zc,Ze,Zd,Zb];rfl
theorem q_j_nil{acc:String}{QJ:String→Hs→Prop}:(wJ Φ .nil env h acc QJ X)=QJ acc h:=by rw[Km];rfl
theorem q_j_cons{es:Es}{acc:String}{QJ:String→Hs→Prop}:(wJ Φ (.cons e es) env h acc QJ X)=(wE Φ e env h (fun v h1=>go (fmtV v) fun s=>acc.length+s.length≤lim∧wJ Φ es env h1 (acc++s) QJ X) X):=by simp only[wE_eq,Km];rfl
variable {QA:List Val→Hs→Prop}{QO:Option Int→Hs→Prop}{QT:Bool→Hs→Prop}{QI:(Hs→Prop)→List Val→Hs→Prop}
theorem q_a_nil:(wA Φ .nil env h QA X)=(QA [] h):=by simp only[wE_eq,Zc,Ze,Zd,Zb];rfl
theorem q_a_cons{es:Es}:(wA Φ (.cons e es) env h QA X)=(wE Φ e env h (fun v h1=>wA Φ es env h1 (fun vs h2=>QA (v::vs) h2) X) X):=by simp only[wE_eq,Zc,Ze,Zd,Zb];rfl
theorem q_o_none:(wO Φ .none env h QO X)=(QO none h):=by simp only[wE_eq,Zc,Ze,Zd,Zb];rfl
theorem q_o_some:(wO Φ (.some e) env h QO X)=(wE Φ e env h (fun v h1=>go (asInt v) fun i=>QO (some i) h1) X):=by simp only[wE_eq,Zc,Ze,Zd,Zb];rfl
theorem q_t_yes:(wT Φ .yes env h QT X)=(QT true h):=by simp only[wE_eq,Zc,Ze,Zd,Zb];rfl
theorem q_t_val:(wT Φ (.val e) env h QT X)=(wE Φ e env h (fun v h1=>go (YQ h1 v) fun k=>QT k h1) X):=by simp only[wE_eq,Zc,Ze,Zd,Zb];rfl
theorem q_t_not{t:Tt}:(wT Φ (.not t) env h QT X)=(wT Φ t env h (fun k h1=>QT (!k) h1) X):=by simp only[wE_eq,Zc,Ze,Zd,Zb];rfl
theorem q_t_and{s t:Tt}:(wT Φ (.and s t) env h QT X)=(wT Φ s env h (fun k h1=>if k=true then wT Φ t env h1 QT X else QT false h1) X):=by simp only[wE_eq,Zc,Ze,Zd,Zb];rfl
theorem q_t_or{s t:Tt}:(wT Φ (.or s t) env h QT X)=(wT Φ s env h (fun k h1=>if k=true then QT true h1 else wT Φ t env h1 QT X) X):=by simp only[wE_eq,Zc,Ze,Zd,Zb];rfl
theorem q_i_seq:(wI Φ (.seq e) env h QI X)=(wE Φ e env h (fun v h1=>go (itV h1 v) fun p=>QI p.1 p.2 h1) X):=by simp only[wE_eq,Zc,Ze,Zd,Zb];rfl
theorem q_i_range:(wI Φ (.range a) env h QI X)=(wE Φ a env h (fun v h1=>go (asInt v) fun n=>(-(2 ^ 62)≤n∧n<2 ^ 62)∧QI (fun _=>True) (rangeV 0 n) h1) X):=by simp only[wE_eq,Zc,Ze,Zd,Zb];rfl
theorem q_i_enum:(wI Φ (.enum e) env h QI X)=(wE Φ e env h (fun v h1=>go (tupOf v) fun xs=>QI (fun _=>True) (enumL 0 xs) h1) X):=by simp only[wE_eq,Zc,Ze,Zd,Zb];rfl
end
section
variable {Φ:Fs}{env:Env}{h:Hs}{N B C:NQ}{R:Q1}{X:EQ}{a b c e o i:E}{as:Es}{v u:Val}{t:Tt}{s1 s2:Ss}{s:S}{p:Pt}{it:It}{hs:Hn}
theorem q_s_set:(wS Φ (.set p e) env h N R B C X)=(wE Φ e env h (fun v h1=>go (bind p h1 v env) fun env2=>N env2 h1) (X env)):=by simp only[Zx,Zl,Zz];rfl
theorem q_s_setIdx:(wS Φ (.setIdx a i e) env h N R B C X)=(wE Φ e env h (fun v h1=>wE Φ a env h1 (fun o h2=>wE Φ i env h2 (fun k h3=>go (putV h3 o k v) fun g=>N env g) (X env)) (X env)) (X env)):=by simp only[Zx,Zl,Zz];rfl
theorem q_s_expr:(wS Φ (.expr e) env h N R B C X)=(wE Φ e env h (fun _ h1=>N env h1) (X env)):=by simp only[Zx,Zl,Zz];rfl
theorem q_s_ret:(wS Φ (.ret e) env h N R B C X)=(wE Φ e env h R (X env)):=by simp only[Zx,Zl,Zz];rfl
theorem q_s_ite:(wS Φ (.ite t s1 s2) env h N R B C X)=(wT Φ t env h (fun k h1=>if k=true then wSs Φ s1 env h1 N R B C X else wSs Φ s2 env h1 N R B C X) (X env)):=by simp only[Zx,Zl,Zz];rfl
theorem q_s_whl:(wS Φ (.whl t s1) env h N R B C X)=(∃ n,wWhile (fun e g K=>wT Φ t e g K (X e)) (fun e g K M=>wSs Φ s1 e g K R M K X) N n env h):=by simp only[Zx,Zl,Zz];rfl
theorem q_s_for:(wS Φ (.for p it s1) env h N R B C X)=(wI Φ it env h (fun st xs h1=>wFor st (fun v e g K M=>go (bind p g v e) fun e2=>wSs Φ s1 e2 g K R M K X) N xs env h1) (X env)):=by simp only[Zx,Zl,Zz];rfl
theorem q_s_never:(wS Φ .never env h N R B C X)=False:=by simp only[Zx];rfl
theorem q_ss_nil:(wSs Φ .nil env h N R B C X)=(N env h):=by simp only[Zx,Zl,Zz];rfl
theorem q_ss_cons{ss:Ss}:(wSs Φ (.cons s ss) env h N R B C X)=(wS Φ s env h (fun e g=>wSs Φ ss e g N R B C X) R B C X):=by simp only[Zx,Zl,Zz];rfl
end
section
variable {Φ:Fs}{env:Env}{h:Hs}{Q:Q1}{X:XQ}{a:Ad}{v:Val}{kvs:List (Val×Val)}
theorem e_dct0(q:∀ p,h p=none→Q (.ref p) (upd h p (.dct []))):wE Φ (.dct .nil) env h Q X:=by refine e_dct (Ut fun p hp=>g_ref (a_nil (go_of rfl ⟨upd_same,?_⟩)));rw[upd_upd];exact q p hp
theorem PH{K:List (Val×Val)→Prop}(e1:h a=some (.dct kvs))(q:K kvs):go (dcOf (h a)) K:=go_of (dcE e1) q
theorem Gn{K:Val×Hs→Prop}{u:Val}{i j:Int}(e1:h a=some (.dtp kvs))(q:K ((lookK kvs (.key i j)).getD u,h)):go (bmV h .dgetD (.ref a) [.key i j,u]) K:=go_of (by show MH h (.ref a) [.key i j,u]=_;unfold MH dpAt;simp only[e1];rfl) q
end
end Own
namespace Snd
open PySem L2
def KT (K:PySem.W.Frag) (a:Addr) (xs:List V):Prop :=
 ∃ (o:Obj) (its:Array Value) (n:Nat),K.lookup a=some o∧o.cls=.type "tuple"∧o.data=.seq its n∧its.size≤sizeLine∧Vals xs its.toList
def KL (K:PySem.W.Frag) (a:Addr) (xs:List V):Prop :=
 ∃ (o:Obj) (its:Array Value) (n:Nat),K.lookup a=some o∧o.cls=.type "list"∧o.dict=none∧o.data=.seq its n∧its.size≤sizeLine∧Vals xs its.toList
mutual
inductive RV (K:PySem.W.Frag) (H:Hp):Own.Val→V→Prop
 |non:RV K H .non .non
 |bl (b:Bool):RV K H (.bl b) (.bl b)
 |int (i:Int):RV K H (.int i) (.int i)
 |str (s:String):RV K H (.str s) (.str (Str.ofString s))
 |tup {xs:List Own.Val}{a:Addr}{vs:List V}:(H a=some (.tup vs)∨KT K a vs)→RVs K H xs vs→RV K H (.tup xs) (.ref a)
 |ref (a:Addr):RV K H (.ref a) (.ref a)
 |scr {ns:List Int}{a:Addr}:((∃ o,H a=some (.frz o (.lst (ns.map V.int))))∨KL K a (ns.map V.int))→RV K H (.scr ns) (.ref a)
 |key {i j:Int}{a:Addr}:H a=some (.tup [.int i,.int j])→RV K H (.key i j) (.ref a)
inductive RVs (K:PySem.W.Frag) (H:Hp):List Own.Val→List V→Prop
 |nil:RVs K H [] []
 |cons {v:Own.Val}{x:V}{vs:List Own.Val}{xs:List V}:RV K H v x→RVs K H vs xs→RVs K H (v::vs) (x::xs)
end
structure Keep (H H':Hp):Prop where
 t:∀ a xs,H a=some (.tup xs)→H' a=some (.tup xs)
 f:∀ a o u,H a=some (.frz o u)→H' a=some (.frz o u)
theorem Keep.refl(H:Hp):Keep H H:=⟨fun _ _ e=>e,fun _ _ _ e=>e⟩
theorem Keep.trans{H H1 H2:Hp}(a:Keep H H1)(b:Keep H1 H2):Keep H H2:=⟨fun c xs e=>b.t c xs (a.t c xs e),fun c o u e=>b.f c o u (a.f c o u e)⟩
theorem Keep.put{H:Hp}{a:Addr}{o:HO}(h:∀ xs,H a≠some (.tup xs))(h2:∀ p u,H a≠some (.frz p u)):Keep H (upd H a o):=⟨fun b xs e=>by
  rw[upd_ne (by rintro rfl;exact h xs e)];exact e,fun b p u e=>by rw[upd_ne (by rintro rfl;exact h2 p u e)];exact e⟩
theorem Keep.new{H:Hp}{a:Addr}{o:HO}(h:H a=none):Keep H (upd H a o):=Keep.put (fun xs e=>by rw[h]at e;cases e) fun p u e=>by rw[h]at e;cases e
variable {K:PySem.W.Frag}{H H':Hp}
mutual
theorem RV.keep(k:Keep H H'):∀ {v:Own.Val}{x:V},RV K H v x→RV K H' v x
 |_,_,.non=>.non
 |_,_,.bl b=>.bl b
 |_,_,.int i=>.int i
 |_,_,.str s=>.str s
 |_,_,.tup (.inl e) r=>.tup (.inl (k.t _ _ e)) (RVs.keep k r)
 |_,_,.tup (.inr e) r=>.tup (.inr e) (RVs.keep k r)
 |_,_,.ref a=>.ref a
 |_,_,.scr (.inl ⟨o,e⟩)=>.scr (.inl ⟨o,k.f _ _ _ e⟩)
 |_,_,.scr (.inr e)=>.scr (.inr e)
 |_,_,.key e=>.key (k.t _ _ e)
theorem RVs.keep(k:Keep H H'):∀ {vs:List Own.Val}{xs:List V},RVs K H vs xs→RVs K H' vs xs
 |_,_,.nil=>.nil
 |_,_,.cons r t=>.cons (RV.keep k r) (RVs.keep k t)
end
theorem RVs.length:∀ {vs:List Own.Val}{xs:List V},RVs K H vs xs→vs.length=xs.length
 |_,_,.nil=>rfl
 |_,_,.cons _ t=>by rw[qB,qB,RVs.length t]
theorem RVs.get:∀ {vs:List Own.Val}{xs:List V}{i:Nat}{v:Own.Val},RVs K H vs xs→vs[i]?=some v→∃ x,xs[i]?=some x∧RV K H v x
 |_,_,_,_,.nil,e=>by simp at e
 |_,_,0,_,.cons r _,e=>by simp at e;subst e;exact⟨_,rfl,r⟩
 |_,_,i+1,v,.cons _ t,e=>by obtain⟨x,h1,h2⟩:=RVs.get (i:=i) (v:=v) t (by simpa using e);exact⟨x,by simpa using h1,h2⟩
theorem RVs.append:∀ {vs us:List Own.Val}{xs ys:List V},RVs K H vs xs→RVs K H us ys→RVs K H (vs++us) (xs++ys)
 |_,_,_,_,.nil,h=>h
 |_,_,_,_,.cons r t,h=>.cons r (RVs.append t h)
theorem RVs.set{v:Own.Val}{x:V}(r:RV K H v x):∀ {vs:List Own.Val}{xs:List V}(i:Nat),RVs K H vs xs→RVs K H (vs.set i v) (xs.set i x)
 |_,_,_,.nil=>.nil
 |_,_,0,.cons _ t=>.cons r t
 |_,_,i+1,.cons q t=>.cons q (RVs.set r i t)
theorem RVs.take:∀ {vs:List Own.Val}{xs:List V}(n:Nat),RVs K H vs xs→RVs K H (vs.take n) (xs.take n)
 |_,_,0,_=>.nil
 |_,_,_+1,.nil=>.nil
 |_,_,n+1,.cons r t=>.cons r (RVs.take n t)
theorem RVs.drop:∀ {vs:List Own.Val}{xs:List V}(n:Nat),RVs K H vs xs→RVs K H (vs.drop n) (xs.drop n)
 |_,_,0,r=>r
 |_,_,_+1,.nil=>.nil
 |_,_,n+1,.cons _ t=>RVs.drop n t
theorem RVs.reverse{vs:List Own.Val}{xs:List V}(r:RVs K H vs xs):RVs K H vs.reverse xs.reverse:=by
 induction r using RVs.rec (motive_1:=fun _ _ _=>True)with
 |nil=>exact .nil
 |cons r t _ ih=>rw[List.reverse_cons,List.reverse_cons];exact ih.append (.cons r .nil)
 |_=>trivial
theorem RVs.eraseIdx:∀ {vs:List Own.Val}{xs:List V}(i:Nat),RVs K H vs xs→RVs K H (vs.eraseIdx i) (xs.eraseIdx i)
 |_,_,_,.nil=>.nil
 |_,_,0,.cons _ t=>t
 |_,_,i+1,.cons q t=>.cons q (RVs.eraseIdx i t)
theorem RVs.dropLast{vs:List Own.Val}{xs:List V}(r:RVs K H vs xs):RVs K H vs.dropLast xs.dropLast:=by rw[List.dropLast_eq_take,List.dropLast_eq_take,r.length];exact r.take _
theorem Zk{a:Addr}{vs:List V}(h:H a=some (.tup vs)∨KT K a vs):SqT K H a vs:=by
 rcases h with h|h
 ·exact SqT.of h
 ·exact .inr h
structure Inf where
 K:PySem.W.Frag
 cl:String→Addr→Prop
 ins:String→Bool
 xc:String→Addr→Prop
def X7:Own.Val→Key→Prop
 |.int i,.inl j=>i=j
 |.str s,.inr t=>t=Str.ofString s
 |_,_=>False
inductive RKs (K:PySem.W.Frag) (H:Hp):List (Own.Val×Own.Val)→List (Key×V)→Prop
 |nil:RKs K H [] []
 |cons {k v:Own.Val}{c:Key}{x:V}{kvs:List (Own.Val×Own.Val)}{ps:List (Key×V)}:X7 k c→RV K H v x→RKs K H kvs ps→RKs K H ((k,v)::kvs) ((c,x)::ps)
inductive RFs (K:PySem.W.Frag) (H:Hp):List (String×Own.Val)→List (Str×V)→Prop
 |nil:RFs K H [] []
 |cons {f:String}{v:Own.Val}{x:V}{fs:List (String×Own.Val)}{ps:List (Str×V)}:RV K H v x→RFs K H fs ps→RFs K H ((f,v)::fs) ((Str.ofString f,x)::ps)
theorem RKs.keep(k:Keep H H'):∀ {kvs:List (Own.Val×Own.Val)}{ps:List (Key×V)},RKs K H kvs ps→RKs K H' kvs ps
 |_,_,.nil=>.nil
 |_,_,.cons a r t=>.cons a (r.keep k) (RKs.keep k t)
inductive RTs (K:PySem.W.Frag) (H:Hp):List (Own.Val×Own.Val)→List (List Key×V)→Prop
 |nil:RTs K H [] []
 |cons {i j:Int}{v:Own.Val}{x:V}{kvs:List (Own.Val×Own.Val)}{ps:List (List Key×V)}:RV K H v x→RTs K H kvs ps→RTs K H ((.key i j,v)::kvs) (([.inl i,.inl j],x)::ps)
theorem RTs.keep(k:Keep H H'):∀ {kvs:List (Own.Val×Own.Val)}{ps:List (List Key×V)},RTs K H kvs ps→RTs K H' kvs ps
 |_,_,.nil=>.nil
 |_,_,.cons r t=>.cons (r.keep k) (RTs.keep k t)
theorem RFs.keep(k:Keep H H'):∀ {fs:List (String×Own.Val)}{ps:List (Str×V)},RFs K H fs ps→RFs K H' fs ps
 |_,_,.nil=>.nil
 |_,_,.cons r t=>.cons (r.keep k) (RFs.keep k t)
def RO (i:Inf) (H:Hp) (a:Addr):Own.Ob→Prop
 |.lst xs=>∃ vs,H a=some (.lst vs)∧RVs i.K H xs vs
 |.dct kvs=>∃ ps,H a=some (.dK ps)∧RKs i.K H kvs ps
 |.ins C fs=>∃ c dx ps,i.ins C=true∧i.cl C c∧H a=some (.ins c dx ps)∧RFs i.K H fs ps
 |.exc C=>∃ c,i.xc C c∧H a=some (xcO a (.ref c))
 |.frz kvs=>∃ o ps,H a=some (.frz o (.dK ps))∧RKs i.K H kvs ps
 |.dtp kvs=>∃ ps,H a=some (.dT ps)∧RTs i.K H kvs ps
theorem RO.there{i:Inf}{a:Addr}{o:Own.Ob}(r:RO i H a o):∃ u,H a=some u:=by
 cases o with
 |lst xs=>obtain⟨_,e,_⟩:=r;exact⟨_,e⟩
 |dct kvs=>obtain⟨_,e,_⟩:=r;exact⟨_,e⟩
 |ins C fs=>obtain⟨_,_,_,_,_,e,_⟩:=r;exact⟨_,e⟩
 |exc C=>obtain⟨_,_,e⟩:=r;exact⟨_,e⟩
 |frz kvs=>obtain⟨_,_,e,_⟩:=r;exact⟨_,e⟩
 |dtp kvs=>obtain⟨_,e,_⟩:=r;exact⟨_,e⟩
theorem RO.move{i:Inf}{a:Addr}{o:Own.Ob}(r:RO i H a o)(k:Keep H H')(e:H' a=H a):RO i H' a o:=by
 cases o with
 |lst xs=>obtain⟨vs,q,r⟩:=r;exact⟨vs,e.trans q,r.keep k⟩
 |dct kvs=>obtain⟨ps,q,r⟩:=r;exact⟨ps,e.trans q,r.keep k⟩
 |ins C fs=>obtain⟨c,dx,ps,h0,h,q,r⟩:=r;exact⟨c,dx,ps,h0,h,e.trans q,r.keep k⟩
 |exc C=>obtain⟨c,h,q⟩:=r;exact⟨c,h,e.trans q⟩
 |frz kvs=>obtain⟨o,ps,q,r⟩:=r;exact⟨o,ps,e.trans q,r.keep k⟩
 |dtp kvs=>obtain⟨ps,q,r⟩:=r;exact⟨ps,e.trans q,r.keep k⟩
def RH (i:Inf) (G:Own.Hs) (H:Hp):Prop:=∀ a o,G a=some o→RO i H a o
theorem RH.free{i:Inf}{G:Own.Hs}{a:Addr}(r:RH i G H)(e:H a=none):G a=none:=by
 cases q:G a with
 |none=>rfl
 |some o=>obtain⟨u,z⟩:=(r a o q).there;rw[e]at z;cases z
theorem RH.put{i:Inf}{G:Own.Hs}{a:Addr}{o:Own.Ob}{u:HO}(r:RH i G H)(k:Keep H (upd H a u))(n:RO i (upd H a u) a o):RH i (Own.upd G a o) (upd H a u):=fun b p e=>by
 by_cases hb:b=a
 ·subst hb;rw[Own.upd_same]at e;cases e;exact n
 ·rw[Own.upd_ne hb]at e;exact(r b p e).move k (upd_ne hb)
theorem RH.hid{i:Inf}{G:Own.Hs}(r:RH i G H)(k:Keep H H')(e:∀ a o,G a=some o→H' a=H a):RH i G H':=fun b p q=>(r b p q).move k (e b p q)
structure REn (K:PySem.W.Frag) (H:Hp) (env:Own.Env) (σ:St):Prop where
 len:env.length=σ.length
 get:∀ (i:Nat) (v:Own.Val),env[i]?=some (some v)→∃ x,σ[i]?=some (some x)∧RV K H v x
theorem REn.keep{env:Own.Env}{σ:St}(r:REn K H env σ)(k:Keep H H'):REn K H' env σ:=⟨r.len,fun i v e=>by
  obtain⟨x,h1,h2⟩:=r.get i v e
  exact⟨x,h1,h2.keep k⟩⟩
theorem REn.set{env:Own.Env}{σ:St}{v:Own.Val}{x:V}(r:REn K H env σ)(q:RV K H v x)(j:Nat):REn K H (env.set j (some v)) (σ.set j (some x)):=⟨by simp[r.len],fun i u e=>by
  by_cases hij:j=i
  · subst hij
    rw[List.getElem?_set_self']at e
    cases z:env[j]? with
    |none=>rw[z]at e;cases e
    |some w =>
      rw[z]at e
      cases e
      have hj:j<σ.length:=by rw[←r.len];exact(qK.mp z).1
      exact⟨x,List.getElem?_set_self hj,q⟩
  · rw[List.getElem?_set_ne hij]at e
    obtain⟨y,h1,h2⟩:=r.get i u e
    exact⟨y,by rw[List.getElem?_set_ne hij];exact h1,h2⟩⟩
theorem REn.start{vs:List Own.Val}{xs:List V}{n:Nat}(r:RVs K H vs xs):REn K H (vs.map some++List.replicate n none) (xs.map some++List.replicate n none):=⟨by simp[r.length],fun i v e=>by
  by_cases hi:i<vs.length
  · rw[List.getElem?_append_left (by simpa using hi),qF]at e
    cases z:vs[i]? with
    |none=>rw[z]at e;cases e
    |some w =>
      rw[z]at e
      cases e
      obtain⟨x,h1,h2⟩:=r.get z
      exact⟨x,by rw[List.getElem?_append_left (by rw[qA,←r.length];exact hi),qF,h1];rfl,h2⟩
  · rw[List.getElem?_append_right (by simpa using hi),List.getElem?_replicate]at e
    split at e<;>cases e⟩
theorem RVs.ints{K:PySem.W.Frag}{H:Hp}:∀ ns:List Int,RVs K H (ns.map Own.Val.int) (ns.map V.int)
 |[]=>.nil
 |n::ns=>.cons (.int n) (RVs.ints ns)
theorem Z7{a:Addr}{ns:List Int}(h:(∃ o,H a=some (.frz o (.lst (ns.map V.int))))∨KL K a (ns.map V.int)):SqL K H a (ns.map V.int):=by
 rcases h with⟨o,h⟩|h
 ·exact .inl (.inr ⟨o,h⟩)
 ·exact .inr h
variable {i:Inf}{X:Cx}{Φ:Own.Fs}
noncomputable def XK1 (i:Inf) (H:Hp) (Em:Own.XQ):XK:=fun cls _ H'=>∃ c G' ad,cls=.ref ad∧i.xc c ad∧Keep H H'∧RH i G' H'∧Em c G'
def XOk (X:Cx) (i:Inf) (H:Hp) (Em:Own.XQ):Prop:=XW X (XK1 i H Em)
theorem XK1.go{H H1 H':Hp}{Em:Own.XQ}{cls:Value}{d:Option Addr}(k:Keep H H1)(h:XK1 i H1 Em cls d H'):XK1 i H Em cls d H':=by obtain⟨c,G',ad,e,q,k',r,m⟩:=h;exact⟨c,G',ad,e,q,k.trans k',r,m⟩
theorem XOk.go{H H1:Hp}{Em:Own.XQ}(x:XOk X i H Em)(k:Keep H H1):XOk X i H1 Em:=fun pins σ H0 s H' a cls s' I f e=>x pins σ H0 s H' a cls s' I f (e.go k)
structure Pre (X:Cx) (i:Inf) (σ:St) (H:Hp) (env:Own.Env) (G:Own.Hs) (Em:Own.XQ):Prop where
 en:REn i.K H env σ
 hp:RH i G H
 xo:XOk X i H Em
theorem Pre.go{σ:St}{H H1:Hp}{env:Own.Env}{G G1:Own.Hs}{Em:Own.XQ}(p:Pre X i σ H env G Em)(k:Keep H H1)(r:RH i G1 H1):Pre X i σ H1 env G1 Em:=⟨p.en.keep k,r,p.xo.go k⟩
def Cn (i:Inf) (H:Hp) (Q:VK) (Qm:Own.Q1):Prop:=∀ v G' H' x,Keep H H'→RH i G' H'→RV i.K H' v x→Qm v G'→Q x H'
theorem Cn.go{H H1:Hp}{Q:VK}{Qm:Own.Q1}(c:Cn i H Q Qm)(k:Keep H H1):Cn i H1 Q Qm:=fun v G' H' x k'=>c v G' H' x (k.trans k')
noncomputable def tE (X:Cx) (i:Inf) (Φ:Own.Fs) (m:Own.E):TE:=fun σ H Q=>∃ env G Qm Em,Pre X i σ H env G Em∧Own.wE Φ m env G Qm Em∧Cn i H Q Qm
noncomputable def tAr (X:Cx) (i:Inf) (Φ:Own.Fs) (ms:Own.Es) (n:Nat):TA:=fun σ H Q=>∃ env G Qm Em,Pre X i σ H env G Em∧Own.wA Φ ms env G Qm Em∧∀ vs G' H' xs,Keep H H'→RH i G' H'→RVs i.K H' vs xs→xs.length=n→Qm vs G'→Q xs H'
noncomputable def tTt (X:Cx) (i:Inf) (Φ:Own.Fs) (m:Own.Tt):TT:=fun σ H Q=>∃ env G Qm Em,Pre X i σ H env G Em∧Own.wT Φ m env G Qm Em∧∀ b G' H',Keep H H'→RH i G' H'→Qm b G'→Q b H'
theorem _root_.L2.PE.imp{X:Cx}{e:Expr}{t t':TE}(h:PE X e t)(f:∀ σ H Q,t' σ H Q→t σ H Q):PE X e t':=fun pins s σ H Q I q=>h pins s σ H Q I (f σ H Q q)
theorem _root_.L2.PT.imp{X:Cx}{e:Expr}{t t':TT}(h:PT X e t)(f:∀ σ H Q,t' σ H Q→t σ H Q):PT X e t':=fun pins s σ H Q I q=>h pins s σ H Q I (f σ H Q q)
theorem _root_.L2.PW.imp{X:Cx}{e:Expr}{t t':TT}(h:PW X e t)(f:∀ σ H Q,t' σ H Q→t σ H Q):PW X e t':=fun wh pins s σ H Q I q=>h wh pins s σ H Q I (f σ H Q q)
theorem _root_.L2.PA.imp{X:Cx}{es:List Expr}{t t':TA}(h:PA X es t)(f:∀ σ H Q,t' σ H Q→t σ H Q):PA X es t':=fun pos pins s σ H Q I q=>h pos pins s σ H Q I (f σ H Q q)
theorem ID{env:Own.Env}{h:Own.Hs}{Q:Own.Q1}{E:Own.XQ}{j:Nat}:(Own.wE Φ (.var j) env h Q E)=(Own.go (Own.getV env j) fun v=>Q v h):=by simp only[Own.wE_eq];rfl
theorem go_some{α:Type}{o:Option α}{k:α→Prop}(h:Own.go o k):∃ a,o=some a∧k a:=by
 cases o with
 |none=>simp at h
 |some a=>exact⟨a,rfl,by simpa using h⟩
theorem NV{env:Own.Env}{j:Nat}{v:Own.Val}(h:Own.getV env j=some v):env[j]?=some (some v):=by
 unfold Own.getV at h;split at h
 ·rename_i u e;cases h;exact e
 ·cases h
theorem G9 {x:Str}{pos:Pos}{j:Nat}(hN:X.N[j]?=some x) (hv:Vis X.env.scope x) (hd:(x==("__debug__" : Str))=false) (hcd:(x==("__classdict__" : Str))=false):PE X (.Name x pos) (tE X i Φ (.var j)) :=
 (UN hN hv hd hcd).imp fun σ H Q ⟨env,G,Qm,Em,p,w,c⟩=>by rw[ID]at w;obtain⟨v,e,q⟩:=go_some w;obtain⟨y,h1,h2⟩:=p.en.get j v (NV e);exact⟨y,h1,c v G H y (Keep.refl H) p.hp h2 q⟩
theorem XT{e:Expr}{v:Own.Val}{x:V}(h:PE X e (tC x))(r:∀ H,RV i.K H v x):PE X e (tE X i Φ (.cst v)) :=
 h.imp fun σ H Q ⟨env,G,Qm,Em,p,w,c⟩=>by rw[Own.q_e_cst]at w;exact c v G H x (Keep.refl H) p.hp (r H) w
theorem F3{e:Expr}{y:String}{v:Own.Val}{x:V}(h:PE X e (tC x))(r:∀ H,RV i.K H v x):PE X e (tE X i Φ (.glob y v)) :=
 h.imp fun σ H Q ⟨env,G,Qm,Em,p,w,c⟩=>by rw[Own.q_e_glob]at w;exact c v G H x (Keep.refl H) p.hp (r H) w
theorem two{a b:Own.E}{σ:St}{H:Hp}{env:Own.Env}{G:Own.Hs}{Em:Own.XQ}{F:Own.Val→Own.Val→Own.Hs→Prop}{R:V→V→Hp→Prop}(p:Pre X i σ H env G Em)
  (w:Own.wE Φ a env G (fun v G1=>Own.wE Φ b env G1 (fun u G2=>F v u G2) Em) Em)
  (h:∀ v u G2 H2 x y,Keep H H2→Pre X i σ H2 env G2 Em→RV i.K H2 v x→RV i.K H2 u y→F v u G2→R x y H2):tE X i Φ a σ H fun x H1=>tE X i Φ b σ H1 fun y H2=>R x y H2 :=
 ⟨env,G,_,Em,p,w,fun v G1 H1 x k1 g1 r1 w1=>⟨env,G1,_,Em,p.go k1 g1,w1,fun u G2 H2 y k2 g2 r2 w2=>h v u G2 H2 x y (k1.trans k2) ((p.go k1 g1).go k2 g2) (r1.keep k2) r2 w2⟩⟩
theorem one{a:Own.E}{σ:St}{H:Hp}{env:Own.Env}{G:Own.Hs}{Em:Own.XQ}{F:Own.Val→Own.Hs→Prop}{R:V→Hp→Prop}(p:Pre X i σ H env G Em)
  (w:Own.wE Φ a env G (fun v G1=>F v G1) Em) (h:∀ v G1 H1 x,Keep H H1→Pre X i σ H1 env G1 Em→RV i.K H1 v x→F v G1→R x H1):tE X i Φ a σ H fun x H1=>R x H1 :=
 ⟨env,G,_,Em,p,w,fun v G1 H1 x k1 g1 r1 w1=>h v G1 H1 x k1 (p.go k1 g1) r1 w1⟩
def XZ (i:Inf) (op:Own.Bop) (r:R2):Prop:=∀ (v u:Own.Val) (G:Own.Hs) (H:Hp) (x y:V) (Q:VK) (Qm:Own.Q1),RH i G H→RV i.K H v x→RV i.K H u y→(Own.binV G op v u).wp G Qm→Cn i H Q Qm→r x y H Q
theorem WW{a b:Expr}{ma mb:Own.E}{op:Operator}{bop:Own.Bop}{r:R2}{pos:Pos}(ho:OpR X (binaryOp op) r)(hr:XZ i bop r)(ha:PE X a (tE X i Φ ma))(hb:PE X b (tE X i Φ mb)):PE X (.BinOp a op b pos) (tE X i Φ (.bin bop ma mb)) :=
 (GK ho ha hb).imp fun σ H Q ⟨env,G,Qm,Em,p,w,c⟩=>by rw[Own.q_e_bin]at w;exact two p w fun v u G2 H2 x y k2 p2 rx ry q=>hr v u G2 H2 x y Q Qm p2.hp rx ry q (c.go k2)
def ZV (i:Inf) (op:Own.Cop) (r:R2):Prop:=∀ (v u:Own.Val) (G:Own.Hs) (H:Hp) (x y:V) (c:Bool) (Q:VK),RH i G H→RV i.K H v x→RV i.K H u y→Own.cmpV G op v u=some c→Q (.bl c) H→r x y H Q
theorem IC{a b:Expr}{ma mb:Own.E}{op:CmpOp}{cop:Own.Cop}{r:R2}{pos:Pos}(ho:OpR X (compareOp op) r)(hr:ZV i cop r)(ha:PE X a (tE X i Φ ma))(hb:PE X b (tE X i Φ mb))(hm:behindInMarks op b=false):PE X (.Compare a [op] [b] pos) (tE X i Φ (.cmp cop ma mb)) :=
 (MZ ho ha hb hm).imp fun σ H Q ⟨env,G,Qm,Em,p,w,c⟩=>by
  rw[Own.q_e_cmp]at w;exact two p w fun v u G2 H2 x y k2 p2 rx ry q=>by obtain⟨d,e,q⟩:=go_some q;exact hr v u G2 H2 x y d Q p2.hp rx ry e (c (.bl d) G2 H2 (.bl d) k2 p2.hp (.bl d) q)
theorem FZ{a b:Expr}{ma mb:Own.E}{op:CmpOp}{cop:Own.Cop}{r:R2}{pos:Pos}(ho:OpR X (compareOp op) r)(hr:ZV i cop r)(ha:PE X a (tE X i Φ ma))(hb:PE X b (tE X i Φ mb))(hm:behindInMarks op b=false):PT X (.Compare a [op] [b] pos) (tTt X i Φ (.val (.cmp cop ma mb))) :=
 (Np ho ha hb hm).imp fun σ H Q ⟨env,G,Qm,Em,p,w,c⟩=>by
  rw[Own.q_t_val,Own.q_e_cmp]at w;exact two p w fun v u G2 H2 x y k2 p2 rx ry q=>by obtain⟨d,e,q⟩:=go_some q;obtain⟨d',e',q⟩:=go_some q;cases e';exact hr v u G2 H2 x y d _ p2.hp rx ry e ⟨d,rfl,c d G2 H2 k2 p2.hp q⟩
theorem Xo{v:Own.Val}{b:Bool}(h:Own.asBl v=some b):v=.bl b:=by cases v<;>simp_all [Own.asBl]
theorem Z5{v:Own.Val}{b:Int}(h:Own.asInt v=some b):v=.int b:=by cases v<;>simp_all [Own.asInt]
theorem RV.bl_inv{K:PySem.W.Frag}{H:Hp}{b:Bool}{x:V}(r:RV K H (.bl b) x):x=.bl b:=by cases r;rfl
theorem RV.int_inv{K:PySem.W.Frag}{H:Hp}{b:Int}{x:V}(r:RV K H (.int b) x):x=.int b:=by cases r;rfl
theorem RV.ref_inv{K:PySem.W.Frag}{H:Hp}{b:Addr}{x:V}(r:RV K H (.ref b) x):x=.ref b:=by cases r;rfl
theorem RV.str_inv{K:PySem.W.Frag}{H:Hp}{b:String}{x:V}(r:RV K H (.str b) x):x=.str (Str.ofString b):=by cases r;rfl
theorem HH{a:Expr}{ma:Own.E}{pos:Pos}(ha:PE X a (tE X i Φ ma)):PE X (.UnaryOp .Not a pos) (tE X i Φ (.not ma)) :=
 (D0 ha).imp fun σ H Q ⟨env,G,Qm,Em,p,w,c⟩=>by
  rw[Own.q_e_not]at w;exact one p w fun v G1 H1 x k1 p1 r q=>by obtain⟨b,e,q2⟩:=go_some q;clear q;cases Xo e;exact⟨b,r.bl_inv,c _ G1 H1 _ k1 p1.hp (.bl _) q2⟩
theorem HZ{a:Expr}{ma:Own.E}{pos:Pos}(ha:PE X a (tE X i Φ ma)):PE X (.UnaryOp .USub a pos) (tE X i Φ (.neg ma)) :=
 (Ia Fe ha).imp fun σ H Q ⟨env,G,Qm,Em,p,w,c⟩=>by
  rw[Own.q_e_neg]at w;exact one p w fun v G1 H1 x k1 p1 r q=>by obtain⟨b,e,q2⟩:=go_some q;clear q;cases Z5 e;exact⟨b,r.int_inv,c _ G1 H1 _ k1 p1.hp (.int _) q2⟩
theorem Hr{a b:Expr}{rest:List Expr}{ma mb:Own.E}{pos:Pos}(ha:PE X a (tE X i Φ ma))(hb:PE X (.BoolOp .And (b::rest) pos) (tE X i Φ mb)):PE X (.BoolOp .And (a::b::rest) pos) (tE X i Φ (.and ma mb)) :=
 (ER ha hb).imp fun σ H Q ⟨env,G,Qm,Em,p,w,c⟩=>by
  rw[Own.q_e_and]at w;exact one p w fun v G1 H1 x k1 p1 r q=>by
   obtain⟨d,e,q2⟩:=go_some q;clear q;cases Xo e;refine⟨d,r.bl_inv,?_⟩;cases d with
   |true=>exact⟨env,G1,Qm,Em,p1,by simpa using q2,c.go k1⟩
   |false=>simp at q2 ⊢;exact c _ G1 H1 _ k1 p1.hp (.bl _) q2
theorem Pd{a b:Expr}{rest:List Expr}{ma mb:Own.E}{pos:Pos}(ha:PE X a (tE X i Φ ma))(hb:PE X (.BoolOp .Or (b::rest) pos) (tE X i Φ mb)):PE X (.BoolOp .Or (a::b::rest) pos) (tE X i Φ (.or ma mb)) :=
 (Ir ha hb).imp fun σ H Q ⟨env,G,Qm,Em,p,w,c⟩=>by
  rw[Own.q_e_or]at w;exact one p w fun v G1 H1 x k1 p1 r q=>by
   obtain⟨d,e,q2⟩:=go_some q;clear q;cases Xo e;refine⟨d,r.bl_inv,?_⟩;cases d with
   |false=>exact⟨env,G1,Qm,Em,p1,by simpa using q2,c.go k1⟩
   |true=>simp at q2 ⊢;exact c _ G1 H1 _ k1 p1.hp (.bl _) q2
theorem FK{a:Expr}{ma:Own.Tt}{pos:Pos}(ha:PT X a (tTt X i Φ ma)):PT X (.UnaryOp .Not a pos) (tTt X i Φ (.not ma)) :=
 (FJ ha).imp fun σ H Q ⟨env,G,Qm,Em,p,w,c⟩=>by rw[Own.q_t_not]at w;exact⟨env,G,_,Em,p,w,fun b G1 H1 k1 g1 q=>c (!b) G1 H1 k1 g1 q⟩
theorem EN{a b:Expr}{rest:List Expr}{ma mb:Own.Tt}{pos:Pos}(ha:PT X a (tTt X i Φ ma))(hb:PW X (.BoolOp .And (b::rest) pos) (tTt X i Φ mb)):PW X (.BoolOp .And (a::b::rest) pos) (tTt X i Φ (.and ma mb)) :=
 (Gj ha hb).imp fun σ H Q ⟨env,G,Qm,Em,p,w,c⟩=>by
  rw[Own.q_t_and]at w;refine⟨env,G,_,Em,p,w,fun d G1 H1 k1 g1 q=>?_⟩;cases d with
  |true=>exact⟨env,G1,Qm,Em,p.go k1 g1,by simpa using q,fun b G2 H2 k2=>c b G2 H2 (k1.trans k2)⟩
  |false=>simp at q ⊢;exact c false G1 H1 k1 g1 q
theorem HC{a b:Expr}{rest:List Expr}{ma mb:Own.Tt}{pos:Pos}(ha:PT X a (tTt X i Φ ma))(hb:PW X (.BoolOp .Or (b::rest) pos) (tTt X i Φ mb)):PW X (.BoolOp .Or (a::b::rest) pos) (tTt X i Φ (.or ma mb)) :=
 (Ht ha hb).imp fun σ H Q ⟨env,G,Qm,Em,p,w,c⟩=>by
  rw[Own.q_t_or]at w;refine⟨env,G,_,Em,p,w,fun d G1 H1 k1 g1 q=>?_⟩;cases d with
  |false=>exact⟨env,G1,Qm,Em,p.go k1 g1,by simpa using q,fun b G2 H2 k2=>c b G2 H2 (k1.trans k2)⟩
  |true=>simp at q ⊢;exact c true G1 H1 k1 g1 q
theorem CH{a:Expr}{ma:Own.Tt}{pos:Pos}(ha:PT X a (tTt X i Φ ma)):PW X (.BoolOp .And [a] pos) (tTt X i Φ ma):=Ci ha
theorem E3{a:Expr}{ma:Own.Tt}{pos:Pos}(ha:PT X a (tTt X i Φ ma)):PW X (.BoolOp .Or [a] pos) (tTt X i Φ ma):=FQ ha
theorem Hv{c a b:Expr}{mc:Own.Tt}{ma mb:Own.E}{pos:Pos}(hc:PT X c (tTt X i Φ mc))(ha:PE X a (tE X i Φ ma))(hb:PE X b (tE X i Φ mb)):PE X (.IfExp c a b pos) (tE X i Φ (.ife mc ma mb)) :=
 (A2 hc ha hb).imp fun σ H Q ⟨env,G,Qm,Em,p,w,c⟩=>by
  rw[Own.q_e_ife]at w;refine⟨env,G,_,Em,p,w,fun d G1 H1 k1 g1 q=>?_⟩;cases d with
  |true=>exact⟨env,G1,Qm,Em,p.go k1 g1,by simpa using q,c.go k1⟩
  |false=>exact⟨env,G1,Qm,Em,p.go k1 g1,by simpa using q,c.go k1⟩
theorem D3:PA X [] (tAr X i Φ .nil 0):=pa_nil.imp fun σ H Q ⟨env,G,Qm,Em,p,w,c⟩=>by rw[Own.q_a_nil]at w;exact c [] G H [] (Keep.refl H) p.hp .nil rfl w
theorem Cu{e:Expr}{es:List Expr}{m:Own.E}{ms:Own.Es}{n:Nat}(he:PE X e (tE X i Φ m))(hes:PA X es (tAr X i Φ ms n))(hs:starEach (e::es) X.env=(false,eval e X.env)::starEach es X.env):PA X (e::es) (tAr X i Φ (.cons m ms) (n+1)) :=
 (ZS he hes hs).imp fun σ H Q ⟨env,G,Qm,Em,p,w,c⟩=>by rw[Own.q_a_cons]at w;exact⟨env,G,_,Em,p,w,fun v G1 H1 x k1 g1 r1 w1=>⟨env,G1,_,Em,p.go k1 g1,w1,fun vs G2 H2 xs k2 g2 r2 hn w2=>c (v::vs) G2 H2 (x::xs) (k1.trans k2) g2 (.cons (r1.keep k2) r2) (by rw[qB,hn]) w2⟩⟩
theorem ZW:Own.lim≤sizeLine:=by decide
theorem Z6{H:Hp}{G:Own.Hs}{Q:VK}{Qm:Own.Q1}{o:Own.Ob}{u:HO}(g:RH i G H)(w:Own.new G o Qm)(c:Cn i H Q Qm)(r:∀ p,H p=none→RO i (upd H p u) p o):∀ p,H p=none→Q (.ref p) (upd H p u):=fun p hp=>by unfold Own.new at w;exact c (.ref p) _ _ (.ref p) (Keep.new hp) (g.put (Keep.new hp) (r p hp)) (.ref p) (w p (g.free hp))
end Snd
namespace HT2
open PySem PySem.Spec PyProof.Rows L2
noncomputable def Z9:List Int→List Int→Bool
 |[],[]=>false
 |[],_::_=>false
 |_::_,[]=>true
 |x::xs,y::ys=>if x=y then Z9 xs ys else decide (x > y)
theorem Ae(A:Around)(s:Shared)(a:Int)(t:Tok)(c:Int)(u:Tok)(prog:Program)(w:World)(E:Value→Shared→Prop)(Q:Value→Shared→Prop)(h:Q (.bool (decide (a > c))) s) :
  wpAny (model prog w) A (richCompare .Gt (.int a t) (.int c u)) Q E s :=
 (PyProof.Rows.gt_int h:wpAny (model prog w) A (compareOp .Gt (.int a t) (.int c u)) Q E s)
section
open PySem.SeqAt
open PySem.AutoSeq1 (wpAny_loadPart')
open PySem.MeetsSeq PySem.MeetsSeq2 PySem.MeetsSeq3
theorem WB(l b:Addr)(items items2:Array Value)(n n2:Nat)(dd dd2:Option Addr)(sl sl2:Array (Option Value))(ns ms:List Int)(hi:IntsAre items.toList ns)(hj:IntsAre items2.toList ms) :
  Meets (Builtin.«tuple.__gt__» ⟨[.ref l,.ref b],[]⟩)
   (fun _ R s=>s.heap.get? l=some { cls:=.type "tuple",dict:=dd,data:=.seq items n,slots:=sl }∧s.heap.get? b=some { cls:=.type "tuple",dict:=dd2,data:=.seq items2 n2,slots:=sl2 }∧
     R (.ok (.ret (.bool (Z9 ns ms)))) s) :=
 .of_wp fun prog w A R s h=>by
  obtain⟨hp,g,d,tk,os⟩:=s;obtain⟨hl,hb,h⟩:=h;have f2:=AutoSeq1.sub_tuple_tuple;have z1:items.size=ns.length:=by rw[←hi.length];simp
  have z2:items2.size=ms.length:=by rw[←hj.length];simp
  wp_walk using wpAny_loadPart' hl,wpAny_loadPart' hb,wpAny_forIn_list _ (fun rest b s'=>b.1=none∧s'=⟨hp,g,d,tk,os⟩∧∃ (vs ws:List Value) (ns' ms':List Int),rest=vs.zip ws∧
    IntsAre vs ns'∧IntsAre ws ms'∧ns'.length+items2.size=ms'.length+items.size∧R (.ok (.ret (.bool (Z9 ns' ms')))) ⟨hp,g,d,tk,os⟩) _
  case turn =>
   rintro⟨y,x⟩ rest b s' ⟨hb',rfl,vs,ws,ns',ms',hz,hvi,hwi,hlen,hR⟩;cases hvi with
   |nil=>rw[List.zip_nil_left]at hz;cases hz
   |cons a t hvi' =>
    cases hwi with
    |nil=>rw[List.zip_nil_right]at hz;cases hz
    |cons c u hwi' =>
     rw[List.zip_cons_cons]at hz;injection hz with hyx hrest;injection hyx with hy hx;subst hy hx;rw[Z9]at hR;simp only[qB]at hlen;obtain⟨e,he,hiff⟩:=HT.eqAt_int A.in1 ⟨hp,g,d,tk,os⟩ a t c u;refine wpAny_bind (he prog w _ _ ?_);cases e with
     |true =>
      rw[if_pos (hiff.mp rfl)]at hR
      wp_walk
      exact⟨rfl,rfl,_,_,_,_,hrest,hvi',hwi',by omega,hR⟩
     |false =>
      rw[if_neg (fun q=>absurd (hiff.mpr q) Bool.false_ne_true)]at hR;have hri:=Ae A.in1 ⟨hp,g,d,tk,os⟩ a t c u prog w
      wp_walk using hri
      exact⟨_,rfl,by simpa using hR⟩
  case fin =>
   rintro⟨b1,b2⟩ s' ⟨hb',rfl,vs,ws,ns',ms',hz,hvi,hwi,hlen,hR⟩;simp only at hb';subst hb';have hv:Z9 ns' ms'=decide (items.size > items2.size):=by
    cases hvi with
    |nil =>
     cases hwi with
     |nil =>simp only[List.length_nil]at hlen;rw[Z9];exact(qP (by omega)).symm
     |cons c u hw =>simp only[List.length_nil,qB]at hlen;rw[Z9];exact(qP (by omega)).symm
    |cons a t hv =>
     cases hwi with
     |nil =>simp only[List.length_nil,qB]at hlen;rw[Z9];exact(qQ (by omega)).symm
     |cons c u hw =>rw[List.zip_cons_cons]at hz;cases hz
   rw[hv]at hR
   wp_walk
   exact⟨_,rfl,by simpa[Builtin.Tuple.tupleCompareSizes]using hR⟩
  case h =>exact⟨rfl,rfl,items.toList,items2.toList,ns,ms,rfl,hi,hj,by omega,h⟩
end
theorem K5{prog:Program}{w:World}{A:Around}{E:Value→Shared→Prop}{s:Shared}{l b:Addr}{items items2:Array Value}{ns ms:List Int}{Q:Value→Shared→Prop}(hl:IsTup s.heap l items)(hb:IsTup s.heap b items2)(hi:IntsAre items.toList ns)(hj:IntsAre items2.toList ms)
  (hu:A.units<cLine) (h:Q (.bool (Z9 ns ms)) s):wpAny (model prog w) A (compareOp .Gt (.ref l) (.ref b)) Q E s:=by
 obtain⟨⟨cls,dd,data,sl⟩,ho,hc,n,hd⟩:=id hl;obtain⟨⟨cls2,dd2,data2,sl2⟩,ho2,hc2,n2,hd2⟩:=id hb;simp only at hc hd hc2 hd2;subst hc hd hc2 hd2;exact richCompare_meets_room (op:=.Gt) ⟨_,ho,rfl⟩ ⟨_,ho2,rfl⟩ PySem.F.slot_tuple_gt PySem.F.entry_tuple_gt (PySem.F.args_tuple_gt_2 _ _) (WB l b items items2 n n2 dd dd2 sl sl2 ns ms hi hj)
  ⟨ho,ho2,show Value.bool (Z9 ns ms)≠Value.notImplemented∧Q (.bool (Z9 ns ms)) s from ⟨(fun x=>nomatch x),h⟩⟩ hu
noncomputable def rGtT (K:PySem.W.Frag):R2:=fun x y H Q=>∃ a b ns ms,x=.ref a∧y=.ref b∧SqT K H a (ns.map V.int)∧SqT K H b (ms.map V.int)∧Q (.bl (Z9 ns ms)) H
theorem op_gtT{X:Cx}(hu:X.A.units<cLine):OpR X (compareOp .Gt) (rGtT X.K):=by intro pins s σ H x y v u Q I rx ry h;obtain⟨a,b,ns,ms,rfl,rfl,ha,hb,q⟩:=h;cases rx;cases ry;obtain⟨its,r1,p1,_⟩:=I.tuple ha;obtain⟨its2,r2,p2,_⟩:=I.tuple hb;have i1:IntsAre its.toArray.toList ns:=Zu r1;have i2:IntsAre its2.toArray.toList ms:=Zu r2;exact K5 p1 p2 i1 i2 hu ⟨.bl (Z9 ns ms),H,I,rfl,q⟩
theorem lexGt_lt:∀ (ns ms:List Int),Z9 ns ms=HT.lexLt ms ns
 |[],[]=>rfl
 |[],_::_=>rfl
 |_::_,[]=>rfl
 |x::xs,y::ys=>by
  rw[Z9,HT.lexLt_cons,lexGt_lt xs ys];by_cases e:x=y
  ·rw[if_pos e,if_pos e.symm]
  ·rw[if_neg e,if_neg (fun z=>e z.symm)]
end HT2
namespace Snd
open PySem L2
mutual
noncomputable def toD:Own.D→PyData
 |.non=>.none
 |.bl b=>.bool b
 |.int i=>.int i
 |.str s=>.str (Str.ofString s)
 |.tup ds=>.tuple (toDs ds)
 |.lst ds=>.list (toDs ds)
noncomputable def toDs:List Own.D→List PyData
 |[]=>[]
 |d::ds=>toD d::toDs ds
end
theorem ofS_inj{s t:String}:Str.ofString s=Str.ofString t↔s=t:=by
 constructor
 ·intro h;rw[Str.ofString_eq_toList,Str.ofString_eq_toList]at h;injection h with h;have h2:s.toList.map Char.toNat=t.toList.map Char.toNat:=by simpa using congrArg Array.toList h
  have inj:∀ {a b:Char},a.toNat=b.toNat→a=b:=fun {a b} e=>Char.ext (UInt32.toNat.inj e);have:s.toList=t.toList:=by
   revert h2;generalize s.toList=a;generalize t.toList=b;intro h2;induction a generalizing b with
   |nil=>cases b with
    |nil=>rfl
    |cons _ _=>cases h2
   |cons x xs ih=>cases b with
    |nil=>cases h2
    |cons y ys =>simp only[qG,List.cons.injEq]at h2;rw[inj h2.1,ih _ h2.2]
  exact String.toList_inj.mp this
 ·rintro rfl;rfl
theorem CS(s t:String):(Str.ofString s==Str.ofString t)=(s==t):=by
 by_cases e:s=t
 ·subst e;simp
 ·have:Str.ofString s≠Str.ofString t:=fun z=>e (ofS_inj.mp z);rw[beq_eq_false_iff_ne.mpr this,beq_eq_false_iff_ne.mpr e]
theorem Ow(s:String):PyData.strOk (Str.ofString s)=true:=by
 rw[Str.ofString_eq_toList];unfold PyData.strOk;rw[Array.all_eq_true'];intro n hn;have:n∈s.toList.map Char.toNat:=by simpa using hn
 obtain⟨c,_,rfl⟩:=q8.mp this;have:=c.valid;have h2:c.toNat=c.val.toNat:=rfl;simp only[UInt32.isValidChar,Nat.isValidChar]at this;simp only[decide_eq_true_eq];omega
mutual
theorem JI:∀ d e:Own.D,PyData.eqv (toD d) (toD e)=Own.D.eqv d e
 |.non,e=>by cases e<;>simp[toD,PyData.eqv,Own.D.eqv]
 |.bl _,e=>by cases e<;>simp[toD,PyData.eqv,Own.D.eqv]
 |.int _,e=>by cases e<;>simp[toD,PyData.eqv,Own.D.eqv]
 |.str s,e=>by cases e<;>simp only[toD,PyData.eqv,Own.D.eqv];exact CS _ _
 |.tup ds,e=>by cases e<;>simp only[toD,PyData.eqv,Own.D.eqv];exact toDs_eqv _ _
 |.lst ds,e=>by cases e<;>simp only[toD,PyData.eqv,Own.D.eqv];exact toDs_eqv _ _
theorem toDs_eqv:∀ ds es:List Own.D,PyData.eqvAll (toDs ds) (toDs es)=Own.D.eqvs ds es
 |[],[]=>by simp[toDs,PyData.eqvAll,Own.D.eqvs]
 |[],_::_=>by simp[toDs,PyData.eqvAll,Own.D.eqvs]
 |_::_,[]=>by simp[toDs,PyData.eqvAll,Own.D.eqvs]
 |d::ds,e::es=>by simp only[toDs,PyData.eqvAll,Own.D.eqvs,JI d e,toDs_eqv ds es]
end
mutual
theorem JH:∀ d:Own.D,(toD d).canLay0=true
 |.non=>by simp[toD,PyData.canLay0]
 |.bl _=>by simp[toD,PyData.canLay0]
 |.int _=>by simp[toD,PyData.canLay0]
 |.str s=>by simp only[toD,PyData.canLay0];exact Ow s
 |.tup ds=>by simp only[toD,PyData.canLay0];exact toDs_lay ds
 |.lst ds=>by simp only[toD,PyData.canLay0];exact toDs_lay ds
theorem toDs_lay:∀ ds:List Own.D,PyData.canLayAll0 (toDs ds)=true
 |[]=>by simp[toDs,PyData.canLayAll0]
 |d::ds=>by simp only[toDs,PyData.canLayAll0,JH d,toDs_lay ds,Bool.and_self]
end
section
variable {i:Inf}{G:Own.Hs}{H:Hp}
theorem Ov{α β:Type}{f:α→Option β}:∀ {xs:List α}{ys:List β},xs.mapM f=some ys→List.length xs=ys.length∧∀ (n:Nat) (x:α),xs[n]?=some x→∃ y,ys[n]?=some y∧f x=some y:=by
 intro xs;induction xs with
 |nil=>intro ys h;simp at h;subst h;exact⟨rfl,fun n x e=>by simp at e⟩
 |cons a as ih =>
  intro ys h;rw[List.mapM_cons]at h;cases e:f a with
  |none=>rw[e]at h;simp at h
  |some b =>
   rw[e]at h;cases e2:as.mapM f with
   |none=>rw[e2]at h;simp at h
   |some bs =>
    rw[e2]at h;simp at h;subst h;obtain⟨h1,h2⟩:=ih e2;refine⟨by simp[h1],fun n x hn=>?_⟩;cases n with
    |zero=>simp at hn;subst hn;exact⟨b,rfl,e⟩
    |succ n=>simp at hn ⊢;exact h2 n x hn
theorem MT{K:PySem.W.Frag}{f:Own.Val→Option Own.D}(hf:∀ v d x,f v=some d→RV K H v x→IsD K H x (toD d)):∀ {vs:List Own.Val}{xs:List V}{ds:List Own.D},vs.mapM f=some ds→RVs K H vs xs→IsDs K H xs (toDs ds):=by
 intro vs;induction vs with
 |nil=>intro xs ds h r;simp at h;subst h;cases r;exact .nil
 |cons a as ih =>
  intro xs ds h r;rw[List.mapM_cons]at h;cases e:f a with
  |none=>rw[e]at h;simp at h
  |some b =>
   rw[e]at h;cases e2:as.mapM f with
   |none=>rw[e2]at h;simp at h
   |some bs =>
    rw[e2]at h;simp at h;subst h;cases r with
    |cons r1 r2=>exact .cons (hf a b _ e r1) (ih e2 r2)
theorem ZE(g:RH i G H){a:Addr}{xs:List Own.Val}(e:Own.lsOf (G a)=some xs):∃ vs,SqL i.K H a vs∧RVs i.K H xs vs:=by
 cases q:G a with
 |none=>rw[q]at e;cases e
 |some o =>
  rw[q]at e;cases o with
  |lst ys=>cases e;obtain⟨vs,h,r⟩:=g a _ q;exact⟨vs,SqL.of h,r⟩
  |dct _=>cases e
  |ins _ _=>cases e
  |exc _=>cases e
  |frz _=>cases e
  |dtp _=>cases e
theorem W1:∀ ns:List Int,toDs (ns.map Own.D.int)=ns.map PyData.int
 |[]=>by simp[toDs]
 |n::ns=>by simp only[qG,toDs,toD,W1 ns]
theorem Xc(g:RH i G H):∀ (n:Nat) (v:Own.Val) (d:Own.D) (x:V),Own.dat G n v=some d→RV i.K H v x→IsD i.K H x (toD d):=by
 intro n;induction n with
 |zero =>
  intro v d x e r;cases v with
  |non=>cases r;simp[Own.dat]at e;subst e;rw[toD];exact .non
  |bl b=>cases r;simp[Own.dat]at e;subst e;rw[toD];exact .bl b
  |int b=>cases r;simp[Own.dat]at e;subst e;rw[toD];exact .int b
  |str s=>cases r;simp[Own.dat]at e;subst e;rw[toD];exact .str _
  |tup xs=>simp[Own.dat]at e
  |ref a=>simp[Own.dat]at e
  |scr ns=>simp[Own.dat]at e
  |key _ _=>simp[Own.dat]at e
 |succ n ih =>
  intro v d x e r;cases v with
  |non=>cases r;simp[Own.dat]at e;subst e;rw[toD];exact .non
  |bl b=>cases r;simp[Own.dat]at e;subst e;rw[toD];exact .bl b
  |int b=>cases r;simp[Own.dat]at e;subst e;rw[toD];exact .int b
  |str s=>cases r;simp[Own.dat]at e;subst e;rw[toD];exact .str _
  |tup xs =>
   rw[Own.dat]at e;cases z:xs.mapM (Own.dat G n)with
   |none=>rw[z]at e;cases e
   |some ds =>
    rw[z]at e;cases e;cases r with
    |tup hp hr=>rw[toD];exact .tup (Zk hp) (MT ih z hr)
  |ref a =>
   rw[Own.dat]at e;cases q:Own.lsOf (G a)with
   |none=>rw[q]at e;cases e
   |some xs =>
    rw[q]at e;simp only[Option.bind_some]at e;cases z:xs.mapM (Own.dat G n)with
    |none=>rw[z]at e;cases e
    |some ds =>rw[z]at e;cases e;cases r.ref_inv;obtain⟨vs,h1,h2⟩:=ZE g q;rw[toD];exact .lst h1 (MT ih z h2)
  |scr ns =>
   simp[Own.dat]at e;subst e;cases r with
   |scr h =>rw[toD,W1];exact .lst (Z7 h) (IsDs.ints ns)
  |key _ _=>simp[Own.dat]at e
theorem YT{n:Nat}:∀ {ds:List Own.D},(∀ d∈ds,(toD d).depth≤n)→PyData.depthAll (toDs ds)≤n
 |[],_=>by rw[toDs];simp[PyData.depthAll]
 |d::ds,h=>by rw[toDs];simp only[PyData.depthAll];exact Nat.max_le.mpr ⟨h d (by simp),YT fun e he=>h e (by simp[he])⟩
theorem WN:∀ (n:Nat) (v:Own.Val) (d:Own.D),Own.dat G n v=some d→(toD d).depth≤n:=by
 have sc:∀ (n:Nat) (v:Own.Val) (d:Own.D),(∀ xs,v≠.tup xs)→(∀ a,v≠.ref a)→(∀ ns,v≠.scr ns)→Own.dat G n v=some d→(toD d).depth≤n:=by
  intro n v d h1 h2 h3 e;cases v with
  |tup xs=>exact absurd rfl (h1 xs)
  |ref a=>exact absurd rfl (h2 a)
  |scr ns=>exact absurd rfl (h3 ns)
  |key _ _=>cases n<;>simp[Own.dat]at e
  |_=>simp[Own.dat]at e;subst e;simp[toD,PyData.depth]
 have ms:∀ (n:Nat),(∀ v d,Own.dat G n v=some d→(toD d).depth≤n)→∀ (xs:List Own.Val) (ds:List Own.D),xs.mapM (Own.dat G n)=some ds→PyData.depthAll (toDs ds)≤n:=by
  intro n ih xs ds z;refine YT fun d hd=>?_;obtain⟨k,hk⟩:=List.mem_iff_getElem?.mp hd;obtain⟨h1,h2⟩:=Ov z;have hlt:k<xs.length:=by rw[h1];exact(qK.mp hk).1
  obtain⟨y,hy,hf⟩:=h2 k xs[k] (qH hlt);rw[hk]at hy;cases hy;exact ih _ _ hf
 intro n;induction n with
 |zero =>
  intro v d e;cases v with
  |tup xs=>simp[Own.dat]at e
  |ref a=>simp[Own.dat]at e
  |scr ns=>simp[Own.dat]at e
  |_=>exact sc 0 _ d (by simp) (by simp) (by simp) e
 |succ n ih =>
  intro v d e;cases v with
  |tup xs =>
   rw[Own.dat]at e;cases z:xs.mapM (Own.dat G n)with
   |none=>rw[z]at e;cases e
   |some ds =>rw[z]at e;cases e;rw[toD];exact Nat.succ_le_succ (ms n ih xs ds z)
  |ref a =>
   rw[Own.dat]at e;cases q:Own.lsOf (G a)with
   |none=>rw[q]at e;cases e
   |some xs =>
    rw[q]at e;simp only[Option.bind_some]at e;cases z:xs.mapM (Own.dat G n)with
    |none=>rw[z]at e;cases e
    |some ds =>rw[z]at e;cases e;rw[toD];exact Nat.succ_le_succ (ms n ih xs ds z)
  |scr ns =>simp[Own.dat]at e;subst e;rw[toD];refine Nat.succ_le_succ (zH ?_ (Nat.zero_le n));refine YT fun d hd=>?_;obtain⟨m,_,rfl⟩:=q8.mp hd;simp[toD,PyData.depth]
  |_=>exact sc (n+1) _ d (by simp) (by simp) (by simp) e
theorem X3{v:Own.Val}{d:Own.D}(e:Own.dat G Own.deep v=some d):SeqAt.shaped (toD d)=true:=by show((toD d).canLay0&&decide ((toD d).depth≤64))=true;rw[JH,qQ (zH (WN _ _ _ e) (by decide))];rfl
theorem NK(g:RH i G H){v u:Own.Val}{x y:V}{c:Bool}(rx:RV i.K H v x)(ry:RV i.K H u y)(e:Own.eqV G v u=some c):∃ d d',IsD i.K H x d∧IsD i.K H y d'∧SeqAt.shaped d=true∧SeqAt.shaped d'=true∧PyData.eqv d d'=c:=by
 unfold Own.eqV at e;cases z:Own.dat G Own.deep v with
 |none=>rw[z]at e;cases e
 |some d =>
  cases z2:Own.dat G Own.deep u with
  |none=>rw[z,z2]at e;cases e
  |some d' =>rw[z,z2]at e;cases e;exact⟨_,_,Xc g _ _ _ _ z rx,Xc g _ _ _ _ z2 ry,X3 z,X3 z2,JI d d'⟩
theorem LI:ZV i .eq (Ha i.K):=by intro v u G H x y c Q g rx ry e q;obtain⟨d,d',h1,h2,h3,h4,h5⟩:=NK g rx ry e;exact⟨d,d',h1,h2,h3,h4,by rw[h5];exact q⟩
theorem Il:ZV i .ne (FB i.K):=by
 intro v u G H x y c Q g rx ry e q;have e:(Own.eqV G v u).map (!·)=some c:=e;cases z:Own.eqV G v u with
 |none=>rw[z]at e;cases e
 |some b =>rw[z]at e;cases e;obtain⟨d,d',h1,h2,h3,h4,h5⟩:=NK g rx ry z;exact⟨d,d',h1,h2,h3,h4,by rw[h5];exact q⟩
end
variable {i:Inf}{X:Cx}{Φ:Own.Fs}
theorem ZB(s:String):(Str.ofString s).length=s.length:=by rw[Str.ofString_eq_toList];show(List.map Char.toNat s.toList).toArray.size=_;rw[qC,qA];first|rfl|exact String.length_toList
theorem JM(s t:String):Str.ofString (s++t)=Str.ofString s++Str.ofString t:=by rw[Str.ofString_eq_toList,Str.ofString_eq_toList,Str.ofString_eq_toList];show _=Str.append _ _;unfold Str.append;simp
theorem NS{o:Option Own.Ob}{xs:List Own.Val}(h:Own.lsOf o=some xs):o=some (.lst xs):=by
 cases o with
 |none=>cases h
 |some o=>cases o with
  |lst ys=>cases h;rfl
  |_=>cases h
theorem ZT{α:Type}{p:Prop}[Decidable p]{o:Option α}{a:α}(e:(if p then o else none)=some a):p∧o=some a:=by
 by_cases q:p
 ·rw[if_pos q]at e;exact⟨q,e⟩
 ·rw[if_neg q]at e;cases e
theorem Zg{h:Own.Hs}{Q:Own.Q1}(w:Own.Rs.no.wp h Q):False:=by rw[Own.Rs.wp_no]at w;exact w
theorem Zi{v:Own.Val}{h:Own.Hs}{Q:Own.Q1}(w:(Own.Rs.val v).wp h Q):Q v h:=by rw[Own.Rs.wp_val]at w;exact w
theorem JD{o:Own.Ob}{h:Own.Hs}{Q:Own.Q1}(w:(Own.Rs.new o).wp h Q):Own.new h o Q:=by rw[Own.Rs.wp_new]at w;exact w
theorem YJ{p:Prop}[Decidable p]{r:Own.Rs}{h:Own.Hs}{Q:Own.Q1}(w:(if p then r else .no).wp h Q):p∧r.wp h Q:=by
 by_cases e:p
 ·rw[if_pos e]at w;exact⟨e,w⟩
 ·rw[if_neg e]at w;exact(Zg w).elim
theorem Y6{f:Int→Int→Own.Rs}{v u:Own.Val}{h:Own.Hs}{Q:Own.Q1}(w:(Own.intV f v u).wp h Q):∃ i j,v=.int i∧u=.int j∧(f i j).wp h Q:=by
 cases v with
 |int i=>cases u with
  |int j=>exact⟨i,j,rfl,rfl,w⟩
  |_=>exact(Zg w).elim
 |_=>exact(Zg w).elim
noncomputable def DL (K:PySem.W.Frag):R2:=fun x y H Q=>(rI0 (fun i j=>.int (i+j))) x y H Q∨(((DO K x y H Q∨DS K x y H Q)∨HW x y H Q)∨∃ i j,x=.str i∧y=.str j∧i.length+j.length≤sizeLine∧Q (.str (i++j)) H)
theorem GU:OpR X (binaryOp .Add) (DL X.K):=op_add.or (((op_cat0.or CW).or F4).or MD)
theorem b_add:XZ i .add (DL i.K):=by
 intro v u G H x y Q Qm g rx ry w c;cases v<;>cases u<;>first|exact(Zg w).elim|skip
 case int.int a b =>
  replace w:=Zi w
  exact .inl ⟨a,b,rx.int_inv,ry.int_inv,c _ G H _ (Keep.refl H) g (.int _) w⟩
 case str.str a b =>
  obtain⟨h,w⟩:=YJ w
  replace w:=Zi w
  refine .inr (.inr ⟨_,_,rx.str_inv,ry.str_inv,?_,?_⟩)
  ·rw[ZB,ZB];exact zH h ZW
  ·rw[←JM];exact c _ G H _ (Keep.refl H) g (.str _) w
 case tup.tup xs ys =>
  obtain⟨h,w⟩:=YJ w
  replace w:=Zi w
  ·skip
   cases rx with
   |@tup _ p vs hp hr =>
   cases ry with
   |@tup _ q us hq hs =>
   by_cases h0:vs=[]
   ·subst h0;have:xs=[]:=List.eq_nil_of_length_eq_zero hr.length;subst this;exact .inr (.inl (.inl (.inl ⟨p,q,us,rfl,rfl,Zk hp,Zk hq,c _ G H _ (Keep.refl H) g (.tup hq hs) w⟩)))
   refine .inr (.inl (.inl (.inr ⟨p,q,vs,us,rfl,rfl,Zk hp,Zk hq,h0,?_,fun z=>?_,fun z a ha=>?_⟩)))
   ·rw[←hr.length,←hs.length];exact zH h ZW
   ·have:ys=[]:=List.eq_nil_of_length_eq_zero (by rw[hs.length,z];rfl);subst this;rw[zF]at w;exact c _ G H _ (Keep.refl H) g (.tup hp hr) w
   ·have k:=Keep.new (o:=.tup (vs++us)) ha;refine c _ G _ _ k (g.hid k fun b o e=>upd_ne ?_) (.tup (.inl upd_same) ((hr.keep k).append (hs.keep k))) w;rintro rfl;rw[g.free ha]at e;cases e
 case ref.ref a b =>
  dsimp only[Own.binV,Own.addV]at w;split at w
  ·rename_i xs ys e1 e2;unfold Own.Rs.lst at w;split at w
   ·rename_i hl;rw[Own.Rs.wp_new]at w;cases rx.ref_inv;cases ry.ref_inv;obtain⟨vs,h1,r1⟩:=g a _ e1;obtain⟨us,h2,r2⟩:=g b _ e2;refine .inr (.inl (.inr ⟨a,b,vs,us,rfl,rfl,h1,h2,?_,Z6 g w c fun p hp=>?_⟩))
    ·rw[←r1.length,←r2.length,←qU];exact zH hl ZW
    ·have k:=Keep.new (o:=.lst (vs++us)) hp;exact⟨_,upd_same,(r1.keep k).append (r2.keep k)⟩
   ·exact(Zg w).elim
  ·exact(Zg w).elim
theorem b_sub:XZ i .sub (rI0 fun i j=>.int (i - j)):=by intro v u G H x y Q Qm g rx ry w c;obtain⟨a,b,rfl,rfl,w⟩:=Y6 w;exact⟨a,b,rx.int_inv,ry.int_inv,c _ G H _ (Keep.refl H) g (.int _) (Zi w)⟩
theorem RVs.rep{K:PySem.W.Frag}{H:Hp}{vs:List Own.Val}{xs:List V}(r:RVs K H vs xs):∀ n,RVs K H (List.replicate n vs).flatten (List.replicate n xs).flatten
 |0=>.nil
 |n+1=>by rw[List.replicate_succ,List.replicate_succ,List.flatten_cons,List.flatten_cons];exact r.append (RVs.rep r n)
set_option exponentiation.threshold 2000 in
theorem EW{i j:Int}(h:Own.mulOk i j):IntMulOk i j:=by
 rcases h with(h|h)|⟨h1,h2⟩
 ·exact .of_left (intBits_le_64 (by omega) (by omega))
 ·exact .of_right (intBits_le_64 (by omega) (by omega))
 ·have e:(10:Nat) ^ 200<2 ^ 1000:=by decide
  exact .of_bits (zH (PyProof.Rows.intBits_le (qS h1 e)) (by decide)) (zH (PyProof.Rows.intBits_le (qS h2 e)) (by decide))
theorem BS(s:String)(n:Nat):EZ (Str.ofString s) n=Str.ofString (Own.repT s n):=by unfold EZ Own.repT;rw[Str.ofString_eq_toList,Str.ofString_eq_toList,String.toList_ofList];congr 1;apply Array.toList_inj.mp;rw[WP];simp[List.map_flatten,List.map_replicate]
noncomputable def Dn:R2:=fun x y H Q=>rI Own.mulOk (fun i j=>.int (i*j)) x y H Q∨(HF x y H Q∨Dy x y H Q)
theorem HX:OpR X (binaryOp .Mult) Dn:=OpR.or (opI fun _ _ _ _ _ _ _ hc q=>PyProof.Rows.mul_int q (EW hc)) (op_rep.or B3)
theorem b_mul:XZ i .mul Dn:=by
 intro v u G H x y Q Qm g rx ry w c;cases v<;>cases u<;>first|exact(Zg w).elim|skip
 case int.int a b =>obtain⟨h,w⟩:=YJ w;exact .inl ⟨a,b,rx.int_inv,ry.int_inv,h,c _ G H _ (Keep.refl H) g (.int _) (Zi w)⟩
 case ref.int a k =>
  dsimp only[Own.binV,Own.mulV]at w;split at w
  ·rename_i xs e1;split at w
   ·rename_i hk;unfold Own.Rs.lst at w;split at w
    ·rw[Own.Rs.wp_new]at w;cases rx.ref_inv;cases ry.int_inv;obtain⟨vs,h1,r1⟩:=g a _ e1;refine .inr (.inl ⟨a,k,vs,rfl,rfl,h1,by omega,by omega,?_,Z6 g w c fun p hp=>?_⟩)
     ·rw[←r1.length];exact zH hk.2.2 ZW
     ·have kk:=Keep.new (o:=.lst (List.replicate k.toNat vs).flatten) hp;exact⟨_,upd_same,(r1.keep kk).rep _⟩
    ·exact(Zg w).elim
   ·exact(Zg w).elim
  ·exact(Zg w).elim
 case str.int a k =>
  obtain⟨hk,w⟩:=YJ w
  replace w:=Zi w
  refine .inr (.inr ⟨_,k,rx.str_inv,ry.int_inv,hk.1,hk.2.1,by rw[ZB];exact hk.2.2.1,by rw[ZB];exact hk.2.2.2,?_⟩);rw[BS];exact c _ G H _ (Keep.refl H) g (.str _) w
theorem b_fdiv:XZ i .fdiv (rI GL fun i j=>.int (i / j)):=by intro v u G H x y Q Qm g rx ry w c;obtain⟨a,b,rfl,rfl,w⟩:=Y6 w;obtain⟨h,w⟩:=YJ w;exact⟨a,b,rx.int_inv,ry.int_inv,h,c _ G H _ (Keep.refl H) g (.int _) (Zi w)⟩
theorem b_mod:XZ i .mod (rI (fun _ j=>0<j) fun i j=>.int (i % j)):=by intro v u G H x y Q Qm g rx ry w c;obtain⟨a,b,rfl,rfl,w⟩:=Y6 w;obtain⟨h,w⟩:=YJ w;exact⟨a,b,rx.int_inv,ry.int_inv,h,c _ G H _ (Keep.refl H) g (.int _) (Zi w)⟩
theorem b_pow:XZ i .pow (rI HE fun i j=>.int (i ^ j.toNat)):=by intro v u G H x y Q Qm g rx ry w c;obtain⟨a,b,rfl,rfl,w⟩:=Y6 w;obtain⟨h,w⟩:=YJ w;exact⟨a,b,rx.int_inv,ry.int_inv,h,c _ G H _ (Keep.refl H) g (.int _) (Zi w)⟩
theorem ZA{K:PySem.W.Frag}{H:Hp}:∀ {xs:List Own.Val}{ns:List Int}{vs:List V},Own.intsOf xs=some ns→RVs K H xs vs→vs=ns.map V.int
 |[],_,_,e,.nil=>by cases e;rfl
 |.int k::xs,_,_,e,.cons r t=>by
  simp only[Own.intsOf]at e;cases z:Own.intsOf xs with
  |none=>rw[z]at e;cases e
  |some ns=>rw[z]at e;cases e;cases r;rw[ZA z t];rfl
 |.non::_,_,_,e,_=>by cases e
 |.bl _::_,_,_,e,_=>by cases e
 |.str _::_,_,_,e,_=>by cases e
 |.tup _::_,_,_,e,_=>by cases e
 |.ref _::_,_,_,e,_=>by cases e
 |.scr _::_,_,_,e,_=>by cases e
theorem XO:∀ (ns ms:List Int),Own.lexI ns ms=HT.lexLt ns ms
 |[],[]=>rfl
 |[],_::_=>rfl
 |_::_,[]=>rfl
 |x::xs,y::ys=>by rw[Own.lexI,HT.lexLt_cons,XO xs ys]
noncomputable def HN (K:PySem.W.Frag):R2:=fun x y H Q=>rI0 (fun i j=>.bl (decide (i<j))) x y H Q∨GG K x y H Q
theorem LJ(hu:X.A.units<cLine):OpR X (compareOp .Lt) (HN X.K):=op_lt.or (EX hu)
noncomputable def Hf (K:PySem.W.Frag):R2:=fun x y H Q=>rI0 (fun i j=>.bl (decide (j<i))) x y H Q∨HT2.rGtT K x y H Q
theorem Pr(hu:X.A.units<cLine):OpR X (compareOp .Gt) (Hf X.K):=op_gt.or (HT2.op_gtT hu)
theorem Dw{H:Hp}{K:PySem.W.Frag}{xs ys:List Own.Val}{x y:V}{c:Bool}(rx:RV K H (.tup xs) x)(ry:RV K H (.tup ys) y)(e:Own.ltV (.tup xs) (.tup ys)=some c):∃ a b ns ms,x=.ref a∧y=.ref b∧SqT K H a (ns.map V.int)∧SqT K H b (ms.map V.int)∧HT.lexLt ns ms=c:=by
 simp only[Own.ltV]at e;cases z1:Own.intsOf xs with
 |none=>rw[z1]at e;cases e
 |some ns =>
  cases z2:Own.intsOf ys with
  |none=>rw[z1,z2]at e;cases e
  |some ms =>
   rw[z1,z2]at e;cases e;cases rx with
   |@tup _ p vs hp hr =>
   cases ry with
   |@tup _ q us hq hs =>
   have h1:=ZA z1 hr;have h2:=ZA z2 hs;subst h1 h2;exact⟨p,q,ns,ms,rfl,rfl,Zk hp,Zk hq,(XO _ _).symm⟩
theorem c_lt:ZV i .lt (HN i.K):=by
 intro v u G H x y c Q g rx ry e q
 replace e:Own.ltV v u=some c:=e
 cases v<;>cases u<;>first|(cases e;done)|skip
 case int.int a b=>cases e;exact .inl ⟨a,b,rx.int_inv,ry.int_inv,q⟩
 case tup.tup xs ys =>obtain⟨a,b,ns,ms,h1,h2,h3,h4,h5⟩:=Dw rx ry e;exact .inr ⟨a,b,ns,ms,h1,h2,h3,h4,by rw[h5];exact q⟩
theorem c_gt:ZV i .gt (Hf i.K):=by
 intro v u G H x y c Q g rx ry e q
 replace e:Own.ltV u v=some c:=e
 cases v<;>cases u<;>first|(cases e;done)|skip
 case int.int a b=>cases e;exact .inl ⟨a,b,rx.int_inv,ry.int_inv,q⟩
 case tup.tup xs ys =>obtain⟨a,b,ns,ms,h1,h2,h3,h4,h5⟩:=Dw ry rx e;exact .inr ⟨b,a,ms,ns,h2,h1,h4,h3,by rw[HT2.lexGt_lt,h5];exact q⟩
theorem DR{v u:Own.Val}{c:Bool}(e:Own.leV v u=some c):∃ i j,v=.int i∧u=.int j∧decide (i≤j)=c:=by
 cases v with
 |int i=>cases u with
  |int j=>cases e;exact⟨i,j,rfl,rfl,rfl⟩
  |_=>cases e
 |_=>cases e
theorem c_le:ZV i .le (rI0 fun i j=>.bl (decide (i≤j))):=by intro v u G H x y c Q g rx ry e q;obtain⟨a,b,rfl,rfl,rfl⟩:=DR e;exact⟨a,b,rx.int_inv,ry.int_inv,q⟩
theorem c_ge:ZV i .ge (rI0 fun i j=>.bl (decide (j≤i))):=by intro v u G H x y c Q g rx ry e q;obtain⟨a,b,rfl,rfl,rfl⟩:=DR e;exact⟨b,a,rx.int_inv,ry.int_inv,q⟩
theorem RV.isN{K:PySem.W.Frag}{H:Hp}{v:Own.Val}{x:V}(r:RV K H v x):decide (x=.non)=decide (v=.non):=by cases r<;>simp
theorem Hh{a:Expr}{ma:Own.E}{pos p2:Pos}{j:Nat}(ha:PE X a (tE X i Φ ma)):PE X (.Compare a [.Is] [.Constant .none j p2] pos) (tE X i Φ (.cmp .is ma (.cst .non))) :=
 (O6 (Aa ha) rfl).imp fun σ H Q ⟨env,G,Qm,Em,p,w,c⟩=>by rw[Own.q_e_cmp]at w;refine one p w fun v G1 H1 x k1 p1 r q=>?_;rw[Own.q_e_cst]at q;obtain⟨d,e,q2⟩:=go_some q;have e:some (decide (v=.non))=some d:=e;cases e;rw[r.isN];exact c _ G1 H1 _ k1 p1.hp (.bl _) q2
theorem D6{a:Expr}{ma:Own.E}{pos p2:Pos}{j:Nat}(ha:PE X a (tE X i Φ ma)):PE X (.Compare a [.IsNot] [.Constant .none j p2] pos) (tE X i Φ (.cmp .isnot ma (.cst .non))) :=
 (O6 (Nz ha) rfl).imp fun σ H Q ⟨env,G,Qm,Em,p,w,c⟩=>by rw[Own.q_e_cmp]at w;refine one p w fun v G1 H1 x k1 p1 r q=>?_;rw[Own.q_e_cst]at q;obtain⟨d,e,q2⟩:=go_some q;have e:some (!decide (v=.non))=some d:=e;cases e;rw[r.isN];exact c _ G1 H1 _ k1 p1.hp (.bl _) q2
theorem DZ{a:Expr}{ma:Own.E}{pos p2:Pos}{j:Nat}(ha:PE X a (tE X i Φ ma)):PT X (.Compare a [.Is] [.Constant .none j p2] pos) (tTt X i Φ (.val (.cmp .is ma (.cst .non)))) :=
 (O8 (Aa ha) rfl).imp fun σ H Q ⟨env,G,Qm,Em,p,w,c⟩=>by rw[Own.q_t_val,Own.q_e_cmp]at w;refine one p w fun v G1 H1 x k1 p1 r q=>?_;rw[Own.q_e_cst]at q;obtain⟨d,e,q2⟩:=go_some q;obtain⟨d',e',q3⟩:=go_some q2;cases e';have e:some (decide (v=.non))=some d:=e;cases e;rw[r.isN];exact⟨_,rfl,c _ G1 H1 k1 p1.hp q3⟩
theorem C6{a:Expr}{ma:Own.E}{pos p2:Pos}{j:Nat}(ha:PE X a (tE X i Φ ma)):PT X (.Compare a [.IsNot] [.Constant .none j p2] pos) (tTt X i Φ (.val (.cmp .isnot ma (.cst .non)))) :=
 (O8 (Nz ha) rfl).imp fun σ H Q ⟨env,G,Qm,Em,p,w,c⟩=>by rw[Own.q_t_val,Own.q_e_cmp]at w;refine one p w fun v G1 H1 x k1 p1 r q=>?_;rw[Own.q_e_cst]at q;obtain⟨d,e,q2⟩:=go_some q;obtain⟨d',e',q3⟩:=go_some q2;cases e';have e:some (!decide (v=.non))=some d:=e;cases e;rw[r.isN];exact⟨_,rfl,c _ G1 H1 k1 p1.hp q3⟩
theorem c_ntT:ZV i .ntT GM:=by
 intro v u G H x y c Q g rx ry e q;cases v with
 |bl a=>cases u with
  |bl b=>cases rx;cases ry;cases e;exact⟨a,b,rfl,rfl,q⟩
  |_=>cases e
 |_=>cases e
end Snd
namespace Snd
open PySem L2 PySem.Spec PyProof.Rows
variable {i:Inf}{X:Cx}{Φ:Own.Fs}
theorem RKs.length{K:PySem.W.Frag}{H:Hp}:∀ {kvs:List (Own.Val×Own.Val)}{ps:List (Key×V)},RKs K H kvs ps→kvs.length=ps.length
 |_,_,.nil=>rfl
 |_,_,.cons _ _ t=>by rw[qB,qB,RKs.length t]
theorem XS{k j:Own.Val}{c d:Key}(a:X7 k c)(b:X7 j d):(k==j)=decide (c=d):=by
 have key:k=j↔c=d:=by
  cases k<;>cases c<;>first|(cases a;done)|skip
  ·cases j<;>cases d<;>first|(cases b;done)|skip
   ·cases a;cases b;simp
   ·cases a;cases b;simp
  ·cases j<;>cases d<;>first|(cases b;done)|skip
   ·cases a;cases b;simp
   ·cases a;cases b;simp[ofS_inj]
 by_cases e:k=j
 ·rw[qQ (key.mp e),e];simp
 ·rw[qP fun z=>e (key.mpr z)];simpa using e
theorem key_of{k:Own.Val}{x:V}{K:PySem.W.Frag}{H:Hp}(h:Own.isKey k=true)(r:RV K H k x):∃ c,X7 k c∧x=kV c:=by
 cases k with
 |int n=>cases r.int_inv;exact⟨.inl n,rfl,rfl⟩
 |str s=>cases r.str_inv;exact⟨.inr (Str.ofString s),rfl,rfl⟩
 |_=>cases h
theorem RKs.look{K:PySem.W.Frag}{H:Hp}{k:Own.Val}{c:Key}(a:X7 k c):∀ {kvs:List (Own.Val×Own.Val)}{ps:List (Key×V)},RKs K H kvs ps→
  (∀ v,Own.lookK kvs k=some v→∃ x,YG ps c=some x∧RV K H v x)∧(Own.lookK kvs k=none→YG ps c=none)
 |_,_,.nil=>⟨fun v e=>(by cases e),fun _=>rfl⟩
 |_,_,.cons (k:=j) (v:=u) (c:=d) (x:=y) (kvs:=kvs) (ps:=ps) b r t=>by
  have ih:=RKs.look a t;have q:=XS b a;by_cases e:d=c
  ·rw[qQ e]at q;have e1:Own.lookK ((j,u)::kvs) k=some u:=by simp[Own.lookK,List.find?_cons,q]
   rw[e1,Ys e];exact⟨fun v z=>(by cases z;exact⟨y,rfl,r⟩),fun z=>(by cases z)⟩
  ·rw[qP e]at q;have e1:Own.lookK ((j,u)::kvs) k=Own.lookK kvs k:=by simp[Own.lookK,List.find?_cons,q]
   rw[e1,Yw e];exact ih
theorem RKs.has{K:PySem.W.Frag}{H:Hp}{k:Own.Val}{c:Key}(a:X7 k c):∀ {kvs:List (Own.Val×Own.Val)}{ps:List (Key×V)},RKs K H kvs ps→Own.hasK kvs k=ps.any fun kv=>decide (kv.1=c)
 |_,_,.nil=>rfl
 |_,_,.cons b r t=>by have ih:=RKs.has a t;unfold Own.hasK at ih ⊢;rw[List.any_cons,List.any_cons,ih,XS b a]
theorem RKs.app{K:PySem.W.Frag}{H:Hp}{k v:Own.Val}{c:Key}{x:V}(a:X7 k c)(q:RV K H v x):∀ {kvs:List (Own.Val×Own.Val)}{ps:List (Key×V)},RKs K H kvs ps→RKs K H (kvs++[(k,v)]) (ps++[(c,x)])
 |_,_,.nil=>.cons a q .nil
 |_,_,.cons b r t=>.cons b r (RKs.app a q t)
theorem RKs.repl{K:PySem.W.Frag}{H:Hp}{k v:Own.Val}{c:Key}{x:V}(a:X7 k c)(q:RV K H v x):∀ {kvs:List (Own.Val×Own.Val)}{ps:List (Key×V)},RKs K H kvs ps→
  RKs K H (kvs.map fun p=>if p.1==k then(k,v)else p) (ps.map fun kv=>if kv.1=c then(kv.1,x)else kv)
 |_,_,.nil=>.nil
 |_,_,.cons (k:=j) (v:=u) (c:=d) (x:=y) b r t=>by
  have ih:=RKs.repl a q t;have z:=XS b a;rw[qG,qG];by_cases e:d=c
  ·rw[qQ e]at z;rw[if_pos z,if_pos e];exact .cons (e▸a) q ih
  ·rw[qP e]at z;rw[if_neg (by rw[z];decide),if_neg e];exact .cons b r ih
theorem RKs.put{K:PySem.W.Frag}{H:Hp}{k v:Own.Val}{c:Key}{x:V}(a:X7 k c)(q:RV K H v x){kvs:List (Own.Val×Own.Val)}{ps:List (Key×V)}(r:RKs K H kvs ps):RKs K H (Own.putK kvs k v) (L2.putK ps c x):=by
 unfold Own.putK L2.putK;rw[r.has a];by_cases e:(ps.any fun kv=>decide (kv.1=c))=true
 ·rw[if_pos e,if_pos e];exact r.repl a q
 ·rw[if_neg e,if_neg e];exact r.app a q
theorem RKs.drop{K:PySem.W.Frag}{H:Hp}{k:Own.Val}{c:Key}(a:X7 k c):∀ {kvs:List (Own.Val×Own.Val)}{ps:List (Key×V)},RKs K H kvs ps→RKs K H (Own.dropK kvs k) (L2.dropK ps c)
 |_,_,.nil=>.nil
 |_,_,.cons (k:=j) (v:=u) (c:=d) (x:=y) b r t=>by
  have ih:=RKs.drop a t;have z:=XS b a;unfold Own.dropK L2.dropK at ih ⊢;rw[List.filter_cons,List.filter_cons];by_cases e:d=c
  ·rw[qQ e]at z;rw[if_neg (by rw[z];decide),if_neg (by simpa using e)];exact ih
  ·rw[qP e]at z;rw[if_pos (by rw[z];rfl),if_pos (by simpa using e)];exact .cons b r ih
theorem Df{G:Own.Hs}{H:Hp}{a:Addr}{kvs kvs':List (Own.Val×Own.Val)}{ps ps':List (Key×V)}(g:RH i G H)(h:H a=some (.dK ps))(r:RKs i.K H kvs' ps'):Keep H (upd H a (.dK ps'))∧RH i (Own.upd G a (.dct kvs')) (upd H a (.dK ps')):=by
 have k:Keep H (upd H a (.dK ps')):=Keep.put (fun xs e=>by rw[h]at e;cases e) fun p u e=>by rw[h]at e;cases e
 exact⟨k,g.put k ⟨ps',upd_same,r.keep k⟩⟩
theorem RTs.length{K:PySem.W.Frag}{H:Hp}:∀ {kvs:List (Own.Val×Own.Val)}{ps:List (List Key×V)},RTs K H kvs ps→kvs.length=ps.length
 |_,_,.nil=>rfl
 |_,_,.cons _ t=>by rw[qB,qB,RTs.length t]
theorem JX(a b i j:Int):(Own.Val.key a b == .key i j)=decide (([.inl a,.inl b]:List Key)=[.inl i,.inl j]):=by
 by_cases e:a=i∧b=j
 ·obtain⟨rfl,rfl⟩:=e;rw[qQ rfl];simp
 ·rw[qP fun z=>e (by simpa using z)];exact beq_eq_false_iff_ne.mpr fun z=>e (by simpa using z)
theorem RTs.look{K:PySem.W.Frag}{H:Hp}{i j:Int}:∀ {kvs:List (Own.Val×Own.Val)}{ps:List (List Key×V)},RTs K H kvs ps→
  (∀ v,Own.lookK kvs (.key i j)=some v→∃ x,YG ps [.inl i,.inl j]=some x∧RV K H v x)∧(Own.lookK kvs (.key i j)=none→YG ps [.inl i,.inl j]=none)
 |_,_,.nil=>⟨fun v e=>(by cases e),fun _=>rfl⟩
 |_,_,.cons (i:=a) (j:=b) (v:=u) (x:=y) (kvs:=kvs) (ps:=ps) r t=>by
  have ih:=RTs.look (i:=i) (j:=j) t;have q:=JX a b i j;by_cases e:([.inl a,.inl b]:List Key)=[.inl i,.inl j]
  ·rw[qQ e]at q;have e1:Own.lookK ((.key a b,u)::kvs) (.key i j)=some u:=by simp[Own.lookK,List.find?_cons,q]
   rw[e1,Ys e];exact⟨fun v z=>(by cases z;exact⟨y,rfl,r⟩),fun z=>(by cases z)⟩
  ·rw[qP e]at q;have e1:Own.lookK ((.key a b,u)::kvs) (.key i j)=Own.lookK kvs (.key i j):=by simp[Own.lookK,List.find?_cons,q]
   rw[e1,Yw e];exact ih
theorem RTs.has{K:PySem.W.Frag}{H:Hp}{i j:Int}:∀ {kvs:List (Own.Val×Own.Val)}{ps:List (List Key×V)},RTs K H kvs ps→Own.hasK kvs (.key i j)=ps.any fun kv=>decide (kv.1=[.inl i,.inl j])
 |_,_,.nil=>rfl
 |_,_,.cons (i:=a) (j:=b) r t=>by have ih:=RTs.has (i:=i) (j:=j) t;unfold Own.hasK at ih ⊢;rw[List.any_cons,List.any_cons,ih,JX a b i j]
theorem RTs.app{K:PySem.W.Frag}{H:Hp}{v:Own.Val}{i j:Int}{x:V}(q:RV K H v x):∀ {kvs:List (Own.Val×Own.Val)}{ps:List (List Key×V)},RTs K H kvs ps→RTs K H (kvs++[(.key i j,v)]) (ps++[([.inl i,.inl j],x)])
 |_,_,.nil=>.cons q .nil
 |_,_,.cons r t=>.cons r (RTs.app q t)
theorem RTs.repl{K:PySem.W.Frag}{H:Hp}{v:Own.Val}{i j:Int}{x:V}(q:RV K H v x):∀ {kvs:List (Own.Val×Own.Val)}{ps:List (List Key×V)},RTs K H kvs ps→
  RTs K H (kvs.map fun p=>if p.1 == .key i j then(.key i j,v)else p) (ps.map fun kv=>if kv.1=[.inl i,.inl j]then(kv.1,x)else kv)
 |_,_,.nil=>.nil
 |_,_,.cons (i:=a) (j:=b) (v:=u) (x:=y) r t=>by
  have ih:=RTs.repl (i:=i) (j:=j) q t;have z:=JX a b i j;rw[qG,qG];by_cases e:([.inl a,.inl b]:List Key)=[.inl i,.inl j]
  ·rw[qQ e]at z;simp only[z,if_true,e];exact .cons q ih
  ·rw[qP e]at z;simp only[z,e,if_false,Bool.false_eq_true];exact .cons r ih
theorem RTs.put{K:PySem.W.Frag}{H:Hp}{v:Own.Val}{i j:Int}{x:V}(q:RV K H v x){kvs:List (Own.Val×Own.Val)}{ps:List (List Key×V)}(r:RTs K H kvs ps):RTs K H (Own.putK kvs (.key i j) v) (L2.putK ps [.inl i,.inl j] x):=by
 unfold Own.putK L2.putK;rw[r.has];by_cases e:(ps.any fun kv=>decide (kv.1=[.inl i,.inl j]))=true
 ·rw[if_pos e,if_pos e];exact r.repl q
 ·rw[if_neg e,if_neg e];exact r.app q
theorem Cl{G:Own.Hs}{H:Hp}{a:Addr}{kvs':List (Own.Val×Own.Val)}{ps ps':List (List Key×V)}(g:RH i G H)(h:H a=some (.dT ps))(r:RTs i.K H kvs' ps'):Keep H (upd H a (.dT ps'))∧RH i (Own.upd G a (.dtp kvs')) (upd H a (.dT ps')):=by
 have k:Keep H (upd H a (.dT ps')):=Keep.put (fun xs e=>by rw[h]at e;cases e) fun p u e=>by rw[h]at e;cases e
 exact⟨k,g.put k ⟨ps',upd_same,r.keep k⟩⟩
theorem XH{k:Own.Val}{x:V}{K:PySem.W.Frag}{H:Hp}(h:Own.isKeyT k=true)(r:RV K H k x):∃ a b c,k=.key a b∧x=.ref c∧H c=some (.tup (([.inl a,.inl b]:List Key).map kV)):=by
 cases k with
 |key a b=>cases r with|key e=>exact⟨a,b,_,rfl,rfl,e⟩
 |_=>cases h
noncomputable def HQ:R2:=fun x y H Q=>∃ a v,x=.ref a∧DGet H a y (some v)∧Q v H
theorem CZ(hu:X.A.units+1<cLine):IxR X HQ:=by
 intro value slice pins s σ H x y v u Q I rx ry h hs;obtain⟨a,z,rfl,g,q⟩:=h;cases rx;have hT:=KG I g;unfold subscriptTail;refine wpAny_bind ?_;rw[getitemInPython_of_ne hT.not_modules];refine wpAny_bind (wpAny_specialOf hT PySem.F.slot_dict_getitem.lookup ?_);have fin:wpAny (model X.prog X.w) X.A (subscripted slice false (.ref a) u) (fun r s₃=>wpAny (model X.prog X.w) X.A (letTemporaryGo value (.ref a) r >>= fun _=>pure r) (EP X pins σ Q) X.xe s₃) X.xe s:=by rw[hs];exact wpAny_operating (Ou hu I g ry fun w' s' I' rw'=>wpAny_bind (wpAny_letTemporaryGo (wpAny_pure ⟨_,_,I',rw',q⟩)))
 first
  |exact wpAny_pure (wpAny_bind fin)
  |exact wpAny_bind (wpAny_pure (wpAny_bind fin))
  |exact wpAny_bind fin
noncomputable def De (b:Bool):R2:=fun x y H Q=>∃ a o,y=.ref a∧DGet H a x o∧Q (.bl (b ^^ o.isSome)) H
theorem EU(hu:X.A.units+1<cLine):OpR X (compareOp .In) (De false):=by intro pins s σ H x y v u Q I rx ry h;obtain⟨a,o,rfl,g,q⟩:=h;cases ry;rw[Bool.false_xor]at q;exact L5 hu I g rx fun s' I'=>⟨.bl o.isSome,_,I',rfl,q⟩
theorem F8(hu:X.A.units+1<cLine):OpR X (compareOp .NotIn) (De true):=by intro pins s σ H x y v u Q I rx ry h;obtain⟨a,o,rfl,g,q⟩:=h;cases ry;rw[Bool.true_xor]at q;exact BH hu I g rx fun s' I'=>⟨.bl (!o.isSome),_,I',rfl,q⟩
def Dx:V→V→V→Hp→(Hp→Prop)→Prop:=fun o y v H Q=>∃ a H',o=.ref a∧DPut H a y v H'∧Q H'
theorem Ay(hu:X.A.units+1<cLine):PSet X Dx:=by intro pins s σ H o y v ov iv u Q I ro ri rv h;obtain⟨a,H',rfl,g,q⟩:=h;cases ro;exact N8 hu I g ri rv fun s' I'=>⟨H',I',q⟩
theorem PSet.or{r r':V→V→V→Hp→(Hp→Prop)→Prop}(h:PSet X r)(h':PSet X r'):PSet X (fun o y v H Q=>r o y v H Q∨r' o y v H Q):=by
 intro pins s σ H o y v ov iv u Q I ro ri rv q;rcases q with q|q
 ·exact h pins s σ H o y v ov iv u Q I ro ri rv q
 ·exact h' pins s σ H o y v ov iv u Q I ro ri rv q
end Snd
namespace Snd
open PySem L2
variable {i:Inf}{X:Cx}{Φ:Own.Fs}
theorem Ms(n:Nat)(k:Int):Own.ixN n k=L2.ixN n k:=rfl
theorem JA{K:PySem.W.Frag}{H:Hp}{xs:List Own.Val}{vs:List V}{k:Int}{v:Own.Val}(r:RVs K H xs vs)(e:Own.atI xs k=some v):∃ x,L2.atI vs k=some x∧RV K H v x:=by
 unfold Own.atI at e;unfold L2.atI;rw[Ms,r.length]at e;cases z:L2.ixN vs.length k with
 |none=>rw[z]at e;cases e
 |some j =>rw[z]at e;obtain⟨x,h1,h2⟩:=r.get (show xs[j]?=some v from e);exact⟨x,h1,h2⟩
def Hz (i:Inf) (r:R2):Prop:=∀ (v u:Own.Val) (G:Own.Hs) (H:Hp) (x y:V) (w:Own.Val) (Q:VK),RH i G H→RV i.K H v x→RV i.K H u y→Own.idxV G v u=some w→(∀ z,RV i.K H w z→Q z H)→r x y H Q
theorem Hc{a b:Expr}{ma mb:Own.E}{r:R2}{pos:Pos}(hr:IxR X r)(ho:Hz i r)(ha:PE X a (tE X i Φ ma))(hb:PE X b (tE X i Φ mb))(hs:Jk b):PE X (.Subscript a b pos) (tE X i Φ (.idx ma mb)) :=
 (GF hr ha hb hs).imp fun σ H Q ⟨env,G,Qm,Em,p,w,c⟩=>by
  rw[Own.q_e_idx]at w;exact two p w fun v u G2 H2 x y k2 p2 rx ry q=>by obtain⟨z,e,q⟩:=go_some q;exact ho v u G2 H2 x y z Q p2.hp rx ry e fun t rt=>c z G2 H2 t k2 p2.hp rt q
theorem BK{s:String}{k:Int}{c:Char}(e:Own.atI s.toList k=some c):L2.atI (Str.ofString s).cps.toList k=some c.toNat:=by
 rw[Str.ofString_eq_toList];show L2.atI (List.map Char.toNat s.toList).toArray.toList k=_;unfold Own.atI at e;unfold L2.atI;simp only[qA];rw[Ms]at e;cases z:L2.ixN s.toList.length k with
 |none=>rw[z]at e;cases e
 |some j =>rw[z]at e;have e:s.toList[j]?=some c:=e;show(List.map Char.toNat s.toList)[j]?=_;rw[qF,e];rfl
theorem Mi(c:Char):Str.ofString (String.singleton c)=⟨#[c.toNat]⟩:=by rw[Str.ofString_eq_toList];simp
noncomputable def Pk (K:PySem.W.Frag):R2:=fun x y H Q=>rIx K x y H Q∨HQ x y H Q
theorem He:Hz i (Pk i.K):=by
 intro v u G H x y w Q g rx ry e q;cases v with
 |tup xs =>
  cases u with
  |int k =>
   cases rx with
   |tup hp hr =>obtain⟨z,h1,h2⟩:=JA hr (show Own.atI xs k=some w from e);exact .inl (.inr (.inl ⟨_,_,k,z,rfl,ry.int_inv,Zk hp,h1,q z h2⟩))
  |_=>cases e
 |str s =>
  cases u with
  |int k =>
   simp only[Own.idxV]at e;split at e
   ·rename_i hl;cases z:Own.atI s.toList k with
    |none=>rw[z]at e;cases e
    |some c =>rw[z]at e;cases e;refine .inl (.inr (.inr ⟨_,k,_,rx.str_inv,ry.int_inv,by rw[ZB];exact zH hl ZW,BK z,?_⟩));have:=q _ (.str (String.singleton c));rw[Mi]at this;exact this
   ·cases e
  |_=>cases e
 |ref a =>
  cases rx.ref_inv
  replace e:(match G a with|some (.lst xs)=>(Own.asInt u).bind (Own.atI xs)|some (.dct kvs)=>if Own.isKey u then Own.lookK kvs u else none|some (.frz kvs)=>if Own.isKey u then Own.lookK kvs u else none|some (.dtp kvs)=>if Own.isKeyT u then Own.lookK kvs u else none|_=>none)=some w:=e
  cases z:G a with
  |none=>rw[z]at e;cases e
  |some o =>
   rw[z]at e;cases o with
   |lst xs =>obtain⟨k,hk,e⟩:=zA.mp e;cases Z5 hk;obtain⟨vs,h1,h2⟩:=g a _ z;obtain⟨t,h3,h4⟩:=JA h2 e;exact .inl (.inl ⟨a,vs,k,t,rfl,ry.int_inv,SqL.of h1,h3,q t h4⟩)
   |dct kvs =>obtain⟨hk,e⟩:=ZT (show(if Own.isKey u then Own.lookK kvs u else none)=some w from e);obtain⟨ps,h1,h2⟩:=g a _ z;obtain⟨d,kr,rfl⟩:=key_of hk ry;obtain⟨t,hx,rv⟩:=(h2.look kr).1 w e;exact .inr ⟨a,t,rfl,by rw[←hx];exact DGet.k h1,q t rv⟩
   |frz kvs =>obtain⟨hk,e⟩:=ZT (show(if Own.isKey u then Own.lookK kvs u else none)=some w from e);obtain⟨ob,ps,h1,h2⟩:=g a _ z;obtain⟨d,kr,rfl⟩:=key_of hk ry;obtain⟨t,hx,rv⟩:=(h2.look kr).1 w e;exact .inr ⟨a,t,rfl,.inl ⟨ps,d,.inr ⟨ob,h1⟩,rfl,hx.symm⟩,q t rv⟩
   |dtp kvs =>obtain⟨hk,e⟩:=ZT (show(if Own.isKeyT u then Own.lookK kvs u else none)=some w from e);obtain⟨ps,h1,h2⟩:=g a _ z;obtain⟨k1,k2,b,rfl,rfl,hb⟩:=XH hk ry;obtain⟨t,hx,rv⟩:=(h2.look).1 w e;exact .inr ⟨a,t,rfl,by rw[←hx];exact DGet.t h1 hb,q t rv⟩
   |_=>cases e
 |scr ns =>
  cases u with
  |int k =>
   cases rx with
   |scr h =>obtain⟨t,h3,h4⟩:=JA (RVs.ints ns) (show Own.atI (ns.map .int) k=some w from e);exact .inl (.inl ⟨_,_,k,t,rfl,ry.int_inv,Z7 h,h3,q t h4⟩)
  |_=>cases e
 |_=>cases e
noncomputable def tOx (X:Cx) (i:Inf) (Φ:Own.Fs) (m:Own.Oe):TO:=fun σ H Q=>∃ env G Qm Em,Pre X i σ H env G Em∧Own.wO Φ m env G Qm Em∧∀ k G' H',Keep H H'→RH i G' H'→Qm k G'→Q k H'
theorem _root_.L2.PO.imp{X:Cx}{e:Option Expr}{t t':TO}(h:PO X e t)(f:∀ σ H Q,t' σ H Q→t σ H Q):PO X e t':=fun pins s σ H Q I q=>h pins s σ H Q I (f σ H Q q)
theorem Dj:PO X none (tOx X i Φ .none):=po_none.imp fun σ H Q ⟨env,G,Qm,Em,p,w,c⟩=>by rw[Own.q_o_none]at w;exact c none G H (Keep.refl H) p.hp w
theorem CO{e:Expr}{m:Own.E}(he:PE X e (tE X i Φ m)):PO X (some e) (tOx X i Φ (.some m)):=(Cp he).imp fun σ H Q ⟨env,G,Qm,Em,p,w,c⟩=>by
 rw[Own.q_o_some]at w;exact one p w fun v G1 H1 x k1 p1 r q=>by obtain⟨b,e,q2⟩:=go_some q;cases Z5 e;exact⟨b,r.int_inv,c _ G1 H1 k1 p1.hp q2⟩
theorem MO{xs:List Own.Val}{vs:List V}{K:PySem.W.Frag}{H:Hp}(r:RVs K H xs vs)(lo hi:Option Int):RVs K H (Own.cut xs lo hi) (Jr vs lo hi):=by
 have e:∀ (n d:Nat) (o:Option Int),Own.cutAt n d o=HT.sIx n d o:=by
  intro n d o;cases o with
  |none=>rfl
  |some k =>
   show(if 0≤k then min k.toNat n else(k+n).toNat)=(if k<0 then(k+(n:Int)).toNat else min k.toNat n)
   by_cases h:k<0
   ·rw[if_pos h,if_neg (by omega)]
   ·rw[if_neg h,if_pos (by omega)]
 unfold Own.cut Jr;rw[e,e,r.length];exact(r.drop _).take _
def HJ (i:Inf) (r:V→Option Int→Option Int→Hp→VK→Prop):Prop:=∀ (v:Own.Val) (lo hi:Option Int) (G:Own.Hs) (H:Hp) (x:V) (Q:VK) (Qm:Own.Q1),RH i G H→RV i.K H v x→(Own.slcV G v lo hi).wp G Qm→Cn i H Q Qm→r x lo hi H Q
theorem GB{a:Expr}{lo hi:Option Expr}{ma:Own.E}{ml mh:Own.Oe}{r:V→Option Int→Option Int→Hp→VK→Prop}{p2 pos:Pos}(hr:SlR X r)(ho:HJ i r)(ha:PE X a (tE X i Φ ma))(hl:PO X lo (tOx X i Φ ml))(hh:PO X hi (tOx X i Φ mh)):PE X (.Subscript a (.Slice lo hi none p2) pos) (tE X i Φ (.slc ma ml mh)) :=
 (Ub hr ha hl hh).imp fun σ H Q ⟨env,G,Qm,Em,p,w,c⟩=>by
  rw[Own.q_e_slc]at w;exact⟨env,G,_,Em,p,w,fun v G1 H1 x k1 g1 r1 w1=>⟨env,G1,_,Em,p.go k1 g1,w1,fun l G2 H2 k2 g2 w2=>⟨env,G2,_,Em,(p.go k1 g1).go k2 g2,w2,fun u G3 H3 k3 g3 w3 =>
    ho v l u G3 H3 x Q Qm g3 ((r1.keep k2).keep k3) w3 (((c.go k1).go k2).go k3)⟩⟩⟩
def Hg (K:PySem.W.Frag):V→Option Int→Option Int→Hp→VK→Prop:=fun x lo hi H Q=>Gw K x lo hi H Q∨Gu K x lo hi H Q∨HS x lo hi H Q
theorem Pc:SlR X (Hg X.K):=sl_list.or (sl_tup.or sl_str)
theorem Ko(n d:Nat)(o:Option Int):Own.cutAt n d o=HT.sIx n d o:=by
 cases o with
 |none=>rfl
 |some k =>
  show(if 0≤k then min k.toNat n else(k+n).toNat)=(if k<0 then(k+(n:Int)).toNat else min k.toNat n)
  by_cases h:k<0
  ·rw[if_pos h,if_neg (by omega)]
  ·rw[if_neg h,if_pos (by omega)]
theorem J3(n d:Nat)(h:d≤n)(o:Option Int):Own.cutAt n d o≤n:=by
 cases o with
 |none=>exact h
 |some k =>show(if 0≤k then min k.toNat n else(k+n).toNat)≤n;split<;>omega
theorem clip_eq(n d:Nat)(h:d≤n)(o:Option Int):(match o with
    |none=>(d:Int)
    | some i=>max 0 (min (if i<0 then i+(n:Int)else i) (n:Int)))=(Own.cutAt n d o:Int):=by
 cases o with
 |none=>rfl
 |some k =>
  show _=(((if 0≤k then min k.toNat n else(k+n).toNat):Nat):Int)
  by_cases hk:k<0
  ·rw[if_neg (show ¬ 0≤k by omega)];simp only[hk,if_true];omega
  ·rw[if_pos (show 0≤k by omega)];simp only[hk,if_false];omega
theorem Eh(n:Nat)(lo hi:Option Int):PySem.Builtin.Str.strSliceIndices lo hi 1 n=(List.range (Own.cutAt n n hi - Own.cutAt n 0 lo)).map fun k=>Own.cutAt n 0 lo+k:=by
 have e1:=clip_eq n 0 (Nat.zero_le _) lo;have e2:=clip_eq n n (zJ _) hi;have e3:PySem.Builtin.Str.strSliceIndices lo hi 1 n=sliceRange (Own.cutAt n 0 lo:Int) (Own.cutAt n n hi:Int) 1:=by unfold PySem.Builtin.Str.strSliceIndices;rw[←e1,←e2];cases lo<;>cases hi<;>rfl
 rw[e3];unfold sliceRange;have e4:(if(1:Int) > 0 then(if(Own.cutAt n 0 lo:Int)<(Own.cutAt n n hi:Int)then((Own.cutAt n n hi:Int) - (Own.cutAt n 0 lo:Int)+1 - 1) / 1 else 0)else(if(Own.cutAt n 0 lo:Int) > (Own.cutAt n n hi:Int)then((Own.cutAt n 0 lo:Int) - (Own.cutAt n n hi:Int) - 1 - 1) / (-1)else 0)).toNat=Own.cutAt n n hi - Own.cutAt n 0 lo:=by rw[if_pos (by decide),Int.ediv_one];split<;>omega
 show(List.range (Int.toNat (if(1:Int) > 0 then _ else _))).map _=_;rw[e4];refine List.map_congr_left fun k _=>?_;omega
theorem Cf(s:String)(lo hi:Option Int):OQ (Str.ofString s) lo hi=Str.ofString (String.ofList (Own.cut s.toList lo hi)):=by
 have hl:(Str.ofString s).length=s.toList.length:=by rw[ZB,String.length_toList]
 have ha:=J3 s.toList.length 0 (Nat.zero_le _) lo;have hb:=J3 s.toList.length s.toList.length (zJ _) hi;have e:=Eh s.toList.length lo hi;rw[←hl]at e;unfold OQ;rw[e];simp only[hl];have ec:(Str.ofString s).cps.toList=s.toList.map Char.toNat:=by rw[Str.ofString_eq_toList]
 split
 ·rename_i z;rw[qA,List.length_range]at z;have e0:Own.cutAt s.toList.length 0 lo=0∨s.toList.length=0:=by omega
  have e5:Own.cut s.toList lo hi=s.toList:=by
   unfold Own.cut;rw[z];rcases e0 with e0|e0
   ·rw[e0,List.drop_zero,zC]
   ·have:s.toList=[]:=List.length_eq_zero_iff.mp e0;rw[this];simp
  rw[e5,String.ofList_toList]
 ·rw[Str.ofString_eq_toList (String.ofList _),String.toList_ofList];congr 2;have e3:(fun i:Nat=>(Str.ofString s).cps[i]?)=fun i:Nat=>(s.toList.map Char.toNat)[i]?:=by
   funext i;rw[←ec];simp
  rw[e3];by_cases hab:Own.cutAt s.toList.length 0 lo≤Own.cutAt s.toList.length s.toList.length hi
  ·rw[PySem.StrLaws.picks _ _ _ (by rw[qA];omega)];unfold Own.cut;rw[List.map_take,List.map_drop]
  ·have:Own.cutAt s.toList.length s.toList.length hi - Own.cutAt s.toList.length 0 lo=0:=by omega
   unfold Own.cut;rw[this];simp
theorem GV:HJ i (Hg i.K):=by
 intro v lo hi G H x Q Qm g r w c;cases v with
 |tup xs =>
  simp only[Own.slcV]at w;split at w
  ·simp at w
  ·rename_i hn;rw[Own.Rs.wp_val]at w;cases r with
   |@tup _ a vs hp hr =>refine .inr (.inl ⟨a,vs,rfl,Zk hp,by rw[←Ko,←Ko,←hr.length];exact hn,fun p hp'=>?_⟩);have k:=Keep.new (o:=.tup (Jr vs lo hi)) hp';refine c _ G _ _ k (g.hid k fun b o e=>upd_ne ?_) (.tup (.inl upd_same) (MO (hr.keep k) lo hi)) w;rintro rfl;rw[g.free hp']at e;cases e
 |ref a =>
  cases r.ref_inv;simp only[Own.slcV]at w;cases z:Own.lsOf (G a)with
  |none=>rw[z]at w;simp at w
  |some xs =>rw[z]at w;rw[Own.Rs.wp_new]at w;obtain⟨vs,h1,h2⟩:=ZE g z;exact .inl ⟨a,vs,rfl,h1,Z6 g w c fun p hp=>⟨_,upd_same,MO (h2.keep (Keep.new hp)) lo hi⟩⟩
 |scr ns =>
  simp only[Own.slcV,Own.Rs.wp_new]at w;cases r with
  |scr h=>exact .inl ⟨_,_,rfl,Z7 h,Z6 g w c fun p hp=>⟨_,upd_same,MO (RVs.ints ns) lo hi⟩⟩
 |str s =>
  cases r.str_inv;simp only[Own.slcV]at w;split at w
  ·rename_i hl;rw[Own.Rs.wp_val]at w;refine .inr (.inr ⟨_,rfl,by rw[ZB];exact zH hl (by decide),?_⟩);rw[Cf];exact c _ G H _ (Keep.refl H) g (.str _) w
  ·simp at w
 |_=>simp[Own.slcV]at w
theorem RVs.app1{K:PySem.W.Frag}{H:Hp}{vs:List Own.Val}{xs:List V}{v:Own.Val}{x:V}(r:RVs K H vs xs)(q:RV K H v x):RVs K H (vs++[v]) (xs++[x]):=r.append (.cons q .nil)
theorem Gz{es:List Expr}{ms:Own.Es}{k n:Nat}{pos:Pos}(hn:n≤1000)(h:PA X es (tAr X i Φ ms n)):PE X (.Tuple es k pos) (tE X i Φ (.tup ms)) :=
 (Mv h).imp fun σ H Q ⟨env,G,Qm,Em,p,w,c⟩=>by rw[Own.q_e_tup]at w;refine⟨env,G,_,Em,p,w,fun vs G1 H1 xs k1 g1 r1 hl w1=>⟨by rw[hl];exact zH hn (by decide),fun a ha=>?_⟩⟩;have k:=Keep.new (o:=.tup xs) ha;refine c _ G1 _ _ (k1.trans k) (g1.hid k fun b o e=>upd_ne ?_) (.tup (.inl upd_same) (r1.keep k)) w1;rintro rfl;rw[g1.free ha]at e;cases e
theorem HI{es:List Expr}{ms:Own.Es}{k n:Nat}{pos:Pos}(hn:n≤1000)(h:PA X es (tAr X i Φ ms n)):PE X (.Tuple es k pos) (tE X i Φ (.key ms)) :=
 (Mv h).imp fun σ H Q ⟨env,G,Qm,Em,p,w,c⟩=>by
  rw[Own.q_e_key]at w;refine⟨env,G,_,Em,p,w,fun vs G1 H1 xs k1 g1 r1 hl w1=>⟨by rw[hl];exact zH hn (by decide),fun a ha=>?_⟩⟩;have kp:=Keep.new (o:=.tup xs) ha;obtain⟨⟨m1,m2⟩,e,w2⟩:=go_some w1;have ev:vs=[.int m1,.int m2]:=by
   match vs,e with
   |[.int a,.int b],e=>cases e;rfl
  subst ev;have ex:xs=[.int m1,.int m2]:=by
   cases r1 with
   |cons r1 t=>cases t with
    |cons r2 t=>cases t;rw[r1.int_inv,r2.int_inv]
  subst ex;refine c _ G1 _ _ (k1.trans kp) (g1.hid kp fun b o e=>upd_ne ?_) (.key upd_same) w2;rintro rfl;rw[g1.free ha]at e;cases e
theorem Io{es:List Expr}{ms:Own.Es}{n:Nat}{pos:Pos}(hn:n≤1000)(h:PA X es (tAr X i Φ ms n)):PE X (.List es pos) (tE X i Φ (.lst ms)) :=
 (El h).imp fun σ H Q ⟨env,G,Qm,Em,p,w,c⟩=>by rw[Own.q_e_lst]at w;refine⟨env,G,_,Em,p,w,fun vs G1 H1 xs k1 g1 r1 hl w1=>⟨by rw[hl];exact zH hn (by decide),Z6 g1 w1 (c.go k1) fun a ha=>?_⟩⟩;exact⟨xs,upd_same,r1.keep (Keep.new ha)⟩
def BiOk (i:Inf) (f:Own.Bi) (r:List V→Hp→VK→Prop):Prop:=∀ (vs:List Own.Val) (G:Own.Hs) (H:Hp) (xs:List V) (Q:VK) (Qm:Own.Q1),RH i G H→RVs i.K H vs xs→(Own.biV G f vs).wp G Qm→Cn i H Q Qm→r xs H Q
theorem Yv{f:Own.Bi}{r:List V→Hp→VK→Prop}{ms:Own.Es}{n:Nat}(hr:BiOk i f r):∀ σ H Q,tE X i Φ (.bi f ms) σ H Q→tCB r (tAr X i Φ ms n) σ H Q:=fun σ H Q ⟨env,G,Qm,Em,p,w,c⟩=>by rw[Own.q_e_bi]at w;exact⟨env,G,_,Em,p,w,fun vs G1 H1 xs k1 g1 r1 _ w1=>hr vs G1 H1 xs Q Qm g1 r1 w1 (c.go k1)⟩
theorem RVs.inv1{K:PySem.W.Frag}{H:Hp}{v:Own.Val}{xs:List V}(r:RVs K H [v] xs):∃ x,xs=[x]∧RV K H v x:=by cases r with|cons a t=>cases t;exact⟨_,rfl,a⟩
theorem RVs.inv2{K:PySem.W.Frag}{H:Hp}{v u:Own.Val}{xs:List V}(r:RVs K H [v,u] xs):∃ x y,xs=[x,y]∧RV K H v x∧RV K H u y:=by cases r with|cons a t=>cases t with|cons b t=>cases t;exact⟨_,_,rfl,a,b⟩
theorem WK(s:String):(Str.ofString s).cps.toList=s.toList.map Char.toNat:=by rw[Str.ofString_eq_toList]
theorem Nt:∀ (l:List Char) (a:Nat),(l.map Char.toNat).foldl (fun acc c=>acc*10+(c - 48)) a=l.foldl (fun a c=>10*a+(c.toNat - 48)) a
 |[],_=>rfl
 |c::l,a=>by rw[qG,List.foldl_cons,List.foldl_cons,Nt l,Nat.mul_comm a 10]
theorem Dl{s:String}(h1:s.toList≠[])(h2:s.toList.all Own.figB=true)(h3:s.length≤640):PySem.intText? (Str.ofString s)=some ((Own.decN s.toList:Nat):Int):=by
 have hc:=WK s;rw[intText_digits (x:=Str.ofString s)]
 ·rw[hc];unfold NumText.digitsVal Own.decN;rw[Nt]
 ·rw[hc];intro c hm;obtain⟨d,hd,rfl⟩:=q8.mp hm;have:=List.all_eq_true.mp h2 d hd;unfold Own.figB at this;simpa using this
 ·rw[hc];simpa using h1
 ·rw[ZB];omega
theorem Yn{f:Own.Val→Own.Rs}{vs:List Own.Val}{h:Own.Hs}{Q:Own.Q1}(w:(Own.biOf1 f vs).wp h Q):∃ v,vs=[v]∧(f v).wp h Q:=by
 cases vs with
 |nil=>exact(Zg w).elim
 |cons v vs=>cases vs with
  |nil=>exact⟨v,rfl,w⟩
  |cons _ _=>exact(Zg w).elim
theorem Ux{f:Own.Val→Own.Val→Own.Rs}{vs:List Own.Val}{h:Own.Hs}{Q:Own.Q1}(w:(Own.biOf2 f vs).wp h Q):∃ v u,vs=[v,u]∧(f v u).wp h Q:=by
 cases vs with
 |nil=>exact(Zg w).elim
 |cons v vs=>cases vs with
  |nil=>exact(Zg w).elim
  |cons u us=>cases us with
   |nil=>exact⟨v,u,rfl,w⟩
   |cons _ _=>exact(Zg w).elim
theorem BiOk.imp{f:Own.Bi}{r r':List V→Hp→VK→Prop}(h:BiOk i f r)(k:∀ xs H Q,r xs H Q→r' xs H Q):BiOk i f r':=fun vs G H xs Q Qm g rv w c=>k _ _ _ (h vs G H xs Q Qm g rv w c)
theorem E9:BiOk i .int (fun xs H Q=>((∃ i,xs=[.int i]∧Q (.int i) H)∨∃ k,xs=[.bl k]∧Q (.int (if k then 1 else 0)) H)∨∃ z n,xs=[.str z]∧PySem.intText? z=some n∧z.length≤640∧Q (.int n) H):=by
 intro vs G H xs Q Qm g r w c;obtain⟨v,rfl,w⟩:=Yn w;obtain⟨x,rfl,rx⟩:=r.inv1;cases v with
 |int k=>cases rx.int_inv;exact .inl (.inl ⟨k,rfl,c _ G H _ (Keep.refl H) g (.int _) (Zi w)⟩)
 |bl k=>cases rx.bl_inv;exact .inl (.inr ⟨k,rfl,c _ G H _ (Keep.refl H) g (.int _) (Zi w)⟩)
 |str s =>cases rx.str_inv;obtain⟨hl,w⟩:=YJ w;exact .inr ⟨_,_,rfl,Dl hl.2.1 hl.2.2 hl.1,by rw[ZB];exact hl.1,c _ G H _ (Keep.refl H) g (.int _) (Zi w)⟩
 |_=>exact(Zg w).elim
theorem CM:BiOk i .max2 (fun xs H Q=>∃ i j,xs=[.int i,.int j]∧Q (.int (if j > i then j else i)) H):=by intro vs G H xs Q Qm g r w c;obtain⟨v,u,rfl,w⟩:=Ux w;obtain⟨a,b,rfl,rfl,w⟩:=Y6 w;obtain⟨x,y,rfl,rx,ry⟩:=r.inv2;cases rx.int_inv;cases ry.int_inv;exact⟨a,b,rfl,c _ G H _ (Keep.refl H) g (.int _) (Zi w)⟩
noncomputable def Ip (o:Option Own.Ob) (f:List Own.Val→Own.Rs):Own.Rs:=match o with
 |some (.lst xs)=>f xs
 |_=>.no
theorem Kb{o:Option Own.Ob}{f:List Own.Val→Own.Rs}{h:Own.Hs}{Q:Own.Q1}(w:(Ip o f).wp h Q):∃ xs,o=some (.lst xs)∧(f xs).wp h Q:=by
 cases o with
 |none=>exact(Zg w).elim
 |some o=>cases o with
  |lst xs=>exact⟨xs,rfl,w⟩
  |_=>exact(Zg w).elim
theorem Cw{G:Own.Hs}{H:Hp}{Q:VK}{Qm:Own.Q1}{ys:List Own.Val}{us:List V}(g:RH i G H)(r:RVs i.K H ys us)(w:Qm (.tup ys) G)(c:Cn i H Q Qm):∀ l,H l=none→Q (.ref l) (upd H l (.tup us)):=fun l hl=>by have k:=Keep.new (o:=.tup us) hl;refine c _ G _ _ k (g.hid k fun b o e=>upd_ne ?_) (.tup (.inl upd_same) (r.keep k)) w;rintro rfl;rw[g.free hl]at e;cases e
theorem Ap:BiOk i .tuple (fun xs H Q=>∃ p ys,xs=[.ref p]∧((SqL i.K H p ys∧∀ l,H l=none→Q (.ref l) (upd H l (.tup ys)))∨(SqT i.K H p ys∧Q (.ref p) H))):=by
 intro vs G H xs Q Qm g r w c;obtain⟨v,rfl,w⟩:=Yn w;obtain⟨x,rfl,rx⟩:=r.inv1;cases v with
 |ref a =>cases rx.ref_inv;obtain⟨ys,e,w⟩:=Kb (f:=fun xs=>.val (.tup xs)) w;obtain⟨us,h1,h2⟩:=g a _ e;exact⟨a,us,rfl,.inl ⟨SqL.of h1,Cw g h2 (Zi w) c⟩⟩
 |tup ys =>
  cases rx with
  |tup hp hr=>exact⟨_,_,rfl,.inr ⟨Zk hp,c _ G H _ (Keep.refl H) g (.tup hp hr) (Zi w)⟩⟩
 |_=>exact(Zg w).elim
noncomputable def kinds:List String:=["int","bool","str","list","tuple","dict"]
theorem Nr (K:PySem.W.Frag):∀ t∈["NoneType","bool","int","str","tuple","list","dict"],∀ T∈kinds,PySem.W.kitOne K (.type t) (.type T)=some (t==T||(t == "bool" && T == "int")):=by intro t ht T hT;simp only[kinds,qE,List.not_mem_nil,or_false]at ht hT;rcases ht with rfl|rfl|rfl|rfl|rfl|rfl|rfl<;>rcases hT with rfl|rfl|rfl|rfl|rfl|rfl<;>rfl
theorem WL {G:Own.Hs}{H:Hp}(g:RH i G H){v:Own.Val}{x:V}{t:String}(r:RV i.K H v x) (e:Own.kindV G v=some t):TyV i.K H x (.type t)∧t∈["NoneType","bool","int","str","tuple","list","dict"]:=by
 cases v with
 |non=>cases r;cases e;exact⟨.of .non,by simp⟩
 |bl b=>cases r;cases e;exact⟨.of (.bl b),by simp⟩
 |int b=>cases r;cases e;exact⟨.of (.int b),by simp⟩
 |str b=>cases r;cases e;exact⟨.of (.str _),by simp⟩
 |tup xs=>cases e;cases r with|tup hp hr=>exact⟨.tup (Zk hp),by simp⟩
 |scr ns=>cases e;cases r with|scr h=>exact⟨.lst (Z7 h),by simp⟩
 |ref a =>
  cases r.ref_inv;simp only[Own.kindV]at e;cases q:G a with
  |none=>rw[q]at e;cases e
  |some o =>
   rw[q]at e;cases o with
   |lst xs=>cases e;obtain⟨vs,h1,_⟩:=g a _ q;exact⟨.lst (SqL.of h1),by simp⟩
   |dct kvs=>cases e;obtain⟨ps,h1,_⟩:=g a _ q;exact⟨.of (.dK h1),by simp⟩
   |ins C fs=>cases e
   |exc C=>cases e
   |frz _=>cases e
   |dtp _=>cases e
 |key _ _=>cases e
theorem Ig {e:Expr}{m:Own.E}{T:String}{p p2 pos:Pos}(hT:T∈kinds) (he:PE X e (tE X i Φ m)) (hk:X.K=i.K) (hg:Gl X "isinstance") (hm:X.mg "isinstance" = none) (hg2:Gl X (Str.ofString T)) (hm2:X.mg (Str.ofString T)=none)
  (hv2:bootBuiltins (Str.ofString T)=some (.type T)) (hn2:Str.ofString T≠"__name__") (hd2:(Str.ofString T==("__debug__" : Str))=false) (hst:starEach [e,.Name (Str.ofString T) p2] X.env=(false,eval e X.env)::starEach [.Name (Str.ofString T) p2] X.env) :
  PE X (.Call (.Name "isinstance" p) [e,.Name (Str.ofString T) p2] [] pos) (tE X i Φ (.bi (.isi [T]) (.cons m .nil))):=by
 refine(ZQ A9 hg hm (by kernel_rfl) (ZS he (ZS (Hw (T:=T) hg2 hm2 hv2 hn2 hd2) pa_nil) hst) (he:=hst)).imp fun σ H Q ⟨env,G,Qm,Em,p,w,c⟩=>?_;rw[Own.q_e_bi,Own.q_a_cons]at w;refine one p w fun v G1 H1 x k1 p1 r q=>?_;rw[Own.q_a_nil]at q
 replace q:(Own.Rs.ofO (((Own.isiV G1 v T).bind fun b=>(Own.isiAny G1 v []).map (b || ·)).map .bl)).wp G1 Qm:=q
 simp only[Own.isiAny,Own.isiV]at q;cases z:Own.kindV G1 v with
 |none=>rw[z]at q;simp[Own.Rs.ofO]at q
 |some t =>rw[z]at q;simp only[Option.map_some,Option.bind_some,Own.Rs.ofO,Own.Rs.wp_val,Bool.or_false]at q;obtain⟨h1,h2⟩:=WL p1.hp r z;refine⟨x,T,.type t,_,rfl,by rw[hk];exact h1,by rw[hk];exact Nr _ t h2 T hT,c _ G1 H1 _ k1 p1.hp (.bl _) q⟩
theorem MJ{o:Option Own.Ob}(h:Own.isLst o=true):∃ xs,o=some (.lst xs):=by
 cases o with
 |none=>cases h
 |some o=>cases o with
  |lst xs=>exact⟨xs,rfl⟩
  |_=>cases h
theorem UP{G:Own.Hs}{a:Addr}{f:Own.Ad→List Own.Val→Option (Own.Val×Own.Hs)}{t:Own.Val×Own.Hs}(e:Own.bmL G (.ref a) f=some t):∃ xs,G a=some (.lst xs)∧f a xs=some t:=by obtain⟨xs,h1,h2⟩:=zA.mp (show(Own.lsOf (G a)).bind (f a)=some t from e);exact⟨xs,NS h1,h2⟩
theorem Nu{G:Own.Hs}{H:Hp}{a:Addr}{xs:List Own.Val}{vs:List V}(g:RH i G H)(h:H a=some (.lst vs))(ys:List Own.Val)(us:List V)(r:RVs i.K H ys us):Keep H (upd H a (.lst us))∧RH i (Own.upd G a (.lst ys)) (upd H a (.lst us)):=by
 have k:Keep H (upd H a (.lst us)):=Keep.put (fun xs e=>by rw[h]at e;cases e) fun p u e=>by rw[h]at e;cases e
 exact⟨k,g.put k ⟨us,upd_same,r.keep k⟩⟩
noncomputable def spF (i:Inf) (P:Own.Pg) (n:Nat) (f:String):Sp:=fun vs H Q E=>∃ args G Qm Em,RVs i.K H args vs∧RH i G H∧Own.wF P n f args G Qm Em∧Cn i H Q Qm∧∀ cls d H',XK1 i H Em cls d H'→E cls d H'
def Dfo (pr:Program) (w:World) (mg:Str→Option Value) (base:Heap) (i:Inf) (P:Own.Pg) (n:Nat) (f:String):Prop :=
 ∃ fa fd ps,FnOk pr w i.K mg base (CX1 pr w) (2*n) fa fd ps (spF i P n f)∧mg (Str.ofString f)=some (.ref fa)∧PySem.W.keepIn i.K (.ref fa)=true∧Binds i.K fd ps []
theorem FT {P:Own.Pg}{n k:Nat}{f:String}{e:Expr}{es:List Expr}{ms:Own.Es}{p pos:Pos}(hK:X.K=i.K) (D:Dfo X.prog X.w X.mg X.base i P n f) (hr:Room (2*n) X.A) (hg:Gl X (Str.ofString f)) (hdb:(Str.ofString f==("__debug__" : Str))=false)
  (ha:PA X (e::es) (tAr X i (Own.wF P n) ms k)) (he:starEach (e::es) X.env=(false,eval e X.env)::starEach es X.env) (hpl:(backTo pos (starEach es X.env)).any (·.1)=false) :
  PE X (.Call (.Name (Str.ofString f) p) (e::es) [] pos) (tE X i (Own.wF P n) (.call f ms)):=by
 obtain⟨fa,fd,ps,F,hm,hk,hb⟩:=D;rw[←hK]at F hk hb;intro pins s σ H Q I h;obtain⟨env,G,Qm,Em,pr,w,c⟩:=h;rw[Own.q_e_call]at w;refine CL (E:=XK1 i H Em) F hr hg hm hk hb .nil (XW.passes pr.xo) ha hdb he hpl pins s σ H Q I ⟨env,G,_,Em,pr,w,fun vs G1 H1 xs k1 g1 r1 hl w1=>?_⟩;exact⟨vs,G1,Qm,Em,by rw[zF];exact r1,g1,w1,c.go k1,fun cls d H' h=>h.go k1⟩
noncomputable def XKS (i:Inf) (H:Hp) (Xe:Own.EQ):XK:=fun cls _ H'=>∃ e c G' ad,cls=.ref ad∧i.xc c ad∧Keep H H'∧RH i G' H'∧Xe e c G'
structure PreS (X:Cx) (i:Inf) (σ:St) (H:Hp) (env:Own.Env) (G:Own.Hs) (Xe:Own.EQ):Prop where
 en:REn i.K H env σ
 hp:RH i G H
 xo:XW X (XKS i H Xe)
theorem PreS.go{σ σ1:St}{H H1:Hp}{env env1:Own.Env}{G G1:Own.Hs}{Xe:Own.EQ}(p:PreS X i σ H env G Xe)(k:Keep H H1)(r:RH i G1 H1)(e:REn i.K H1 env1 σ1):PreS X i σ1 H1 env1 G1 Xe :=
 ⟨e,r,fun pins σ H0 s H' a cls s' I f ⟨e,c,G',ad,q1,q2,q3,q4⟩=>p.xo pins σ H0 s H' a cls s' I f ⟨e,c,G',ad,q1,q2,k.trans q3,q4⟩⟩
theorem PreS.pre{σ:St}{H:Hp}{env:Own.Env}{G:Own.Hs}{Xe:Own.EQ}(p:PreS X i σ H env G Xe):Pre X i σ H env G (Xe env) :=
 ⟨p.en,p.hp,fun pins σ H0 s H' a cls s' I f ⟨c,G',ad,q1,q2,q3,q4⟩=>p.xo pins σ H0 s H' a cls s' I f ⟨env,c,G',ad,q1,q2,q3,q4⟩⟩
structure EOk (i:Inf) (H:Hp) (D:Ends) (N:Own.NQ) (R:Own.Q1) (B C:Own.NQ):Prop where
 nx:∀ env' σ' G' H',Keep H H'→RH i G' H'→REn i.K H' env' σ'→N env' G'→D.nx σ' H'
 rt:∀ v G' H' x,Keep H H'→RH i G' H'→RV i.K H' v x→R v G'→D.rt x H'
 bk:∀ env' σ' G' H',Keep H H'→RH i G' H'→REn i.K H' env' σ'→B env' G'→D.bk σ' H'
 ct:∀ env' σ' G' H',Keep H H'→RH i G' H'→REn i.K H' env' σ'→C env' G'→D.ct σ' H'
theorem EOk.go{H H1:Hp}{D:Ends}{N:Own.NQ}{R:Own.Q1}{B C:Own.NQ}(e:EOk i H D N R B C)(k:Keep H H1):EOk i H1 D N R B C :=
 ⟨fun a b c d k'=>e.nx a b c d (k.trans k'),fun a b c d k'=>e.rt a b c d (k.trans k'),fun a b c d k'=>e.bk a b c d (k.trans k'),fun a b c d k'=>e.ct a b c d (k.trans k')⟩
noncomputable def tSt (X:Cx) (i:Inf) (Φ:Own.Fs) (m:Own.S):TS:=fun D σ H=>∃ env G N R B C Xe,PreS X i σ H env G Xe∧Own.wS Φ m env G N R B C Xe∧EOk i H D N R B C
noncomputable def tBl (X:Cx) (i:Inf) (Φ:Own.Fs) (m:Own.Ss):TS:=fun D σ H=>∃ env G N R B C Xe,PreS X i σ H env G Xe∧Own.wSs Φ m env G N R B C Xe∧EOk i H D N R B C
theorem _root_.L2.PS.imp{X:Cx}{st:Stmt}{t t':TS}(h:PS X st t)(f:∀ D σ H,t' D σ H→t D σ H):PS X st t':=fun pins s σ H D I q=>h pins s σ H D I (f D σ H q)
theorem _root_.L2.PSs.imp{X:Cx}{st:List Stmt}{t t':TS}(h:PSs X st t)(f:∀ D σ H,t' D σ H→t D σ H):PSs X st t':=fun pins s σ H D I q=>h pins s σ H D I (f D σ H q)
theorem Ga:PSs X [] (tBl X i Φ .nil):=pss_nil.imp fun D σ H ⟨env,G,N,R,B,C,Xe,p,w,c⟩=>by rw[Own.q_ss_nil]at w;exact c.nx env σ G H (Keep.refl H) p.hp p.en w
theorem CN{st:Stmt}{sts:List Stmt}{m:Own.S}{ms:Own.Ss}(h1:PS X st (tSt X i Φ m))(h2:PSs X sts (tBl X i Φ ms)):PSs X (st::sts) (tBl X i Φ (.cons m ms)) :=
 (Uo h1 h2).imp fun D σ H ⟨env,G,N,R,B,C,Xe,p,w,c⟩=>by rw[Own.q_ss_cons]at w;exact⟨env,G,_,R,B,C,Xe,p,w,⟨fun env' σ' G' H' k g e w'=>⟨env',G',N,R,B,C,Xe,p.go k g e,w',c.go k⟩,c.rt,c.bk,c.ct⟩⟩
theorem D1{e:Expr}{m:Own.E}{pos:Pos}(he:PE X e (tE X i Φ m)):PS X (.Return (some e) pos) (tSt X i Φ (.ret m)) :=
 (EE he).imp fun D σ H ⟨env,G,N,R,B,C,Xe,p,w,c⟩=>by rw[Own.q_s_ret]at w;exact⟨env,G,R,Xe env,p.pre,w,c.rt⟩
theorem BV{e:Expr}{m:Own.E}{pos:Pos}(he:PE X e (tE X i Φ m))(hs:swapsWith e none pos.line X.env=pure false):PS X (.Expr e pos) (tSt X i Φ (.expr m)) :=
 (C7 he hs).imp fun D σ H ⟨env,G,N,R,B,C,Xe,p,w,c⟩=>by rw[Own.q_s_expr]at w;exact⟨env,G,_,Xe env,p.pre,w,fun v G1 H1 x k1 g1 r1 w1=>c.nx env σ G1 H1 k1 g1 (p.en.keep k1) w1⟩
theorem FM{t:Expr}{a b:List Stmt}{mt:Own.Tt}{ma mb:Own.Ss}{pos:Pos}(ht:PT X t (tTt X i Φ mt))(ha:PSs X a (tBl X i Φ ma))(hb:PSs X b (tBl X i Φ mb)):PS X (.If t a b pos) (tSt X i Φ (.ite mt ma mb)) :=
 (Im ht ha hb).imp fun D σ H ⟨env,G,N,R,B,C,Xe,p,w,c⟩=>by
  rw[Own.q_s_ite]at w;refine⟨env,G,_,Xe env,p.pre,w,fun d G1 H1 k1 g1 q=>?_⟩;cases d with
  |true=>exact⟨env,G1,N,R,B,C,Xe,p.go k1 g1 (p.en.keep k1),by simpa using q,c.go k1⟩
  |false=>exact⟨env,G1,N,R,B,C,Xe,p.go k1 g1 (p.en.keep k1),by simpa using q,c.go k1⟩
noncomputable def gPt (i:Inf) (p:Own.Pt):TG:=fun x σ H Q=>∃ v env G env2,RV i.K H v x∧RH i G H∧REn i.K H env σ∧Own.bind p G v env=some env2∧∀ σ2,REn i.K H env2 σ2→Q σ2 H
theorem _root_.L2.PG.imp{X:Cx}{tg:Expr}{t t':TG}(h:PG X tg t)(f:∀ v σ H Q,t' v σ H Q→t v σ H Q):PG X tg t':=fun pins s σ H v u Q I r q=>h pins s σ H v u Q I r (f v σ H Q q)
theorem _root_.L2.PGs.imp{X:Cx}{tg:List Expr}{t t':TGs}(h:PGs X tg t)(f:∀ v σ H Q,t' v σ H Q→t v σ H Q):PGs X tg t':=fun pins s σ H v u Q I r q=>h pins s σ H v u Q I r (f v σ H Q q)
theorem K3{x:Str}{j:Nat}{pos:Pos}(hN:X.N.Nodup)(hi:X.N[j]?=some x)(hx:Loc X.env.scope x)(hf:X.fn x=true∨X.env.scope.names.lookup x=some .local):PG X (.Name x pos) (gPt i (.one j)) :=
 (Nk hN hi hx hf).imp fun v σ H Q ⟨u,env,G,env2,r,g,e,b,h⟩=>by cases b;exact h _ (e.set r j)
noncomputable def Ua (i:Inf) (js:List Nat):TGs:=fun xs σ H Q=>∃ vs env env2,RVs i.K H vs xs∧REn i.K H env σ∧Own.bindL js vs env=some env2∧∀ σ2,REn i.K H env2 σ2→Q σ2 H
theorem Di:PGs X [] (Ua i []):=pgs_nil.imp fun xs σ H Q ⟨vs,env,env2,r,e,b,h⟩=>by
 cases vs with
 |nil=>cases r;cases b;exact⟨rfl,h _ e⟩
 |cons _ _=>cases b
theorem Up{x:Str}{j:Nat}{js:List Nat}{es:List Expr}{pos:Pos}(hN:X.N.Nodup)(hi:X.N[j]?=some x)(hx:Loc X.env.scope x)(hf:X.fn x=true∨X.env.scope.names.lookup x=some .local)(h2:PGs X es (Ua i js))
  (hs:(assignEach (.Name x pos::es) X.env).map (·.2)=assign (.Name x pos) X.env::(assignEach es X.env).map (·.2)):PGs X (.Name x pos::es) (Ua i (j::js)) :=
 (Wr (Nk hN hi hx hf) h2 hs).imp fun xs σ H Q ⟨vs,env,env2,r,e,b,h⟩=>by
  cases vs with
  |nil=>cases b
  |cons v vs =>
   cases r with
   |cons r t=>exact⟨_,_,rfl,vs,env.set j (some v),env2,t,e.set r j,b,h⟩
theorem WY:∀ {js:List Nat}{vs:List Own.Val}{env env2:Own.Env},Own.bindL js vs env=some env2→vs.length=js.length
 |[],[],_,_,_=>rfl
 |j::js,v::vs,env,_,h=>by rw[qB,qB,WY (show Own.bindL js vs (env.set j (some v))=_ from h)]
 |[],_::_,_,_,h=>by cases h
 |_::_,[],_,_,h=>by cases h
theorem Nx{es:List Expr}{js:List Nat}{k:Nat}{pos:Pos}(hK:X.K=i.K)(hc:X.calm=true)(h:PGs X es (Ua i js))(hn:(assignEach es X.env).length=js.length)(hst:(assignEach es X.env).findIdx? (·.1)=none):PG X (.Tuple es k pos) (gPt i (.many js)) :=
 (AX (n:=js.length) hc h hn hst).imp fun v σ H Q ⟨u,env,G,env2,r,g,e,b,h⟩=>by
  cases u with
  |tup vs =>
   have b:Own.bindL js vs env=some env2:=b;cases r with
   |tup hp hr=>exact⟨_,_,rfl,by rw[hK];exact Zk hp,by rw[←hr.length];exact WY b,vs,env,env2,hr,e,b,h⟩
  |_=>cases b
theorem B1{x:Str}{es:List Expr}{j:Nat}{js:List Nat}{k k2:Nat}{p1 p2 pos:Pos}(hK:X.K=i.K)(hc:X.calm=true)(h1:PG X (.Name x p1) (gPt i (.one j)))(h2:PG X (.Tuple es k2 p2) (gPt i (.many js))):PG X (.Tuple [.Name x p1,.Tuple es k2 p2] k pos) (gPt i (.nest j js)) :=
 (AX (n:=2) hc (Wr h1 (Wr h2 pgs_nil rfl) rfl) rfl rfl).imp fun v σ H Q ⟨u,env,G,env2,r,g,e,b,h⟩=>by
  cases u with
  |tup vs =>
   cases vs with
   |nil=>cases b
   |cons x0 vs=>cases vs with
    |nil=>cases b
    |cons y vs=>cases vs with
     |cons _ _=>cases b
     |nil =>
      have b:(Own.tupOf y).bind (fun ys=>Own.bindL js ys (env.set j (some x0)))=some env2:=b;cases r with
      |tup hp hr =>
       cases hr with
       |cons r0 t=>cases t with
        |cons r1 t =>cases t;exact⟨_,_,rfl,by rw[hK];exact Zk hp,rfl,_,_,rfl,x0,env,G,_,r0,g,e,rfl,fun σ2 e2=>⟨_,_,rfl,y,_,G,env2,r1,g,e2,b,fun σ3 e3=>⟨rfl,h σ3 e3⟩⟩⟩
  |_=>cases b
theorem Go{tg e:Expr}{m:Own.E}{q:Own.Pt}{pos:Pos}(he:PE X e (tE X i Φ m))(hg:PG X tg (gPt i q))(hs:swapsWithSole [tg] e pos.line X.env=pure false)(hw:swappedStores [tg] e X.env=pure none)
  (h1:(assignEach [tg] X.env).map (·.2)=[assign tg X.env]):PS X (.Assign [tg] e pos) (tSt X i Φ (.set q m)) :=
 (AA he hg hs hw h1).imp fun D σ H ⟨env,G,N,R,B,C,Xe,p,w,c⟩=>by rw[Own.q_s_set]at w;refine⟨env,G,_,Xe env,p.pre,w,fun v G1 H1 x k1 g1 r1 w1=>?_⟩;obtain⟨env2,e2,w1⟩:=go_some w1;exact⟨v,env,G1,env2,r1,g1,p.en.keep k1,e2,fun σ2 h2=>c.nx env2 σ2 G1 H1 k1 g1 h2 w1⟩
def DN:V→V→V→Hp→(Hp→Prop)→Prop:=fun o y v H Q=>DA o y v H Q∨Dx o y v H Q
theorem D7{G G3:Own.Hs}{H:Hp}{o k v:Own.Val}{y z x:V}{Q:Hp→Prop}(g:RH i G H)(ry:RV i.K H o y)(rz:RV i.K H k z)(rx:RV i.K H v x)(e:Own.putV G o k v=some G3)(c:∀ H3,Keep H H3→RH i G3 H3→Q H3):DN y z x H Q:=by
 cases o with
 |ref b =>
  cases ry.ref_inv
  replace e:(match G b with|some (.lst xs)=>(Own.asInt k).bind fun n=>(Own.ixN xs.length n).map fun j=>Own.upd G b (.lst (xs.set j v))|some (.dct kvs)=>if Own.isKey k∧kvs.length<Own.lim then some (Own.upd G b (.dct (Own.putK kvs k v)))else none|some (.dtp kvs)=>if Own.isKeyT k∧kvs.length<Own.lim then some (Own.upd G b (.dtp (Own.putK kvs k v)))else none|_=>none)=some G3:=e
  cases z4:G b with
  |none=>rw[z4]at e;cases e
  |some o =>
   rw[z4]at e;cases o with
   |lst xs =>obtain⟨n,hn,e⟩:=zA.mp e;obtain⟨jj,hj,rfl⟩:=qD.mp e;cases Z5 hn;cases rz.int_inv;obtain⟨vs,h2,r2⟩:=g b _ z4;rw[Ms,r2.length]at hj;obtain⟨k3,g3⟩:=Nu (xs:=xs) g h2 (xs.set jj v) (vs.set jj x) (r2.set rx jj);exact .inl ⟨b,vs,n,jj,rfl,rfl,h2,hj,c _ k3 g3⟩
   |dct kvs =>obtain⟨hk,e⟩:=ZT (show(if Own.isKey k∧kvs.length<Own.lim then some (Own.upd G b (.dct (Own.putK kvs k v)))else none)=some G3 from e);cases e;obtain⟨ps,h2,r2⟩:=g b _ z4;obtain⟨d,kr,rfl⟩:=key_of hk.1 rz;obtain⟨k3,g3⟩:=Df (kvs:=kvs) g h2 (r2.put kr rx);exact .inr ⟨b,_,rfl,DPut.k h2 (by rw[←RKs.length r2];exact qR hk.2 ZW),c _ k3 g3⟩
   |dtp kvs =>obtain⟨hk,e⟩:=ZT (show(if Own.isKeyT k∧kvs.length<Own.lim then some (Own.upd G b (.dtp (Own.putK kvs k v)))else none)=some G3 from e);cases e;obtain⟨ps,h2,r2⟩:=g b _ z4;obtain⟨a1,a2,d,rfl,rfl,hd⟩:=XH hk.1 rz;obtain⟨k3,g3⟩:=Cl g h2 (r2.put (i:=a1) (j:=a2) rx);exact .inr ⟨b,_,rfl,DPut.t h2 hd (by rw[←RTs.length r2];exact qR hk.2 ZW),c _ k3 g3⟩
   |_=>cases e
 |_=>cases e
theorem NY{a j e:Expr}{ma mj m:Own.E}{spos pos:Pos}(hK:X.K=i.K)(he:PE X e (tE X i Φ m))(ha:PE X a (tE X i Φ ma))(hj:PE X j (tE X i Φ mj))(hgl:PG X (.Subscript a j spos) (IH (tE X i Φ ma) (tE X i Φ mj) DN))(hs:swapsWithSole [.Subscript a j spos] e pos.line X.env=pure false)(hw:swappedStores [.Subscript a j spos] e X.env=pure none)
  (h1:(assignEach [.Subscript a j spos] X.env).map (·.2)=[assign (.Subscript a j spos) X.env]):PS X (.Assign [.Subscript a j spos] e pos) (tSt X i Φ (.setIdx ma mj m)) :=
 (AA he hgl hs hw h1).imp fun D σ H ⟨env,G,N,R,B,C,Xe,p,w,c⟩=>by rw[Own.q_s_setIdx]at w;refine⟨env,G,_,Xe env,p.pre,w,fun v G1 H1 x k1 g1 r1 w1=>?_⟩;refine two (p.go k1 g1 (p.en.keep k1)).pre w1 fun o k G2 H2 y z k2 p2 ry rz q=>?_;obtain⟨G3,e3,q⟩:=go_some q;exact D7 p2.hp ry rz (r1.keep k2) e3 fun H3 k3 g3=>c.nx env σ _ _ ((k1.trans k2).trans k3) g3 (p2.en.keep k3) q
structure ItOk (i:Inf) (H0:Hp) (J:It) (st:Own.Hs→Prop) (xs:List Own.Val):Prop where
 go:∀ n G H v,Keep H0 H→RH i G H→st G→xs[n]?=some v→J.go n H∧∀ x H',J.yld n H x H'→Keep H H'∧RH i G H'∧RV i.K H' v x
 stop:∀ n G H,Keep H0 H→RH i G H→st G→xs.length≤n→J.stop n H
noncomputable def tIt (X:Cx) (i:Inf) (Φ:Own.Fs) (m:Own.It):TI:=fun σ H R=>∃ env G QI Em,Pre X i σ H env G Em∧Own.wI Φ m env G QI Em∧∀ st xs G' H' J,Keep H H'→RH i G' H'→ItOk i H' J st xs→QI st xs G'→R J H'
theorem _root_.L2.PI.imp{X:Cx}{tg e:Expr}{t t':TI}(h:PI X tg e t)(f:∀ σ H Q,t' σ H Q→t σ H Q):PI X tg e t':=fun pins s σ H Q I q=>h pins s σ H Q I (f σ H Q q)
noncomputable def Lp (K:PySem.W.Frag) (tl:TE):TI:=fun σ H R=>tl σ H fun x H1=>∃ a,x=.ref a∧(((∃ xs,SqL K H1 a xs)∧R (Itl K a) H1)∨((∃ xs,SqT K H1 a xs)∧R (Itt K a) H1))
theorem E1{tg l:Expr}{tl:TE}(hl:PE X l tl):PI X tg l (Lp X.K tl):=by
 intro pins s σ H R I h;refine thn (hl pins s σ H _ I h) fun v s1 ⟨x,H1,I1,r1,q1⟩=>?_;obtain⟨a,e,q1⟩:=q1;subst e;cases r1;rcases q1 with⟨⟨xs,hq⟩,q⟩|⟨⟨xs,hq⟩,q⟩
 ·obtain⟨its,rv,p,hz⟩:=I1.list hq;refine wpAny_pyIter_list p.isList ?_;refine⟨s1.heap.objs.size,[s1.heap.objs.size],_,_,H1,rfl,I1.kept (t':=s1.toks) fun b o e=>Heap.get?_push_of_some _ e,Oh a _,⟨_,Heap.get?_push_size _ rfl,rfl,rfl⟩,fun b hb=>?_,q⟩;have e:b=s1.heap.objs.size:=by simpa using hb
  subst e;exact I1.fpOk (zJ _) (I1.hok.fresh (zJ _))
 ·obtain⟨its,rv,p,hz⟩:=I1.tuple hq;refine wpAny_pyIter_tuple (show s1.heap.IsTuple a its.toArray from p) ?_;refine⟨s1.heap.objs.size,[s1.heap.objs.size],_,_,H1,rfl,I1.kept (t':=s1.toks) fun b o e=>Heap.get?_push_of_some _ e,Ml a _,⟨_,Heap.get?_push_size _ rfl,rfl,rfl⟩,fun b hb=>?_,q⟩;have e:b=s1.heap.objs.size:=by simpa using hb
  subst e;exact I1.fpOk (zJ _) (I1.hok.fresh (zJ _))
theorem it_lst{H0:Hp}{a:Addr}{xs:List Own.Val}:ItOk i H0 (Itl i.K a) (fun g=>Own.lsOf (g a)=some xs) xs where
 go:=fun n G H v _ g e hv=>by obtain⟨vs,h1,h2⟩:=ZE g e;obtain⟨x,h3,h4⟩:=h2.get hv;refine⟨⟨vs,x,h1,h3⟩,fun y H' ⟨e1,e2⟩=>?_⟩;subst e1;have:=e2 vs h1;rw[h3]at this;cases this;exact⟨Keep.refl _,g,h4⟩
 stop:=fun n G H _ g e hn=>by obtain⟨vs,h1,h2⟩:=ZE g e;exact⟨vs,h1,by rw[←h2.length];exact hn⟩
theorem it_tup{H0:Hp}{a:Addr}{xs:List Own.Val}{vs:List V}(hp:H0 a=some (.tup vs)∨KT i.K a vs)(hr:RVs i.K H0 xs vs):ItOk i H0 (Itt i.K a) (fun _=>True) xs where
 go:=fun n G H v k g e hv=>by have hp':H a=some (.tup vs)∨KT i.K a vs:=hp.imp (k.t _ _) id;obtain⟨x,h3,h4⟩:=(hr.keep k).get hv;refine⟨⟨vs,x,Zk hp',h3⟩,fun y H' ⟨e1,e2⟩=>?_⟩;subst e1;have:=e2 vs (Zk hp');rw[h3]at this;cases this;exact⟨Keep.refl _,g,h4⟩
 stop:=fun n G H k g e hn=>by have hp':H a=some (.tup vs)∨KT i.K a vs:=hp.imp (k.t _ _) id;exact⟨vs,Zk hp',by rw[←hr.length];exact hn⟩
theorem it_scr{H0:Hp}{a:Addr}{ns:List Int}(h:(∃ o,H0 a=some (.frz o (.lst (ns.map V.int))))∨KL i.K a (ns.map V.int)):ItOk i H0 (Itl i.K a) (fun _=>True) (ns.map .int) where
 go:=fun n G H v k g e hv=>by have h':SqL i.K H a (ns.map V.int):=Z7 (h.imp (fun⟨o,e⟩=>⟨o,k.f _ _ _ e⟩) id);obtain⟨x,h3,h4⟩:=(RVs.ints (K:=i.K) (H:=H) ns).get hv;refine⟨⟨_,x,h',h3⟩,fun y H' ⟨e1,e2⟩=>?_⟩;subst e1;have:=e2 _ h';rw[h3]at this;cases this;exact⟨Keep.refl _,g,h4⟩
 stop:=fun n G H k g e hn=>⟨_,Z7 (h.imp (fun⟨o,e⟩=>⟨o,k.f _ _ _ e⟩) id),by simpa using hn⟩
theorem Eo{H0:Hp}{lo hi:Int}{n:Nat}(hn:n=(hi - lo).toNat):ItOk i H0 (Itr lo n) (fun _=>True) (Own.rangeV lo hi) where
 go:=fun k G H v _ g _ hv=>by
  unfold Own.rangeV at hv;rw[qF]at hv;have hk:k<(hi - lo).toNat:=by
   by_cases h:k<(hi - lo).toNat
   ·exact h
   ·rw[List.getElem?_eq_none (by simpa using h)]at hv;cases hv
  rw[List.getElem?_range hk]at hv;cases hv;refine⟨by rw[hn];exact hk,fun x H' ⟨e1,e2⟩=>?_⟩;subst e1 e2;exact⟨Keep.refl _,g,.int _⟩
 stop:=fun k G H _ g _ hk=>by unfold Own.rangeV at hk;show n≤k;simp at hk;omega
theorem EV{tg e:Expr}{m:Own.E}(hK:X.K=i.K)(he:PE X e (tE X i Φ m)):PI X tg e (tIt X i Φ (.seq m)) :=
 (E1 he).imp fun σ H R ⟨env,G,QI,Em,p,w,c⟩=>by
  rw[Own.q_i_seq]at w;refine one p w fun v G1 H1 x k1 p1 r q=>?_;obtain⟨⟨st,xs⟩,e1,q2⟩:=go_some q;clear q;rw[hK];cases v with
  |tup ys =>
   cases e1;cases r with
   |tup hp hr=>exact⟨_,rfl,.inr ⟨⟨_,Zk hp⟩,c _ _ G1 H1 _ k1 p1.hp (it_tup hp hr) q2⟩⟩
  |scr ns =>
   cases e1;cases r with
   |scr h=>exact⟨_,rfl,.inl ⟨⟨_,Z7 h⟩,c _ _ G1 H1 _ k1 p1.hp (it_scr h) q2⟩⟩
  |ref a =>
   cases r.ref_inv;simp only[Own.itV]at e1;cases z:Own.lsOf (G1 a)with
   |none=>rw[z]at e1;cases e1
   |some ys =>rw[z]at e1;cases e1;obtain⟨vs,h1,h2⟩:=ZE p1.hp z;exact⟨a,rfl,.inl ⟨⟨vs,h1⟩,c _ _ G1 H1 _ k1 p1.hp it_lst q2⟩⟩
  |_=>cases e1
theorem A4 {tg a:Expr}{m:Own.E}{p pos:Pos}(hg:Gl X "range") (hm:X.mg "range" = none) (ha:PE X a (tE X i Φ m)) (hs:starEach [a] X.env=[(false,eval a X.env)]):PI X tg (.Call (.Name "range" p) [a] [] pos) (tIt X i Φ (.range m)) :=
 (Od hg hm (ZS ha pa_nil (by rw[hs];rfl)) hs).imp fun σ H R ⟨env,G,QI,Em,p,w,c⟩=>by rw[Own.q_i_range]at w;refine one p w fun v G1 H1 x k1 p1 r q=>?_;obtain⟨n,e1,q2⟩:=go_some q;clear q;cases Z5 e1;cases r.int_inv;exact⟨n,rfl,q2.1.1,q2.1.2,c _ _ G1 H1 _ k1 p1.hp (Eo (by rw[Int.sub_zero])) q2.2⟩
theorem Fi{tg iter:Expr}{body:List Stmt}{q:Own.Pt}{mi:Own.It}{mb:Own.Ss}{pos:Pos}(hp:PassesOwn (model X.prog X.w) X.A X.env X.xe)(hc:X.calm=true)(hi:PI X tg iter (tIt X i Φ mi))(hg:PG X tg (gPt i q))(hb:PSs X body (tBl X i Φ mb))
  (hs:∀ x,foldedSetIterable iter X.env x=pure x):PS X (.For tg iter body [] pos) (tSt X i Φ (.for q mi mb)) :=
 (Gf hp hc hi hg hb hs).imp fun D σ H ⟨env,G,N,R,B,C,Xe,p,w,c⟩=>by
  rw[Own.q_s_for]at w;refine⟨env,G,_,Xe env,p.pre,w,fun st xs G1 H1 J k1 g1 it w1=>?_⟩;refine⟨fun n m σ' H'=>n+m=xs.length∧∃ env' G',Keep H1 H'∧RH i G' H'∧REn i.K H' env' σ'∧Own.wFor st (fun v e g K M=>Own.go (Own.bind q g v e) fun e2=>Own.wSs Φ mb e2 g K R M K Xe) N (xs.drop n) env' G',⟨xs.length,by omega,env,G1,Keep.refl _,g1,p.en.keep k1,by simpa using w1⟩,?_⟩;rintro n m σ' H' ⟨hnm,env',G',k2,g2,e2,w2⟩;by_cases hn:n<xs.length
  ·right;have hd:xs.drop n=xs[n]::xs.drop (n+1):=List.drop_eq_getElem_cons hn;rw[hd]at w2;obtain⟨s2,w2⟩:=w2;have hv:xs[n]?=some xs[n]:=qH hn;obtain⟨a1,a2⟩:=it.go n G' H' xs[n] k2 g2 s2 hv;refine⟨a1,fun σ3 H3=>∃ env3 G3,Keep H1 H3∧RH i G3 H3∧REn i.K H3 env3 σ3∧Own.wFor st (fun v e g K M=>Own.go (Own.bind q g v e) fun e2=>Own.wSs Φ mb e2 g K R M K Xe) N (xs.drop (n+1)) env3 G3,fun σ3 H3 h=>⟨m - 1,by omega,by omega,h⟩,fun x H3 hy=>?_⟩;obtain⟨k3,g3,r3⟩:=a2 x H3 hy;obtain⟨env4,e4,w4⟩:=go_some w2;refine⟨xs[n],env',G',env4,r3,g3,e2.keep k3,e4,fun σ4 h4=>?_⟩;have kk:Keep H H3:=(k1.trans k2).trans k3;refine⟨env4,G',_,R,N,_,Xe,p.go kk g3 h4,w4,⟨fun env5 σ5 G5 H5 k5 g5 e5 w5=>?_,(c.go kk).rt,(c.go kk).nx,fun env5 σ5 G5 H5 k5 g5 e5 w5=>?_⟩⟩
   ·exact⟨env5,G5,(k2.trans k3).trans k5,g5,e5,w5⟩
   ·exact⟨env5,G5,(k2.trans k3).trans k5,g5,e5,w5⟩
  ·left;have hd:xs.drop n=[]:=List.drop_eq_nil_of_le (by omega);rw[hd]at w2;exact⟨it.stop n G' H' k2 g2 w2.1 (by omega),c.nx env' σ' G' H' (k1.trans k2) g2 e2 w2.2⟩
theorem Ev{t:Expr}{body:List Stmt}{mt:Own.Tt}{mb:Own.Ss}{pos:Pos}(hp:PassesOwn (model X.prog X.w) X.A X.env X.xe)(ht:PT X t (tTt X i Φ mt))(hb:PSs X body (tBl X i Φ mb)):PS X (.While t body [] pos) (tSt X i Φ (.whl mt mb)) :=
 (UG hp ht hb).imp fun D σ H ⟨env,G,N,R,B,C,Xe,p,w,c⟩=>by
  rw[Own.q_s_whl]at w;obtain⟨n,w⟩:=w;refine⟨fun m σ' H'=>∃ env' G',Keep H H'∧RH i G' H'∧REn i.K H' env' σ'∧Own.wWhile (fun e g K=>Own.wT Φ mt e g K (Xe e)) (fun e g K M=>Own.wSs Φ mb e g K R M K Xe) N m env' G',⟨n,env,G,Keep.refl H,p.hp,p.en,w⟩,?_⟩;rintro m σ' H' ⟨env',G',k1,g1,e1,w1⟩;cases m with
  |zero=>cases w1
  |succ m =>
   have w1:Own.wT Φ mt env' G' _ (Xe env'):=w1;have p1:=p.go k1 g1 e1;refine⟨env',G',_,Xe env',p1.pre,w1,fun d G2 H2 k2 g2 q=>?_⟩;cases d with
   |true =>refine⟨fun σ3 H3=>∃ env3 G3,Keep H H3∧RH i G3 H3∧REn i.K H3 env3 σ3∧Own.wWhile (fun e g K=>Own.wT Φ mt e g K (Xe e)) (fun e g K M=>Own.wSs Φ mb e g K R M K Xe) N m env3 G3,fun σ3 H3 h=>⟨m,Nat.lt_succ_self _,h⟩,?_⟩;have kk:=k1.trans k2;refine⟨env',G2,_,R,N,_,Xe,p.go kk g2 (e1.keep k2),by simpa using q,⟨fun env5 σ5 G5 H5 k5 g5 e5 w5=>⟨env5,G5,kk.trans k5,g5,e5,w5⟩,(c.go kk).rt,(c.go kk).nx,fun env5 σ5 G5 H5 k5 g5 e5 w5=>⟨env5,G5,kk.trans k5,g5,e5,w5⟩⟩⟩
   |false=>exact c.nx env' σ' G2 H2 (k1.trans k2) g2 (e1.keep k2) (by simpa using q)
theorem Fm:BiOk i .len (fun xs H Q=>((∃ p ys,xs=[.ref p]∧(SqL i.K H p ys∨SqT i.K H p ys)∧Q (.int ys.length) H)∨∃ z,xs=[.str z]∧z.length≤sizeLine∧Q (.int z.length) H)∨∃ a kvs,xs=[V.ref a]∧H a=some (.dK kvs)∧Q (.int kvs.length) H):=by
 intro vs G H xs Q Qm g r w c;obtain⟨v,rfl,w⟩:=Yn w;obtain⟨x,rfl,rx⟩:=r.inv1;cases v with
 |ref a =>
  cases rx.ref_inv
  replace w:(match G a with|some (.lst xs)=>.val (.int xs.length)|some (.dct kvs)=>.val (.int kvs.length)|_=>.no:Own.Rs).wp G Qm:=w
  cases z:G a with
  |none=>rw[z]at w;exact(Zg w).elim
  |some o =>
   rw[z]at w;cases o with
   |lst ys =>obtain⟨us,h1,h2⟩:=g a _ z;refine .inl (.inl ⟨a,us,rfl,.inl (SqL.of h1),?_⟩);rw[←h2.length];exact c _ G H _ (Keep.refl H) g (.int _) (Zi w)
   |dct kvs =>obtain⟨ps,h1,h2⟩:=g a _ z;refine .inr ⟨a,ps,rfl,h1,?_⟩;rw[←h2.length];exact c _ G H _ (Keep.refl H) g (.int _) (Zi w)
   |_=>exact(Zg w).elim
 |tup ys =>
  cases rx with
  |tup hp hr =>refine .inl (.inl ⟨_,_,rfl,.inr (Zk hp),?_⟩);rw[←hr.length];exact c _ G H _ (Keep.refl H) g (.int _) (Zi w)
 |scr ns =>
  cases rx with
  |scr h =>refine .inl (.inl ⟨_,_,rfl,.inl (Z7 h),?_⟩);rw[qA];exact c _ G H _ (Keep.refl H) g (.int _) (Zi w)
 |str s =>cases rx.str_inv;obtain⟨hl,w⟩:=YJ w;refine .inl (.inr ⟨_,rfl,by rw[ZB];exact zH hl ZW,?_⟩);rw[ZB];exact c _ G H _ (Keep.refl H) g (.int _) (Zi w)
 |_=>exact(Zg w).elim
theorem C2:BiOk i .list (fun xs H Q=>∃ p ys,xs=[.ref p]∧(SqL i.K H p ys∨SqT i.K H p ys)∧∀ l,H l=none→Q (.ref l) (upd H l (.lst ys))):=by
 intro vs G H xs Q Qm g r w c;obtain⟨v,rfl,w⟩:=Yn w;obtain⟨x,rfl,rx⟩:=r.inv1;cases v with
 |ref a =>cases rx.ref_inv;obtain⟨ys,e,w⟩:=Kb (f:=fun xs=>.new (.lst xs)) w;obtain⟨us,h1,h2⟩:=g a _ e;exact⟨a,us,rfl,.inl (SqL.of h1),Z6 g (JD w) c fun p hp=>⟨_,upd_same,h2.keep (Keep.new hp)⟩⟩
 |tup ys =>
  cases rx with
  |tup hp hr=>exact⟨_,_,rfl,.inr (Zk hp),Z6 g (JD w) c fun p hp=>⟨_,upd_same,hr.keep (Keep.new hp)⟩⟩
 |_=>exact(Zg w).elim
theorem NU{K:PySem.W.Frag}{H:Hp}:∀ {xs:List Own.Val}{bs:List Bool}{vs:List V},Own.blsOf xs=some bs→RVs K H xs vs→vs=bs.map V.bl:=by
 intro xs;induction xs with
 |nil=>intro bs vs e r;cases e;cases r;rfl
 |cons v xs ih =>
  intro bs vs e r;cases v<;>first|(cases e;done)|skip
  case bl b =>
  simp only[Own.blsOf]at e;cases z:Own.blsOf xs with
  |none=>rw[z]at e;cases e
  |some ns=>rw[z]at e;cases e;cases r with|cons a t=>cases a.bl_inv;rw[ih z t];rfl
theorem D4{o:Option Own.Val}{h:Own.Hs}{Q:Own.Q1}(w:(Own.Rs.ofO o).wp h Q):∃ v,o=some v∧Q v h:=by
 cases o with
 |none=>exact(Zg w).elim
 |some v=>exact⟨v,rfl,Zi w⟩
theorem EJ:BiOk i .all (fun xs H Q=>∃ p,∃ bs:List Bool,xs=[.ref p]∧SqL i.K H p (bs.map V.bl)∧Q (.bl (bs.all id)) H):=by
 intro vs G H xs Q Qm g r w c;obtain⟨v,rfl,w⟩:=Yn w;obtain⟨x,rfl,rx⟩:=r.inv1;cases v with
 |ref a =>cases rx.ref_inv;obtain⟨v,e,w⟩:=D4 w;obtain⟨ys,z,e⟩:=zA.mp e;obtain⟨bs,z2,rfl⟩:=qD.mp e;obtain⟨us,h1,h2⟩:=ZE g z;have:=NU z2 h2;subst this;exact⟨a,bs,rfl,h1,c _ G H _ (Keep.refl H) g (.bl _) w⟩
 |_=>exact(Zg w).elim
set_option exponentiation.threshold 2000 in
theorem Ue{k:Int}(h:k.natAbs<10 ^ 200):k.natAbs.log2<1920:=by
 have e:(10:Nat) ^ 200<2 ^ 1920:=by decide
 by_cases h0:k.natAbs=0
 ·rw[h0];decide
 ·exact(Nat.log2_lt h0).mpr (Nat.lt_trans h e)
theorem FH:BiOk i .str (fun xs H Q=>(∃ i,xs=[.int i]∧i.natAbs.log2<1920∧Q (.str (toString i)) H)∨∃ z,xs=[.str z]∧Q (.str z) H):=by
 intro vs G H xs Q Qm g r w c;obtain⟨v,rfl,w⟩:=Yn w;obtain⟨x,rfl,rx⟩:=r.inv1;cases v with
 |int a =>cases rx.int_inv;obtain⟨hl,w⟩:=YJ w;exact .inl ⟨a,rfl,Ue hl,c _ G H _ (Keep.refl H) g (.str _) (Zi w)⟩
 |str s=>cases rx.str_inv;exact .inr ⟨_,rfl,c _ G H _ (Keep.refl H) g (.str _) (Zi w)⟩
 |_=>exact(Zg w).elim
theorem A5(ds:List Own.D)(d:Own.D):(toDs ds).any (fun e=>PyData.eqv e (toD d))=ds.any fun e=>Own.D.eqv e d:=by
 induction ds with
 |nil=>rfl
 |cons e es ih=>simp only[toDs,List.any_cons,ih,JI]
theorem Nn{G:Own.Hs}{H:Hp}(g:RH i G H){v u:Own.Val}{x y:V}{ys:List Own.Val}{c:Bool}(rx:RV i.K H v x)(e:Own.inL G v ys=some c)(hy:∀ ds,ys.mapM (Own.dat G (Own.deep - 1))=some ds→IsD i.K H y (.tuple (toDs ds))∨IsD i.K H y (.list (toDs ds))) :
  ∃ ds d,(IsD i.K H y (.tuple ds)∨IsD i.K H y (.list ds))∧IsD i.K H x d∧PyData.canLayAll0 ds=true∧d.canLay0=true∧d.depth≤64∧ds.any (fun e=>PyData.eqv e d)=c:=by
 unfold Own.inL at e;cases z:Own.dat G Own.deep v with
 |none=>rw[z]at e;cases e
 |some d =>
  rw[z]at e;simp only[Option.bind_some]at e;cases z2:ys.mapM (Own.dat G (Own.deep - 1))with
  |none=>rw[z2]at e;cases e
  |some ds =>rw[z2]at e;cases e;exact⟨_,_,hy ds z2,Xc g _ _ _ _ z rx,toDs_lay ds,JH d,zH (WN _ _ _ z) (by decide),A5 ds d⟩
theorem NE{G:Own.Hs}{H:Hp}(g:RH i G H){u:Own.Val}{y:V}{ys:List Own.Val}(ry:RV i.K H u y)(hu:u=.tup ys∨∃ a,u=.ref a∧Own.lsOf (G a)=some ys):∀ ds,ys.mapM (Own.dat G (Own.deep - 1))=some ds→IsD i.K H y (.tuple (toDs ds))∨IsD i.K H y (.list (toDs ds)):=by
 intro ds hd;rcases hu with rfl|⟨a,rfl,hl⟩
 ·left;have:=Xc g Own.deep (.tup ys) (.tup ds) y (by show Option.map _ (List.mapM (Own.dat G (Own.deep - 1)) ys)=_;rw[hd];rfl) ry;simpa[toD]using this
 ·right;have:=Xc g Own.deep (.ref a) (.lst ds) y (by show(Own.lsOf (G a)).bind _=_;rw[hl];show Option.map _ (List.mapM (Own.dat G (Own.deep - 1)) ys)=_;rw[hd];rfl) ry;simpa[toD]using this
theorem FN(s t:String)(c:Char)(h:Own.oneC s=some c):(!(Builtin.Str.occurrences (Str.ofString t) (Str.ofString s) 0 (Str.ofString t).length 1).isEmpty)=decide (c∈t.toList):=by
 have e:Str.ofString s=⟨#[c.toNat]⟩:=by
  unfold Own.oneC at h;split at h
  ·rename_i d hd;cases h;rw[Str.ofString_eq_toList,hd];rfl
  ·cases h
 rw[e,StrLaws.found_one,WK];have inj:∀ {a b:Char},a.toNat=b.toNat→a=b:=fun {a b} e=>Char.ext (UInt32.toNat.inj e);by_cases hc:c∈t.toList
 ·rw[qQ hc,decide_eq_true_eq];exact qZ hc
 ·rw[qP hc,decide_eq_false_iff_not];intro m;obtain⟨d,hd,he⟩:=q8.mp m;exact hc (inj he▸hd)
noncomputable def Iu (K:PySem.W.Frag):R2:=fun x y H Q=>De false x y H Q∨CF K false x y H Q∨∃ i j,x=.str i∧y=.str j∧Q (.bl (!(Builtin.Str.occurrences j i 0 j.length 1).isEmpty)) H
noncomputable def G8 (K:PySem.W.Frag):R2:=fun x y H Q=>De true x y H Q∨CF K true x y H Q∨∃ i j,x=.str i∧y=.str j∧Q (.bl (!(!(Builtin.Str.occurrences j i 0 j.length 1).isEmpty))) H
theorem La(hu:X.A.units+65<cLine):OpR X (compareOp .In) (Iu X.K):=(EU (by omega)).or ((FS hu).or Ot)
theorem L9(hu:X.A.units+65<cLine):OpR X (compareOp .NotIn) (G8 X.K):=(F8 (by omega)).or ((OI hu).or JJ)
theorem DB{v u:Own.Val}{G:Own.Hs}{H:Hp}{x y:V}{b:Bool}(g:RH i G H)(rx:RV i.K H v x)(ry:RV i.K H u y)(e:Own.inV G v u=some b) :
  (∃ ds d,(IsD i.K H y (.tuple ds)∨IsD i.K H y (.list ds))∧IsD i.K H x d∧PyData.canLayAll0 ds=true∧d.canLay0=true∧d.depth≤64∧ds.any (fun e=>PyData.eqv e d)=b)∨
  (∃ j k,x=.str j∧y=.str k∧(!(Builtin.Str.occurrences k j 0 k.length 1).isEmpty)=b)∨∃ a o,y=.ref a∧DGet H a x o∧o.isSome=b:=by
 cases u with
 |tup ys=>exact .inl (Nn (u:=.tup ys) g rx e (NE g ry (.inl rfl)))
 |ref a =>
  replace e:(match G a with|some (.lst xs)=>Own.inL G v xs|some (.dct kvs)=>if Own.isKey v then some (Own.hasK kvs v)else none|some (.frz kvs)=>if Own.isKey v then some (Own.hasK kvs v)else none|some (.dtp kvs)=>if Own.isKeyT v then some (Own.hasK kvs v)else none|_=>none)=some b:=e
  cases z:G a with
  |none=>rw[z]at e;cases e
  |some o =>
   rw[z]at e;cases o with
   |lst ys=>exact .inl (Nn (u:=.ref a) g rx e (NE g ry (.inr ⟨a,rfl,by rw[z];rfl⟩)))
   |dct kvs =>obtain⟨hk,e⟩:=ZT (show(if Own.isKey v then some (Own.hasK kvs v)else none)=some b from e);cases e;obtain⟨ps,h1,h2⟩:=g a _ z;obtain⟨d,kr,rfl⟩:=key_of hk rx;exact .inr (.inr ⟨a,_,ry.ref_inv,DGet.k h1,by rw[h2.has kr,Yy]⟩)
   |frz kvs =>obtain⟨hk,e⟩:=ZT (show(if Own.isKey v then some (Own.hasK kvs v)else none)=some b from e);cases e;obtain⟨ob,ps,h1,h2⟩:=g a _ z;obtain⟨d,kr,rfl⟩:=key_of hk rx;exact .inr (.inr ⟨a,_,ry.ref_inv,.inl ⟨ps,d,.inr ⟨ob,h1⟩,rfl,rfl⟩,by rw[h2.has kr,Yy]⟩)
   |dtp kvs =>obtain⟨hk,e⟩:=ZT (show(if Own.isKeyT v then some (Own.hasK kvs v)else none)=some b from e);cases e;obtain⟨ps,h1,h2⟩:=g a _ z;obtain⟨k1,k2,d,rfl,rfl,hd⟩:=XH hk rx;exact .inr (.inr ⟨a,_,ry.ref_inv,DGet.t h1 hd,by rw[h2.has,Yy]⟩)
   |_=>cases e
 |str t =>
  cases v with
  |str s =>obtain⟨c,z,rfl⟩:=qD.mp e;exact .inr (.inl ⟨_,_,rx.str_inv,ry.str_inv,FN s t c z⟩)
  |_=>cases e
 |_=>cases e
theorem Dh{o:Option Bool}{b:Bool}(e:o.map (!·)=some b):o=some (!b):=by obtain⟨c,z,rfl⟩:=qD.mp e;rw[z,Bool.not_not]
theorem LW:ZV i .isin (Iu i.K):=by
 intro v u G H x y c Q g rx ry e q;rcases DB g rx ry e with⟨ds,d,h1,h2,h3,h4,h5,h6⟩|⟨j,k,h1,h2,h3⟩|⟨a,o,h1,h2,h3⟩
 ·exact .inr (.inl ⟨ds,d,h1,h2,h3,h4,h5,by show Q (.bl (List.any _ _)) H;rw[h6];exact q⟩)
 ·exact .inr (.inr ⟨j,k,h1,h2,by rw[h3];exact q⟩)
 ·exact .inl ⟨a,o,h1,h2,by rw[h3,Bool.false_xor];exact q⟩
theorem Pa:ZV i .notin (G8 i.K):=by
 intro v u G H x y c Q g rx ry e q;rcases DB g rx ry (Dh e)with⟨ds,d,h1,h2,h3,h4,h5,h6⟩|⟨j,k,h1,h2,h3⟩|⟨a,o,h1,h2,h3⟩
 ·exact .inr (.inl ⟨ds,d,h1,h2,h3,h4,h5,by show Q (.bl (!List.any _ _)) H;rw[h6,Bool.not_not];exact q⟩)
 ·exact .inr (.inr ⟨j,k,h1,h2,by rw[h3,Bool.not_not];exact q⟩)
 ·exact .inl ⟨a,o,h1,h2,by rw[h3,Bool.true_xor,Bool.not_not];exact q⟩
theorem Bx{a b d:Expr}{ma mb md:Own.E}{op op':CmpOp}{cop cop':Own.Cop}{r r':R2}{pos:Pos}(ho:OpR X (compareOp op) r)(hr:ZV i cop r)(ho':OpR X (compareOp op') r')(hr':ZV i cop' r')(ha:PE X a (tE X i Φ ma))(hb:PE X b (tE X i Φ mb))(hd:PE X d (tE X i Φ md))(hm:lastMarks [op,op'] [b,d]=false) :
  PE X (.Compare a [op,op'] [b,d] pos) (tE X i Φ (.chain cop cop' ma mb md)) :=
 (Bc ho ho' ha hb hd hm).imp fun σ H Q ⟨env,G,Qm,Em,p,w,k⟩=>by
  rw[Own.q_e_chain]at w;exact two p w fun v u G2 H2 x y k2 p2 rx ry q=>by
   obtain⟨c,e,q⟩:=go_some q;refine hr v u G2 H2 x y c _ p2.hp rx ry e ⟨c,rfl,?_⟩;cases c with
   |true =>
    rw[if_pos rfl]at q ⊢;exact one p2 q fun t G3 H3 z k3 p3 rz q=>by obtain⟨d2,e2,q⟩:=go_some q;exact hr' u t G3 H3 y z d2 Q p3.hp (ry.keep k3) rz e2 (k (.bl d2) G3 H3 (.bl d2) (k2.trans k3) p3.hp (.bl d2) q)
   |false =>rw[if_neg Bool.false_ne_true]at q ⊢;exact k _ G2 H2 _ k2 p2.hp (.bl _) q
theorem U6{a b d:Expr}{ma mb md:Own.E}{op op':CmpOp}{cop cop':Own.Cop}{r r':R2}{pos:Pos}(ho:OpR X (compareOp op) r)(hr:ZV i cop r)(ho':OpR X (compareOp op') r')(hr':ZV i cop' r')(ha:PE X a (tE X i Φ ma))(hb:PE X b (tE X i Φ mb))(hd:PE X d (tE X i Φ md))(hm:lastMarks [op,op'] [b,d]=false) :
  PT X (.Compare a [op,op'] [b,d] pos) (tTt X i Φ (.val (.chain cop cop' ma mb md))) :=
 (At ho ho' ha hb hd hm).imp fun σ H Q ⟨env,G,Qm,Em,p,w,k⟩=>by
  rw[Own.q_t_val,Own.q_e_chain]at w;exact two p w fun v u G2 H2 x y k2 p2 rx ry q=>by
   obtain⟨c,e,q⟩:=go_some q;refine hr v u G2 H2 x y c _ p2.hp rx ry e ⟨c,rfl,?_⟩;cases c with
   |true =>
    rw[if_pos rfl]at q ⊢;exact one p2 q fun t G3 H3 z k3 p3 rz q=>by obtain⟨d2,e2,q⟩:=go_some q;obtain⟨d3,e3,q⟩:=go_some q;cases e3;exact hr' u t G3 H3 y z d2 _ p3.hp (ry.keep k3) rz e2 ⟨d2,rfl,k d2 G3 H3 (k2.trans k3) p3.hp q⟩
   |false =>rw[if_neg Bool.false_ne_true]at q ⊢;obtain⟨d3,e3,q⟩:=go_some q;cases e3;exact⟨false,rfl,k _ G2 H2 k2 p2.hp q⟩
theorem Av{st:Stmt}:PS X st (tSt X i Φ .never):=fun pins s σ H D I ⟨env,G,N,R,B,C,Xe,p,w,c⟩=>by rw[Own.q_s_never]at w;exact w.elim
variable {i:Inf}{G:Own.Hs}{H:Hp}
theorem YZ{n:Nat}(ih:∀ (v u:Own.Val) (x y:V),Own.sam G n v u=true→RV i.K H v x→RV i.K H u y→SamV i.K H n x y):∀ {vs us:List Own.Val}{xs ys:List V},Own.samL (Own.sam G n) vs us=true→RVs i.K H vs xs→RVs i.K H us ys→SamVs i.K H n xs ys
 |[],[],_,_,_,.nil,.nil=>.nil
 |v::vs,u::us,_,_,e,.cons r rs,.cons q qs=>by rw[Own.samL,bAq]at e;exact .cons (ih _ _ _ _ e.1 r q) (YZ ih e.2 rs qs)
 |[],_::_,_,_,e,_,_=>by cases e
 |_::_,[],_,_,e,_,_=>by cases e
theorem Db(g:RH i G H):∀ (n:Nat) (v u:Own.Val) (x y:V),Own.sam G n v u=true→RV i.K H v x→RV i.K H u y→SamV i.K H n x y:=by
 intro n;induction n with
 |zero =>
  intro v u x y e r q;cases v with
  |non=>cases u with
   |non=>cases r;cases q;exact .non
   |_=>cases e
  |bl b=>cases u with
   |bl c=>cases r;cases q;have:=eq_of_beq e;subst this;exact .bl _
   |_=>cases e
  |int b=>cases u with
   |int c=>cases r;cases q;have:=eq_of_beq e;subst this;exact .int _
   |_=>cases e
  |str b=>cases u with
   |str c=>cases r;cases q;have:=eq_of_beq e;subst this;exact .str _
   |_=>cases e
  |ref b=>cases u with
   |ref c=>cases r;cases q;have:=eq_of_beq e;subst this;exact .ref _
   |_=>cases e
  |_=>cases e
 |succ n ih =>
  intro v u x y e r q;cases v with
  |non=>cases u with
   |non=>cases r;cases q;exact .non
   |_=>cases e
  |bl b=>cases u with
   |bl c=>cases r;cases q;have:=eq_of_beq e;subst this;exact .bl _
   |_=>cases e
  |int b=>cases u with
   |int c=>cases r;cases q;have:=eq_of_beq e;subst this;exact .int _
   |_=>cases e
  |str b=>cases u with
   |str c=>cases r;cases q;have:=eq_of_beq e;subst this;exact .str _
   |_=>cases e
  |tup xs=>cases u with
   |tup ys =>
    cases r with
    |tup hp hr=>cases q with
     |tup hp2 hr2=>exact .tup (Zk hp) (Zk hp2) (YZ ih e hr hr2)
   |_=>cases e
  |ref b=>cases u with
   |ref c =>
    cases r;cases q;rw[Own.sam,Bool.or_eq_true]at e;rcases e with e|e
    ·have:=eq_of_beq e;subst this;exact .ref _
    ·cases z:Own.lsOf (G b)with
     |none=>rw[z]at e;cases e
     |some xs =>
      cases z2:Own.lsOf (G c)with
      |none=>rw[z,z2]at e;cases e
      |some ys =>rw[z,z2]at e;obtain⟨vs,h1,h2⟩:=ZE g z;obtain⟨us,h3,h4⟩:=ZE g z2;exact .lst h1 h3 (YZ ih e h2 h4)
   |_=>cases e
  |scr ns=>cases u<;>cases e
  |key _ _=>cases u<;>cases e
theorem Xm(g:RH i G H){v:Own.Val}{x:V}{xs:List Own.Val}(r:RV i.K H v x)(e:Own.asLst G v=some xs):∃ a vs,x=.ref a∧SqL i.K H a vs∧RVs i.K H xs vs:=by
 cases v with
 |ref a =>cases r;obtain⟨vs,h1,h2⟩:=ZE g e;exact⟨a,vs,rfl,h1,h2⟩
 |_=>cases e
theorem Wf(g:RH i G H){v u:Own.Val}{x y:V}(rx:RV i.K H v x)(ry:RV i.K H u y){c:Bool}{f:List Own.Val→List Own.Val→Option Bool}(e:((Own.asLst G v).bind fun xs=>(Own.asLst G u).bind fun ys=>f xs ys)=some c):∃ xs ys a b vs us,f xs ys=some c∧x=.ref a∧y=.ref b∧SqL i.K H a vs∧SqL i.K H b us∧RVs i.K H xs vs∧RVs i.K H ys us:=by
 cases z:Own.asLst G v with
 |none=>rw[z]at e;cases e
 |some xs =>
  cases z2:Own.asLst G u with
  |none=>rw[z,z2]at e;cases e
  |some ys =>rw[z,z2]at e;obtain⟨a,vs,h1,h2,h3⟩:=Xm g rx z;obtain⟨b,us,k1,k2,k3⟩:=Xm g ry z2;exact⟨xs,ys,a,b,vs,us,e,h1,k1,h2,k2,h3,k3⟩
theorem c_nes:ZV i .nes (Gi i.K):=by
 intro v u G H x y c Q g rx ry e q;obtain⟨xs,ys,a,b,vs,us,e,h1,h2,h3,h4,h5,h6⟩:=Wf g rx ry e;split at e
 ·rename_i z;cases e;exact⟨a,b,vs,us,h1,h2,h3,h4,YZ (Db g 8) z h5 h6,q⟩
 ·cases e
theorem Nl{xs:List Own.Val}{vs:List V}(h:RVs i.K H xs vs):vs.isEmpty=xs.isEmpty:=by cases h<;>rfl
theorem c_eqE:ZV i .eqE (BL i.K false):=by
 intro v u G H x y c Q g rx ry e q;obtain⟨xs,ys,a,b,vs,us,e,h1,h2,h3,h4,h5,h6⟩:=Wf g rx ry e;split at e
 ·rename_i z;cases e;cases h6 with
  |nil=>exact⟨a,b,vs,h1,h2,h3,h4,by rw[Nl h5,Bool.false_xor];exact q⟩
  |cons _ _=>cases z
 ·cases e
theorem c_neE:ZV i .neE (BL i.K true):=by
 intro v u G H x y c Q g rx ry e q;obtain⟨xs,ys,a,b,vs,us,e,h1,h2,h3,h4,h5,h6⟩:=Wf g rx ry e;split at e
 ·rename_i z;cases e;cases h6 with
  |nil=>exact⟨a,b,vs,h1,h2,h3,h4,by rw[Nl h5,Bool.true_xor];exact q⟩
  |cons _ _=>cases z
 ·cases e
end Snd
namespace L2
open PySem PySem.Spec PyProof.Rows
variable {X:Cx}
noncomputable def rD0:R2:=fun x y H Q=>∃ a,x=.ref a∧y=.ref a∧H a=some (.dK [])∧Q (.bl false) H
theorem B6(hu:X.A.units<cLine):OpR X (compareOp .NotEq) rD0:=by intro pins s σ H x y v u Q I rx ry h;obtain⟨a,rfl,rfl,ha,q⟩:=h;cases rx;cases ry;obtain⟨z,hd,vs,rel,dd⟩:=Ui I.hok ha;cases rel;exact PySem.W.keq_ne (r:=true) hd hd dd dd hu (fun _=>.nil) ⟨.bl false,H,I,rfl,q⟩
noncomputable def Hu (K:PySem.W.Frag):R2:=fun x y H Q=>Gi K x y H Q∨FB K x y H Q∨rD0 x y H Q
theorem E5(hu:X.A.units+64<cLine):OpR X (compareOp .NotEq) (Hu X.K):=by
 intro pins s σ H x y v u Q I rx ry h;rcases h with h|h|h
 ·exact Ei hu pins s σ H x y v u Q I rx ry h
 ·exact Ud hu pins s σ H x y v u Q I rx ry h
 ·exact B6 (by omega) pins s σ H x y v u Q I rx ry h
end L2
namespace Snd
open PySem L2
variable {i:Inf}
theorem c_neX:ZV i .neX (Hu i.K):=by
 intro v u G H x y c Q g rx ry e q;change(if Own.sam0 G v u=true then some false else(Own.eqV G v u).map (!·))=some c at e;split at e
 ·rename_i z;cases e;unfold Own.sam0 at z;rw[Bool.or_eq_true]at z;rcases z with z|z
  ·cases z1:Own.asLst G v with
   |none=>rw[z1]at z;cases z
   |some xs =>
    cases z2:Own.asLst G u with
    |none=>rw[z1,z2]at z;cases z
    |some ys =>rw[z1,z2]at z;exact .inl (c_nes v u G H x y false Q g rx ry (by show(Own.asLst G v).bind _=_;rw[z1,z2];exact if_pos z) q)
  ·refine .inr (.inr ?_);cases v with
   |ref a=>cases u with
    |ref b =>
     cases rx.ref_inv;cases ry.ref_inv;change(a==b&&Own.noPairs (G a))=true at z;rw[bAq]at z;cases eq_of_beq z.1;have z:=z.2;cases w:G a with
     |none=>rw[w]at z;cases z
     |some o =>
      rw[w]at z;cases o with
      |dct kvs=>cases kvs with
       |nil =>obtain⟨us,h1,h2⟩:=g a _ w;cases h2;exact⟨a,rfl,rfl,h1,q⟩
       |cons _ _=>cases z
      |_=>cases z
    |_=>cases z
   |_=>cases u<;>cases z
 ·exact .inr (.inl (Il v u G H x y c Q g rx ry e q))
variable {i:Inf}{X:Cx}{Φ:Own.Fs}
theorem RVs.strs{K:PySem.W.Frag}{H:Hp}:∀ ss:List String,RVs K H (ss.map Own.Val.str) ((ss.map Str.ofString).map V.str)
 |[]=>.nil
 |s::ss=>.cons (.str s) (RVs.strs ss)
noncomputable def tPt (X:Cx) (i:Inf) (Φ:Own.Fs) (m:Own.E):TE:=fun σ H Q=>∃ env G Qm Em,Pre X i σ H env G Em∧Own.wE Φ m env G Qm Em∧∀ v G' H',Keep H H'→RH i G' H'→Qm v G'→∃ s,Own.fmtV v=some s∧s.length≤Own.lim∧Q (.str (Str.ofString s)) H'
noncomputable def tJs (X:Cx) (i:Inf) (Φ:Own.Fs) (ms:Own.Es):TJ:=fun σ H acc Q=>∃ env G a Qm Em,acc=Str.ofString a∧a.length≤Own.lim∧Pre X i σ H env G Em∧Own.wJ Φ ms env G a Qm Em∧∀ s G' H',Keep H H'→RH i G' H'→Qm s G'→Q (Str.ofString s) H'
theorem _root_.L2.PJ.imp{X:Cx}{vs:List Expr}{t t':TJ}(h:PJ X vs t)(f:∀ σ H acc Q,t' σ H acc Q→t σ H acc Q):PJ X vs t':=fun pins s σ H acc Q I q=>h pins s σ H acc Q I (f σ H acc Q q)
theorem Gm{e:Expr}{m:Own.E}{pos:Pos}(he:PE X e (tE X i Φ m)):PE X (.FormattedValue e (-1) none pos) (tPt X i Φ m) :=
 (B4 he).imp fun σ H Q ⟨env,G,Qm,Em,p,w,c⟩=>by
  refine⟨env,G,Qm,Em,p,w,fun v G1 H1 x k1 g1 r1 w1=>?_⟩;obtain⟨s,e1,hl,q⟩:=c v G1 H1 k1 g1 w1;cases v with
  |str t=>cases e1;cases r1.str_inv;exact .inr ⟨_,rfl,by rw[ZB];exact zH hl ZW,q⟩
  |int n =>
   cases r1.int_inv;simp only[Own.fmtV]at e1;split at e1
   ·rename_i hn;cases e1;exact .inl ⟨n,rfl,Ue hn,q⟩
   ·cases e1
  |_=>cases e1
theorem Fd{s:String}{j:Nat}{pos:Pos}:PE X (.Constant (.str (Str.ofString s)) j pos) (tPt X i Φ (.cst (.str s))) :=
 pe_str.imp fun σ H Q ⟨env,G,Qm,Em,p,w,c⟩=>by rw[Own.q_e_cst]at w;obtain⟨t,e1,hl,q⟩:=c _ G H (Keep.refl H) p.hp w;cases e1;exact q
theorem EF:PJ X [] (tJs X i Φ .nil):=pj_nil.imp fun σ H acc Q ⟨env,G,a,Qm,Em,e,hl,p,w,c⟩=>by rw[Own.q_j_nil]at w;subst e;exact⟨by rw[ZB];exact zH hl ZW,c a G H (Keep.refl H) p.hp w⟩
theorem NM{e:Expr}{es:List Expr}{m:Own.E}{ms:Own.Es}(he:PE X e (tPt X i Φ m))(hr:PJ X es (tJs X i Φ ms))(hs:evalEach (e::es) X.env=eval e X.env::evalEach es X.env):PJ X (e::es) (tJs X i Φ (.cons m ms)) :=
 (Bv he hr hs).imp fun σ H acc Q ⟨env,G,a,Qm,Em,e,hl,p,w,c⟩=>by rw[Own.q_j_cons]at w;subst e;refine⟨env,G,_,Em,p,w,fun v G1 H1 k1 g1 w1=>?_⟩;obtain⟨s,e1,hl1,w2⟩:=go_some w1;clear w1;refine⟨s,e1,by omega,_,rfl,?_,env,G1,a++s,Qm,Em,(JM a s).symm,by rw[String.length_append];exact hl1,p.go k1 g1,w2,fun t G2 H2 k2=>c t G2 H2 (k1.trans k2)⟩;rw[←JM,ZB,String.length_append];exact zH hl1 ZW
theorem Jq{G:Own.Hs}{H:Hp}{p:Addr}{o:HO}(g:RH i G H)(hp:H p=none):RH i G (upd H p o):=g.hid (Keep.new hp) fun b u e=>upd_ne (by rintro rfl;rw[g.free hp]at e;cases e)
noncomputable def tE0 (i:Inf) (Φ:Own.Fs) (m:Own.E):TE:=fun σ H Q=>∃ env G Qm,REn i.K H env σ∧RH i G H∧Own.wE Φ m env G Qm (fun _ _=>False)∧Cn i H Q Qm
noncomputable def tT0 (i:Inf) (Φ:Own.Fs) (m:Own.Tt):TT:=fun σ H Q=>∃ env G Qm,REn i.K H env σ∧RH i G H∧Own.wT Φ m env G Qm (fun _ _=>False)∧∀ b G' H',Keep H H'→RH i G' H'→Qm b G'→Q b H'
theorem Nm{H:Hp}:XOk X i H (fun _ _=>False):=fun pins σ H0 s H' a cls s' I f ⟨_,_,_,_,_,_,_,z⟩=>z.elim
theorem pe0{e:Expr}{m:Own.E}(h:PE X e (tE X i Φ m)):PE X e (tE0 i Φ m):=h.imp fun σ H Q ⟨env,G,Qm,r,g,w,c⟩=>⟨env,G,Qm,_,⟨r,g,Nm⟩,w,c⟩
theorem pt0{e:Expr}{m:Own.Tt}(h:PT X e (tTt X i Φ m)):PT X e (tT0 i Φ m):=h.imp fun σ H Q ⟨env,G,Qm,r,g,w,c⟩=>⟨env,G,Qm,_,⟨r,g,Nm⟩,w,c⟩
theorem _root_.L2.PIfs.imp{X:Cx}{es:List Expr}{t t':TT}(h:PIfs X es t)(f:∀ σ H Q,t' σ H Q→t σ H Q):PIfs X es t':=fun pins s σ H Q I q=>h pins s σ H Q I (f σ H Q q)
theorem FP:PIfs X [] (tT0 i Φ .yes):=pifs_nil.imp fun σ H Q ⟨env,G,Qm,r,g,w,c⟩=>by rw[Own.q_t_yes]at w;exact c true G H (Keep.refl H) g w
theorem BI{K:PySem.W.Frag}{H H':Hp}{env:Own.Env}{σ:St}{k:Nat}{caps:List Nat}(r:REn K H env σ)(kp:Keep H H'):REn K H' (List.replicate k none++caps.map fun j=>(env[j]?).getD none) (List.replicate k none++MQ σ caps):=by
 refine⟨by simp[MQ],fun n u e=>?_⟩;by_cases hn:n<k
 ·rw[List.getElem?_append_left (by rw[qX];exact hn),List.getElem?_replicate,if_pos hn]at e;cases e
 ·rw[List.getElem?_append_right (by rw[qX];omega),qX]at e ⊢;generalize n - k=n at e ⊢;simp only[qF]at e;cases z:caps[n]? with
  |none=>rw[z]at e;cases e
  |some j =>
   rw[z]at e;simp only[Option.map_some,Option.some.injEq]at e;cases z2:env[j]? with
   |none=>rw[z2]at e;cases e
   |some o =>rw[z2]at e;have e:o=some u:=e;subst e;obtain⟨y,h1,h2⟩:=r.get j u z2;exact⟨y,by unfold MQ;rw[qF,z];show some ((σ[j]?).getD none)=_;rw[h1];rfl,h2.keep kp⟩
noncomputable def Mq (k:Nat):Own.Pt→Bool
 |.one j=>decide (j<k)
 |.many js=>js.all fun j=>decide (j<k)
 |.nest _ _=>false
theorem WR{r:Own.Env}:∀ {js:List Nat}{vs:List Own.Val}{l env2:Own.Env},(js.all fun j=>decide (j<l.length))=true→Own.bindL js vs (l++r)=some env2→∃ l',env2=l'++r∧l'.length=l.length
 |[],[],l,_,_,e=>by cases e;exact⟨l,rfl,rfl⟩
 |j::js,v::vs,l,_,h,e=>by rw[List.all_cons,bAq,decide_eq_true_eq]at h;have e:Own.bindL js vs ((l++r).set j (some v))=_:=e;rw[List.set_append_left _ _ h.1]at e;obtain⟨l',h1,h2⟩:=WR (l:=l.set j (some v)) (by rw[List.length_set];exact h.2) e;exact⟨l',h1,by rw[h2,List.length_set]⟩
 |[],_::_,_,_,_,h=>by cases h
 |_::_,[],_,_,_,h=>by cases h
theorem An{p:Own.Pt}{G:Own.Hs}{v:Own.Val}{l r env2:Own.Env}(h:Mq l.length p=true)(e:Own.bind p G v (l++r)=some env2):∃ l',env2=l'++r∧l'.length=l.length:=by
 cases p with
 |one j =>have e:some ((l++r).set j (some v))=some env2:=e;cases e;exact⟨l.set j (some v),by rw[List.set_append_left _ _ (of_decide_eq_true h)],List.length_set⟩
 |many js =>
  cases v with
  |tup vs=>exact WR h e
  |_=>cases e
 |nest j js=>cases h
theorem REn.pre{K:PySem.W.Frag}{H:Hp}{l r:Own.Env}{τ:St}(q:REn K H (l++r) τ):REn K H (List.replicate l.length none++r) τ:=by
 refine⟨by rw[←q.len];simp,fun n u e=>?_⟩;by_cases hn:n<l.length
 ·rw[List.getElem?_append_left (by rw[qX];exact hn),List.getElem?_replicate,if_pos hn]at e;cases e
 ·rw[List.getElem?_append_right (by rw[qX];omega),qX]at e;exact q.get n u (by rw[List.getElem?_append_right (by omega)];exact e)
theorem Nw{caps:List Nat}{k:Nat}{pt:Own.Pt}(hk:Mq k pt=true){mi:Own.It}{mt:Own.Tt}{me:Own.E}:∀ σ H Q,tE X i Φ (.comp caps k pt mi mt me) σ H Q→A8 (tIt X i Φ mi) k caps (gPt i pt) (tT0 i Φ mt) (tE0 i Φ me) σ H Q:=fun σ H Q ⟨env,G,Qm,Em,p,w,c⟩=>by
 rw[Own.q_e_comp]at w;refine⟨env,G,_,Em,p,w,fun st xs G1 H1 J k1 g1 it w1=>?_⟩;obtain⟨hl,w1⟩:=w1;generalize hstep:(fun(v:Own.Val) (h2:Own.Hs) (K:Option Own.Val→Own.Hs→Prop) (X2:Own.XQ)=>Own.go (Own.bind pt h2 v (List.replicate k none++caps.map fun j=>(env[j]?).getD none)) fun env2 =>
       Own.wT Φ mt env2 h2 (fun k h3=>if k=true then Own.wE Φ me env2 h3 (fun u h4=>K (some u) h4) X2 else K none h3) X2)=step at w1
 refine⟨fun n m ys τ H'=>n+m=xs.length∧ys.length≤n∧REn i.K H' (List.replicate k none++caps.map fun j=>(env[j]?).getD none) τ∧∃ acc G',Keep H1 H'∧RH i G' H'∧RVs i.K H' acc ys∧Own.wComp st step (xs.drop n) acc G' (fun ys h5=>Own.new h5 (.lst ys) Qm) (fun _ _=>False),⟨xs.length,by omega,by simp,BI p.en k1,[],G1,Keep.refl _,g1,.nil,by simpa using w1⟩,?_⟩;rintro n m ys τ H' ⟨hnm,hly,en2,acc,G',k2,g2,r2,w2⟩;refine⟨qR (qS (zH hly (by omega)) hl) ZW,?_⟩;by_cases hn:n<xs.length
 ·right;have hd:xs.drop n=xs[n]::xs.drop (n+1):=List.drop_eq_getElem_cons hn;rw[hd]at w2;obtain⟨s2,w2⟩:=w2;have hv:xs[n]?=some xs[n]:=qH hn;obtain⟨a1,a2⟩:=it.go n G' H' xs[n] k2 g2 s2 hv;refine⟨a1,fun ys3 τ3 H3=>ys3.length≤n+1∧REn i.K H3 (List.replicate k none++caps.map fun j=>(env[j]?).getD none) τ3∧∃ acc3 G3,Keep H1 H3∧RH i G3 H3∧RVs i.K H3 acc3 ys3∧Own.wComp st step (xs.drop (n+1)) acc3 G3 (fun ys h5=>Own.new h5 (.lst ys) Qm) (fun _ _=>False),fun ys3 τ3 H3 h=>⟨m - 1,by omega,by omega,h.1,h.2⟩,fun x H3 hy=>?_⟩;obtain⟨k3,g3,r3⟩:=a2 x H3 hy;rw[←hstep]at w2;obtain⟨env4,e4,w4⟩:=go_some w2;rw[hstep]at w4;obtain⟨l',e5,h5⟩:=An (l:=List.replicate k none) (by rw[qX];exact hk) e4;rw[qX]at h5;refine⟨xs[n],_,G',env4,r3,g3,en2.keep k3,e4,fun τ4 en4=>?_⟩;have back:REn i.K H3 (List.replicate k none++caps.map fun j=>(env[j]?).getD none) τ4:=by
   rw[e5]at en4;have:=en4.pre;rw[h5]at this;exact this
  refine⟨_,G',_,en4,g3,w4,fun d G5 H5 k5 g5 q5=>?_⟩;have kk:=(k2.trans k3).trans k5;cases d with
  |true =>refine⟨_,G5,_,en4.keep k5,g5,by simpa using q5,fun u G6 H6 y k6 g6 r6 q6=>?_⟩;exact⟨by simpa using hly,(back.keep k5).keep k6,_,G6,kk.trans k6,g6,((((r2.keep k3).keep k5).keep k6).append (.cons r6 .nil)),q6⟩
  |false =>rw[if_neg Bool.false_ne_true]at q5;change if false=true then _ else _;rw[if_neg Bool.false_ne_true];have q5:Own.wComp st step (xs.drop (n+1)) (acc++[]) G5 (fun ys h5=>Own.new h5 (.lst ys) Qm) (fun _ _=>False):=q5;rw[zF]at q5;exact⟨by omega,back.keep k5,acc,G5,kk,g5,(r2.keep k3).keep k5,q5⟩
 ·left;have hd:xs.drop n=[]:=List.drop_eq_nil_of_le (by omega);rw[hd]at w2;refine⟨it.stop n G' H' k2 g2 w2.1 (by omega),?_⟩;exact Z6 g2 w2.2 ((c.go k1).go k2) fun q hq=>⟨_,upd_same,r2.keep (Keep.new hq)⟩
def EM (i:Inf) (m:Own.Bm) (r:V→List V→Hp→VK→Prop):Prop:=∀ (v:Own.Val) (vs:List Own.Val) (G:Own.Hs) (H:Hp) (x:V) (xs:List V) (t:Own.Val×Own.Hs) (Q:VK) (Qm:Own.Q1),
 RH i G H→RV i.K H v x→RVs i.K H vs xs→Own.bmV G m v vs=some t→Qm t.1 t.2→Cn i H Q Qm→r x xs H Q
def Fb (i:Inf) (m:Own.Bm) (T:String):Prop:=∀ (v:Own.Val) (G:Own.Hs) (H:Hp) (x:V),RH i G H→RV i.K H v x→Own.bmTy G m v=true→tyV i.K T x H
theorem Gq {o e:Expr}{es:List Expr}{name:Str}{apos cpos:Pos}{T id:String}{r:V→List V→Hp→VK→Prop}{m:Own.Bm}{mo:Own.E}{ms:Own.Es}{n:Nat}(hK:X.K=i.K) (pa:PlainAttrs T) (slot:Slot T name id) (hty:typeOf (.builtin id)=pure (.type "method_descriptor")) (mt:MtR X id r) (hT:Fb i m T) (hr:EM i m r)
  (ho:PE X o (tE X i Φ mo)) (ha:PA X (e::es) (tAr X i Φ ms n)) (hbase:attributeBase o name X.env (eval o X.env)=eval o X.env)
  (hfew:((backTo cpos (starEach (e::es) X.env)).all (fun x=>!x.1)&&(backToKw cpos (keywordEach [] X.env)).all (fun x=>x.1.isSome)&&decide ((e::es).length+([]:List Keyword).length+(if([]:List Keyword).isEmpty then 0 else 1)<30))=true)
  (hline:(apos.endLine==cpos.line)=true) (hs:starEach (e::es) X.env=(false,eval e X.env)::starEach es X.env) (hplain:(backTo cpos (starEach es X.env)).any (·.1)=false) :
  PE X (.Call (.Attribute o name apos) (e::es) [] cpos) (tE X i Φ (.bm m mo ms)) :=
 (Iy pa slot hty mt ho ha hbase hfew hline hs hplain).imp fun σ H Q ⟨env,G,Qm,Em,p,w,c⟩=>by
  rw[Own.q_e_bm]at w;refine one p w fun v G1 H1 x k1 p1 rv q=>⟨by rw[hK];exact hT v G1 H1 x p1.hp rv q.1,env,G1,_,Em,p1,q.2,fun vs G2 H2 xs k2 g2 r2 _ w2=>?_⟩
  obtain⟨t,e,w3⟩:=go_some w2;exact hr v vs G2 H2 x xs t Q Qm g2 (rv.keep k2) r2 e w3 ((c.go k1).go k2)
theorem KW{o:Option Own.Ob}(h:Own.isDct o=true):(∃ xs,o=some (.dct xs))∨∃ xs,o=some (.dtp xs):=by
 cases o with
 |none=>cases h
 |some o=>cases o with
  |dct xs=>exact .inl ⟨xs,rfl⟩
  |dtp xs=>exact .inr ⟨xs,rfl⟩
  |_=>cases h
theorem Lw {m:Own.Bm}(hm:m.ty=.l):Fb i m "list":=fun v G H x g r h=>by
 unfold Own.bmTy at h;rw[hm]at h;cases v with
 |ref a =>cases r.ref_inv;obtain⟨xs,e⟩:=MJ (show Own.isLst (G a)=true from h);obtain⟨vs,h1,_⟩:=g a _ e;exact .inl ⟨rfl,vs,SqL.of h1⟩
 |_=>cases h
theorem Pn {m:Own.Bm}(hm:m.ty=.d):Fb i m "dict":=fun v G H x g r h=>by
 unfold Own.bmTy at h;rw[hm]at h;cases v with
 |ref a =>
  cases r.ref_inv;rcases KW (show Own.isDct (G a)=true from h)with⟨xs,e⟩|⟨xs,e⟩
  ·obtain⟨vs,h1,_⟩:=g a _ e;exact .inr (.inr (.inl ⟨rfl,.inl ⟨vs,h1⟩⟩))
  ·obtain⟨vs,h1,_⟩:=g a _ e;exact .inr (.inr (.inl ⟨rfl,.inr ⟨vs,h1⟩⟩))
 |_=>cases h
theorem C8{G:Own.Hs}{v:Own.Val}{f:Own.Ad→List Own.Val→Option (Own.Val×Own.Hs)}{t:Own.Val×Own.Hs}(e:Own.bmL G v f=some t):∃ a xs,v=.ref a∧G a=some (.lst xs)∧f a xs=some t:=by
 cases v with
 |ref a=>obtain⟨xs,h1,h2⟩:=UP e;exact⟨a,xs,rfl,h1,h2⟩
 |_=>cases e
theorem LB{vs:List Own.Val}{α:Type}{f:Own.Val→Option α}{a:α}(e:(match vs with|[v]=>f v|_=>none)=some a):∃ v,vs=[v]∧f v=some a:=by
 cases vs with
 |nil=>cases e
 |cons v vs=>cases vs with
  |nil=>exact⟨v,rfl,e⟩
  |cons _ _=>cases e
theorem Ej:EM i .append M4:=fun v vs G H x xs t Q Qm g rx rs e q c=>by obtain⟨a,ys,rfl,e4,e3⟩:=C8 e;obtain⟨u,rfl,e3⟩:=LB e3;obtain⟨hl,e3⟩:=ZT e3;cases e3;cases rx.ref_inv;obtain⟨y,rfl,ry⟩:=rs.inv1;obtain⟨us,h2,r2⟩:=g a _ e4;obtain⟨k3,g3⟩:=Nu (xs:=ys) g h2 (ys++[u]) (us++[y]) (r2.app1 ry);exact⟨a,us,y,rfl,rfl,h2,by rw[←r2.length];exact qR hl ZW,c _ _ _ _ k3 g3 .non q⟩
theorem Cm{G:Own.Hs}{v:Own.Val}{f:Own.Ad→List (Own.Val×Own.Val)→Option (Own.Val×Own.Hs)}{t:Own.Val×Own.Hs}(e:Own.bmD G v f=some t):∃ a kvs,v=.ref a∧G a=some (.dct kvs)∧f a kvs=some t:=by
 cases v with
 |ref a =>
  obtain⟨kvs,h1,h2⟩:=zA.mp (show(Own.dcOf (G a)).bind (f a)=some t from e);refine⟨a,kvs,rfl,?_,h2⟩;cases z:G a with
  |none=>rw[z]at h1;cases h1
  |some o =>
   rw[z]at h1;cases o with
   |dct ys=>cases h1;rfl
   |_=>cases h1
 |_=>cases e
theorem Ho{vs:List Own.Val}{α:Type}{f:Own.Val→Own.Val→Option α}{a:α}(e:(match vs with|[v,u]=>f v u|_=>none)=some a):∃ v u,vs=[v,u]∧f v u=some a:=by
 cases vs with
 |nil=>cases e
 |cons v vs=>cases vs with
  |nil=>cases e
  |cons u us=>cases us with
   |nil=>exact⟨v,u,rfl,e⟩
   |cons _ _=>cases e
def Ab:V→List V→Hp→VK→Prop:=fun x vs H Q=>∃ a y z o,x=.ref a∧vs=[y,z]∧DGet H a y o∧Q (o.getD z) H
theorem UZ (hu:X.A.units+1<cLine):MtR X "dict.get" Ab:=by intro pins s σ H x vs v us Q I rx rv h;obtain⟨a,y,z,o,rfl,rfl,d,q⟩:=h;cases rx;obtain⟨u,t,rfl,ru,rt⟩:=rv.two;exact Fg hu I d ru rt fun w' s' I' rw'=>⟨_,_,I',rw',q⟩
theorem ED{Φ:Own.Fs}{pos:Pos}:PE X (.Dict [] [] pos) (tE X i Φ .dctP) :=
 pe_dnewT.imp fun σ H Q ⟨env,G,Qm,Em,p,w,c⟩=>by rw[Own.q_e_dctP]at w;exact Z6 p.hp w c fun a ha=>⟨[],upd_same,.nil⟩
theorem NN{G:Own.Hs}{v:Own.Val}{kvs:List (Own.Val×Own.Val)}(e:Own.dpAt G v=some kvs):∃ a,v=.ref a∧G a=some (.dtp kvs):=by
 cases v with
 |ref a =>
  refine⟨a,rfl,?_⟩
  replace e:(match G a with|some (.dtp kvs)=>some kvs|_=>none)=some kvs:=e
  cases z:G a with
  |none=>rw[z]at e;cases e
  |some o=>rw[z]at e;cases o<;>first|(cases e;rfl)|cases e
 |_=>cases e
theorem B8:EM i .dgetD Ab:=fun v vs G H x xs t Q Qm g rx rs e q c=>by
 replace e:(match Own.dpAt G v with|some kvs=>Own.bmGetT G vs kvs|none=>Own.bmD G v (Own.bmGetD G vs))=some t:=e
 cases zz:Own.dpAt G v with
 |some kvs =>
  rw[zz]at e;obtain⟨a,rfl,e4⟩:=NN zz;have e:Own.bmGetT G vs kvs=some t:=e;obtain⟨k,dv,rfl,e3⟩:=Ho e;obtain⟨hk,e3⟩:=ZT e3;cases e3;cases rx.ref_inv;obtain⟨y,z,rfl,ry,rz⟩:=rs.inv2;obtain⟨ps,h2,r2⟩:=g a _ e4;obtain⟨k1,k2,d,rfl,rfl,hd⟩:=XH hk ry;refine⟨a,_,_,_,rfl,rfl,DGet.t h2 hd,?_⟩;obtain⟨l1,l2⟩:=r2.look (i:=k1) (j:=k2);cases z:Own.lookK kvs (.key k1 k2)with
  |none=>rw[l2 z];rw[z]at q;exact c _ _ _ _ (Keep.refl H) g rz q
  |some u=>obtain⟨x,hx,rv⟩:=l1 u z;rw[hx];rw[z]at q;exact c _ _ _ _ (Keep.refl H) g rv q
 |none =>
 rw[zz]at e;obtain⟨a,kvs,rfl,e4,e3⟩:=Cm e;obtain⟨k,dv,rfl,e3⟩:=Ho e3;obtain⟨hk,e3⟩:=ZT e3;cases e3;cases rx.ref_inv;obtain⟨y,z,rfl,ry,rz⟩:=rs.inv2;obtain⟨ps,h2,r2⟩:=g a _ e4;obtain⟨d,kr,rfl⟩:=key_of hk ry;refine⟨a,_,_,_,rfl,rfl,DGet.k (k:=d) h2,?_⟩;obtain⟨l1,l2⟩:=r2.look kr;cases z:Own.lookK kvs k with
 |none=>rw[l2 z];rw[z]at q;exact c _ _ _ _ (Keep.refl H) g rz q
 |some u=>obtain⟨x,hx,rv⟩:=l1 u z;rw[hx];rw[z]at q;exact c _ _ _ _ (Keep.refl H) g rv q
theorem RFs.look{K:PySem.W.Frag}{H:Hp}{f:String}:∀ {fs:List (String×Own.Val)}{ps:List (Str×V)},RFs K H fs ps→
  (∀ v,fs.lookup f=some v→∃ x,ps.lookup (Str.ofString f)=some x∧RV K H v x)∧(fs.lookup f=none→ps.lookup (Str.ofString f)=none)
 |_,_,.nil=>⟨fun v e=>(by cases e),fun _=>rfl⟩
 |_,_,.cons (f:=g) (v:=u) (x:=y) r t=>by
  have ih:=RFs.look (f:=f) t;rw[qO,qO];by_cases e:f=g
  ·subst e;rw[beq_self_eq_true,beq_self_eq_true];exact⟨fun v z=>(by cases z;exact⟨y,rfl,r⟩),fun z=>(by cases z)⟩
  ·rw[show(f==g)=false by simpa using e,show(Str.ofString f==Str.ofString g)=false by rw[beq_eq_false_iff_ne];exact fun z=>e (ofS_inj.mp z)];exact ih
theorem RFs.put{K:PySem.W.Frag}{H:Hp}{f:String}{v:Own.Val}{x:V}(q:RV K H v x):∀ {fs:List (String×Own.Val)}{ps:List (Str×V)},RFs K H fs ps→RFs K H (Own.putF fs f v) (L2.putF (Str.ofString f) x ps)
 |_,_,.nil=>.cons q .nil
 |_,_,.cons (f:=g) (v:=u) (x:=y) r t=>by
  unfold Own.putF L2.putF;by_cases e:g=f
  ·subst e;rw[if_pos rfl,if_pos rfl];exact .cons q t
  ·rw[if_neg e,if_neg fun z=>e (ofS_inj.mp z)];exact .cons r (RFs.put q t)
theorem RFs.length{K:PySem.W.Frag}{H:Hp}:∀ {fs:List (String×Own.Val)}{ps:List (Str×V)},RFs K H fs ps→fs.length=ps.length
 |_,_,.nil=>rfl
 |_,_,.cons _ t=>by rw[qB,qB,RFs.length t]
structure FldOk (i:Inf) (f:String):Prop where
 no:∀ C c,i.cl C c→KO i.K c (Str.ofString f)
structure ClsA (i:Inf):Prop where
 cls:∀ C c,i.ins C=true→i.cl C c→Cls i.K c
def Dfm (pr:Program) (w:World) (mg:Str→Option Value) (base:Heap) (i:Inf) (P:Own.Pg) (n:Nat) (f:String) (fa:Addr):Prop :=
 ∃ fd ps,FnOk pr w i.K mg base (CX1 pr w) (2*n) fa fd ps (spF i P n f)∧Binds i.K fd ps []
theorem BX {P:Own.Pg}{n:Nat}{f:String}{p pos:Pos}(hK:X.K=i.K) (D:Dfo X.prog X.w X.mg X.base i P n f) (hr:Room (2*n) X.A) (hg:Gl X (Str.ofString f)) (hdb:(Str.ofString f==("__debug__" : Str))=false) :
  PE X (.Call (.Name (Str.ofString f) p) [] [] pos) (tE X i (Own.wF P n) (.call f .nil)):=by
 obtain⟨fa,fd,ps,F,hm,hk,hb⟩:=D;rw[←hK]at F hk hb;intro pins s σ H Q I h;obtain⟨env,G,Qm,Em,pr,w,c⟩:=h;rw[Own.q_e_call,Own.q_a_nil]at w;refine AS (E:=XK1 i H Em) F hr hg hm hk hb .nil (XW.passes pr.xo) hdb pins s σ H Q I ?_;exact⟨[],G,Qm,Em,.nil,pr.hp,w,c,fun cls d H' h=>h⟩
noncomputable def Nd (X:Cx) (i:Inf) (Φ:Own.Fs):Own.Es→List (TE×TE)
 |.cons k (.cons v r)=>(tE X i Φ k,tE X i Φ v)::Nd X i Φ r
 |_=>[]
noncomputable def Wt:Own.Es→Bool
 |.nil=>true
 |.cons _ .nil=>false
 |.cons _ (.cons _ r)=>Wt r
noncomputable def esL:Own.Es→Nat
 |.nil=>0
 |.cons _ es=>esL es+1
noncomputable def M6:List V→List (V×V)
 |x::y::r=>(x,y)::M6 r
 |_=>[]
theorem KI:∀ (es:Own.Es),Wt es=true→∀ {σ:St}{H:Hp}{env:Own.Env}{G:Own.Hs}{Qm:List Own.Val→Own.Hs→Prop}{Em:Own.XQ}{Q:List (V×V)→Hp→Prop},Pre X i σ H env G Em→Own.wA Φ es env G Qm Em→
  (∀ vs G' H' xs,Keep H H'→RH i G' H'→RVs i.K H' vs xs→xs.length=esL es→Qm vs G'→Q (M6 xs) H')→JP (Nd X i Φ es) σ H Q
 |.nil,_,σ,H,env,G,Qm,Em,Q,p,w,c=>by rw[Own.q_a_nil]at w;exact c [] G H [] (Keep.refl H) p.hp .nil rfl w
 |.cons k .nil,h,_,_,_,_,_,_,_,_,_,_=>by cases h
 |.cons k (.cons v r),h,σ,H,env,G,Qm,Em,Q,p,w,c=>by rw[Own.q_a_cons]at w;refine one p w fun a G1 H1 x k1 p1 ra q=>?_;rw[Own.q_a_cons]at q;refine one p1 q fun b G2 H2 y k2 p2 rb q2=>?_;refine KI r h p2 q2 fun vs G' H' xs k3 g3 rv hl hq=>?_;exact c (a::b::vs) G' H' (x::y::xs) ((k1.trans k2).trans k3) g3 (.cons ((ra.keep k2).keep k3) (.cons (rb.keep k3) rv)) (by rw[qB,qB,hl];rfl) hq
theorem X6{K:PySem.W.Frag}{H:Hp}:∀ {vs:List Own.Val}{xs:List V}{kvs:List (Own.Val×Own.Val)},RVs K H vs xs→Own.pairUp vs=some kvs→∃ ps:List (Key×V),M6 xs=ps.map (fun kv=>(kV kv.1,kv.2))∧RKs K H kvs ps∧2*ps.length=xs.length
 |_,_,_,.nil,e=>by cases e;exact⟨[],rfl,.nil,rfl⟩
 |_,_,_,.cons _ .nil,e=>by cases e
 |_,_,kvs,.cons (v:=a) (x:=x) ra (.cons (v:=b) (x:=y) rb t),e=>by
  unfold Own.pairUp at e;split at e
  ·rename_i hk;obtain⟨ks,e2,rfl⟩:=qD.mp e;obtain⟨ps,h1,h2,h3⟩:=X6 t e2;obtain⟨c,hc,rfl⟩:=key_of hk ra;refine⟨(c,y)::ps,?_,.cons hc rb h2,by rw[qB,qB,qB];omega⟩;show(kV c,y)::M6 _=_;rw[h1];rfl
  ·cases e
theorem RKs.merge{K:PySem.W.Frag}{H:Hp}:∀ {kvs:List (Own.Val×Own.Val)}{ps:List (Key×V)}{acc:List (Own.Val×Own.Val)}{bs:List (Key×V)},RKs K H acc bs→RKs K H kvs ps→RKs K H (Own.putAll acc kvs) (Yz bs ps)
 |_,_,_,_,r,.nil=>r
 |_,_,acc,bs,r,.cons (k:=k) (v:=v) (c:=c) (x:=x) (kvs:=kvs) (ps:=ps) a q t=>by show RKs K H (Own.putAll (Own.putK acc k v) kvs) (Yz (L2.putK bs c x) ps);exact RKs.merge (RKs.put a q r) t
theorem Ez{pos:Pos}:PE X (.Dict [] [] pos) (tE X i Φ (.dct .nil)) :=
 pe_dnewK.imp fun σ H Q ⟨env,G,Qm,Em,p,w,c⟩=>by rw[Own.q_e_dct]at w;unfold Own.new at w;intro a ha;have w1:=w a (p.hp.free ha);obtain⟨a',e,w2⟩:=go_some w1;cases e;rw[Own.q_a_nil]at w2;obtain⟨ks,e2,_,w3⟩:=go_some w2;cases e2;rw[Own.upd_upd]at w3;have k:=Keep.new (o:=.dK []) ha;exact c _ _ _ _ k (p.hp.put (o:=.dct []) k ⟨[],upd_same,.nil⟩) (.ref a) w3
theorem Hl{es:Own.Es}{keys:List (Option Expr)}{values:List Expr}{pos:Pos}(he:Wt es=true)(h30:esL es≤30)(h:PPs X pos keys values (Nd X i Φ es))(hall:keys.all (·.isSome)=true)(hl:keys.length=values.length)(h0:keys≠[])(h15:keys.length≤15):PE X (.Dict keys values pos) (tE X i Φ (.dct es)) :=
 (BF h hall hl h0 h15).imp fun σ H Q ⟨env,G,Qm,Em,p,w,c⟩=>by
  rw[Own.q_e_dct]at w;unfold Own.new at w;intro a ha;have w1:=w a (p.hp.free ha);obtain⟨a',e,w2⟩:=go_some w1;cases e;have k:=Keep.new (o:=.dK []) ha;have p2:Pre X i σ (upd H a (.dK [])) env (Own.upd G a (.dct [])) Em:=p.go k (p.hp.put (o:=.dct []) k ⟨[],upd_same,.nil⟩);refine KI es he p2 w2 fun vs G' H' xs k2 g2 rv hl w3=>?_;obtain⟨ks,e2,e3,w4⟩:=go_some w3;obtain⟨ps,e4,r4⟩:=g2 a _ e3;cases r4;obtain⟨qs,h1,h2,h3⟩:=X6 rv e2;refine⟨e4,qs,h1,by omega,?_⟩;have k3:Keep H' (upd H' a (.dK (Yz [] qs))):=Keep.put (fun xs e=>by rw[e4]at e;cases e) fun p u e=>by rw[e4]at e;cases e
  exact c _ _ _ _ ((k.trans k2).trans k3) (g2.put (o:=.dct (Own.putAll [] ks)) k3 ⟨_,upd_same,(RKs.merge .nil h2).keep k3⟩) (.ref a) w4
end Snd
namespace L2
open PySem PySem.Spec PyProof.Rows
theorem Gy{k:Key}{u:Value}(h:Wg k u=true):RelV (kV k) u:=by
 rcases Zr h with⟨i,t,rfl,rfl⟩|⟨x,t,rfl,rfl⟩
 ·exact⟨t,rfl⟩
 ·exact⟨t,rfl⟩
theorem KV.at:∀ {ps:List (Key×V)}{vs:List (Key×Value)}{i:Nat}{k:Key}{x:V},KV ps vs→ps[i]?=some (k,x)→∃ u,vs[i]?=some (k,u)∧RelV x u:=by
 intro ps vs i k x r;unfold KV at r;induction r generalizing i with
 |nil=>intro h;simp at h
 |@cons p q ps qs h t ih =>
  intro e;cases i with
  |zero =>simp at e;subst e;obtain⟨q1,q2⟩:=q;obtain⟨h1,h2⟩:=h;have h1:k=q1:=h1;subst h1;exact⟨q2,rfl,h2⟩
  |succ i=>simpa using ih (by simpa using e)
def TupsH (I S:Addr) (items:Array Value) (val:Nat→List Int) (h:Heap):Prop:=∀ i v,items[i]?=some v→∃ a its,v=.ref a∧a≠I∧a≠S∧IsTup h a its∧IntsAre its.toList (val i)
theorem TupsH.keep{I S:Addr}{items:Array Value}{val:Nat→List Int}{h h':Heap}(t:TupsH I S items val h)(k:∀ b o,b≠I→b≠S→h.get? b=some o→h'.get? b=some o):TupsH I S items val h':=fun i v e=>by obtain⟨a,its,h1,h2,h3,⟨o,q1,q2⟩,h5⟩:=t i v e;exact⟨a,its,h1,h2,h3,⟨o,k a o h2 h3 q1,q2⟩,h5⟩
noncomputable def btL (val:Nat→List Int) (i j:Nat):Bool:=HT.lexLt (val i) (val j)
section
variable {prog:Program}{w:World}{A:Around}{R:Result→Shared→Prop}{I l:Addr}{items:Array Value}{val:Nat→List Int}{kw:List (Str×Value)}{fp:List Addr}{St:Nat→Heap→Prop}
theorem N3(W:Walks prog w A.in1 I fp [I] items.size (fun i v=>items[i]?=some v) St)(hu:A.units+1<cLine)(S:Addr)(hSI:S≠I)(hSf:S∉fp) :
  ∀ (k j:Nat) (s:Shared) (vb:Value) (c:Nat),items.size - (j+1)=k→j+1≤items.size→St (j+1) s.heap→TupsH I S items val s.heap→items[argBest (btL val) j]?=some vb→
  s.heap.get? S=some {cls:=.type "list",dict:=none,data:=.seq #[vb,vb] c,slots:=#[]}→
  (∀ v h' tk,items[argBest (btL val) (items.size - 1)]?=some v→(∀ b o,b≠I→b≠S→s.heap.get? b=some o→h'.get? b=some o)→R (.ok (.ret v)) {s with heap:=h',toks:=tk})→
  codeAny (model prog w) A (.builtin "min.loop" ⟨[.ref I,.none,.ref S],kw⟩) R s:=by
 have hname:(toString "min" ++ toString ".loop" : String) = "min.loop":=by decide
 have hSw:S∉[I]:=by simp[hSI]
 intro k;induction k with
 |zero =>
  intro j s vb c hk hj hst hT hPb hS hR;have hin:j+1=items.size:=by omega
  refine codeAny_builtin PySem.F.entry_min_loop ?_;rw[Around.under_plainId PySem.F.plain_min_loop _];show wpAny _ A.in1 (seqItems? (.ref S) >>= _) _ _ s;refine wpAny_bind (wpAny_seqItems hS rfl ?_);show wpAny _ A.in1 (tryCatch (pyNext (.ref I)) _ >>= _) _ _ s;refine wpAny_bind (wpAny_tryCatch (W.done s _ _ (hin▸hst) fun h' tk hk'=>?_));have hS':=hk' S _ hSw hS;show wpAny _ A.in1 (updateSeq S (fun _=>#[]) >>= _) _ _ _;refine wpAny_bind ?_;refine wpAny_updateSeq hS' rfl (wpAny_bind (wpAny_letGo (wpAny_pure ?_)));refine hR vb _ tk (by rw[←hin];exact hPb) fun b o hbw hbS e=>(Heap.get?_update_other _ _ (Ne.symm hbS)).trans (hk' b o (by simpa using hbw) e)
 |succ k ih =>
  intro j s vb c hk hj hst hT hPb hS hR;have hlt:j+1<items.size:=by omega
  refine codeAny_builtin PySem.F.entry_min_loop ?_;rw[Around.under_plainId PySem.F.plain_min_loop _];show wpAny _ A.in1 (seqItems? (.ref S) >>= _) _ _ s;refine wpAny_bind (wpAny_seqItems hS rfl ?_);show wpAny _ A.in1 (tryCatch (pyNext (.ref I)) _ >>= _) _ _ s;refine wpAny_bind (wpAny_tryCatch (W.item (j+1) s _ _ hlt hst fun v h' tk hP hst' hk'=>?_));have hS':=hk' S _ hSw hS;have hT':TupsH I S items val h':=hT.keep fun b o h1 _ e=>hk' b o (by simpa using h1) e;have hP:items[j+1]?=some v:=hP;obtain⟨a,its,rfl,_,_,pa,ia⟩:=hT' _ _ hP;obtain⟨b0,its2,rfl,_,_,pb,ib⟩:=hT' _ _ hPb;show wpAny _ A.in1 (tryCatch (holding [.ref a,.ref a] (compareOp .Lt (.ref a) (.ref b0) >>= _)) _ >>= _) _ _ _;refine wpAny_bind (wpAny_tryCatch (wpAny_holding (wpAny_bind (HT.lt_tupInts pa pb ia ib hu ?_))));refine wpAny_bind (wpAny_holding (wpAny_truthy_bool ?_));refine wpAny_bind (wpAny_letGo (wpAny_pure ?_));cases hb:HT.lexLt (val (j+1)) (val (argBest (btL val) j))with
  |true =>
   have hb':btL val (j+1) (argBest (btL val) j)=true:=hb;simp only[if_true];refine wpAny_bind ?_;refine wpAny_updateSeq hS' rfl (wpAny_bind (wpAny_letGo ?_));rw[hname];refine wpAny_pure ⟨plainId_quiet PySem.F.plain_min_loop _,ih (j+1) _ (.ref a) _ (by omega) hlt (W.frame _ _ _ hst' fun b hbf o e=>?_) (hT'.keep fun b o _ h2 e=>(Heap.get?_update_other _ _ (Ne.symm h2)).trans e) (by simp only[argBest,hb',if_true];exact hP) (Heap.get?_update_self _ hS' rfl)
     fun v' h'' tk'' hP' hk''=>?_⟩
   ·exact(Heap.get?_update_other _ _ (fun h:S=b=>hSf (by rw[h];exact hbf))).trans e
   ·exact hR v' h'' tk'' hP' fun b o hbw hbS e=>hk'' b o hbw hbS ((Heap.get?_update_other _ _ (Ne.symm hbS)).trans (hk' b o (by simpa using hbw) e))
  |false =>have hb':btL val (j+1) (argBest (btL val) j)=false:=hb;simp only[Bool.false_eq_true,if_false];refine wpAny_bind (wpAny_letGo ?_);rw[hname];refine wpAny_pure ⟨plainId_quiet PySem.F.plain_min_loop _,ih (j+1) _ (.ref b0) c (by omega) hlt hst' hT' (by simp only[argBest,hb',Bool.false_eq_true,if_false];exact hPb) hS' fun v' h'' tk'' hP' hk''=>?_⟩;exact hR v' h'' tk'' hP' fun b o hbw hbS e=>hk'' b o hbw hbS (hk' b o (by simpa using hbw) e)
theorem YS(W:Walks prog w A.in1 I fp [I] items.size (fun i v=>items[i]?=some v) St)(hu:A.units+1<cLine)(S:Addr)(hSI:S≠I)(hSf:S∉fp)(hn:0<items.size){s:Shared}{c:Nat}(hst:St 0 s.heap)(hT:TupsH I S items val s.heap)
  (hS:s.heap.get? S=some {cls:=.type "list",dict:=none,data:=.seq #[] c,slots:=#[]})
  (hR:∀ v h' tk,items[argBest (btL val) (items.size - 1)]?=some v→(∀ b o,b≠I→b≠S→s.heap.get? b=some o→h'.get? b=some o)→R (.ok (.ret v)) {s with heap:=h',toks:=tk}) :
  codeAny (model prog w) A (.builtin "min.loop" ⟨[.ref I,.none,.ref S],kw⟩) R s:=by
 have hname:(toString "min" ++ toString ".loop" : String) = "min.loop":=by decide
 have hSw:S∉[I]:=by simp[hSI]
 refine codeAny_builtin PySem.F.entry_min_loop ?_;rw[Around.under_plainId PySem.F.plain_min_loop _];show wpAny _ A.in1 (seqItems? (.ref S) >>= _) _ _ s;refine wpAny_bind (wpAny_seqItems hS rfl ?_);show wpAny _ A.in1 (tryCatch (pyNext (.ref I)) _ >>= _) _ _ s;refine wpAny_bind (wpAny_tryCatch (W.item 0 s _ _ hn hst fun v h' tk hP hst' hk'=>?_));have hS':=hk' S _ hSw hS;have hT':TupsH I S items val h':=hT.keep fun b o h1 _ e=>hk' b o (by simpa using h1) e;show wpAny _ A.in1 (updateSeq S (fun _=>#[v,v]) >>= _) _ _ _;refine wpAny_bind ?_;refine wpAny_updateSeq hS' rfl ?_;rw[hname];refine wpAny_pure ⟨plainId_quiet PySem.F.plain_min_loop _,N3 W hu S hSI hSf _ 0 _ v _ rfl hn (W.frame _ _ _ hst' fun b hbf o e=>?_) (hT'.keep fun b o _ h2 e=>(Heap.get?_update_other _ _ (Ne.symm h2)).trans e) hP (Heap.get?_update_self _ hS' rfl) fun v' h'' tk'' hP' hk''=>?_⟩
 ·exact(Heap.get?_update_other _ _ (fun h:S=b=>hSf (by rw[h];exact hbf))).trans e
 ·exact hR v' h'' tk'' hP' fun b o hbw hbS e=>hk'' b o hbw hbS ((Heap.get?_update_other _ _ (Ne.symm hbS)).trans (hk' b o (by simpa using hbw) e))
theorem Og(hh:A.handled=none)(hlI:l≠I)(S:Addr)(hSI:S≠I)(hn:items.size=0){s:Shared}{c:Nat}{nm:Str}{d:Value}(hst:s.heap.IsListIter I l 0∧s.heap.IsList l items)
  (hS:s.heap.get? S=some {cls:=.type "list",dict:=none,data:=.seq #[] c,slots:=#[]})
  (hR:∀ h' tk,(∀ b o,b≠I→s.heap.get? b=some o→h'.get? b=some o)→R (.ok (.ret d)) {s with heap:=h',toks:=tk}) :
  codeAny (model prog w) A (.builtin "min.loop" ⟨[.ref I,.none,.ref S],[(nm,d)]⟩) R s:=by
 have W:=Walks.list (prog:=prog) (w:=w) (A:=A.in1) hh I l hlI items;refine codeAny_builtin PySem.F.entry_min_loop ?_;rw[Around.under_plainId PySem.F.plain_min_loop _];show wpAny _ A.in1 (seqItems? (.ref S) >>= _) _ _ s;refine wpAny_bind (wpAny_seqItems hS rfl ?_);show wpAny _ A.in1 (tryCatch (pyNext (.ref I)) _ >>= _) _ _ s;refine wpAny_bind (wpAny_tryCatch (W.done s _ _ (by rw[hn];exact hst) fun h' tk hk'=>?_));show wpAny _ A.in1 (rule _ >>= fun _=>ret d) _ _ _;exact wpAny_bind (wpAny_rule (wpAny_pure (hR h' tk fun b o hb e=>hk' b o (by simpa using hb) e)))
end
theorem N1 (a:Value):argsOk "min" ⟨[a],[(Str.ofString "default",.none)]⟩:=by unfold argsOk;kernel_rfl
theorem Ws(bt:Nat→Nat→Bool):∀ k,argBest bt k≤k
 |0=>zJ _
 |k+1=>by
  unfold argBest;split
  ·exact zJ _
  ·exact Nat.le_succ_of_le (Ws bt k)
theorem Xh:∀ {xs:List V}{us:List Value}{i:Nat}{u:Value},Vals xs us→us[i]?=some u→∃ x,xs[i]?=some x∧RelV x u
 |_,_,_,_,.nil,e=>by simp at e
 |_,_,0,_,.cons r _,e=>by simp at e;subst e;exact⟨_,rfl,r⟩
 |_,_,i+1,_,.cons _ t,e=>by obtain⟨x,h1,h2⟩:=Xh (i:=i) t (by simpa using e);exact⟨x,by simpa using h1,h2⟩
section
variable {X:Cx}
theorem Op{pins:List (Addr×Obj)}{s:Shared}{σ:St}{H:Hp}{a:Addr}{xs:List V}{rows:List (List Int)}{Q:VK}(hc:X.calm=true)(hu:X.A.units+1<cLine)(I:Inv X pins σ H s)(hl:SqL X.K H a xs)(hr:rows.length=xs.length)
  (ht:∀ i,i<rows.length→∃ p,xs[i]?=some (.ref p)∧SqT X.K H p ((rows.getD i []).map V.int))
  (q0:xs=[]→Q .non H) (q1:xs≠[]→∀ x,xs[argBest (btL fun i=>rows.getD i []) (xs.length - 1)]?=some x→Q x H) :
  wpAny (model X.prog X.w) X.A (call (.builtin "min") [.ref a] [(Str.ofString "default",.none)]) (EP X pins σ Q) X.xe s:=by
 have hname:(toString "min" ++ toString ".loop" : String) = "min.loop":=by decide
 obtain⟨its,rv,pl,hz⟩:=I.list hl;have hlen:=rv.length;have hls:=pl.isList;obtain⟨ol,hol,_⟩:=id hls;have hll:a<s.heap.objs.size:=Heap.lt_size hol;refine PyProof.Rows.kmk_tree PySem.F.kind_min PySem.F.plain_min PySem.F.entry_min (N1 _) ?_;show wpAny _ X.A.in1 (Builtin.Builtins.bindParams "min" ["key","default"] 0 ⟨[],[(Str.ofString "default",.none)]⟩ >>= _) _ _ s;refine wpAny_bind (wpAny_of_eq (show Builtin.Builtins.bindParams "min" ["key","default"] 0 ⟨[],[(Str.ofString "default",.none)]⟩=pure [none,some .none] from rfl) ?_);refine wpAny_bind (wpAny_pure ?_);refine wpAny_bind (wpAny_pyIter_list hls ?_);refine wpAny_bind (wpAny_newList ?_ (Nat.zero_le _));rw[hname];have hS:(s.heap.push {cls:=.type "list_iterator",data:=.fields #[.ref a,.int 0 0]}).objs.size=s.heap.objs.size+1:=size_push' ..;have hlI:a≠s.heap.objs.size:=zI hll;have hSI:(s.heap.push {cls:=.type "list_iterator",data:=.fields #[.ref a,.int 0 0]}).objs.size≠s.heap.objs.size:=by rw[hS];exact Nat.ne_of_gt (Nat.lt_succ_self _)
 have hSl:(s.heap.push {cls:=.type "list_iterator",data:=.fields #[.ref a,.int 0 0]}).objs.size≠a:=by rw[hS];exact Nat.ne_of_gt (Nat.lt_succ_of_lt hll)
 have kk:∀ b o,s.heap.get? b=some o→((s.heap.push {cls:=.type "list_iterator",data:=.fields #[.ref a,.int 0 0]}).push (seqObj "list" #[] 0)).get? b=some o:=fun b o e=>Heap.get?_push_of_some _ (Heap.get?_push_of_some _ e);have gI:((s.heap.push {cls:=.type "list_iterator",data:=.fields #[.ref a,.int 0 0]}).push (seqObj "list" #[] 0)).get? s.heap.objs.size=some {cls:=.type "list_iterator",data:=.fields #[.ref a,.int 0 0]} :=
  Heap.get?_push_of_some _ (Heap.get?_push_size _ rfl)
 have gS:((s.heap.push {cls:=.type "list_iterator",data:=.fields #[.ref a,.int 0 0]}).push (seqObj "list" #[] 0)).get? (s.heap.push {cls:=.type "list_iterator",data:=.fields #[.ref a,.int 0 0]}).objs.size=some (seqObj "list" #[] 0):=Heap.get?_push_size _ rfl;have old:∀ b o,s.heap.get? b=some o→b≠s.heap.objs.size∧b≠(s.heap.push {cls:=.type "list_iterator",data:=.fields #[.ref a,.int 0 0]}).objs.size:=fun b o e=>by have:=Heap.lt_size e;rw[hS];exact⟨zI this,zI (Nat.lt_succ_of_lt this)⟩
 have hst:Heap.IsListIter ((s.heap.push {cls:=.type "list_iterator",data:=.fields #[.ref a,.int 0 0]}).push (seqObj "list" #[] 0)) s.heap.objs.size a 0∧Heap.IsList ((s.heap.push {cls:=.type "list_iterator",data:=.fields #[.ref a,.int 0 0]}).push (seqObj "list" #[] 0)) a its.toArray:=by refine⟨⟨_,gI,rfl,rfl⟩,?_⟩;obtain⟨o,e,r⟩:=hls;exact⟨o,kk _ _ e,r⟩
 refine wpAny_pure ⟨plainId_quiet PySem.F.plain_min_loop _,?_⟩;by_cases h0:xs=[]
 ·have hi:its.toArray.size=0:=by rw[qC,←hlen,h0];rfl
  refine Og (I:=s.heap.objs.size) (A:=X.A) (l:=a) (items:=its.toArray) (I.ok.hd hc) hlI _ hSI hi hst gS fun h' tk hk=>?_;exact⟨.non,H,I.kept (t':=tk) fun b o e=>hk b o (old b o e).1 (kk b o e),rfl,q0 h0⟩
 ·have hi:0<its.toArray.size:=by
   rw[qC,←hlen];exact zE.mpr h0
  refine YS (A:=X.A) (items:=its.toArray) (val:=fun i=>rows.getD i []) (Walks.list (A:=X.A.in1) (I.ok.hd hc) s.heap.objs.size a hlI its.toArray) hu _ hSI (fun z=>(qE.mp z).elim hSI fun z=>hSl (zL.mp z)) hi hst (fun i v e=>?_) gS fun v h' tk hv hk=>?_
  ·have e:its[i]?=some v:=by simpa using e
   have hi':i<rows.length:=by rw[hr,hlen];exact(qK.mp e).1
   obtain⟨p,hp1,hp2⟩:=ht i hi';obtain⟨x,hx,rx⟩:=Xh rv e;rw[hp1]at hx;cases hx;obtain rfl:v=Value.ref p:=rx;obtain⟨tt,r2,⟨o2,e2,rest⟩,_⟩:=I.tuple hp2;exact⟨p,tt.toArray,rfl,(old p o2 e2).1,(old p o2 e2).2,⟨o2,kk _ _ e2,rest⟩,Zu r2⟩
  ·have hv:its[argBest (btL fun i=>rows.getD i []) (xs.length - 1)]?=some v:=by rw[hlen];simpa using hv
   obtain⟨x,hx,rx⟩:=Xh rv hv;exact⟨x,H,I.kept (t':=tk) fun b o e=>hk b o (old b o e).1 (old b o e).2 (kk b o e),rx,q1 h0 x hx⟩
theorem MF{pins:List (Addr×Obj)}{s:Shared}{σ:St}{H:Hp}{a:Addr}{xs:List V}{rows:List (List Int)}{Q:VK}(hc:X.calm=true)(hu:X.A.units+1<cLine)(I:Inv X pins σ H s)(hl:SqL X.K H a xs)(hr:rows.length=xs.length)
  (ht:∀ i,i<rows.length→∃ p,xs[i]?=some (.ref p)∧SqT X.K H p ((rows.getD i []).map V.int))
  (h0:xs≠[]) (q1:∀ x,xs[argBest (btL fun i=>rows.getD i []) (xs.length - 1)]?=some x→Q x H) :
  wpAny (model X.prog X.w) X.A (call (.builtin "min") [.ref a]) (EP X pins σ Q) X.xe s:=by
 have hname:(toString "min" ++ toString ".loop" : String) = "min.loop":=by decide
 obtain⟨its,rv,pl,hz⟩:=I.list hl;have hlen:=rv.length;have hls:=pl.isList;obtain⟨ol,hol,_⟩:=id hls;have hll:a<s.heap.objs.size:=Heap.lt_size hol;refine call_function_tree PySem.F.kind_min PySem.F.plain_min PySem.F.entry_min (PySem.F.args_min1 _) ?_;show wpAny _ X.A.in1 (Builtin.Builtins.bindParams "min" ["key","default"] 0 ⟨[],[]⟩ >>= _) _ _ s;refine wpAny_bind (wpAny_of_eq (show Builtin.Builtins.bindParams "min" ["key","default"] 0 ⟨[],[]⟩=pure [none,none] from rfl) ?_);refine wpAny_bind (wpAny_pure ?_);refine wpAny_bind (wpAny_pyIter_list hls ?_);refine wpAny_bind (wpAny_newList ?_ (Nat.zero_le _));rw[hname];have hS:(s.heap.push {cls:=.type "list_iterator",data:=.fields #[.ref a,.int 0 0]}).objs.size=s.heap.objs.size+1:=size_push' ..;have hlI:a≠s.heap.objs.size:=zI hll;have hSI:(s.heap.push {cls:=.type "list_iterator",data:=.fields #[.ref a,.int 0 0]}).objs.size≠s.heap.objs.size:=by rw[hS];exact Nat.ne_of_gt (Nat.lt_succ_self _)
 have hSl:(s.heap.push {cls:=.type "list_iterator",data:=.fields #[.ref a,.int 0 0]}).objs.size≠a:=by rw[hS];exact Nat.ne_of_gt (Nat.lt_succ_of_lt hll)
 have kk:∀ b o,s.heap.get? b=some o→((s.heap.push {cls:=.type "list_iterator",data:=.fields #[.ref a,.int 0 0]}).push (seqObj "list" #[] 0)).get? b=some o:=fun b o e=>Heap.get?_push_of_some _ (Heap.get?_push_of_some _ e);have gI:((s.heap.push {cls:=.type "list_iterator",data:=.fields #[.ref a,.int 0 0]}).push (seqObj "list" #[] 0)).get? s.heap.objs.size=some {cls:=.type "list_iterator",data:=.fields #[.ref a,.int 0 0]} :=
  Heap.get?_push_of_some _ (Heap.get?_push_size _ rfl)
 have gS:((s.heap.push {cls:=.type "list_iterator",data:=.fields #[.ref a,.int 0 0]}).push (seqObj "list" #[] 0)).get? (s.heap.push {cls:=.type "list_iterator",data:=.fields #[.ref a,.int 0 0]}).objs.size=some (seqObj "list" #[] 0):=Heap.get?_push_size _ rfl;have old:∀ b o,s.heap.get? b=some o→b≠s.heap.objs.size∧b≠(s.heap.push {cls:=.type "list_iterator",data:=.fields #[.ref a,.int 0 0]}).objs.size:=fun b o e=>by have:=Heap.lt_size e;rw[hS];exact⟨zI this,zI (Nat.lt_succ_of_lt this)⟩
 have hst:Heap.IsListIter ((s.heap.push {cls:=.type "list_iterator",data:=.fields #[.ref a,.int 0 0]}).push (seqObj "list" #[] 0)) s.heap.objs.size a 0∧Heap.IsList ((s.heap.push {cls:=.type "list_iterator",data:=.fields #[.ref a,.int 0 0]}).push (seqObj "list" #[] 0)) a its.toArray:=by refine⟨⟨_,gI,rfl,rfl⟩,?_⟩;obtain⟨o,e,r⟩:=hls;exact⟨o,kk _ _ e,r⟩
 refine wpAny_pure ⟨plainId_quiet PySem.F.plain_min_loop _,?_⟩;have hi:0<its.toArray.size:=by rw[qC,←hlen];exact zE.mpr h0
 refine YS (A:=X.A) (items:=its.toArray) (val:=fun i=>rows.getD i []) (Walks.list (A:=X.A.in1) (I.ok.hd hc) s.heap.objs.size a hlI its.toArray) hu _ hSI (fun z=>(qE.mp z).elim hSI fun z=>hSl (zL.mp z)) hi hst (fun i v e=>?_) gS fun v h' tk hv hk=>?_
 ·have e:its[i]?=some v:=by simpa using e
  have hi':i<rows.length:=by rw[hr,hlen];exact(qK.mp e).1
  obtain⟨p,hp1,hp2⟩:=ht i hi';obtain⟨x,hx,rx⟩:=Xh rv e;rw[hp1]at hx;cases hx;obtain rfl:v=Value.ref p:=rx;obtain⟨tt,r2,⟨o2,e2,rest⟩,_⟩:=I.tuple hp2;exact⟨p,tt.toArray,rfl,(old p o2 e2).1,(old p o2 e2).2,⟨o2,kk _ _ e2,rest⟩,Zu r2⟩
 ·have hv:its[argBest (btL fun i=>rows.getD i []) (xs.length - 1)]?=some v:=by rw[hlen];simpa using hv
  obtain⟨x,hx,rx⟩:=Xh rv hv;exact⟨x,H,I.kept (t':=tk) fun b o e=>hk b o (old b o e).1 (old b o e).2 (kk b o e),rx,q1 x hx⟩
theorem KP (hc:X.calm=true) (hu:X.A.units+1<cLine):CallR X (.builtin "min") (fun xs H Q=>∃ p q,∃ ns ms:List Int,xs=[.ref p,.ref q]∧SqT X.K H p (ns.map V.int)∧SqT X.K H q (ms.map V.int)∧Q (if HT.lexLt ms ns=true then .ref q else .ref p) H):=by
 intro pins s σ H xs us Q I r h;obtain⟨p,q,ns,ms,rfl,hp,hq,q1⟩:=h;obtain⟨u,v,rfl,ru,rv⟩:=Kz r;cases ru;cases rv;have hname:(toString "min" ++ toString ".loop" : String) = "min.loop":=by decide
 refine call_function_tree PySem.F.kind_min PySem.F.plain_min PySem.F.entry_min (PySem.F.args_min2 _ _) ?_;show wpAny _ X.A.in1 (Builtin.Builtins.bindParams "min" ["key","default"] 0 ⟨[],[]⟩ >>= _) _ _ s;refine wpAny_bind (wpAny_of_eq (show Builtin.Builtins.bindParams "min" ["key","default"] 0 ⟨[],[]⟩=pure [none,none] from rfl) ?_);show wpAny _ X.A.in1 (newTuple [.ref p,.ref q] >>= _) _ _ s;refine wpAny_bind (wpAny_newObj_type ?_);have hT:(s.heap.push {cls:=.type "tuple",data:=.seq #[.ref p,.ref q]}).IsTuple s.heap.objs.size #[.ref p,.ref q]:=⟨_,Heap.get?_push_size _ rfl,rfl,0,rfl⟩
 refine wpAny_bind (wpAny_pyIter_tuple hT ?_);refine wpAny_bind (wpAny_newObj_type ?_);rw[hname];generalize hg1:s.heap.push {cls:=.type "tuple",data:=.seq #[.ref p,.ref q]}=g1 at hT ⊢;have z1:g1.objs.size=s.heap.objs.size+1:=by rw[←hg1];exact Heap.size_push ..
 have k1:∀ b o,s.heap.get? b=some o→g1.get? b=some o:=fun b o e=>by rw[←hg1];exact Heap.get?_push_of_some _ e
 generalize hg2:g1.push {cls:=.type "tuple_iterator",data:=.fields #[.ref s.heap.objs.size,.int 0 0]}=g2;have z2:g2.objs.size=g1.objs.size+1:=by rw[←hg2];exact Heap.size_push ..
 have k2:∀ b o,g1.get? b=some o→g2.get? b=some o:=fun b o e=>by rw[←hg2];exact Heap.get?_push_of_some _ e
 have i2:g2.get? g1.objs.size=some {cls:=.type "tuple_iterator",data:=.fields #[.ref s.heap.objs.size,.int 0 0]}:=by rw[←hg2];exact Heap.get?_push_size _ rfl
 refine wpAny_pure ⟨plainId_quiet PySem.F.plain_min_loop _,?_⟩;have old:∀ b o,s.heap.get? b=some o→b≠g1.objs.size∧b≠g2.objs.size:=fun b o e=>by have:=Heap.lt_size e;exact⟨zI (by rw[z1];exact Nat.lt_succ_of_lt this),zI (by rw[z2,z1];exact Nat.lt_succ_of_lt (Nat.lt_succ_of_lt this))⟩
 have n1:s.heap.objs.size≠g1.objs.size:=by rw[z1];exact zI (Nat.lt_succ_self _)
 have n2:g2.objs.size≠g1.objs.size:=by rw[z2];exact Nat.ne_of_gt (Nat.lt_succ_self _)
 have n3:g2.objs.size≠s.heap.objs.size:=by rw[z2,z1];exact Nat.ne_of_gt (Nat.lt_succ_of_lt (Nat.lt_succ_self _))
 refine YS (A:=X.A) (items:=#[.ref p,.ref q]) (val:=fun i=>[ns,ms].getD i []) (Walks.tuple (A:=X.A.in1) (I.ok.hd hc) g1.objs.size s.heap.objs.size n1 #[.ref p,.ref q]) hu g2.objs.size n2 (fun z=>(qE.mp z).elim n2 fun z=>n3 (zL.mp z)) (Nat.succ_pos _) ⟨⟨_,Heap.get?_push_of_some _ i2,rfl,rfl⟩,?_⟩ (fun i v e=>?_) (Heap.get?_push_size _ rfl) fun v h' tk hv hk=>?_
 ·obtain⟨o,e,r⟩:=hT;exact⟨o,Heap.get?_push_of_some _ (k2 _ _ e),r⟩
 ·have key:∀ a (ks:List Int),SqT X.K H a (ks.map V.int)→∃ b its,(Value.ref a)=.ref b∧b≠g1.objs.size∧b≠g2.objs.size∧IsTup (g2.push {cls:=.type "list",data:=.seq #[]}) b its∧IntsAre its.toList ks:=fun a ks ha=>by
   obtain⟨tt,r2,⟨o2,e2,rest⟩,_⟩:=I.tuple ha;exact⟨a,tt.toArray,rfl,(old a o2 e2).1,(old a o2 e2).2,⟨o2,Heap.get?_push_of_some _ (k2 _ _ (k1 _ _ e2)),rest⟩,Zu r2⟩
  match i,e with
  |0,e=>cases e;exact key p ns hp
  |1,e=>cases e;exact key q ms hq
  |i+2,e=>simp at e
 ·have eb:argBest (btL fun i=>[ns,ms].getD i []) 1=if HT.lexLt ms ns=true then 1 else 0:=rfl;have hv:(#[Value.ref p,Value.ref q]:Array Value)[argBest (btL fun i=>[ns,ms].getD i []) 1]?=some v:=hv;rw[eb]at hv;have I2:=I.kept (t':=tk) (h':=h') fun b o e=>hk b o (old b o e).1 (old b o e).2 (Heap.get?_push_of_some _ (k2 _ _ (k1 _ _ e)));by_cases hl:HT.lexLt ms ns=true
  ·rw[if_pos hl]at hv q1;have hv:some (Value.ref q)=some v:=hv;cases hv;exact⟨.ref q,H,I2,rfl,q1⟩
  ·rw[if_neg hl]at hv q1;have hv:some (Value.ref p)=some v:=hv;cases hv;exact⟨.ref p,H,I2,rfl,q1⟩
noncomputable def Hm (K:PySem.W.Frag) (ta:TA):TE:=fun σ H Q=>ta σ H fun vs H1=>∃ a xs,∃ rows:List (List Int),vs=[.ref a]∧SqL K H1 a xs∧rows.length=xs.length∧
 (∀ i,i<rows.length→∃ p,xs[i]?=some (.ref p)∧SqT K H1 p ((rows.getD i []).map V.int))∧(xs=[]→Q .non H1)∧(xs≠[]→∀ x,xs[argBest (btL fun i=>rows.getD i []) (xs.length - 1)]?=some x→Q x H1)
theorem Cv {e:Expr}{ta:TA}{p pos kp kpos:Pos}{kk:Nat}(hc:X.calm=true) (hu:X.A.units+1<cLine) (hg:Gl X "min") (hm:X.mg "min" = none) (ha:PA X [e] ta) (hs:starEach [e] X.env=[(false,eval e X.env)]) :
  PE X (.Call (.Name "min" p) [e] [⟨some "default",.Constant .none kk kp,kpos⟩] pos) (Hm X.K ta):=by
 intro pins s σ H Q I h;refine wpAny_Call_Name_kw (Yu (u:=.builtin "min") I hg hm (by kernel_rfl) ?_);refine PyProof.Rows.callWith_kw (e:=e) (rest:=[]) ?_ (by rw[hs];rfl) (by rw[hs];rfl) rfl rfl;refine thn (ha pos pins s σ H _ I h) fun us s1 ⟨vs,H1,I1,r1,a,xs,rows,ev,hl,hr,ht,q0,q1⟩=>?_;subst ev;obtain⟨u,rfl,ru⟩:=ZJ r1;cases ru;refine PyProof.Rows.kws_cons (thn (Uh pins s1 σ H1 (fun v H2=>v=.non∧H2=H1) I1 ⟨rfl,rfl⟩) fun v s2 ⟨x,H2,I2,r2,e1,e2⟩=>PyProof.Rows.kws_nil ?_);subst e1 e2;obtain rfl:v=Value.none:=r2;exact Op hc hu I2 hl hr ht q0 q1
theorem Y5{P:Program}{w:World}:∀ {ns:List Int}{vs:List (Key×Value)}{acc:List Value},vs.map (·.1)=ns.map Sum.inl→acc.length=vs.length→(∀ (j:Nat) (v:Value),acc[j]?=some v→∃ (k:Key) (x:Value),vs[j]?=some (k,x)∧(Zn P w).is k v=true)→IntsAre acc ns
 |[],[],[],_,_,_=>.nil
 |[],_::_,_,h,_,_=>by cases h
 |_::_,[],_,h,_,_=>by cases h
 |[],[],_::_,_,h,_=>by cases h
 |_::_,_::_,[],_,h,_=>by cases h
 |n::ns,p::vs,u::acc,h1,h2,h3=>by rw[qG,qG]at h1;injection h1 with h1 h1';obtain⟨k,x,e1,e2⟩:=h3 0 u rfl;simp at e1;subst e1;have h1:k=Sum.inl n:=h1;subst h1;obtain⟨t,rfl⟩:∃ t,u=Value.int n t:=Gy (k:=Sum.inl n) (u:=u) e2;exact .cons n t (Y5 (P:=P) (w:=w) h1' (by simpa using h2) fun j v e=>by simpa using h3 (j+1) v (by simpa using e))
theorem JO (hc:X.calm=true):CallR X (.builtin "sorted") (fun xs H Q=>∃ p kvs,∃ ns:List Int,xs=[.ref p]∧Rd H p (.dK kvs)∧kvs.map (·.1)=ns.map Sum.inl∧ns.length<64∧∀ l,H l=none→Q (.ref l) (upd H l (.lst ((sortI ns).map V.int)))):=by
 intro pins s σ H xs us Q I r h;obtain⟨p,kvs,ns,rfl,hp,hk,h64,q⟩:=h;obtain⟨u,rfl,rx⟩:=ZJ r;cases rx;obtain⟨z,hsm,vs,rel,dd⟩:=XC I.hok hp;obtain⟨ep,da⟩:=dd.dictAt;have hlen:vs.length=ns.length:=by have:=congrArg List.length hk;simpa[rel.length]using this
 refine Calls.call_function_entry kind_sorted plain_sorted entry_sorted (args_sorted1 _) ?_;unfold Builtin.«sorted»;refine wpAny_bind (m:=checkCount "sorted" 1 1 _) (wpAny_pure ?_);refine wpAny_bind (PySem.W.kdu_collect (A:=X.A.in1) (PySem.W.kdl_dict (knd:=Zn X.prog X.w) (kvs:=vs) (ep:=ep) hsm) (I.ok.hd hc) da (by rw[←rel.length];exact z) fun h' tk acc hkeep hacc=>?_);have hl:acc.toList.length=vs.length:=by rw[zG];exact hacc.1
 refine wpAny_bind (wpAny_newList ?_ (by rw[hl,←rel.length];exact z));have hI:IntsAre acc.toList ns:=Y5 (P:=X.prog) (w:=X.w) (by rw[←rel.keys];exact hk) hl fun j v e=>hacc.2 j v (by rw[←Array.getElem?_toList];exact e);have hoL:(h'.push (seqObj "list" acc.toList.toArray 0)).get? h'.objs.size=some (seqObj "list" acc.toList.toArray 0):=Heap.get?_push_size _ rfl;have I1:Inv X pins σ H {s with heap:=h',toks:=tk}:=I.kept hkeep;refine wpAny_bind (wpAny_holding (wpAny_call_entry slot_list_sort ⟨_,hoL,rfl⟩ entry_list_sort (list_sort_tree hoL hI (by rw[hl,hlen];exact h64) fun out ns' a1 a2 a3=>⟨_,rfl,?_⟩) (args_list_sort _)));have e:=Wd a2 a3;subst e;obtain⟨n,he⟩:=sortedHeap_at (out:=out) hoL;refine wpAny_pure ⟨_,rfl,.ref h'.objs.size,_,I1.laid (a:=h'.objs.size) (o:=.lst ((sortI ns).map V.int)) (t':=tk) (fun b o e=>?_) (zJ _) ?_,rfl,q _ (I1.hok.fresh (zJ _))⟩
 ·have e:h'.get? b=some o:=e;have hb:=Heap.lt_size e;rw[sortedHeap_old (zI hb) (by rw[size_push'];exact Nat.lt_succ_of_lt hb)];exact Heap.get?_push_of_some _ e
 ·exact⟨by rw[qA,Xl];unfold sizeLine;omega,out.toList,n,Xa a1,by simpa[seqObj]using he⟩
end
end L2
namespace Srt
open PySem.W PyProof.Rows
def ok (n:Nat) (lt:Nat→Nat→Bool){α:Type}:KasT α→(α→Prop)→Prop
 |.ret a,Q=>Q a
 |.ask i j k,Q=>i<n∧j<n∧ok n lt (k (lt i j)) Q
section
variable {n:Nat}{lt:Nat→Nat→Bool}
def K (p:Array Nat) (k:Nat):Nat:=p.getD k 0
structure Good (n:Nat) (p:Array Nat):Prop where
 sz:p.size=n
 pm:p.toList.Perm (List.range n)
theorem Good.at{p:Array Nat}(g:Good n p)(h0:0<n)(k:Nat):K p k<n:=by
 unfold K;by_cases h:k<p.size
 ·have e:p.getD k 0=p[k]:=by simp[Array.getD,h]
  rw[e];have:p[k]∈List.range n:=g.pm.mem_iff.mp (by simp);exact List.mem_range.mp this
 ·have e:p.getD k 0=0:=by simp[Array.getD,h]
  rw[e];exact h0
theorem Good.rev{p:Array Nat}(g:Good n p)(i j:Nat):Good n (kas_rev p i j):=⟨(mirror_size ..).trans g.sz,(Array.perm_iff_toList_perm.mp (mirror_perm ..)).trans g.pm⟩
end
end Srt
namespace L2
open PySem PySem.Spec PyProof.Rows PySem.W
theorem lex_eq:∀ {a b:List Int},HT.lexLt a b=false→HT.lexLt b a=false→a=b
 |[],[],_,_=>rfl
 |[],_::_,h,_=>by cases h
 |_::_,[],_,h=>by cases h
 |x::xs,y::ys,h1,h2=>by
  rw[HT.lexLt_cons]at h1 h2;by_cases e:x=y
  ·subst e;rw[if_pos rfl]at h1 h2;rw[lex_eq h1 h2]
  ·rw[if_neg e]at h1;rw[if_neg (Ne.symm e)]at h2;have h1:¬ x<y:=by simpa using h1
   have h2:¬ y<x:=by simpa using h2
   omega
section
variable {prog:Program}{w:World}{A:Around}{E:Value→Shared→Prop}{s:Shared}
def RowsAt (h:Heap) (vs:List Value) (rows:List (List Int)):Prop:=rows.length=vs.length∧∀ i,i<vs.length→∃ p o its n,vs.getD i Value.none=.ref p∧h.get? p=some o∧o.cls=.type "tuple"∧o.data=.seq its n∧IntsAre its.toList (rows.getD i [])∧rows.getD i []≠[]
theorem RowsAt.keep {h h':Heap}{vs:List Value}{rows:List (List Int)}(r:RowsAt h vs rows) (k:∀ b o,h.get? b=some o→o.cls=.type "tuple"→h'.get? b=some o):RowsAt h' vs rows:=⟨r.1,fun i hi=>by
  obtain⟨p,o,its,n,h1,h2,h3,h4,h5⟩:=r.2 i hi
  exact⟨p,o,its,n,h1,k p o h2 h3,h3,h4,h5⟩⟩
end
end L2
namespace Snd
open PySem L2
variable {i:Inf}{X:Cx}{Φ:Own.Fs}
theorem J8{H:Hp}:∀ {kvs:List (Own.Val×Own.Val)}{ps:List (Key×V)}{ns:List Int},RKs i.K H kvs ps→Own.keysOf kvs=some ns→ps.map (·.1)=ns.map Sum.inl
 |_,_,ns,.nil,e=>by have e:some []=some ns:=e;cases e;rfl
 |(k,v)::kvs,_,ns,.cons (c:=c) hk _ t,e=>by
  have e:Own.intsOf (k::kvs.map (·.1))=some ns:=e;cases k with
  |int j =>
   have e:(Own.intsOf (kvs.map (·.1))).map (j :: ·)=some ns:=e;obtain⟨ms,z,rfl⟩:=qD.mp e;have ih:=J8 (ns:=ms) t z;cases c with
   |inl l =>have hk:j=l:=hk;subst hk;rw[qG,qG,ih]
   |inr _=>exact(show False from hk).elim
  |_=>cases e
theorem Jc:∀ {ys:List Own.Val}{ns:List Int},Own.intsOf ys=some ns→ys=ns.map .int
 |[],_,e=>by cases e;rfl
 |y::ys,ns,e=>by
  cases y with
  |int j =>obtain⟨ms,z,rfl⟩:=qD.mp (show(Own.intsOf ys).map (j :: ·)=some ns from e);rw[qG,←Jc z]
  |_=>cases e
theorem Wn{H:Hp}:∀ {xs:List Own.Val}{us:List V}{rows:List (List Int)},RVs i.K H xs us→Own.rowsOf xs=some rows→rows.length=us.length∧(∀ n,n<rows.length→∃ p,us[n]?=some (.ref p)∧SqT i.K H p ((rows.getD n []).map V.int))∧xs=rows.map fun r=>.tup (r.map .int)
 |_,_,rows,.nil,e=>by have e:some []=some rows:=e;cases e;exact⟨rfl,fun n h=>absurd h (Nat.not_lt_zero _),rfl⟩
 |v::xs,_,rows,.cons r t,e=>by
  cases v with
  |tup ys =>
   obtain⟨ns,z1,e⟩:=zA.mp (show(Own.intsOf ys).bind (fun ns=>(Own.rowsOf xs).map (ns :: ·))=some rows from e);obtain⟨rs,z2,rfl⟩:=qD.mp e;obtain⟨h1,h2,h3⟩:=Wn t z2;cases r with
   |tup hp hr =>
    have:=ZA z1 hr;subst this;refine⟨by rw[qB,qB,h1],fun n hn=>?_,?_⟩
    ·cases n with
     |zero=>exact⟨_,rfl,Zk hp⟩
     |succ n=>exact h2 n (by simpa using hn)
    ·rw[qG,←h3];have:ys=ns.map .int:=Jc z1;rw[this]
  |_=>cases e
theorem ML:BiOk i .sortedI (fun xs H Q=>(∃ p,∃ ns:List Int,xs=[.ref p]∧SqL i.K H p (ns.map V.int)∧ns.length<64∧∀ l,H l=none→Q (.ref l) (upd H l (.lst ((L2.sortI ns).map V.int))))∨
    (∃ p kvs,∃ ns:List Int,xs=[.ref p]∧Rd H p (.dK kvs)∧kvs.map (·.1)=ns.map Sum.inl∧ns.length<64∧∀ l,H l=none→Q (.ref l) (upd H l (.lst ((L2.sortI ns).map V.int))))):=by
 intro vs G H xs Q Qm g r w c;obtain⟨v,rfl,w⟩:=Yn w;obtain⟨x,rfl,rx⟩:=r.inv1;have key:∀ (ns:List Int),(if ns.length<64 then Own.Rs.new (.lst ((Own.sortI ns).map .int))else .no).wp G Qm→ns.length<64∧∀ l,H l=none→Q (.ref l) (upd H l (.lst ((L2.sortI ns).map V.int))):=fun ns w=>by
  split at w
  ·rename_i h64;exact⟨h64,Z6 g (JD w) c fun p hp=>⟨_,upd_same,RVs.ints _⟩⟩
  ·exact(Zg w).elim
 cases v with
 |ref a =>
  cases rx.ref_inv
  replace w:(Own.biSortedI G (.ref a)).wp G Qm:=w
  unfold Own.biSortedI Own.sortAny at w;dsimp only at w;cases z:G a with
  |none=>rw[z]at w;exact(Zg w).elim
  |some o =>
   rw[z]at w;cases o with
   |lst ys =>
    cases z2:Own.intsOf ys with
    |none=>simp only[z2]at w;exact(Zg w).elim
    |some ns =>simp only[z2]at w;obtain⟨us,h1,h2⟩:=g a _ z;have:=ZA z2 h2;subst this;exact .inl ⟨a,ns,rfl,SqL.of h1,key ns w⟩
   |dct kvs =>
    cases z2:Own.keysOf kvs with
    |none=>simp only[z2]at w;exact(Zg w).elim
    |some ns =>simp only[z2]at w;obtain⟨ps,h1,h2⟩:=g a _ z;exact .inr ⟨a,ps,ns,rfl,.inl h1,J8 h2 z2,key ns w⟩
   |_=>exact(Zg w).elim
 |scr ns =>
  cases rx with
  |scr h=>exact .inl ⟨_,ns,rfl,Z7 h,key ns w⟩
 |_=>exact(Zg w).elim
theorem XE {G:Own.Hs}{v:Own.Val}{t:String}(e:Own.kindV G v=some t):∀ Ts:List String,Own.isiAny G v Ts=some (Ts.any fun T=>t==T||(t == "bool" && T == "int"))
 |[]=>rfl
 |T::Ts=>by unfold Own.isiAny Own.isiV;rw[e,XE e Ts];rfl
theorem M2 (K:PySem.W.Frag){t:String}(ht:t∈["NoneType","bool","int","str","tuple","list","dict"]):∀ Ts:List String,(∀ T∈Ts,T∈kinds)→PySem.W.kitAny K (.type t) (Ts.map Value.type)=some (Ts.any fun T=>t==T||(t == "bool" && T == "int"))
 |[],_=>rfl
 |T::Ts,h=>by
  rw[qG,PySem.W.kitAny,Nr K t ht T (h T (.head _)),List.any_cons];have ih:=M2 K ht Ts fun T hT=>h T (.tail _ hT);cases (t==T||(t == "bool" && T == "int"))with
  |true=>rfl
  |false=>exact ih
def PE1 (X:Cx) (T:String):Prop:=∀ pos,PE X (.Name (Str.ofString T) pos) (tC (.ty T))
theorem Uf{Ts:List String}(hT:∀ T∈Ts,PE1 X T)(f:Nat→Pos):∀ k,PA X ((Ts.zipIdx k).map fun p=>.Name (Str.ofString p.1) (f p.2)) (fun _ H Q=>Q (Ts.map V.ty) H):=by
 induction Ts with
 |nil=>exact fun _=>pa_nil
 |cons T Ts ih =>intro k;rw[List.zipIdx_cons,qG];exact ZS (hT T (.head _) (f k)) (ih (fun T h=>hT T (.tail _ h)) (k+1))
theorem EC {e:Expr}{m:Own.E}{Ts:List String}{p p2 pos:Pos}{kk:Nat}{f:Nat→Pos}(hk:∀ T∈Ts,T∈kinds) (hK:X.K=i.K) (he:PE X e (tE X i Φ m)) (hg:Gl X "isinstance") (hm:X.mg "isinstance" = none) (hl:Ts.length≤20) (h0:Ts≠[]) (hT:∀ T∈Ts,PE1 X T)
  (hst:∀ ts,starEach [e,.Tuple ts kk p2] X.env=(false,eval e X.env)::starEach [.Tuple ts kk p2] X.env) :
  PE X (.Call (.Name "isinstance" p) [e,.Tuple (Ts.zipIdx.map fun p=>.Name (Str.ofString p.1) (f p.2)) kk p2] [] pos) (tE X i Φ (.bi (.isi Ts) (.cons m .nil))):=by
 refine(ZQ OM hg hm (by kernel_rfl) (ZS he (ZS (Mv (Uf hT f 0)) pa_nil) (hst _)) (he:=hst _)).imp fun σ H Q ⟨env,G,Qm,Em,p,w,c⟩=>?_;rw[Own.q_e_bi,Own.q_a_cons]at w;change tE X i Φ m σ H _;refine one p w fun v G1 H1 x k1 p1 r q=>?_;rw[Own.q_a_nil]at q
 replace q:(Own.Rs.ofO ((Own.isiAny G1 v Ts).map .bl)).wp G1 Qm:=q
 refine⟨by rw[qA];unfold sizeLine;omega,fun a ha=>?_⟩;cases z:Own.kindV G1 v with
 |none =>
  cases Ts with
  |nil=>exact absurd rfl h0
  |cons T Ts=>unfold Own.isiAny Own.isiV at q;rw[z]at q;simp[Own.Rs.ofO]at q
 |some t =>rw[XE z Ts]at q;simp only[Option.map_some,Own.Rs.ofO,Own.Rs.wp_val]at q;have k2:Keep H1 (upd H1 a (.tup (Ts.map V.ty))):=Keep.new ha;have g2:=Jq (o:=.tup (Ts.map V.ty)) p1.hp ha;obtain⟨h1,h2⟩:=WL g2 (r.keep k2) z;exact⟨x,a,Ts,.type t,_,rfl,upd_same,by rw[hK];exact h1,by rw[hK];exact M2 _ h2 Ts hk,c _ G1 _ _ (k1.trans k2) g2 (.bl _) q⟩
end Snd
namespace Snd
open PySem L2 PyProof.Rows
variable {i:Inf}{X:Cx}{Φ:Own.Fs}
theorem WQ:∀ (ns:List Int) (a:Int),a∈Own.dedup ns↔a∈ns
 |[],a=>Iff.rfl
 |x::xs,a=>by
  have ih:=WQ xs a;unfold Own.dedup;simp only[qE,List.mem_filter,ih];constructor
  ·rintro(h|h)
   ·exact .inl h
   ·exact .inr h.1
  ·rintro(h|h)
   ·exact .inl h
   ·by_cases e:a=x
    ·exact .inl e
    ·exact .inr ⟨h,by simpa using e⟩
theorem Xx:∀ ns:List Int,(Own.dedup ns).Nodup
 |[]=>List.nodup_nil
 |x::xs=>by unfold Own.dedup;rw[List.nodup_cons];refine⟨fun h=>?_,List.Nodup.sublist List.filter_sublist (Xx xs)⟩;have:=(List.mem_filter.mp h).2;simp at this
theorem XU:∀ (ns acc:List Int),acc.Nodup→(ns.foldl step_dedup acc).Nodup∧∀ a,a∈ns.foldl step_dedup acc↔a∈acc∨a∈ns
 |[],acc,h=>⟨h,fun a=>by simp⟩
 |x::xs,acc,h=>by
  have h2:(step_dedup acc x).Nodup∧∀ a,a∈step_dedup acc x↔a∈acc∨a=x:=by
   unfold step_dedup;split
   ·rename_i hc;have hm:x∈acc:=by simpa using hc
    exact⟨h,fun a=>⟨.inl,fun z=>z.elim id fun e=>e▸hm⟩⟩
   ·rename_i hc;have hm:x∉acc:=by simpa using hc
    refine⟨?_,fun a=>by simp⟩;rw[List.nodup_append];refine⟨h,by simp,fun a ha b hb=>?_⟩;rw[zL.mp hb];exact fun e=>hm (e▸ha)
  obtain⟨h3,h4⟩:=XU xs (step_dedup acc x) h2.1;refine⟨h3,fun a=>?_⟩;rw[List.foldl_cons,h4,h2.2,qE];constructor
  ·rintro((z|z)|z)
   ·exact .inl z
   ·exact .inr (.inl z)
   ·exact .inr (.inr z)
  ·rintro(z|z|z)
   ·exact .inl (.inl z)
   ·exact .inl (.inr z)
   ·exact .inr z
theorem AZ(ns:List Int):(firstMet (fun i=>ns.getD i 0) ns.length).Perm (Own.dedup ns):=by
 have e:(List.range ns.length).map (fun i=>ns.getD i 0)=ns:=by
  apply List.ext_getElem
  ·simp
  ·intro k h1 h2;simp at h1;simp[h1]
 unfold firstMet;rw[e];obtain⟨h1,h2⟩:=XU ns [] List.nodup_nil;refine(List.perm_ext_iff_of_nodup h1 (Xx ns)).mpr fun a=>?_;rw[h2,WQ];simp
theorem BJ(ns:List Int):(firstMet (fun i=>ns.getD i 0) ns.length).length=(Own.dedup ns).length:=(AZ ns).length_eq
theorem A0{G:Own.Hs}{H:Hp}{v:Own.Val}{x:V}{ns:List Int}(g:RH i G H)(r:RV i.K H v x)(e:Own.sortOf G v=some ns):∃ p,x=.ref p∧SqL i.K H p (ns.map V.int):=by
 cases v with
 |ref a =>obtain⟨ys,z1,z2⟩:=zA.mp (show(Own.lsOf (G a)).bind Own.intsOf=some ns from e);obtain⟨us,h1,h2⟩:=ZE g z1;have:=ZA z2 h2;subst this;exact⟨a,r.ref_inv,h1⟩
 |scr ms =>
  cases e;cases r with
  |scr h=>exact⟨_,rfl,Z7 h⟩
 |_=>cases e
theorem WT:∀ {xs:List Own.Val}{k n:Nat}{v:Own.Val},(Own.enumL k xs)[n]?=some v→∃ x,xs[n]?=some x∧v=.tup [.int ((k+n:Nat):Int),x]
 |[],k,n,v,h=>by simp[Own.enumL]at h
 |x::xs,k,0,v,h=>by have h:some (Own.Val.tup [.int k,x])=some v:=h;cases h;exact⟨x,rfl,rfl⟩
 |x::xs,k,n+1,v,h=>by obtain⟨y,h1,h2⟩:=WT (xs:=xs) (k:=k+1) (n:=n) (v:=v) (by simpa[Own.enumL]using h);refine⟨y,by simpa using h1,?_⟩;rw[h2,show k+1+n=k+(n+1) by omega]
theorem W6:∀ (xs:List Own.Val) (k:Nat),(Own.enumL k xs).length=xs.length
 |[],_=>rfl
 |x::xs,k=>by show(Own.enumL (k+1) xs).length+1=xs.length+1;rw[W6 xs]
theorem Bg{H0:Hp}{a:Addr}{xs:List Own.Val}{us:List V}(ha:H0 a=some (.tup us)∨KT i.K a us)(ra:RVs i.K H0 xs us):ItOk i H0 (Ite i.K a) (fun _=>True) (Own.enumL 0 xs) where
 go:=fun n G H v k g e hv=>by obtain⟨x,hx,rfl⟩:=WT hv;have h1:SqT i.K H a us:=Zk (ha.imp (k.t _ _) id);obtain⟨x',h5,h6⟩:=(ra.keep k).get hx;refine⟨⟨us,x',h1,h5⟩,fun w H' ⟨p,e1,hp,e2⟩=>?_⟩;subst e1;have:=e2 us x' h1 h5;subst this;have k:=Keep.new (o:=.tup [.int n,x']) hp;refine⟨k,Jq g hp,.tup (.inl upd_same) (.cons ?_ (.cons (h6.keep k) .nil))⟩;rw[Nat.zero_add];exact .int _
 stop:=fun n G H k g e hn=>by have h1:SqT i.K H a us:=Zk (ha.imp (k.t _ _) id);exact⟨us,h1,by rw[←ra.length,←W6 xs 0];exact hn⟩
theorem Mu{v:Own.Val}{xs:List Own.Val}(h:Own.tupOf v=some xs):v=.tup xs:=by
 cases v with
 |tup ys=>cases h;rfl
 |_=>cases h
theorem CP {es:List Expr}{kk:Nat}{tp p pos:Pos}{e:Expr}{m:Own.E}(hK:X.K=i.K) (hg:Gl X "enumerate") (hm:X.mg "enumerate" = none) (he:PE X e (tE X i Φ m)) (hs:starEach [e] X.env=[(false,eval e X.env)]) :
  PI X (.Tuple es kk tp) (.Call (.Name "enumerate" p) [e] [] pos) (tIt X i Φ (.enum m)) :=
 (Am hg hm (ZS he pa_nil hs) hs).imp fun σ H R ⟨env,G,QI,Em,p,w,c⟩=>by
  rw[Own.q_i_enum]at w;change tE X i Φ m σ H _;refine one p w fun v G1 H1 x k1 p1 rx q=>?_;obtain⟨xs,e1,q2⟩:=go_some q;clear q;cases Mu e1;rw[hK];cases rx with
  |tup hp hr=>exact⟨_,rfl,⟨_,Zk hp⟩,c _ _ G1 H1 _ k1 p1.hp (Bg hp hr) q2⟩
theorem O2 {e:Expr}{m:Own.E}{p p2 pos pos2:Pos}(hc:X.calm=true) (hK:X.K=i.K) (he:PE X e (tE X i Φ m)) (hg:Gl X "len") (hm:X.mg "len" = none) (hg2:Gl X "set") (hm2:X.mg "set" = none) (hst:starEach [e] X.env=[(false,eval e X.env)]) :
  PE X (.Call (.Name "len" p) [.Call (.Name "set" p2) [e] [] pos2] [] pos) (tE X i Φ (.bi .lenSet (.cons m .nil))):=by
 refine(ZQ N7 hg hm (by kernel_rfl) (ZS (Yg A7 hg2 hm2 (by kernel_rfl) (ZS he pa_nil hst) (he:=hst)) pa_nil)).imp fun σ H Q ⟨env,G,Qm,Em,p,w,c⟩=>?_;rw[Own.q_e_bi,Own.q_a_cons]at w;change tE X i Φ m σ H _;refine one p w fun v G1 H1 x k1 p1 r q=>?_;rw[Own.q_a_nil]at q
 replace q:(Own.biLenSet G1 v).wp G1 Qm:=q
 unfold Own.biLenSet at q;cases z:Own.sortOf G1 v with
 |none=>rw[z]at q;exact(Zg q).elim
 |some ns =>
  rw[z]at q;dsimp only at q;split at q
  ·rename_i h4;obtain⟨a,rfl,hs⟩:=A0 p1.hp r z;refine⟨a,ns,rfl,by rw[hK];exact hs,h4,hc,fun l S n hl hn=>?_⟩;have hn2:=hn.trans (BJ ns);clear hn;subst hn2;have k2:Keep H1 (upd H1 l (.set S (Own.dedup ns).length)):=Keep.new hl;refine⟨l,S,_,rfl,upd_same,?_⟩;exact c _ G1 _ _ (k1.trans k2) (Jq p1.hp hl) (.int _) (Zi q)
  ·exact(Zg q).elim
end Snd
namespace L2
open PySem PySem.Spec PyProof.Rows
open PySem.Builtin
section
variable {prog:Program}{w:World}{A:Around}{E:Value→Shared→Prop}
def PairsH (I d:Addr) (items:Array Value) (vals:List (Key×Value)) (prog:Program) (w:World) (h:Heap):Prop:=∀ (i:Nat) (v:Value),items[i]?=some v→∃ (a:Addr) (key:Value) (p:Key×Value),v=.ref a∧a≠I∧a≠d∧vals[i]?=some p∧IsTup h a #[key,p.2]∧(Zn prog w).is p.1 key=true
theorem PairsH.keep{I d:Addr}{items:Array Value}{vals:List (Key×Value)}{h h':Heap}(t:PairsH I d items vals prog w h)(k:∀ b o,b≠I→b≠d→h.get? b=some o→h'.get? b=some o):PairsH I d items vals prog w h':=fun i v e=>by obtain⟨a,key,p,h1,h2,h3,h4,⟨o,q1,q2⟩,h5⟩:=t i v e;exact⟨a,key,p,h1,h2,h3,h4,⟨o,k a o h2 h3 q1,q2⟩,h5⟩
end
theorem KV.all{kvs:List (Key×V)}{vals:List (Key×Value)}(r:KV kvs vals):∀ {m:List (Key×V)}{n:List (Key×Value)},KV m n→KV (kvs.foldl (fun m p=>putK m p.1 p.2) m) (vals.foldl (fun m p=>stored m p.1 p.2) n):=by
 unfold KV at r;induction r with
 |nil=>exact fun h=>h
 |cons q t ih =>intro m n h;rename_i a b l1 l2;obtain⟨k,x⟩:=a;obtain⟨k2,u⟩:=b;obtain⟨e,rx⟩:=q;cases (show k=k2 from e);exact ih (h.put k rx)
theorem Kd:entryFor table "list_reverseiterator.__next__" = some Builtin.«list_reverseiterator.__next__»:=entryFor_of_tree (by kernel_rfl)
theorem Kc (a:Value):argsOk "list_reverseiterator.__next__" ⟨[a],[]⟩:=by unfold argsOk;kernel_rfl
theorem slot_rnext:Slot "list_reverseiterator" "__next__" "list_reverseiterator.__next__" :=
 .of (owner:="list_reverseiterator") (n:="__next__") (by rw[typeLookup_type,builtinLookup_eq_fast];kernel_rfl) (by decide +kernel) (by decide +kernel) (by decide +kernel)
  (by first|exact .inl (by decide +kernel)|exact .inr (by decide +kernel)) (by rw[isSubtype_type];kernel_rfl)
theorem XX:Slot "list_reverseiterator" "__iter__" "list_reverseiterator.__iter__" :=
 .of (owner:="list_reverseiterator") (n:="__iter__") (by rw[typeLookup_type,builtinLookup_eq_fast];kernel_rfl) (by decide +kernel) (by decide +kernel) (by decide +kernel)
  (by first|exact .inl (by decide +kernel)|exact .inr (by decide +kernel)) (by rw[isSubtype_type];kernel_rfl)
theorem UW:entryFor table "list_reverseiterator.__iter__" = some Builtin.«dict_keyiterator.__iter__» :=
 entryFor_alias (id':="dict_keyiterator.__iter__") (by kernel_rfl) (by first|rfl|decide +kernel|(unfold String.splitOn;simp +decide [String.splitOnAux])) (by decide +kernel) (by kernel_rfl)
theorem AU (a:Value):argsOk "list_reverseiterator.__iter__" ⟨[a],[]⟩:=by unfold argsOk;kernel_rfl
def RevIt (h:Heap) (it l:Addr) (k:Int):Prop:=∃ o,h.get? it=some o∧o.cls=.type "list_reverseiterator"∧o.data=.fields #[.ref l,.int k 0]
section
variable {prog:Program}{w:World}{A:Around}{E:Value→Shared→Prop}{s:Shared}
theorem RevIt.typeIs {it l:Addr}{k:Int}(h:RevIt s.heap it l k):s.TypeIs (.ref it) "list_reverseiterator":=by obtain⟨o,h1,h2,_⟩:=h;exact⟨o,h1,h2⟩
theorem AM{it l:Addr}{k:Nat}{items:Array Value}{x:Value}{Q:Option Value→Shared→Prop}(hit:RevIt s.heap it l k)(hl:s.heap.IsList l items)(hx:items[k]?=some x)
  (hQ:∀ h',RevIt h' it l ((k:Int) - 1)→Heap.SameBut it s.heap h'→Q (some x) {s with heap:=h'}):wpAny (model prog w) A (pyNext (.ref it)) Q E s:=by
 have hT:=hit.typeIs;obtain⟨o,ho,hc,hd⟩:=id hit;obtain⟨ol,hol,_,nl,hdl⟩:=hl;unfold pyNext;refine wpAny_bind (wpAny_attempt (wpAny_callSpecial?_slot (name:=Str.ofString "__next__") hT slot_rnext (wpAny_call_entry slot_rnext hT Kd ?_ (Kc _))));show wpAny _ _ (field (.ref it) 1 >>= _) _ _ s;refine wpAny_bind (wpAny_field ho hd (x:=.int k 0) rfl ?_);refine wpAny_ite_split (fun hab=>absurd hab (by omega)) (fun _=>?_);show wpAny _ _ (field (.ref it) 0 >>= _) _ _ s;refine wpAny_bind (wpAny_field ho hd (x:=.ref l) rfl ?_);show wpAny _ _ (seqItems? (.ref l) >>= _) _ _ s;refine wpAny_bind (wpAny_seqItems hol hdl ?_);simp only[Int.toNat_natCast,hx];refine wpAny_bind (wpAny_setField ho hd (by simp) (wpAny_pure ⟨x,rfl,wpAny_pure (hQ _ ?_ (Heap.SameBut.update ..))⟩));exact⟨_,Heap.get?_update_self _ ho (Obj.isFreed_of_fields (Obj.data_mapFields hd _)),(Obj.cls_mapFields ..).trans hc,by
   rw[Obj.data_mapFields hd];simp[rawInt]⟩
theorem C3 {it l:Addr}{Q:Option Value→Shared→Prop}(hh:A.handled=none) (hit:RevIt s.heap it l (-1)) (hQ:∀ h',Heap.ExtBut it s.heap h'→Q none {s with heap:=h'}):wpAny (model prog w) A (pyNext (.ref it)) Q E s:=by have hT:=hit.typeIs;obtain⟨o,ho,hc,hd⟩:=id hit;unfold pyNext;refine wpAny_bind (wpAny_attempt (wpAny_callSpecial?_slot (name:=Str.ofString "__next__") hT slot_rnext (wpAny_call_entry slot_rnext hT Kd ?_ (Kc _))));show wpAny _ _ (field (.ref it) 1 >>= _) _ _ s;refine wpAny_bind (wpAny_field ho hd (x:=.int (-1) 0) rfl ?_);refine wpAny_ite_split (fun _=>?_) (fun hab=>absurd (by decide) hab);refine wpAny_bind (wpAny_rule ?_);refine wpAny_bind ?_;show wpAny _ _ (newExc (.type "StopIteration") [] >>= _) _ _ _;refine wpAny_bind ?_;simp only[newExc,newTuple];refine wpAny_bind (wpAny_newObj_type ?_ (by size_fits));refine wpAny_bind (m:=firstArgMember _ _) (wpAny_of_eq (a:=Value.none) (by first|rfl|(simp only[firstArgMember];rfl)) ?_);refine wpAny_newObj_type ?_ (by size_fits);simp only[raiseNew];refine wpAny_bind (wpAny_handled ?_);rw[show A.in1.handled=none from hh];refine wpAny_bind (wpAny_pure (wpAny_throw ?_));refine wpAny_bind (wpAny_isInstance (T:="StopIteration") (b:=true) ⟨_,Heap.get?_push_size _ rfl,rfl⟩ isSubtype_stop ?_);exact wpAny_pure (hQ _ (fun b o _ e=>Heap.get?_push_of_some _ (Heap.get?_push_of_some _ e)))
theorem UD {it l:Addr}{k:Int}{Q:Value→Shared→Prop}(hit:RevIt s.heap it l k) (h:Q (.ref it) s):wpAny (model prog w) A (pyIter (.ref it)) Q E s:=by have hT:=hit.typeIs;refine wpAny_pyIter_slot hT XX (wpAny_call_entry XX hT UW ?_ (AU _));show wpAny _ _ (ret (.ref it)) _ _ s;exact wpAny_pure ⟨_,rfl,"list_reverseiterator",_,hT,slot_rnext.lookup,h⟩
end
theorem Walks.rev{prog:Program}{w:World}{A:Around}(hh:A.handled=none)(I ax:Addr)(hne:ax≠I)(items:Array Value) :
  Walks prog w A I [I,ax] [I] items.size (fun i v=>items[items.size - 1 - i]?=some v) (fun i h=>RevIt h I ax ((items.size:Int) - 1 - i)∧h.IsList ax items) where
 sub:=fun b hb=>by simp at hb;simp[hb]
 frame:=fun _ _ _ st hk=>⟨by obtain⟨o,h1,h2⟩:=st.1;exact⟨o,hk I (by simp) o h1,h2⟩,st.2.at fun o e=>hk ax (by simp) o e⟩
 item:=fun i s Q E hi st hQ=>by
  have e:(items.size:Int) - 1 - i=((items.size - 1 - i:Nat):Int):=by omega
  rw[e]at st;have hlt:items.size - 1 - i<items.size:=by omega
  refine AM st.1 st.2 (x:=items[items.size - 1 - i]) (by simp[hlt]) fun h' hit' hs'=>?_;exact hQ _ h' s.toks (by simp[hlt]) ⟨by rw[show(items.size:Int) - 1 - ((i+1:Nat):Int)=((items.size - 1 - i:Nat):Int) - 1 by omega];exact hit',st.2.extBut hs'.extBut hne⟩ fun b o hb e=>hs'.extBut b o (fun h=>hb (by simp[h])) e
 done:=fun s Q E st hQ=>by rw[show(items.size:Int) - 1 - (items.size:Nat)=-1 by omega]at st;exact C3 hh st.1 fun h' he'=>hQ h' s.toks fun b o hb e=>he' b o (fun h=>hb (by simp[h])) e
 self:=fun _ _ _ _ st hQ=>UD st.1 hQ
end L2
namespace Snd
open PySem L2
variable {i:Inf}{X:Cx}
theorem Ma{v:Own.Val}{p:Int×Int}(h:Own.pairI v=some p):v=.tup [.int p.1,.int p.2]:=by
 unfold Own.pairI at h;split at h
 ·cases h;rfl
 ·cases h
theorem Ka{H:Hp}{v:Own.Val}{x:V}{p:Int×Int}(r:RV i.K H v x)(h:Own.pairI v=some p):∃ a,x=.ref a∧SqT i.K H a [.int p.1,.int p.2]:=by
 cases Ma h;cases r with
 |tup hp hr =>
  cases hr with
  |cons r1 t=>cases t with
   |cons r2 t =>cases t;cases r1.int_inv;cases r2.int_inv;exact⟨_,rfl,Zk hp⟩
theorem OO:∀ {ns:List Int},ns≠[]→Own.minI ns∈ns∧∀ a∈ns,Own.minI ns≤a
 |[],h=>absurd rfl h
 |x::r,_=>by
  show r.foldl (fun a b=>if b<a then b else a) x∈x::r∧∀ a∈x::r,r.foldl (fun a b=>if b<a then b else a) x≤a;induction r generalizing x with
  |nil=>simp
  |cons y r ih =>
   rw[List.foldl_cons];obtain⟨h1,h2⟩:=ih (if y<x then y else x) (by simp);refine⟨?_,fun a ha=>?_⟩
   ·rcases qE.mp h1 with h1|h1
    ·rw[h1];split<;>simp
    ·exact qI _ (qI _ h1)
   ·have h3:=h2 _ qT;have h4:(if y<x then y else x)≤x∧(if y<x then y else x)≤y:=by split<;>omega
    rcases qE.mp ha with rfl|ha
    ·exact Int.le_trans h3 h4.1
    ·rcases qE.mp ha with rfl|ha
     ·exact Int.le_trans h3 h4.2
     ·exact h2 a (qI _ ha)
theorem Oy:∀ {ns:List Int},ns≠[]→Own.maxI ns∈ns∧∀ a∈ns,a≤Own.maxI ns
 |[],h=>absurd rfl h
 |x::r,_=>by
  show r.foldl (fun a b=>if b > a then b else a) x∈x::r∧∀ a∈x::r,a≤r.foldl (fun a b=>if b > a then b else a) x;induction r generalizing x with
  |nil=>simp
  |cons y r ih =>
   rw[List.foldl_cons];obtain⟨h1,h2⟩:=ih (if y > x then y else x) (by simp);refine⟨?_,fun a ha=>?_⟩
   ·rcases qE.mp h1 with h1|h1
    ·rw[h1];split<;>simp
    ·exact qI _ (qI _ h1)
   ·have h3:=h2 _ qT;have h4:x≤(if y > x then y else x)∧y≤(if y > x then y else x):=by split<;>omega
    rcases qE.mp ha with rfl|ha
    ·exact Int.le_trans h4.1 h3
    ·rcases qE.mp ha with rfl|ha
     ·exact Int.le_trans h4.2 h3
     ·exact h2 a (qI _ ha)
theorem KE{G:Own.Hs}{H:Hp}{v:Own.Val}{x:V}{ns:List Int}(g:RH i G H)(r:RV i.K H v x)(e:Own.intsAt G v=some ns):∃ a,x=.ref a∧SqL i.K H a (ns.map V.int):=by
 cases v with
 |ref a =>obtain⟨ys,e1,e2⟩:=zA.mp (show(Own.lsOf (G a)).bind Own.intsOf=some ns from e);cases r.ref_inv;obtain⟨us,h1,h2⟩:=ZE g e1;cases ZA e2 h2;exact⟨a,rfl,h1⟩
 |_=>cases e
theorem Ck:BiOk i .maxL (fun xs H Q=>(∃ p k j,xs=[.ref p]∧SqT i.K H p [.int k,.int j]∧Q (.int (if j > k then j else k)) H)∨∃ p,∃ ns:List Int,xs=[.ref p]∧SqL i.K H p (ns.map V.int)∧ns≠[]∧∀ M,M∈ns→(∀ a∈ns,a≤M)→Q (.int M) H):=by
 intro vs G H xs Q Qm g r w c;obtain⟨v,rfl,w2⟩:=Yn w;clear w;have w:=w2;clear w2;obtain⟨x,rfl,rx⟩:=r.inv1;unfold Own.biMaxL at w;cases z:Own.pairI v with
 |some p =>rw[z]at w;obtain⟨a,rfl,hs⟩:=Ka rx z;exact .inl ⟨a,p.1,p.2,rfl,hs,c _ G H _ (Keep.refl H) g (.int _) (Zi w)⟩
 |none =>
  rw[z]at w;dsimp only at w;cases z2:Own.intsAt G v with
  |none=>rw[z2]at w;exact(Zg w).elim
  |some ns =>
   rw[z2]at w;cases ns with
   |nil=>exact(Zg w).elim
   |cons n ns =>obtain⟨a,rfl,hs⟩:=KE g rx z2;refine .inr ⟨a,n::ns,rfl,hs,by simp,fun M h1 h2=>?_⟩;have h3:=Oy (ns:=n::ns) (by simp);obtain rfl:M=Own.maxI (n::ns):=zK (h3.2 _ h1) (h2 _ h3.1);exact c _ G H _ (Keep.refl H) g (.int _) (Zi w)
end Snd
namespace L2
open PySem PySem.Spec PyProof.Rows
variable {X:Cx}
theorem Ng:∀ (xs:List V) (us:List Value),xs.length=us.length→(∀ (j:Nat) (u:Value),us[j]?=some u→∃ x,xs[j]?=some x∧RelV x u)→Vals xs us
 |[],[],_,_=>.nil
 |x::xs,u::us,hl,h=>by obtain⟨y,e,r⟩:=h 0 u rfl;cases e;exact .cons r (Ng xs us (by simpa using hl) fun j v hv=>h (j+1) v hv)
 |[],_::_,hl,_=>by cases hl
 |_::_,[],hl,_=>by cases hl
noncomputable def tLR (te:TE):TE:=fun σ H Q=>Dq te Er σ H fun vs H1=>∃ n:Nat,vs=[.int n]∧n≤1000∧∀ l,H1 l=none→Q (.ref l) (upd H1 l (.lst ((List.range n).map fun k=>V.int (k:Nat))))
theorem JK {e:Expr}{te:TE}{p p2 pos pos2:Pos}(hc:X.calm=true) (hg:Gl X "list") (hm:X.mg "list" = none) (hg2:Gl X "range") (hm2:X.mg "range" = none) (he:PE X e te) (hs:starEach [e] X.env=[(false,eval e X.env)]) :
  PE X (.Call (.Name "list" p) [.Call (.Name "range" p2) [e] [] pos2] [] pos) (tLR te):=by
 intro pins s σ H Q I h;refine wpAny_Call_Name_kw (Yu (u:=.type "list") I hg hm (by kernel_rfl) ?_ (by decide) (by decide));refine callWith_type1 (T:="list") ?_ rfl rfl;show wpAny _ _ (spliced ((false,eval (.Call (.Name "range" p2) [e] [] pos2) X.env)::[])) _ _ _;refine Calls.spliced_cons ?_;refine wpAny_Call_Name_kw (Yu I hg2 hm2 boot_range ?_ (by decide) (by decide));refine callWith_type1 (thn ((ZS he pa_nil hs) pos2 pins s σ H _ I h) fun us s1 ⟨vs,H1,I1,r1,q1⟩=>?_) hs rfl;obtain⟨n,e1,hn,q⟩:=q1;subst e1;obtain⟨u,rfl,t,rfl⟩:=ZJ r1;refine call_range_1 (Calls.spliced_nil ?_);have k0:∀ b o,s1.heap.get? b=some o→(s1.heap.push {cls:=.type "range",data:=.fields #[.int 0 s1.toks,.int n t,.int 1 (s1.toks+1)]}).get? b=some o:=fun b o e=>Heap.get?_push_of_some _ e;refine call_list_range (n:=n) (I.ok.hd hc) (Heap.get?_push_size _ rfl) (small_one (by decide) (by decide) (by omega) (by omega)) (by rw[rangeSize_one];split<;>omega) (by omega) fun h' tk acc c' hk hS hacc=>?_;have hsz:s1.heap.objs.size≤(s1.heap.push {cls:=.type "range",data:=.fields #[.int 0 s1.toks,.int n t,.int 1 (s1.toks+1)]}).objs.size:=by rw[Heap.size_push];omega
 refine⟨.ref _,upd H1 _ (.lst ((List.range n).map fun k=>V.int (k:Nat))),I1.laid (t':=tk) (fun b o e=>hk b o (k0 b o e)) hsz ?_,rfl,q _ (I1.hok.fresh hsz)⟩;refine⟨by rw[qA,List.length_range];unfold sizeLine;omega,acc.toList,c',?_,by simpa[seqObj]using hS⟩;obtain⟨a1,a2⟩:=hacc;refine Ng _ _ (by rw[qA,List.length_range,zG,a1]) fun j u hu=>?_;have hj:j<n:=by have:=(qK.mp hu).1;rw[zG,a1]at this;exact this
 obtain⟨t',ht⟩:=a2 j u (by simpa using hu);refine⟨.int j,by rw[qF,List.getElem?_range hj];rfl,t',?_⟩;rw[ht];congr 1;omega
end L2
namespace Snd
open PySem L2
variable {i:Inf}{X:Cx}{Φ:Own.Fs}
theorem RVs.nats{K:PySem.W.Frag}{H:Hp}:∀ ns:List Nat,RVs K H (ns.map fun n=>Own.Val.int (n:Nat)) (ns.map fun n=>V.int (n:Nat))
 |[]=>.nil
 |n::ns=>.cons (.int n) (RVs.nats ns)
theorem Kv {e:Expr}{m:Own.E}{p p2 pos pos2:Pos}(hc:X.calm=true) (he:PE X e (tE X i Φ m)) (hg:Gl X "list") (hm:X.mg "list" = none) (hg2:Gl X "range") (hm2:X.mg "range" = none) (hst:starEach [e] X.env=[(false,eval e X.env)]) :
  PE X (.Call (.Name "list" p) [.Call (.Name "range" p2) [e] [] pos2] [] pos) (tE X i Φ (.bi .listRange (.cons m .nil))):=by
 refine(JK hc hg hm hg2 hm2 he hst).imp fun σ H Q ⟨env,G,Qm,Em,p,w,c⟩=>?_;rw[Own.q_e_bi,Own.q_a_cons]at w;change tE X i Φ m σ H _;refine one p w fun v G1 H1 x k1 p1 r q=>?_;rw[Own.q_a_nil]at q
 replace q:(Own.rangeL v).wp G1 Qm:=q
 cases v with
 |int k =>
  cases r.int_inv;unfold Own.rangeL at q;dsimp only at q;split at q
  ·rename_i hk;refine⟨k.toNat,by rw[Int.toNat_of_nonneg hk.1],by omega,?_⟩;exact Z6 p1.hp (JD q) (c.go k1) fun l hl=>⟨_,upd_same,RVs.nats _⟩
  ·exact(Zg q).elim
 |_=>exact(Zg q).elim
section
variable {K:PySem.W.Frag}{H H':Hp}
theorem RKs.len:∀ {kvs:List (Own.Val×Own.Val)}{ps:List (Key×V)},RKs K H kvs ps→kvs.length=ps.length
 |_,_,.nil=>rfl
 |_,_,.cons _ _ t=>by rw[qB,qB,RKs.len t]
theorem RKs.at:∀ {kvs:List (Own.Val×Own.Val)}{ps:List (Key×V)}{n:Nat}{c:Key}{x:V},RKs K H kvs ps→ps[n]?=some (c,x)→∃ k v,kvs[n]?=some (k,v)∧X7 k c∧RV K H v x
 |_,_,n,_,_,.nil,e=>by simp at e
 |_,_,0,_,_,.cons hk r _,e=>by simp at e;obtain⟨rfl,rfl⟩:=e;exact⟨_,_,rfl,hk,r⟩
 |_,_,n+1,_,_,.cons _ _ t,e=>by obtain⟨k,v,h1,h2⟩:=RKs.at (n:=n) t (by simpa using e);exact⟨k,v,by simpa using h1,h2⟩
end
theorem J7(rows:List (List Int)):∀ (k:Nat) (x:List Int) (r:List (List Int)),rows.take (k+1)=x::r→k<rows.length→Own.minR x r=rows.getD (argBest (btL fun n=>rows.getD n []) k) []
 |0,x,r,h,hk=>by
  cases rows with
  |nil=>cases h
  |cons y ys=>simp at h;obtain⟨rfl,rfl⟩:=h;rfl
 |k+1,x,r,h,hk=>by
  cases rows with
  |nil=>cases h
  |cons y ys =>
   rw[List.take_succ_cons]at h;injection h with h1 h2;subst h1 h2;have hk':k<ys.length:=by simpa using hk
   have ih:=J7 (y::ys) k y (ys.take k) (by rw[List.take_succ_cons]) (by simp;omega);have e:ys.take (k+1)=ys.take k++[ys[k]]:=by rw[qW];simp[hk']
   have app:∀ (b:List Int) (l:List (List Int)) (z:List Int),Own.minR b (l++[z])=if Own.lexI z (Own.minR b l)then z else Own.minR b l:=by
    intro b l z;induction l generalizing b with
    |nil=>rfl
    |cons w l ih=>exact ih _
   rw[e,app,ih];have e2:(y::ys).getD (k+1) []=ys[k]:=by simp[hk']
   show _=(y::ys).getD (if btL (fun n=>(y::ys).getD n []) (k+1) (argBest (btL fun n=>(y::ys).getD n []) k)=true then k+1 else argBest (btL fun n=>(y::ys).getD n []) k) [];have eb:btL (fun n=>(y::ys).getD n []) (k+1) (argBest (btL fun n=>(y::ys).getD n []) k)=Own.lexI ys[k] ((y::ys).getD (argBest (btL fun n=>(y::ys).getD n []) k) []):=by rw[XO,←e2];rfl
   rw[eb];cases Own.lexI ys[k] ((y::ys).getD (argBest (btL fun n=>(y::ys).getD n []) k) [])with
   |true=>rw[if_pos rfl,if_pos rfl,e2]
   |false=>rw[if_neg (by decide),if_neg (by decide)]
theorem NF{G:Own.Hs}{H:Hp}{xs:List Own.Val}{us:List V}{w:List Int}{r:List (List Int)}{y:V}(h2:RVs i.K H xs us)(h3:(w::r).length=us.length)(h5:xs=(w::r).map fun n=>.tup (n.map .int))(hy:us[argBest (btL fun n=>(w::r).getD n []) (us.length - 1)]?=some y):RV i.K H (.tup ((Own.minR w r).map .int)) y:=by
 rw[J7 (w::r) ((w::r).length - 1) w r (by simp) (by simp)];rw[←h3]at hy;have hlt:argBest (btL fun n=>(w::r).getD n []) ((w::r).length - 1)<(w::r).length:=by have:=Ws (btL fun n=>(w::r).getD n []) ((w::r).length - 1);simp only[qB]at this ⊢;omega
 generalize hj:argBest (btL fun n=>(w::r).getD n []) ((w::r).length - 1)=j at hy hlt ⊢;have hxj:xs[j]?=some (.tup (((w::r).getD j []).map .int)):=by rw[h5,qF,qH hlt];simp[qN,qH hlt]
 obtain⟨x2,hx2,rx2⟩:=h2.get hxj;rw[hy]at hx2;cases hx2;exact rx2
def Uv (K:PySem.W.Frag):List V→Hp→VK→Prop:=fun xs H Q=>∃ a us,∃ rows:List (List Int),xs=[.ref a]∧SqL K H a us∧rows.length=us.length∧(∀ i,i<rows.length→∃ p,us[i]?=some (.ref p)∧SqT K H p ((rows.getD i []).map V.int))∧us≠[]∧∀ x,us[argBest (btL fun i=>rows.getD i []) (us.length - 1)]?=some x→Q x H
theorem OS (hc:X.calm=true) (hu:X.A.units+1<cLine):CallR X (.builtin "min") (Uv X.K):=by intro pins s σ H xs us Q I r h;obtain⟨a,us,rows,rfl,hl,hr,ht,h0,q1⟩:=h;obtain⟨u,rfl,ru⟩:=ZJ r;cases ru;exact MF hc hu I hl hr ht h0 q1
theorem Cd:BiOk i .min2 (fun xs H Q=>(∃ i j,xs=[.int i,.int j]∧Q (.int (if j<i then j else i)) H)∨∃ p q,∃ ns ms:List Int,xs=[.ref p,.ref q]∧SqT i.K H p (ns.map V.int)∧SqT i.K H q (ms.map V.int)∧Q (if HT.lexLt ms ns=true then .ref q else .ref p) H):=by
 intro vs G H xs Q Qm g r w c;obtain⟨v,u,rfl,w2⟩:=Ux w;clear w;have w:(Own.min2V v u).wp G Qm:=w2;clear w2;obtain⟨x,y,rfl,rx,ry⟩:=r.inv2;cases v with
 |int a =>
  cases u with
  |int b =>cases rx.int_inv;cases ry.int_inv;exact .inl ⟨a,b,rfl,c _ G H _ (Keep.refl H) g (.int _) (Zi w)⟩
  |_=>exact(Zg w).elim
 |tup vs =>
  cases u with
  |tup us =>
   have w:(match Own.intsOf vs,Own.intsOf us with|some ns,some ms=>.val (if Own.lexI ms ns=true then .tup us else .tup vs)|_,_=>.no:Own.Rs).wp G Qm:=w;cases z1:Own.intsOf vs with
   |none=>rw[z1]at w;exact(Zg w).elim
   |some ns =>
    cases z2:Own.intsOf us with
    |none=>rw[z1,z2]at w;exact(Zg w).elim
    |some ms =>
     rw[z1,z2]at w;have w:=Zi w;cases rx with
     |tup hp hr =>
      cases ry with
      |tup hq hs =>
       have rp:=RV.tup hp hr;have rq:=RV.tup hq hs;cases ZA z1 hr;cases ZA z2 hs;refine .inr ⟨_,_,ns,ms,rfl,Zk hp,Zk hq,?_⟩;rw[←XO];by_cases hl:Own.lexI ms ns=true
       ·rw[if_pos hl]at w ⊢;exact c _ G H _ (Keep.refl H) g rq w
       ·rw[if_neg hl]at w ⊢;exact c _ G H _ (Keep.refl H) g rp w
  |_=>exact(Zg w).elim
 |_=>cases u<;>exact(Zg w).elim
theorem Ca:BiOk i .minL (fun xs H Q=>((∃ p,∃ ns:List Int,xs=[.ref p]∧SqT i.K H p (ns.map V.int)∧ns≠[]∧∀ M,M∈ns→(∀ a∈ns,M≤a)→Q (.int M) H)∨∃ p,∃ ns:List Int,xs=[.ref p]∧SqL i.K H p (ns.map V.int)∧ns≠[]∧∀ M,M∈ns→(∀ a∈ns,M≤a)→Q (.int M) H)∨Uv i.K xs H Q):=by
 intro vs G H xs Q Qm g r w c;obtain⟨v,rfl,w2⟩:=Yn w;clear w;have w:=w2;clear w2;obtain⟨x,rfl,rx⟩:=r.inv1;unfold Own.biMinL at w;cases z:Own.pairI v with
 |some p =>
  rw[z]at w;obtain⟨a,rfl,hs⟩:=Ka rx z;refine .inl (.inl ⟨a,[p.1,p.2],rfl,hs,by simp,fun M h1 h2=>?_⟩);have e:M=if p.2<p.1 then p.2 else p.1:=by have a1:=h2 p.1 (by simp);have a2:=h2 p.2 (by simp);simp only[qE,List.not_mem_nil,or_false]at h1;split<;>omega
  rw[e];exact c _ G H _ (Keep.refl H) g (.int _) (Zi w)
 |none =>
  rw[z]at w;dsimp only at w;have rws:((match (Own.asLst G v).bind Own.rowsOf with|some (x::r)=>.val (.tup ((Own.minR x r).map .int))|_=>.no:Own.Rs)).wp G Qm→Uv i.K [x] H Q:=fun w=>by
   cases z3:(Own.asLst G v).bind Own.rowsOf with
   |none=>rw[z3]at w;exact(Zg w).elim
   |some rows =>
    rw[z3]at w;cases rows with
    |nil=>exact(Zg w).elim
    |cons y ys =>obtain⟨zs,z1,z2⟩:=zA.mp z3;obtain⟨a,us,rfl,h1,h2⟩:=Xm g rx z1;obtain⟨h3,h4,h5⟩:=Wn h2 z2;refine⟨a,us,_,rfl,h1,h3,h4,(fun e=>by rw[e]at h3;cases h3),fun x hx=>?_⟩;exact c _ G H _ (Keep.refl H) g (NF (G:=G) h2 h3 h5 hx) (Zi w)
  cases z2:(Own.tupI v).or (Own.intsAt G v)with
  |none=>rw[z2]at w;exact .inr (rws w)
  |some ns =>
   rw[z2]at w;cases ns with
   |nil=>exact .inr (rws w)
   |cons n ns =>
    have fin:∀ M,M∈n::ns→(∀ a∈n::ns,M≤a)→Q (.int M) H:=fun M h1 h2=>by have h3:=OO (ns:=n::ns) (by simp);obtain rfl:M=Own.minI (n::ns):=zK (h2 _ h3.1) (h3.2 _ h1);exact c _ G H _ (Keep.refl H) g (.int _) (Zi w)
    cases v with
    |tup ys =>
     have z3:Own.intsOf ys=some (n::ns):=by
      have z4:(Own.intsOf ys).or none=some (n::ns):=z2
      rwa [Option.or_none]at z4
     cases rx with
     |tup hp hr =>cases ZA z3 hr;exact .inl (.inl ⟨_,_,rfl,Zk hp,by simp,fin⟩)
    |ref b =>obtain⟨a,rfl,hs⟩:=KE g rx z2;exact .inl (.inr ⟨a,n::ns,rfl,hs,by simp,fin⟩)
    |_=>cases z2
theorem Fp {e:Expr}{m:Own.E}{p pos kp kpos:Pos}{kk:Nat}(hc:X.calm=true) (hu:X.A.units+1<cLine) (hK:X.K=i.K) (hg:Gl X "min") (hm:X.mg "min" = none) (he:PE X e (tE X i Φ m)) (hs:starEach [e] X.env=[(false,eval e X.env)]) :
  PE X (.Call (.Name "min" p) [e] [⟨some "default",.Constant .none kk kp,kpos⟩] pos) (tE X i Φ (.bi .minD (.cons m .nil))):=by
 refine(Cv hc hu hg hm (ZS he pa_nil (by rw[hs];rfl)) hs).imp fun σ H Q ⟨env,G,Qm,Em,p,w,c⟩=>?_;rw[Own.q_e_bi,Own.q_a_cons]at w;change tE X i Φ m σ H _;refine one p w fun v G1 H1 x k1 p1 r q=>?_;rw[Own.q_a_nil]at q
 replace q:(Own.biMinD G1 v).wp G1 Qm:=q
 cases v with
 |ref a =>
  cases r.ref_inv;unfold Own.biMinD at q;dsimp only at q;cases z:(Own.lsOf (G1 a)).bind Own.rowsOf with
  |none=>rw[z]at q;exact(Zg q).elim
  |some rows =>
   obtain⟨xs,z1,z2⟩:=zA.mp z;obtain⟨us,h1,h2⟩:=ZE p1.hp z1;obtain⟨h3,h4,h5⟩:=Wn h2 z2;rw[z]at q;refine⟨a,us,rows,rfl,by rw[hK];exact h1,h3,by rw[hK];exact h4,fun e0=>?_,fun e0 y hy=>?_⟩
   ·subst e0;cases rows with
    |nil=>exact c _ G1 H1 _ k1 p1.hp .non (Zi q)
    |cons _ _=>cases h3
   ·cases rows with
    |nil=>exact absurd (List.length_eq_zero_iff.mp h3.symm) e0
    |cons w r =>exact c _ G1 H1 _ k1 p1.hp (NF (G:=G1) h2 h3 h5 hy) (Zi q)
 |_=>exact(Zg q).elim
structure Md where
 N:List Str
 sc:Scope
 cs:List (String×Own.Val)
 fs:List String
 cm:Bool
 cl:List String
 ms:List (String×String)
 fl:List String
 xs:List String
noncomputable def Md.nmOf (c:Md) (j:Nat):Str:=c.N.getD j Str.empty
noncomputable def Md.vis (c:Md) (x:Str):Bool:=match c.sc.names.lookup x with
 |some .local=>true
 |some .cell=>true
 |some .free=>true
 |_=>false
noncomputable def Md.loc (c:Md) (x:Str):Bool:=c.sc.names.lookup x==some .local||c.sc.names.lookup x==some .cell
noncomputable def Md.gl (c:Md) (x:Str):Bool:=c.sc.names.lookup x==some .globalImplicit
noncomputable def nm (x:Str):Bool:=!(x==("__debug__" : Str)) && !(x==("__classdict__" : Str)) && !(x==("__name__" : Str))
noncomputable def dE:Expr:=.Name Str.empty ⟨0,0,0,0⟩
noncomputable def mix:List (Option Expr)→List Expr→List Expr
 |k::ks,v::vs=>k.getD dE::v::mix ks vs
 |_,_=>[]
noncomputable def sub:Expr→List Expr
 |.BoolOp _ xs _=>xs
 |.BinOp a _ b _=>[a,b]
 |.UnaryOp _ a _=>[a]
 |.IfExp a b c _=>[a,b,c]
 |.Compare a _ bs _=>a::bs
 |.Call f as ks _=>f::(as++ks.map (·.value))
 |.FormattedValue a _ _ _=>[a]
 |.JoinedStr vs _=>vs
 |.Attribute a _ _=>[a]
 |.Subscript a b _=>[a,b]
 |.List es _=>es
 |.Tuple es _ _=>es
 |.Slice a b c _=>[a.getD dE,b.getD dE,c.getD dE]
 |.ListComp e gs _ _=>e::gs.flatMap fun g=>g.target::g.iter::g.ifs
 |.Dict ks vs _=>mix ks vs
 |_=>[]
noncomputable def kid (x:Expr) (j:Nat):Expr:=(sub x).getD j dE
noncomputable def num:Expr→Nat
 |.Constant _ k _=>k
 |.Tuple _ k _=>k
 |_=>0
noncomputable def scp:Expr→Scope
 |.ListComp _ _ s _=>s
 |_=>default
noncomputable def kwp:Expr→Pos
 |.Call _ _ (k::_) _=>k.pos
 |_=>⟨0,0,0,0⟩
noncomputable def AH:Own.Bop→Operator
 |.add=>.Add
 |.sub=>.Sub
 |.mul=>.Mult
 |.fdiv=>.FloorDiv
 |.mod=>.Mod
 |.pow=>.Pow
noncomputable def XG:Own.Cop→CmpOp
 |.eq=>.Eq
 |.ne=>.NotEq
 |.lt=>.Lt
 |.le=>.LtE
 |.gt=>.Gt
 |.ge=>.GtE
 |.isin=>.In
 |.notin=>.NotIn
 |.is=>.Is
 |.isnot=>.IsNot
 |.nes=>.NotEq
 |.neX=>.NotEq
 |.eqE=>.Eq
 |.neE=>.NotEq
 |.ntT=>.IsNot
noncomputable def GI:Own.Val→Const
 |.non=>.none
 |.bl b=>.bool b
 |.int i=>.int i
 |.str s=>.str (Str.ofString s)
 |_=>.ellipsis
noncomputable def DK:Own.Val→Bool
 |.non=>true
 |.bl _=>true
 |.int _=>true
 |.str _=>true
 |_=>false
noncomputable def ZU:Own.E→Bool
 |.and _ _=>true
 |_=>false
noncomputable def Yh:Own.E→Bool
 |.or _ _=>true
 |_=>false
noncomputable def Zv:Own.Tt→Bool
 |.and _ _=>true
 |_=>false
noncomputable def ZI:Own.Tt→Bool
 |.or _ _=>true
 |_=>false
noncomputable def rest (b:Bool) (x:Expr):Expr:=match b,x with
 |true,.BoolOp op (_::xs) p=>.BoolOp op xs p
 |_,x=>kid x 1
noncomputable def YV (b:Bool) (x:Expr):List Expr:=match b with
 |true=>sub x
 |false=>[x]
noncomputable def Z8:Own.Bi→Str
 |.len=>"len"
 |.int=>"int"
 |.str=>"str"
 |.bool=>"bool"
 |.abs=>"abs"
 |.min2=>"min"
 |.max2=>"max"
 |.minL=>"min"
 |.maxL=>"max"
 |.minD=>"min"
 |.sum=>"sum"
 |.all=>"all"
 |.any=>"any"
 |.sorted=>"sorted"
 |.sortedI=>"sorted"
 |.sortedSet=>"sorted"
 |.lenSet=>"len"
 |.list=>"list"
 |.tuple=>"tuple"
 |.dict=>"dict"
 |.isi _=>"isinstance"
 |.isx _=>"isinstance"
 |.repr=>"repr"
 |.listRev=>"list"
 |.listRange=>"list"
 |.tupRange=>"tuple"
 |.dictEnum=>"dict"
noncomputable def Ij:Own.Bi→Option Str
 |.sortedSet=>some "set"
 |.lenSet=>some "set"
 |.listRev=>some "reversed"
 |.listRange=>some "range"
 |.tupRange=>some "range"
 |.dictEnum=>some "enumerate"
 |_=>none
noncomputable def F7 (Ts:List String) (x:Expr):Expr:=match Ts with
 |[T]=>.Name (Str.ofString T) x.pos
 |Ts=>.Tuple (Ts.zipIdx.map fun p=>.Name (Str.ofString p.1) (kid x p.2).pos) (num x) x.pos
noncomputable def Ec (f:Own.Bi) (as:List Expr) (x:Expr):List Expr:=match Ij f with
 |some y=>[.Call (.Name y (kid (kid x 1) 0).pos) as [] (kid x 1).pos]
 |none=>match f with
  |.isi Ts=>as++[F7 Ts (kid x 2)]
  |.isx Ts=>as++[F7 Ts (kid x 2)]
  |_=>as
noncomputable def NH (f:Own.Bi) (x:Expr):List Expr:=match Ij f with
 |some _=>(sub (kid x 1)).tail
 |none=>(sub x).tail
noncomputable def LR (f:Own.Bi) (x:Expr):List Keyword:=match f with
 |.minD=>[⟨some "default",.Constant .none (num (kid x 2)) (kid x 2).pos,kwp x⟩]
 |_=>[]
noncomputable def Eu:Own.Bm→Str
 |.append=>"append"
 |.extend=>"extend"
 |.pop=>"pop"
 |.popAt=>"pop"
 |.insert=>"insert"
 |.remove=>"remove"
 |.clear=>"clear"
 |.reverse=>"reverse"
 |.index=>"index"
 |.count=>"count"
 |.dget=>"get"
 |.dgetD=>"get"
 |.dpop=>"pop"
 |.dpopD=>"pop"
 |.setdefault=>"setdefault"
 |.join=>"join"
 |.split=>"split"
 |.replace=>"replace"
 |.upper=>"upper"
 |.partition=>"partition"
 |.sidx=>"index"
noncomputable def Xk:List Expr→List (Option Expr)
 |k::_::r=>some k::Xk r
 |_=>[]
noncomputable def Bs:List Expr→List Expr
 |_::v::r=>v::Bs r
 |_=>[]
noncomputable def toP (p:Own.Pt) (c:Md) (x:Expr):Expr:=match p with
 |.one j=>.Name (c.nmOf j) x.pos
 |.many js=>.Tuple (js.zipIdx.map fun p=>.Name (c.nmOf p.1) (kid x p.2).pos) (num x) x.pos
 |.nest j js=>.Tuple [.Name (c.nmOf j) (kid x 0).pos,.Tuple (js.zipIdx.map fun p=>.Name (c.nmOf p.1) (kid (kid x 1) p.2).pos) (num (kid x 1)) (kid x 1).pos] (num x) x.pos
noncomputable def nmX:Expr→Str
 |.Name x _=>x
 |_=>Str.empty
noncomputable def Yi:Expr→List Str
 |.Tuple es _ _=>es.map nmX
 |x=>[nmX x]
noncomputable def Md.blk (c:Md) (sc:Scope) (x:List Str) (caps:List Nat):Md :=
 {N:=x++caps.map (fun j=>c.N.getD j Str.empty),sc:={sc with names:=sc.names.map fun(n,k)=>if(k == .free&&c.sc.kind == .function&&c.sc.names.lookup n==some .cell)then(n,.cell)else(n,k)},cs:=c.cs,fs:=c.fs,cm:=c.cm,cl:=c.cl,ms:=c.ms,fl:=c.fl,xs:=c.xs}
noncomputable def N2:Own.E→Bool
 |.cst (.str _)=>true
 |_=>false
mutual
noncomputable def toX:Own.E→Md→Expr→Expr
 |.cst v,_,x=>.Constant (GI v) (num x) x.pos
 |.var j,c,x=>.Name (c.nmOf j) x.pos
 |.glob y _,_,x=>.Name (Str.ofString y) x.pos
 |.bin o a b,c,x=>.BinOp (toX a c (kid x 0)) (AH o) (toX b c (kid x 1)) x.pos
 |.neg a,c,x=>.UnaryOp .USub (toX a c (kid x 0)) x.pos
 |.not a,c,x=>.UnaryOp .Not (toX a c (kid x 0)) x.pos
 |.and a b,c,x=>.BoolOp .And (toX a c (kid x 0)::YV (ZU b) (toX b c (rest (ZU b) x))) x.pos
 |.or a b,c,x=>.BoolOp .Or (toX a c (kid x 0)::YV (Yh b) (toX b c (rest (Yh b) x))) x.pos
 |.cmp o a b,c,x=>.Compare (toX a c (kid x 0)) [XG o] [toX b c (kid x 1)] x.pos
 |.chain o1 o2 a b d,c,x=>.Compare (toX a c (kid x 0)) [XG o1,XG o2] [toX b c (kid x 1),toX d c (kid x 2)] x.pos
 |.call f as,c,x=>.Call (.Name (Str.ofString f) (kid x 0).pos) (toA as c (sub x).tail) [] x.pos
 |.make C as,c,x=>.Call (.Name (Str.ofString C) (kid x 0).pos) (toA as c (sub x).tail) [] x.pos
 |.meth _ m o as,c,x=>.Call (.Attribute (toX o c (kid (kid x 0) 0)) (Str.ofString m) (kid x 0).pos) (toA as c (sub x).tail) [] x.pos
 |.fld o f,c,x=>.Attribute (toX o c (kid x 0)) (Str.ofString f) x.pos
 |.bi f as,c,x=>.Call (.Name (Z8 f) (kid x 0).pos) (Ec f (toA as c (NH f x)) x) (LR f x) x.pos
 |.bm m o as,c,x=>.Call (.Attribute (toX o c (kid (kid x 0) 0)) (Eu m) (kid x 0).pos) (toA as c (sub x).tail) [] x.pos
 |.idx a b,c,x=>.Subscript (toX a c (kid x 0)) (toX b c (kid x 1)) x.pos
 |.slc a lo hi,c,x=>.Subscript (toX a c (kid x 0)) (.Slice (toO lo c (kid (kid x 1) 0)) (toO hi c (kid (kid x 1) 1)) none (kid x 1).pos) x.pos
 |.rev a,c,x=>.Subscript (toX a c (kid x 0)) (.Slice none none (some (.UnaryOp .USub (.Constant (.int 1) (num (kid (kid (kid x 1) 2) 0)) (kid (kid (kid x 1) 2) 0).pos) (kid (kid x 1) 2).pos)) (kid x 1).pos) x.pos
 |.tup es,c,x=>.Tuple (toA es c (sub x)) (num x) x.pos
 |.key es,c,x=>.Tuple (toA es c (sub x)) (num x) x.pos
 |.dctP,c,x=>.Dict [] [] x.pos
 |.lst es,c,x=>.List (toA es c (sub x)) x.pos
 |.dct es,c,x=>.Dict (Xk (toA es c (sub x))) (Bs (toA es c (sub x))) x.pos
 |.ife t a b,c,x=>.IfExp (toT t c (kid x 0)) (toX a c (kid x 1)) (toX b c (kid x 2)) x.pos
 |.comp caps _ p it t e,c,x=>.ListComp (toX e (c.blk (scp x) (Yi (kid x 1)) caps) (kid x 0)) [⟨toP p (c.blk (scp x) (Yi (kid x 1)) caps) (kid x 1),toI it c (kid x 2),toF t (c.blk (scp x) (Yi (kid x 1)) caps) (kid x 3),0⟩] (scp x) x.pos
 |.fstr es,c,x=>.JoinedStr (toJ es c (sub x)) x.pos
 |.split o a,c,x=>.Call (.Attribute (toX o c (kid (kid x 0) 0)) "split" (kid x 0).pos) [toX a c (kid x 1)] [] x.pos
 |.repl o y z,c,x=>.Call (.Attribute (toX o c (kid (kid x 0) 0)) "replace" (kid x 0).pos) [.Constant (.str (Str.ofString y)) (num (kid x 1)) (kid x 1).pos,.Constant (.str (Str.ofString z)) (num (kid x 2)) (kid x 2).pos] [] x.pos
noncomputable def toA:Own.Es→Md→List Expr→List Expr
 |.nil,_,_=>[]
 |.cons e es,c,xs=>toX e c (xs.headD dE)::toA es c xs.tail
noncomputable def toJ:Own.Es→Md→List Expr→List Expr
 |.nil,_,_=>[]
 |.cons e es,c,xs=>(if N2 e then toX e c (xs.headD dE)else .FormattedValue (toX e c (kid (xs.headD dE) 0)) (-1) none (xs.headD dE).pos)::toJ es c xs.tail
noncomputable def toO:Own.Oe→Md→Expr→Option Expr
 |.none,_,_=>none
 |.some e,c,x=>some (toX e c x)
noncomputable def toT:Own.Tt→Md→Expr→Expr
 |.yes,_,x=>x
 |.val e,c,x=>toX e c x
 |.not t,c,x=>.UnaryOp .Not (toT t c (kid x 0)) x.pos
 |.and a b,c,x=>.BoolOp .And (toT a c (kid x 0)::YV (Zv b) (toT b c (rest (Zv b) x))) x.pos
 |.or a b,c,x=>.BoolOp .Or (toT a c (kid x 0)::YV (ZI b) (toT b c (rest (ZI b) x))) x.pos
noncomputable def toF:Own.Tt→Md→Expr→List Expr
 |.yes,_,_=>[]
 |.val e,c,x=>[toX e c x]
 |.not t,c,x=>[.UnaryOp .Not (toT t c (kid x 0)) x.pos]
 |.and a b,c,x=>[.BoolOp .And (toT a c (kid x 0)::YV (Zv b) (toT b c (rest (Zv b) x))) x.pos]
 |.or a b,c,x=>[.BoolOp .Or (toT a c (kid x 0)::YV (ZI b) (toT b c (rest (ZI b) x))) x.pos]
noncomputable def toI:Own.It→Md→Expr→Expr
 |.seq e,c,x=>toX e c x
 |.chars e,c,x=>toX e c x
 |.range a,c,x=>.Call (.Name "range" (kid x 0).pos) [toX a c (kid x 1)] [] x.pos
 |.range2 a b,c,x=>.Call (.Name "range" (kid x 0).pos) [toX a c (kid x 1),toX b c (kid x 2)] [] x.pos
 |.enum e,c,x=>.Call (.Name "enumerate" (kid x 0).pos) [toX e c (kid x 1)] [] x.pos
 |.zip a b,c,x=>.Call (.Name "zip" (kid x 0).pos) [toX a c (kid x 1),toX b c (kid x 2)] [] x.pos
 |.items e,c,x=>toX e c x
 |.rev e,c,x=>.Call (.Name "reversed" (kid x 0).pos) [toX e c (kid x 1)] [] x.pos
end
noncomputable def blts:List Str:=["isinstance","int","bool","str","list","tuple","dict","max","min","range","len","sorted","set","all","any","sum","enumerate","zip","reversed","abs","repr","ValueError"]
structure Kls (X:Cx) (i:Inf) (P:Own.Pg) (n:Nat) (c:Md):Prop where
 A:ClsA i
 F:∀ f,c.fl.contains f=true→FldOk i f
 mkc:∀ C,c.cl.contains C=true→∃ a f,i.ins C=true∧i.cl C a∧Mk i.K a f∧X.mg (Str.ofString C)=some (.ref a)∧Dfm X.prog X.w X.mg X.base i P n (C ++ ".__init__") f
 mth:∀ C m,c.ms.contains (C,m)=true→∃ a f,(∀ b,i.cl C b→b=a)∧Cls i.K a∧Meth i.K a (Str.ofString m) f∧Dfm X.prog X.w X.mg X.base i P n (C ++ "." ++ m) f
structure Xls (X:Cx) (i:Inf) (c:Md):Prop where
 xc:∀ C a,i.xc C a→XCls i.K a∧PySem.W.kitOne i.K (.ref a) (.type "ValueError")=some true
 rs:∀ C,c.xs.contains C=true→∃ a,i.xc C a∧PyProof.Rows.OwnCls (Str.ofString C) a [.type "ValueError",.type "Exception",.type "BaseException",.type "object"] "ValueError.__new__" X.mg X.base
 kn:∀ T,(c.xs.contains T||T == "ShutError")=true→∃ D,X.mg (Str.ofString T)=some (.ref D)∧∀ C a,i.xc C a→PySem.W.kitOne i.K (.ref a) (.ref D)=some (Own.excSub C T)∧(Own.excSub C T=true→PySem.W.exmOne i.K (.ref a) (.ref D)=some true)
structure Gd (X:Cx) (i:Inf) (P:Own.Pg) (n:Nat) (c:Md):Prop where
 K:X.K=i.K
 N:X.N=c.N
 sc:X.env.scope=c.sc
 nd:c.N.Nodup
 un:X.A.units+200<cLine
 calm:c.cm=true→X.calm=true
 room:c.cm=true→Room (2*n+1) X.A
 bl:∀ x∈blts,X.mg x=none
 dfs:∀ f,c.fs.contains f=true→Dfo X.prog X.w X.mg X.base i P n f
 cst:∀ x v,c.cs.lookup x=some v→∃ u y,X.mg (Str.ofString x)=some u∧RelV y u∧∀ H,RV i.K H v y
 kl:Kls X i P n c
 xl:c.xs≠[]→Xls X i c
variable {X:Cx}{i:Inf}{P:Own.Pg}{n:Nat}{c:Md}
theorem Gd.gl(g:Gd X i P n c){x:Str}(h:c.gl x=true):Gl X x:=by show X.env.scope.names.lookup x=_;rw[g.sc];exact eq_of_beq h
theorem Gd.vis(g:Gd X i P n c){x:Str}(h:c.vis x=true):Vis X.env.scope x:=by
 unfold Vis;rw[g.sc];unfold Md.vis at h;split at h
 ·exact .inl (by assumption)
 ·exact .inr (.inl (by assumption))
 ·exact .inr (.inr (by assumption))
 ·cases h
theorem Gd.loc(g:Gd X i P n c){x:Str}(h:c.loc x=true):L2.Loc X.env.scope x:=by
 unfold L2.Loc;rw[g.sc];rcases (Bool.or_eq_true ..).mp h with h|h
 ·exact .inl (eq_of_beq h)
 ·exact .inr (eq_of_beq h)
theorem Gd.rm(g:Gd X i P n c)(h:c.cm=true):Room (2*n) X.A:=(g.room h).mono (Nat.le_succ _)
theorem O4 {x:Str}(h:nm x=true):(x==("__debug__" : Str))=false∧(x==("__classdict__" : Str))=false∧x≠"__name__":=by simp only[nm,bAq,Bool.not_eq_true']at h;exact⟨h.1.1,h.1.2,by simpa using h.2⟩
theorem ZL(e:Own.E)(c:Md)(x:Expr)(es:List Expr)(env:Env):starEach (toX e c x::es) env=(false,eval (toX e c x) env)::starEach es env:=by cases e<;>rfl
theorem O3(e:Own.E)(c:Md)(x:Expr):Jk (toX e c x):=by intro o j;cases e<;>rfl
theorem BR{op:CmpOp}(e:Own.E)(c:Md)(x:Expr):behindInMarks op (toX e c x)=false:=by cases e<;>rfl
theorem Gc(e:Own.E)(c:Md)(x:Expr)(env:Env):∀ y,foldedSetIterable (toX e c x) env y=pure y:=by intro y;cases e<;>rfl
noncomputable def KN:Expr→Bool
 |.Call (.Name _ _) [] _ _=>false
 |_=>true
theorem WU{e:Expr}(h:KN e=true)(f:Str)(env:Env):attributeBase e f env (eval e env)=eval e env:=by
 cases e with
 |Call g as ks p =>
  cases as with
  |cons _ _=>cases g<;>rfl
  |nil=>cases g with
   |Name x q=>cases h
   |_=>rfl
 |_=>rfl
noncomputable def Zh:Own.Es→Nat
 |.nil=>0
 |.cons _ es=>Zh es+1
theorem Y1:∀ (es:Own.Es) (c:Md) (xs:List Expr),(toA es c xs).length=Zh es
 |.nil,_,_=>rfl
 |.cons _ es,c,xs=>by show(toA es c xs.tail).length+1=_;rw[Y1 es];rfl
theorem Y0(env:Env)(pos:Pos):∀ (es:Own.Es) (c:Md) (xs:List Expr),(backTo pos (starEach (toA es c xs) env)).any (·.1)=false
 |.nil,_,_=>rfl
 |.cons e es,c,xs=>by show(backTo pos (starEach (toX e c (xs.headD dE)::toA es c xs.tail) env)).any (·.1)=false;rw[ZL];show(false||(backTo pos (starEach (toA es c xs.tail) env)).any (·.1))=false;rw[Y0 env pos es];rfl
theorem Kn(env:Env)(pos:Pos):∀ (es:Own.Es) (c:Md) (xs:List Expr),(backTo pos (starEach (toA es c xs) env)).all (fun x=>!x.1)=true
 |.nil,_,_=>rfl
 |.cons e es,c,xs=>by show(backTo pos (starEach (toX e c (xs.headD dE)::toA es c xs.tail) env)).all (fun x=>!x.1)=true;rw[ZL];show(true&&(backTo pos (starEach (toA es c xs.tail) env)).all (fun x=>!x.1))=true;rw[Kn env pos es];rfl
noncomputable def ZM:Own.Pt→Bool
 |.one _=>true
 |_=>false
theorem Mm(p:Own.Pt)(x:Expr):((!ZM p)=true→∃ es k q,toP p c x=.Tuple es k q)∧((!ZM p)=false→∃ y q,toP p c x=.Name y q):=by
 cases p with
 |one j=>exact⟨fun z=>(by cases z),fun _=>⟨_,_,rfl⟩⟩
 |many js=>exact⟨fun _=>⟨_,_,_,rfl⟩,fun z=>(by cases z)⟩
 |nest j js=>exact⟨fun _=>⟨_,_,_,rfl⟩,fun z=>(by cases z)⟩
def UB (X:Cx) (c:Md) (j:Nat):Prop:=X.N[j]?=some (c.nmOf j)∧L2.Loc X.env.scope (c.nmOf j)∧(X.fn (c.nmOf j)=true∨X.env.scope.names.lookup (c.nmOf j)=some .local)
def DT (q:Nat→Prop):Own.Pt→Prop
 |.one j=>q j
 |.many js=>∀ j∈js,q j
 |.nest j js=>q j∧∀ k∈js,q k
theorem JG{X:Cx}{c:Md}(nd:X.N.Nodup)(f:Nat→Pos):∀ (js:List Nat) (k:Nat),(∀ j∈js,UB X c j)→
  PGs X ((js.zipIdx k).map fun p=>.Name (c.nmOf p.1) (f p.2)) (Ua i js)∧(assignEach ((js.zipIdx k).map fun p=>.Name (c.nmOf p.1) (f p.2)) X.env).length=js.length∧(assignEach ((js.zipIdx k).map fun p=>.Name (c.nmOf p.1) (f p.2)) X.env).findIdx? (·.1)=none
 |[],_,_=>⟨Di,rfl,rfl⟩
 |j::js,k,h=>by
  obtain⟨h1,h2,h3⟩:=h j (by simp);obtain⟨a1,a2,a3⟩:=JG nd f js (k+1) fun l hl=>h l (by simp[hl]);rw[List.zipIdx_cons,qG];refine⟨Up nd h1 h2 h3 a1 rfl,?_,?_⟩
  ·show(assignEach ((js.zipIdx (k+1)).map _) X.env).length+1=js.length+1;rw[a2]
  ·show List.findIdx? (·.1) ((false,assign (.Name (c.nmOf j) (f k)) X.env)::assignEach _ X.env)=none;rw[List.findIdx?_cons];simp[a3]
theorem Dt{X:Cx}{c:Md}(hK:X.K=i.K)(nd:X.N.Nodup)(hc:X.calm=true){p:Own.Pt}{x:Expr}(h:DT (UB X c) p):PG X (toP p c x) (gPt i p):=by
 cases p with
 |one j=>exact K3 nd h.1 h.2.1 h.2.2
 |many js =>obtain⟨a1,a2,a3⟩:=JG nd (fun k=>(kid x k).pos) js 0 h;exact Nx hK hc a1 a2 a3
 |nest j js =>obtain⟨h0,h⟩:=h;obtain⟨a1,a2,a3⟩:=JG nd (fun k=>(kid (kid x 1) k).pos) js 0 h;exact B1 hK hc (K3 nd h0.1 h0.2.1 h0.2.2) (Nx hK hc a1 a2 a3)
theorem Hb(g:Gd X i P n c){Φ:Own.Fs}{o:Own.Bop}{a b:Own.E}{l r:Expr}{pos:Pos}(ha:PE X l (tE X i Φ a))(hb:PE X r (tE X i Φ b)):PE X (.BinOp l (AH o) r pos) (tE X i Φ (.bin o a b)):=by
 cases o with
 |add=>exact WW GU (by rw[g.K];exact b_add) ha hb
 |sub=>exact WW FF b_sub ha hb
 |mul=>exact WW HX b_mul ha hb
 |fdiv=>exact WW Cb b_fdiv ha hb
 |mod=>exact WW EY b_mod ha hb
 |pow=>exact WW F6 b_pow ha hb
noncomputable def Xj:Own.Cop→Bool
 |.is=>true
 |.isnot=>true
 |.nes=>true
 |_=>false
theorem KS(g:Gd X i P n c){o:Own.Cop}(h:Xj o=false):∃ r,OpR X (compareOp (XG o)) r∧ZV i o r:=by
 have u65:X.A.units+65<cLine:=by have:=g.un;omega
 have u64:X.A.units+64<cLine:=by have:=g.un;omega
 have u0:X.A.units<cLine:=by have:=g.un;omega
 cases o with
 |eq=>exact⟨_,FG u64,by rw[g.K];exact LI⟩
 |ne=>exact⟨_,Ud u64,by rw[g.K];exact Il⟩
 |lt=>exact⟨_,LJ u0,by rw[g.K];exact c_lt⟩
 |le=>exact⟨_,HU,c_le⟩
 |gt=>exact⟨_,Pr u0,by rw[g.K];exact c_gt⟩
 |ge=>exact⟨_,G0,c_ge⟩
 |isin=>exact⟨_,La u65,by rw[g.K];exact LW⟩
 |notin=>exact⟨_,L9 u65,by rw[g.K];exact Pa⟩
 |neX=>exact⟨_,E5 u64,by rw[g.K];exact c_neX⟩
 |eqE=>exact⟨_,Be u64,by rw[g.K];exact c_eqE⟩
 |neE=>exact⟨_,Ul u64,by rw[g.K];exact c_neE⟩
 |ntT=>exact⟨_,FI,c_ntT⟩
 |_=>cases h
theorem EL{Φ:Own.Fs}{v:Own.Val}{j:Nat}{pos:Pos}(h:DK v=true):PE X (.Constant (GI v) j pos) (tE X i Φ (.cst v)):=by
 cases v with
 |non=>exact XT Uh fun _=>.non
 |bl b=>exact XT Gv fun _=>.bl _
 |int k=>exact XT Gh fun _=>.int _
 |str s=>exact XT pe_str fun _=>.str _
 |_=>cases h
noncomputable def Kh:Own.E→Bool
 |.cst .non=>true
 |_=>false
theorem BO{e:Own.E}(h:Kh e=true):e=.cst .non:=by
 cases e with
 |cst v=>cases v with
  |non=>rfl
  |_=>cases h
 |_=>cases h
theorem AJ{Φ:Own.Fs}{o:Own.Cop}{op:CmpOp}{a:Own.E}{l y:Expr}{pos:Pos}(hn:∀ G v d,Own.cmpV G o v .non≠some d)(ha:PE X l (tE X i Φ a))(hb:PE X y (tE X i Φ (.cst .non)))(hm:behindInMarks op y=false) :
  PE X (.Compare l [op] [y] pos) (tE X i Φ (.cmp o a (.cst .non)))∧PT X (.Compare l [op] [y] pos) (tTt X i Φ (.val (.cmp o a (.cst .non)))):=by
 have ho:OpR X (compareOp op) fun _ _ _ _=>False:=fun _ _ _ _ _ _ _ _ _ _ _ _ h=>h.elim;refine⟨(MZ ho ha hb hm).imp fun σ H Q ⟨env,G,Qm,Em,p,w,c⟩=>?_,(Np ho ha hb hm).imp fun σ H Q ⟨env,G,Qm,Em,p,w,c⟩=>?_⟩
 ·rw[Own.q_e_cmp]at w;refine one p w fun v G1 H1 x k1 p1 r q=>?_;rw[Own.q_e_cst]at q;obtain⟨d,e,_⟩:=go_some q;exact absurd e (hn G1 v d)
 ·rw[Own.q_t_val,Own.q_e_cmp]at w;refine one p w fun v G1 H1 x k1 p1 r q=>?_;rw[Own.q_e_cst]at q;obtain⟨d,e,_⟩:=go_some q;exact absurd e (hn G1 v d)
theorem Ki(g:Gd X i P n c){Φ:Own.Fs}{o:Own.Cop}{a b:Own.E}{l x:Expr}{pos:Pos}(h:(!Xj o||Kh b)=true)(ha:PE X l (tE X i Φ a))(hb:PE X (toX b c x) (tE X i Φ b)) :
  PE X (.Compare l [XG o] [toX b c x] pos) (tE X i Φ (.cmp o a b))∧PT X (.Compare l [XG o] [toX b c x] pos) (tTt X i Φ (.val (.cmp o a b))):=by
 cases z:Xj o with
 |false =>obtain⟨r,h1,h2⟩:=KS g z;exact⟨IC h1 h2 ha hb (BR _ _ _),FZ h1 h2 ha hb (BR _ _ _)⟩
 |true =>
  rw[z]at h;cases BO h;cases o with
  |is=>exact⟨Hh ha,DZ ha⟩
  |isnot=>exact⟨D6 ha,C6 ha⟩
  |nes=>exact AJ (fun G v d e=>by cases v<;>simp[Own.cmpV,Own.asLst]at e) ha hb (BR _ _ _)
  |_=>cases z
theorem X9(g:Gd X i P n c){Φ:Own.Fs}{o1 o2:Own.Cop}{a b d:Own.E}{l y x:Expr}{pos:Pos}(h1:Xj o1=false)(h2:Xj o2=false)(ha:PE X l (tE X i Φ a))(hb:PE X y (tE X i Φ b))(hd:PE X (toX d c x) (tE X i Φ d)) :
  PE X (.Compare l [XG o1,XG o2] [y,toX d c x] pos) (tE X i Φ (.chain o1 o2 a b d))∧PT X (.Compare l [XG o1,XG o2] [y,toX d c x] pos) (tTt X i Φ (.val (.chain o1 o2 a b d))):=by
 obtain⟨r1,a1,a2⟩:=KS g h1;obtain⟨r2,b1,b2⟩:=KS g h2;have hm:lastMarks [XG o1,XG o2] [y,toX d c x]=false:=BR _ _ _;exact⟨Bx a1 a2 b1 b2 ha hb hd hm,U6 a1 a2 b1 b2 ha hb hd hm⟩
theorem Fy{Φ:Own.Fs}{e:Expr}{m:Own.E}(h:PE X e (tE X i Φ m))(he:∀ whole,isTrue e X.env whole=(do let v←whole;standAt e.pos;holding [v] (truthy v)))(hK:X.K=i.K):PT X e (tTt X i Φ (.val m)):=by
 refine(AD h he).imp fun σ H Q ⟨env,G,Qm,Em,p,w,c⟩=>?_;rw[Own.q_t_val]at w;refine one p w fun v G1 H1 x k1 p1 r q=>?_;obtain⟨d,e1,q2⟩:=go_some q;clear q;refine⟨d,?_,c d G1 H1 k1 p1.hp q2⟩;cases v with
 |non=>cases r;cases e1;rfl
 |bl b=>cases r;cases e1;rfl
 |int b =>
  cases r;cases e1;show decide (b≠0)=(b != 0)
  by_cases e:b=0<;>simp[e]
 |key _ _=>cases e1
 |str b =>
  cases r;obtain⟨hl,e1⟩:=ZT e1;cases e1;refine⟨by rw[ZB];exact zH hl ZW,?_⟩;rw[ZB];by_cases e:b.length=0
  ·rw[e];rfl
  ·rw[qQ e];symm;simpa using (by omega:¬ ((b.length:Int)=0))
 |tup xs =>
  cases e1;cases r with
  |tup hp hr =>refine .inr (.inl ⟨_,by rw[hK];exact Zk hp,?_⟩);cases hr<;>rfl
 |scr ns =>
  cases e1;cases r with
  |scr h =>refine .inl ⟨_,by rw[hK];exact Z7 h,?_⟩;cases ns<;>rfl
 |ref a =>
  cases r.ref_inv
  replace e1:(match G1 a with|some (.lst xs)=>some (!xs.isEmpty)|some (.dct kvs)=>some (!kvs.isEmpty)|_=>none)=some d:=e1
  cases z:G1 a with
  |none=>rw[z]at e1;cases e1
  |some o =>
   rw[z]at e1;cases o with
   |lst xs =>cases e1;obtain⟨vs,h1,h2⟩:=p1.hp a _ z;refine .inl ⟨vs,SqL.of h1,?_⟩;cases h2<;>rfl
   |dct kvs =>cases e1;obtain⟨ps,h1,h2⟩:=p1.hp a _ z;refine .inr (.inr ⟨ps,h1,?_⟩);cases h2<;>rfl
   |_=>cases e1
noncomputable def Md.gn (c:Md) (y:String):Bool:=c.gl (Str.ofString y)&&nm (Str.ofString y)
noncomputable def Y8:Own.Bi→Bool
 |.len=>true
 |.int=>true
 |.str=>true
 |.min2=>true
 |.max2=>true
 |.all=>true
 |.list=>true
 |.tuple=>true
 |.minL=>true
 |.maxL=>true
 |.sortedI=>true
 |_=>false
noncomputable def BY:Own.Bi→Option String
 |.isi [T]=>some T
 |_=>none
noncomputable def Dc:Own.Bi→Option (List String)
 |_=>none
noncomputable def Y3:Own.Bi→Bool
 |.lenSet=>true
 |_=>false
noncomputable def XM:Own.Bi→Bool
 |.listRange=>true
 |_=>false
noncomputable def UA:Own.Bi→Str
 |.listRev=>"reversed"
 |.sortedSet=>"set"
 |_=>"range"
noncomputable def ND:Own.Bi→Bool
 |_=>false
noncomputable def Jg:Own.Bi→Bool
 |.minD=>true
 |_=>false
noncomputable def On:Own.Bi→Option (List String)
 |.isi (a::b::r)=>some (a::b::r)
 |_=>none
noncomputable def Md.xn (c:Md) (T:String):Bool:=(c.xs.contains T||T == "ShutError")&&c.gn T
noncomputable def Xp:Own.Bi→Bool
 |.len=>true
 |.int=>true
 |.str=>true
 |.list=>true
 |.tuple=>true
 |_=>false
noncomputable def EH (c:Md) (Ts:List String):Bool:=match Ts with
 |[T]=>c.xn T||(T == "ValueError" && c.gl (Str.ofString T))
 |Ts=>Ts.all c.xn&&decide (Ts.length≤20)
noncomputable def AQ:Own.Bm→Option Nat
 |.append=>some 1
 |.dgetD=>some 2
 |_=>none
noncomputable def Ny:Own.Tt→Bool
 |.yes=>true
 |_=>false
noncomputable def MA:Own.E→Bool
 |.var _=>true
 |.call _ _=>true
 |.meth _ _ _ _=>true
 |.bi _ _=>true
 |.bm _ _ _=>true
 |.idx _ _=>true
 |.fld _ _=>true
 |.glob _ _=>true
 |_=>false
noncomputable def Iw:Own.E→Bool
 |.cmp _ _ _=>true
 |.chain _ _ _ _ _=>true
 |_=>false
mutual
noncomputable def okE:Own.E→Md→Expr→Bool
 |.cst v,_,_=>DK v
 |.var j,c,_=>decide (j<c.N.length)&&c.vis (c.nmOf j)&&nm (c.nmOf j)
 |.glob y v,c,_=>c.gn y&&decide (c.cs.lookup y=some v)
 |.bin _ a b,c,x=>okE a c (kid x 0)&&okE b c (kid x 1)
 |.neg a,c,x=>okE a c (kid x 0)
 |.not a,c,x=>okE a c (kid x 0)
 |.and a b,c,x=>okE a c (kid x 0)&&okE b c (rest (ZU b) x)&&(!ZU b||(rest (ZU b) x).pos==x.pos)
 |.or a b,c,x=>okE a c (kid x 0)&&okE b c (rest (Yh b) x)&&(!Yh b||(rest (Yh b) x).pos==x.pos)
 |.cmp o a b,c,x=>okE a c (kid x 0)&&okE b c (kid x 1)&&(!Xj o||Kh b)
 |.chain o1 o2 a b d,c,x=>okE a c (kid x 0)&&okE b c (kid x 1)&&okE d c (kid x 2) && !Xj o1 && !Xj o2
 |.call f as,c,x=>c.gn f&&c.fs.contains f&&c.cm&&okA as c (sub x).tail
 | .bi f as,c,x=>(match BY f with
   |some T=>decide (Zh as=1)&&kinds.contains T&&c.gl "isinstance" && c.gl (Str.ofString T)
   |none=>match Dc f with
     |some Ts=>decide (Zh as=1)&&c.gl "isinstance" && !c.xs.isEmpty&&EH c Ts
     |none=>match On f with
       |some Ts=>decide (Zh as=1)&&c.gl "isinstance" && Ts.all (fun T=>kinds.contains T&&c.gl (Str.ofString T))&&decide (Ts.length≤20)
       | none=>if Y3 f then decide (Zh as=1)&&c.gl "len" && c.gl "set" && c.cm else if XM f then decide (Zh as=1)&&c.gl (Z8 f)&&c.gl (UA f)&&c.cm else if Jg f then decide (Zh as=1)&&c.gl "min" && c.cm else if ND f then decide (Zh as=1)&&c.gl "dict" && c.gl "enumerate" && c.cm else Y8 f&&c.gl (Z8 f)&&decide (Zh as≠0)&&(c.cm||Xp f))&&okA as c (NH f x)
 |.bm m o as,c,x=>decide (AQ m=some (Zh as))&&okE o c (kid (kid x 0) 0)&&KN (toX o c (kid (kid x 0) 0))&&((kid x 0).pos.endLine==x.pos.line)&&okA as c (sub x).tail
 |.idx a b,c,x=>okE a c (kid x 0)&&okE b c (kid x 1)
 |.slc a lo hi,c,x=>okE a c (kid x 0)&&okO lo c (kid (kid x 1) 0)&&okO hi c (kid (kid x 1) 1)
 |.tup es,c,x=>okA es c (sub x)&&decide (Zh es≤1000)
 |.key es,c,x=>okA es c (sub x)&&decide (Zh es≤1000)
 |.dctP,_,_=>true
 |.lst es,c,x=>okA es c (sub x)&&decide (Zh es≤1000)
 |.dct es,c,x=>okA es c (sub x)&&Wt es&&decide (esL es≤30)
 |.ife t a b,c,x=>okT t c (kid x 0)&&okE a c (kid x 1)&&okE b c (kid x 2)
 |.comp caps m p it t e,c,x=>(Mq m p&&(Yi (kid x 1)).length==m)&&c.cm&&Yc (scp x) c.sc c.N (Yi (kid x 1)) caps&&(scp x).kind == .function&&okI it c (kid x 2) (!ZM p)&&okE e (c.blk (scp x) (Yi (kid x 1)) caps) (kid x 0)&&(Ny t||okT t (c.blk (scp x) (Yi (kid x 1)) caps) (kid x 3))
 |_,_,_=>false
noncomputable def okA:Own.Es→Md→List Expr→Bool
 |.nil,_,_=>true
 |.cons e es,c,xs=>okE e c (xs.headD dE)&&okA es c xs.tail
noncomputable def okJ:Own.Es→Md→List Expr→Bool
 |.nil,_,_=>true
 |.cons e es,c,xs=>(N2 e||okE e c (kid (xs.headD dE) 0))&&okJ es c xs.tail
noncomputable def okO:Own.Oe→Md→Expr→Bool
 |.none,_,_=>true
 |.some e,c,x=>okE e c x
noncomputable def okT:Own.Tt→Md→Expr→Bool
 |.yes,_,_=>false
 |.val e,c,x=>okE e c x&&(MA e||Iw e)
 |.not t,c,x=>okT t c (kid x 0)
 |.and a b,c,x=>okT a c (kid x 0)&&okT b c (rest (Zv b) x)&&(!Zv b||(rest (Zv b) x).pos==x.pos)
 |.or a b,c,x=>okT a c (kid x 0)&&okT b c (rest (ZI b) x)&&(!ZI b||(rest (ZI b) x).pos==x.pos)
noncomputable def okI:Own.It→Md→Expr→Bool→Bool
 |.seq e,c,x,_=>okE e c x
 |.range a,c,x,_=>c.gl "range" && okE a c (kid x 1)
 |.enum e,c,x,t=>t&&c.gl "enumerate" && okE e c (kid x 1)
 |_,_,_,_=>false
end
variable {X:Cx}{i:Inf}{P:Own.Pg}{n:Nat}{c:Md}
theorem CB(g:Gd X i P n c){f:Own.Bi}(hp:Y8 f=true)(hcm:(c.cm||Xp f)=true){e:Expr}{es:List Expr}{as:Own.Es}{q p:Pos}{l:Nat}(hg:Gl X (Z8 f))(ha:PA X (e::es) (tAr X i (Own.wF P n) as l))
  (he:starEach (e::es) X.env=(false,eval e X.env)::starEach es X.env) (hpl:(backTo p (starEach es X.env)).any (·.1)=false):PE X (.Call (.Name (Z8 f) q) (e::es) [] p) (tE X i (Own.wF P n) (.bi f as)):=by
 have hc:Xp f=false→X.calm=true:=fun z=>g.calm (by rw[z,Bool.or_false]at hcm;exact hcm);cases f with
 |len=>exact(ZQ ((call_len_seq.or JT).or Oi) hg (g.bl _ (by simp[blts,Z8])) (by kernel_rfl) ha (he:=he) (hpl:=hpl)).imp (Yv (by rw[g.K];exact Fm))
 |int=>exact(Yg (call_int1.or Wx) hg (g.bl _ (by simp[blts,Z8])) (by kernel_rfl) ha (he:=he) (hpl:=hpl)).imp (Yv E9)
 |str=>exact(Yg (call_str_int.or Jw) hg (g.bl _ (by simp[blts,Z8])) (by kernel_rfl) ha (he:=he) (hpl:=hpl)).imp (Yv FH)
 |min2=>exact(ZQ ((NX (hc rfl)).or (KP (hc rfl) (by have:=g.un;omega))) hg (g.bl _ (by simp[blts,Z8])) (by kernel_rfl) ha (he:=he) (hpl:=hpl)).imp (Yv (by rw[g.K];exact Cd))
 |max2=>exact(ZQ (OK (hc rfl)) hg (g.bl _ (by simp[blts,Z8])) (by kernel_rfl) ha (he:=he) (hpl:=hpl)).imp (Yv CM)
 |all=>exact(ZQ (Bp (hc rfl)) hg (g.bl _ (by simp[blts,Z8])) (by kernel_rfl) ha (he:=he) (hpl:=hpl)).imp (Yv (by rw[g.K];exact EJ))
 |list=>exact(Yg Ji hg (g.bl _ (by simp[blts,Z8])) (by kernel_rfl) ha (he:=he) (hpl:=hpl)).imp (Yv (by rw[g.K];exact C2))
 |minL=>exact(ZQ (((Mz (hc rfl)).or (NR (hc rfl))).or (OS (hc rfl) (by have:=g.un;omega))) hg (g.bl _ (by simp[blts,Z8])) (by kernel_rfl) ha (he:=he) (hpl:=hpl)).imp (Yv (by rw[g.K];exact Ca))
 |maxL=>exact(ZQ ((N5 (hc rfl)).or (Oz (hc rfl))) hg (g.bl _ (by simp[blts,Z8])) (by kernel_rfl) ha (he:=he) (hpl:=hpl)).imp (Yv (by rw[g.K];exact Ck))
 |sortedI=>exact(ZQ (call_sorted.or (JO (hc rfl))) hg (g.bl _ (by simp[blts,Z8])) (by kernel_rfl) ha (he:=he) (hpl:=hpl)).imp (Yv (by rw[g.K];exact ML))
 |tuple=>exact(Yg WF hg (g.bl _ (by simp[blts,Z8])) (by kernel_rfl) ha (he:=he) (hpl:=hpl)).imp (Yv (by rw[g.K];exact Ap))
 |_=>cases hp
theorem Gk{f:Own.Bi}{T:String}(h:BY f=some T):f=.isi [T]:=by
 cases f with
 |isi Ts =>
  cases Ts with
  |nil=>cases h
  |cons a r=>cases r with
   |nil=>cases h;rfl
   |cons _ _=>cases h
 |_=>cases h
theorem US (g:Gd X i P n c){T:String}{e:Expr}{m:Own.E}{p p2 pos:Pos}(hT:T∈kinds) (h2:c.gl "isinstance" = true) (h5:c.gl (Str.ofString T)=true) (he:PE X e (tE X i (Own.wF P n) m)) (hst:starEach [e,.Name (Str.ofString T) p2] X.env=(false,eval e X.env)::starEach [.Name (Str.ofString T) p2] X.env) :
  PE X (.Call (.Name "isinstance" p) [e,.Name (Str.ofString T) p2] [] pos) (tE X i (Own.wF P n) (.bi (.isi [T]) (.cons m .nil))):=by
 have hT':=hT;simp only[kinds,qE,List.not_mem_nil,or_false]at hT';refine Ig hT he g.K (g.gl h2) (g.bl _ (by simp[blts])) (g.gl h5) ?_ ?_ ?_ ?_ hst
 ·rcases hT' with rfl|rfl|rfl|rfl|rfl|rfl<;>exact g.bl _ (by simp[blts])
 ·rcases hT' with rfl|rfl|rfl|rfl|rfl|rfl<;>kernel_rfl
 ·rcases hT' with rfl|rfl|rfl|rfl|rfl|rfl<;>decide
 ·rcases hT' with rfl|rfl|rfl|rfl|rfl|rfl<;>decide
theorem Fv{f:Own.Bi}{Ts:List String}(h:On f=some Ts):f=.isi Ts∧∃ a b r,Ts=a::b::r:=by
 cases f with
 |isi Us =>
  cases Us with
  |nil=>cases h
  |cons a r=>cases r with
   |nil=>cases h
   |cons b r=>cases h;exact⟨rfl,a,b,r,rfl⟩
 |_=>cases h
theorem Om(g:Gd X i P n c){T:String}(hT:(kinds.contains T&&c.gl (Str.ofString T))=true):PE1 X T:=fun pos=>by
 rw[bAq]at hT;have hT':=List.contains_iff_mem.mp hT.1;simp only[kinds,qE,List.not_mem_nil,or_false]at hT';refine MS (v:=.ty T) (u:=.type T) (g.gl hT.2) ?_ ?_ rfl ?_ ?_
 ·rcases hT' with rfl|rfl|rfl|rfl|rfl|rfl<;>exact g.bl _ (by simp[blts])
 ·rcases hT' with rfl|rfl|rfl|rfl|rfl|rfl<;>kernel_rfl
 ·rcases hT' with rfl|rfl|rfl|rfl|rfl|rfl<;>decide
 ·rcases hT' with rfl|rfl|rfl|rfl|rfl|rfl<;>decide
theorem Oq (g:Gd X i P n c){a b:String}{r:List String}{e y:Expr}{m:Own.E}{p pos:Pos}(h1:c.gl "isinstance" = true) (h2:(a::b::r).all (fun T=>kinds.contains T&&c.gl (Str.ofString T))=true) (h3:(a::b::r).length≤20) (he:PE X e (tE X i (Own.wF P n) m)) (hst:∀ {es},starEach (e::es) X.env=(false,eval e X.env)::starEach es X.env) :
  PE X (.Call (.Name "isinstance" p) [e,F7 (a::b::r) y] [] pos) (tE X i (Own.wF P n) (.bi (.isi (a::b::r)) (.cons m .nil))):=by
 rw[List.all_eq_true]at h2;exact EC (f:=fun k=>(kid y k).pos) (fun T hT=>by have:=h2 T hT;rw[bAq]at this;exact List.contains_iff_mem.mp this.1) g.K he (g.gl h1) (g.bl _ (by simp[blts])) h3 (by intro z;cases z) (fun T hT=>Om g (h2 T hT)) fun ts=>hst
theorem UX(g:Gd X i P n c){m:Own.Bm}(h:AQ m=some 0){o:Expr}{mo:Own.E}{apos cpos:Pos}(ho:PE X o (tE X i (Own.wF P n) mo))(hb:∀ f,attributeBase o f X.env (eval o X.env)=eval o X.env)(hl:(apos.endLine==cpos.line)=true) :
  PE X (.Call (.Attribute o (Eu m) apos) [] [] cpos) (tE X i (Own.wF P n) (.bm m mo .nil)):=by
 cases m with
 |_=>cases h
theorem BC(g:Gd X i P n c){m:Own.Bm}{k:Nat}(h:AQ m=some (k+1)){o e:Expr}{es:List Expr}{mo:Own.E}{ms:Own.Es}{l:Nat}{apos cpos:Pos}(ho:PE X o (tE X i (Own.wF P n) mo))(ha:PA X (e::es) (tAr X i (Own.wF P n) ms l))(hb:∀ f,attributeBase o f X.env (eval o X.env)=eval o X.env)(hl:(apos.endLine==cpos.line)=true)
  (hfew:((backTo cpos (starEach (e::es) X.env)).all (fun x=>!x.1)&&(backToKw cpos (keywordEach [] X.env)).all (fun x=>x.1.isSome)&&decide ((e::es).length+([]:List Keyword).length+(if([]:List Keyword).isEmpty then 0 else 1)<30))=true)
  (hs:starEach (e::es) X.env=(false,eval e X.env)::starEach es X.env) (hpl:(backTo cpos (starEach es X.env)).any (·.1)=false) :
  PE X (.Call (.Attribute o (Eu m) apos) (e::es) [] cpos) (tE X i (Own.wF P n) (.bm m mo ms)):=by
 have u1:X.A.units+1<cLine:=by have:=g.un;omega
 cases m with
 |append=>exact Gq g.K PySem.F.plainAttrs_list PySem.F.slot_list_append PySem.F.type_list_append OH (Lw rfl) Ej ho ha (hb _) hfew hl hs hpl
 |dgetD=>exact Gq g.K PySem.F.plainAttrs_dict PySem.F.slot_dict_get PySem.F.type_dict_get (UZ u1) (Pn rfl) B8 ho ha (hb _) hfew hl hs hpl
 |_=>cases h
theorem Gd.blk(g:Gd X i P n c){sc:Scope}{x:List Str}{caps:List Nat}(hb:Yc sc c.sc c.N x caps=true)(hk:sc.kind=.function)(cl:List (Str×Addr))(C:Addr)(s:Shared)(H:Hp)(ex:List Addr) :
  Gd (Zy X sc (Z4 X x caps) cl C s H ex) i P n (c.blk sc x caps) where
 K:=g.K
 N:=by show Z4 X x caps=_;unfold Z4;rw[g.N];rfl
 sc:=by show relabel sc X.env=_;unfold relabel Env.kindOf;rw[g.sc];rfl
 nd:=by have B:=KJ g.sc g.N hk hb;have:=B.nd;unfold Z4 at this;rw[g.N]at this;exact this
 un:=g.un
 calm:=g.calm
 room:=g.room
 bl:=g.bl
 dfs:=g.dfs
 cst:=g.cst
 kl:=⟨g.kl.A,g.kl.F,g.kl.mkc,g.kl.mth⟩
 xl:=fun h=>⟨(g.xl h).xc,(g.xl h).rs,(g.xl h).kn⟩
theorem Gd.pt(g:Gd X i P n c)(hcm:c.cm=true){sc:Scope}{xs:List Str}{caps:List Nat}(hb:Yc sc c.sc c.N xs caps=true)(hk:sc.kind=.function){p:Own.Pt}(hp:Mq xs.length p=true)(x:Expr)(cl:List (Str×Addr))(C:Addr)(s:Shared)(H:Hp)(ex:List Addr) :
  PG (Zy X sc (Z4 X xs caps) cl C s H ex) (toP p (c.blk sc xs caps) x) (gPt i p):=by
 have B:=KJ g.sc g.N hk hb;have G:=g.blk hb hk cl C s H ex;have key:∀ j,j<xs.length→UB (Zy X sc (Z4 X xs caps) cl C s H ex) (c.blk sc xs caps) j:=fun j hj=>by
  have e:(c.blk sc xs caps).nmOf j=xs[j]:=by unfold Md.nmOf Md.blk;show(xs++_).getD j _=_;rw[qN,List.getElem?_append_left hj,qH hj];rfl
  have lo:=lookup_relabel_local (env:=X.env) (B.own xs[j] (List.getElem_mem hj));unfold UB;rw[e];refine⟨?_,.inl lo,.inr lo⟩;show(xs++_)[j]?=_;rw[List.getElem?_append_left hj,qH hj]
 refine Dt G.K (by rw[G.N];exact G.nd) (g.calm hcm) ?_;cases p with
 |one j=>exact key j (of_decide_eq_true hp)
 |many js=>exact fun j hj=>key j (of_decide_eq_true (List.all_eq_true.mp hp j hj))
 |nest j js=>cases hp
theorem No{b:Own.E}(h:ZU b=true):∃ a d,b=.and a d:=by
 cases b with
 |and a d=>exact⟨a,d,rfl⟩
 |_=>cases h
theorem Bj{b:Own.E}(h:Yh b=true):∃ a d,b=.or a d:=by
 cases b with
 |or a d=>exact⟨a,d,rfl⟩
 |_=>cases h
theorem UC{b:Own.Tt}(h:Zv b=true):∃ a d,b=.and a d:=by
 cases b with
 |and a d=>exact⟨a,d,rfl⟩
 |_=>cases h
theorem CY{b:Own.Tt}(h:ZI b=true):∃ a d,b=.or a d:=by
 cases b with
 |or a d=>exact⟨a,d,rfl⟩
 |_=>cases h
theorem Jf{b:Bool}{p q:Pos}(h:(!b||p==q)=true)(hb:b=true):p=q:=by rw[hb]at h;exact eq_of_beq h
theorem Az{Φ:Own.Fs}{b:Own.E}{x:Expr}(hp:(!ZU b||(rest (ZU b) x).pos==x.pos)=true)(h:PE X (toX b c (rest (ZU b) x)) (tE X i Φ b)):PE X (.BoolOp .And (YV (ZU b) (toX b c (rest (ZU b) x))) x.pos) (tE X i Φ b):=by
 cases z:ZU b with
 |false=>rw[z]at h;exact Ur h
 |true =>have e:=Jf hp z;rw[z]at e h;obtain⟨a,d,rfl⟩:=No z;show PE X (.BoolOp .And (sub (.BoolOp .And _ (rest true x).pos)) x.pos) _;rw[←e];exact h
theorem Cc{Φ:Own.Fs}{b:Own.E}{x:Expr}(hp:(!Yh b||(rest (Yh b) x).pos==x.pos)=true)(h:PE X (toX b c (rest (Yh b) x)) (tE X i Φ b)):PE X (.BoolOp .Or (YV (Yh b) (toX b c (rest (Yh b) x))) x.pos) (tE X i Φ b):=by
 cases z:Yh b with
 |false=>rw[z]at h;exact Ur h
 |true =>have e:=Jf hp z;rw[z]at e h;obtain⟨a,d,rfl⟩:=Bj z;show PE X (.BoolOp .Or (sub (.BoolOp .Or _ (rest true x).pos)) x.pos) _;rw[←e];exact h
theorem Je(b:Bool){e:Own.E}{x:Expr}(h:b=ZU e∨b=Yh e):∃ y ys,YV b (toX e c x)=y::ys:=by
 cases b with
 |false=>exact⟨_,_,rfl⟩
 |true =>
  rcases h with h|h
  ·obtain⟨a,d,rfl⟩:=No h.symm;exact⟨_,_,rfl⟩
  ·obtain⟨a,d,rfl⟩:=Bj h.symm;exact⟨_,_,rfl⟩
variable {i:Inf}{P:Own.Pg}{n:Nat}
theorem OB{X:Cx}{c:Md}{Φ:Own.Fs}{b:Own.Tt}{x:Expr}(hp:(!Zv b||(rest (Zv b) x).pos==x.pos)=true)(h:PT X (toT b c (rest (Zv b) x)) (tTt X i Φ b))(h2:(Zv b||ZI b)=true→PW X (toT b c (rest (Zv b) x)) (tTt X i Φ b)) :
  ∃ y ys,YV (Zv b) (toT b c (rest (Zv b) x))=y::ys∧PW X (.BoolOp .And (y::ys) x.pos) (tTt X i Φ b):=by
 cases z:Zv b with
 |false=>rw[z]at h;exact⟨_,_,rfl,CH h⟩
 |true =>have e:=Jf hp z;rw[z]at e h2;obtain⟨a,d,rfl⟩:=UC z;refine⟨_,_,rfl,?_⟩;rw[←e];exact h2 rfl
theorem Uw{X:Cx}{c:Md}{Φ:Own.Fs}{b:Own.Tt}{x:Expr}(hp:(!ZI b||(rest (ZI b) x).pos==x.pos)=true)(h:PT X (toT b c (rest (ZI b) x)) (tTt X i Φ b))(h2:(Zv b||ZI b)=true→PW X (toT b c (rest (ZI b) x)) (tTt X i Φ b)) :
  ∃ y ys,YV (ZI b) (toT b c (rest (ZI b) x))=y::ys∧PW X (.BoolOp .Or (y::ys) x.pos) (tTt X i Φ b):=by
 cases z:ZI b with
 |false=>rw[z]at h;exact⟨_,_,rfl,E3 h⟩
 |true =>have e:=Jf hp z;rw[z]at e h2;obtain⟨a,d,rfl⟩:=CY z;refine⟨_,_,rfl,?_⟩;rw[←e];exact h2 rfl
theorem L3{e:Own.E}(h:N2 e=true):∃ s,e=.cst (.str s):=by
 cases e with
 |cst v=>cases v with
  |str s=>exact⟨s,rfl⟩
  |_=>cases h
 |_=>cases h
theorem W7{X:Cx}{c:Md}(g:Gd X i P n c){caps:List Nat}{p:Own.Pt}{it:Own.It}{mt:Own.Tt}{me:Own.E}{elt iter tgt:Expr}{x:List Str}{pos:Pos}{ifs:List Expr}{sc:Scope}(hcm:c.cm=true)(h1:Yc sc c.sc c.N x caps=true)(hk:sc.kind=.function)(hp:Mq x.length p=true)
  (hi:PI X tgt iter (tIt X i (Own.wF P n) it)) (hs:∀ y,foldedSetIterable iter X.env y=pure y) (hG:∀ cl C s H ex,PG (Zy X sc (Z4 X x caps) cl C s H ex) tgt (gPt i p))
  (hE:∀ cl C s H ex,PE (Zy X sc (Z4 X x caps) cl C s H ex) elt (tE0 i (Own.wF P n) me)) (hI:∀ cl C s H ex,PIfs (Zy X sc (Z4 X x caps) cl C s H ex) ifs (tT0 i (Own.wF P n) mt)) :
  PE X (.ListComp elt [⟨tgt,iter,ifs,0⟩] sc pos) (tE X i (Own.wF P n) (.comp caps x.length p it mt me))∧
   ∀ (y:Str) (py spos:Pos) (j:Nat),X.N[j]?=some y→L2.Loc X.env.scope y→(X.fn y=true∨X.env.scope.names.lookup y=some .local)→swapsWith (.ListComp elt [⟨tgt,iter,ifs,0⟩] sc pos) (some (.Name y py)) spos.line X.env=pure true→PS X (.Assign [.Name y py] (.ListComp elt [⟨tgt,iter,ifs,0⟩] sc pos) spos) (tSt X i (Own.wF P n) (.set (.one j) (.comp caps x.length p it mt me))):=by
 have B:=KJ g.sc g.N hk h1;have hc:=g.calm hcm;refine⟨(AN hc B hi hG hI hE hs).imp (Nw hp),fun y py spos j hj hl hf hsw=>?_⟩;refine(Uq (by rw[g.N];exact g.nd) hj hl hc B hi hG hI hE hs hsw hf).imp fun D σ H ⟨env,G,N,R,Bk,Ct,Xe,p,w,e⟩=>?_;rw[Own.q_s_set]at w;refine Nw hp σ H _ ⟨env,G,_,Xe env,p.pre,w,fun v G1 H1 x k1 g1 r1 w1=>?_⟩;obtain⟨env2,e2,w2⟩:=go_some w1;clear w1;cases e2;exact e.nx _ _ G1 H1 k1 g1 ((p.en.keep k1).set r1 j) w2
theorem U1{X:Cx}{c:Md}{j:Nat}(hN:X.N=c.N)(h:j<c.N.length):X.N[j]?=some (c.nmOf j):=by rw[hN];unfold Md.nmOf;rw[qN,qH h];rfl
theorem GJ{X:Cx}{c:Md}{m:Own.Tt}{x:Expr}(h:Ny m=false→PT X (toT m c x) (tTt X i (Own.wF P n) m)):PIfs X (toF m c x) (tT0 i (Own.wF P n) m):=by
 cases m with
 |yes=>exact FP
 |val e=>exact Y4 (pt0 (h rfl))
 |not t=>exact Y4 (pt0 (h rfl))
 |and a b=>exact Y4 (pt0 (h rfl))
 |or a b=>exact Y4 (pt0 (h rfl))
theorem J0(c:Md):∀ (es:Own.Es) (xs:List Expr),Wt es=true→(Xk (toA es c xs)).all (·.isSome)=true∧(Xk (toA es c xs)).length=(Bs (toA es c xs)).length∧2*(Xk (toA es c xs)).length=esL es
 |.nil,_,_=>⟨rfl,rfl,rfl⟩
 |.cons _ .nil,_,h=>by cases h
 |.cons k (.cons v r),xs,h=>by
  obtain⟨h1,h2,h3⟩:=J0 c r xs.tail.tail h;refine⟨?_,?_,?_⟩
  ·show(true&&(Xk (toA r c xs.tail.tail)).all (·.isSome))=true;rw[h1];rfl
  ·show(Xk (toA r c xs.tail.tail)).length+1=(Bs (toA r c xs.tail.tail)).length+1;rw[h2]
  ·show 2*((Xk (toA r c xs.tail.tail)).length+1)=esL r+1+1;omega
mutual
theorem eE:∀ (m:Own.E) (X:Cx) (c:Md) (x:Expr),Gd X i P n c→okE m c x=true→PE X (toX m c x) (tE X i (Own.wF P n) m)
 |.cst v,X,c,x,g,h=>EL h
 |.var j,X,c,x,g,h=>by have h:(decide (j<c.N.length)&&c.vis (c.nmOf j)&&nm (c.nmOf j))=true:=h;rw[bAq,bAq,decide_eq_true_eq]at h;obtain⟨q1,q2,_⟩:=O4 h.2;exact G9 (U1 g.N h.1.1) (g.vis h.1.2) q1 q2
 |.glob y v,X,c,x,g,h=>by have h:((c.gl (Str.ofString y)&&nm (Str.ofString y))&&decide (c.cs.lookup y=some v))=true:=h;rw[bAq,bAq,decide_eq_true_eq]at h;obtain⟨q1,q2,_⟩:=O4 h.1.2;obtain⟨u,z,e1,e2,e3⟩:=g.cst _ _ h.2;exact F3 (By (g.gl h.1.1) e1 e2 q1) e3
 |.bin o a b,X,c,x,g,h=>by have h:(okE a c (kid x 0)&&okE b c (kid x 1))=true:=h;rw[bAq]at h;exact Hb g (eE a X c _ g h.1) (eE b X c _ g h.2)
 |.neg a,X,c,x,g,h=>HZ (eE a X c _ g h)
 |.not a,X,c,x,g,h=>HH (eE a X c _ g h)
 |.and a b,X,c,x,g,h=>by have h:(okE a c (kid x 0)&&okE b c (rest (ZU b) x)&&(!ZU b||(rest (ZU b) x).pos==x.pos))=true:=h;rw[bAq,bAq]at h;have h2:=Az h.2 (eE b X c _ g h.1.2);obtain⟨y,ys,e⟩:=Je (c:=c) (ZU b) (e:=b) (x:=rest (ZU b) x) (.inl rfl);show PE X (.BoolOp .And (toX a c (kid x 0)::YV (ZU b) (toX b c (rest (ZU b) x))) x.pos) _;rw[e]at h2 ⊢;exact Hr (eE a X c _ g h.1.1) h2
 |.or a b,X,c,x,g,h=>by have h:(okE a c (kid x 0)&&okE b c (rest (Yh b) x)&&(!Yh b||(rest (Yh b) x).pos==x.pos))=true:=h;rw[bAq,bAq]at h;have h2:=Cc h.2 (eE b X c _ g h.1.2);obtain⟨y,ys,e⟩:=Je (c:=c) (Yh b) (e:=b) (x:=rest (Yh b) x) (.inr rfl);show PE X (.BoolOp .Or (toX a c (kid x 0)::YV (Yh b) (toX b c (rest (Yh b) x))) x.pos) _;rw[e]at h2 ⊢;exact Pd (eE a X c _ g h.1.1) h2
 |.cmp o a b,X,c,x,g,h=>by have h:(okE a c (kid x 0)&&okE b c (kid x 1)&&(!Xj o||Kh b))=true:=h;rw[bAq,bAq]at h;exact(Ki g h.2 (eE a X c _ g h.1.1) (eE b X c _ g h.1.2)).1
 |.chain o1 o2 a b d,X,c,x,g,h=>by have h:(okE a c (kid x 0)&&okE b c (kid x 1)&&okE d c (kid x 2) && !Xj o1 && !Xj o2)=true:=h;rw[bAq,bAq,bAq,bAq,Bool.not_eq_true',Bool.not_eq_true']at h;obtain⟨⟨⟨⟨h1,h2⟩,h3⟩,h4⟩,h5⟩:=h;exact(X9 g h4 h5 (eE a X c _ g h1) (eE b X c _ g h2) (eE d X c _ g h3)).1
 |.call f as,X,c,x,g,h=>by
  have h:((c.gl (Str.ofString f)&&nm (Str.ofString f))&&c.fs.contains f&&c.cm&&okA as c (sub x).tail)=true:=h;rw[bAq,bAq,bAq,bAq]at h;obtain⟨⟨⟨⟨h1,h2⟩,h3⟩,h4⟩,h5⟩:=h;obtain⟨q1,_,_⟩:=O4 h2;have ha:=eA as X c _ g h5;cases as with
  |nil=>exact BX g.K (g.dfs _ h3) (g.rm h4) (g.gl h1) q1
  |cons a as=>exact FT g.K (g.dfs _ h3) (g.rm h4) (g.gl h1) q1 ha (ZL ..) (Y0 ..)
 |.make C as,X,c,x,g,h=>nomatch h
 |.meth C m o as,X,c,x,g,h=>nomatch h
 |.fld o f,X,c,x,g,h=>nomatch h
 |.bi f as,X,c,x,g,h=>by
  have h:((match BY f with
    |some T=>decide (Zh as=1)&&kinds.contains T&&c.gl "isinstance" && c.gl (Str.ofString T)
    |none=>match Dc f with
      |some Ts=>decide (Zh as=1)&&c.gl "isinstance" && !c.xs.isEmpty&&EH c Ts
      |none=>match On f with
        |some Ts=>decide (Zh as=1)&&c.gl "isinstance" && Ts.all (fun T=>kinds.contains T&&c.gl (Str.ofString T))&&decide (Ts.length≤20)
        | none=>if Y3 f then decide (Zh as=1)&&c.gl "len" && c.gl "set" && c.cm else if XM f then decide (Zh as=1)&&c.gl (Z8 f)&&c.gl (UA f)&&c.cm else if Jg f then decide (Zh as=1)&&c.gl "min" && c.cm else if ND f then decide (Zh as=1)&&c.gl "dict" && c.gl "enumerate" && c.cm else Y8 f&&c.gl (Z8 f)&&decide (Zh as≠0)&&(c.cm||Xp f))&&okA as c (NH f x))=true:=h
  rw[bAq]at h;cases z:BY f with
  |some T =>
   have h1:=h.1;rw[z]at h1;rw[bAq,bAq,bAq,decide_eq_true_eq]at h1;obtain⟨⟨⟨h1,h2⟩,h3⟩,h4⟩:=h1;cases Gk z;cases as with
   |nil=>cases h1
   |cons a as=>cases as with
    |nil =>have h5:(okE a c _&&true)=true:=h.2;rw[bAq]at h5;exact US g (List.contains_iff_mem.mp h2) h3 h4 (eE a X c _ g h5.1) (ZL ..)
    |cons b as=>exact absurd h1 (by simp[Zh])
  |none =>
   have h1:=h.1;rw[z]at h1
   replace h1:(match Dc f with
     |some Ts=>decide (Zh as=1)&&c.gl "isinstance" && !c.xs.isEmpty&&EH c Ts
     |none=>match On f with
       |some Ts=>decide (Zh as=1)&&c.gl "isinstance" && Ts.all (fun T=>kinds.contains T&&c.gl (Str.ofString T))&&decide (Ts.length≤20)
       | none=>if Y3 f then decide (Zh as=1)&&c.gl "len" && c.gl "set" && c.cm else if XM f then decide (Zh as=1)&&c.gl (Z8 f)&&c.gl (UA f)&&c.cm else if Jg f then decide (Zh as=1)&&c.gl "min" && c.cm else if ND f then decide (Zh as=1)&&c.gl "dict" && c.gl "enumerate" && c.cm else Y8 f&&c.gl (Z8 f)&&decide (Zh as≠0)&&(c.cm||Xp f))=true:=h1
   cases zx:Dc f with
   |some Ts=>cases zx
   |none =>
    rw[zx]at h1
    replace h1:(match On f with
      |some Ts=>decide (Zh as=1)&&c.gl "isinstance" && Ts.all (fun T=>kinds.contains T&&c.gl (Str.ofString T))&&decide (Ts.length≤20)
      | none=>if Y3 f then decide (Zh as=1)&&c.gl "len" && c.gl "set" && c.cm else if XM f then decide (Zh as=1)&&c.gl (Z8 f)&&c.gl (UA f)&&c.cm else if Jg f then decide (Zh as=1)&&c.gl "min" && c.cm else if ND f then decide (Zh as=1)&&c.gl "dict" && c.gl "enumerate" && c.cm else Y8 f&&c.gl (Z8 f)&&decide (Zh as≠0)&&(c.cm||Xp f))=true:=h1
    cases zl:On f with
    |some Ts =>
     rw[zl]at h1;rw[bAq,bAq,bAq,decide_eq_true_eq,decide_eq_true_eq]at h1;obtain⟨⟨⟨h1,h3⟩,h4⟩,h5⟩:=h1;obtain⟨rfl,a',b',r',rfl⟩:=Fv zl;cases as with
     |nil=>cases h1
     |cons a as=>cases as with
      |nil =>have h6:(okE a c _&&true)=true:=h.2;rw[bAq]at h6;exact Oq g h3 h4 h5 (eE a X c _ g h6.1) (ZL ..)
      |cons b as=>exact absurd h1 (by simp[Zh])
    |none =>
     rw[zl]at h1;dsimp only at h1;split at h1
     ·rename_i hls;have hf:f=.lenSet:=by cases f<;>first|rfl|cases hls
      subst hf;rw[bAq,bAq,bAq,decide_eq_true_eq]at h1;obtain⟨⟨⟨h1,h2⟩,h3⟩,h4⟩:=h1;cases as with
      |nil=>cases h1
      |cons a as=>cases as with
       |nil =>have h6:(okE a c _&&true)=true:=h.2;rw[bAq]at h6;exact O2 (g.calm h4) g.K (eE a X c _ g h6.1) (g.gl h2) (g.bl _ (by simp[blts])) (g.gl h3) (g.bl _ (by simp[blts])) (by rw[ZL];rfl)
       |cons b as=>exact absurd h1 (by simp[Zh])
     split at h1
     ·rename_i _ hls;have hf:f=.listRange:=by cases f<;>first|rfl|cases hls
      rw[bAq,bAq,bAq,decide_eq_true_eq]at h1;obtain⟨⟨⟨h1,h2⟩,h3⟩,h4⟩:=h1;cases as with
      |nil=>cases h1
      |cons a as=>cases as with
       |nil =>
        rcases hf with rfl
        ·have h6:(okE a c _&&true)=true:=h.2;rw[bAq]at h6;exact Kv (g.calm h4) (eE a X c _ g h6.1) (g.gl h2) (g.bl _ (by simp[blts])) (g.gl h3) (g.bl _ (by simp[blts,UA])) (by rw[ZL];rfl)
       |cons b as=>exact absurd h1 (by simp[Zh])
     split at h1
     ·rename_i _ _ hls;have hf:f=.minD:=by cases f<;>first|rfl|cases hls
      subst hf;rw[bAq,bAq,decide_eq_true_eq]at h1;obtain⟨⟨h1,h2⟩,h4⟩:=h1;cases as with
      |nil=>cases h1
      |cons a as=>cases as with
       |nil =>have h6:(okE a c _&&true)=true:=h.2;rw[bAq]at h6;exact Fp (g.calm h4) (by have:=g.un;omega) g.K (g.gl h2) (g.bl _ (by simp[blts])) (eE a X c _ g h6.1) (by rw[ZL];rfl)
       |cons b as=>exact absurd h1 (by simp[Zh])
     split at h1
     ·rename_i _ _ _ hls;exact absurd (show false=true from hls) (by decide)
     rw[bAq,bAq,bAq,decide_eq_true_eq]at h1;obtain⟨⟨⟨h1,h2⟩,h3⟩,h4⟩:=h1;have ha:=eA as X c _ g h.2;cases as with
     |nil=>exact absurd rfl h3
     |cons a as =>
      have e1:toX (.bi f (.cons a as)) c x=.Call (.Name (Z8 f) (kid x 0).pos) (toA (.cons a as) c (NH f x)) [] x.pos:=by cases f<;>first|(cases h1;done)|rfl
      rw[e1];exact CB g h1 h4 (g.gl h2) ha (ZL ..) (Y0 ..)
 |.bm m o as,X,c,x,g,h=>by
  have h:(decide (AQ m=some (Zh as))&&okE o c (kid (kid x 0) 0)&&KN (toX o c (kid (kid x 0) 0))&&((kid x 0).pos.endLine==x.pos.line)&&okA as c (sub x).tail)=true:=h;rw[bAq,bAq,bAq,bAq,decide_eq_true_eq]at h;obtain⟨⟨⟨⟨h1,h2⟩,h3⟩,h4⟩,h5⟩:=h;have ha:=eA as X c _ g h5;have ho:=eE o X c _ g h2;cases as with
  |nil=>exact UX g h1 ho (fun f=>WU h3 f _) h4
  |cons a as =>
   refine BC g h1 ho ha (fun f=>WU h3 f _) h4 ?_ (ZL ..) (Y0 ..);rw[bAq,bAq,decide_eq_true_eq];refine⟨⟨Kn X.env x.pos (.cons a as) c (sub x).tail,rfl⟩,?_⟩;have e2:(toA (.cons a as) c (sub x).tail).length=Zh (.cons a as):=Y1 ..;have e3:Zh (.cons a as)≤2:=by
    have:∀ m:Own.Bm,∀ k,AQ m=some k→k≤2:=by intro m k;cases m<;>intro z<;>first|(cases z;done)|(cases z;decide)
    exact this m _ h1
   show(toA (.cons a as) c (sub x).tail).length+0+0<30;omega
 |.idx a b,X,c,x,g,h=>by have h:(okE a c (kid x 0)&&okE b c (kid x 1))=true:=h;rw[bAq]at h;exact Hc (ix_seq.or (CZ (by have:=g.un;omega))) (by rw[g.K];exact He) (eE a X c _ g h.1) (eE b X c _ g h.2) (O3 _ _ _)
 |.slc a lo hi,X,c,x,g,h=>by have h:(okE a c (kid x 0)&&okO lo c (kid (kid x 1) 0)&&okO hi c (kid (kid x 1) 1))=true:=h;rw[bAq,bAq]at h;exact GB Pc (by rw[g.K];exact GV) (eE a X c _ g h.1.1) (eO lo X c _ g h.1.2) (eO hi X c _ g h.2)
 |.tup es,X,c,x,g,h=>by have h:(okA es c (sub x)&&decide (Zh es≤1000))=true:=h;rw[bAq,decide_eq_true_eq]at h;exact Gz (by rw[Y1];exact h.2) (eA es X c _ g h.1)
 |.key es,X,c,x,g,h=>by have h:(okA es c (sub x)&&decide (Zh es≤1000))=true:=h;rw[bAq,decide_eq_true_eq]at h;exact HI (by rw[Y1];exact h.2) (eA es X c _ g h.1)
 |.dctP,X,c,x,g,h=>ED
 |.lst es,X,c,x,g,h=>by have h:(okA es c (sub x)&&decide (Zh es≤1000))=true:=h;rw[bAq,decide_eq_true_eq]at h;exact Io (by rw[Y1];exact h.2) (eA es X c _ g h.1)
 |.dct es,X,c,x,g,h=>by
  have h:(okA es c (sub x)&&Wt es&&decide (esL es≤30))=true:=h;rw[bAq,bAq,decide_eq_true_eq]at h;obtain⟨⟨h1,h2⟩,h3⟩:=h;have hp:=eD es X c (sub x) x.pos g h1 h2;cases es with
  |nil=>exact Ez
  |cons k r=>cases r with
   |nil=>cases h2
   |cons v r =>obtain⟨q1,q2,q3⟩:=J0 c (.cons k (.cons v r)) (sub x) h2;refine Hl h2 h3 hp q1 q2 (by intro z;cases z) (by rw[←q3]at h3;omega)
 |.ife t a b,X,c,x,g,h=>by have h:(okT t c (kid x 0)&&okE a c (kid x 1)&&okE b c (kid x 2))=true:=h;rw[bAq,bAq]at h;exact Hv (eT t X c _ g h.1.1).1 (eE a X c _ g h.1.2) (eE b X c _ g h.2)
 |.comp caps m p it t e,X,c,x,g,h=>by
  have h:((Mq m p&&(Yi (kid x 1)).length == m)&&c.cm&&Yc (scp x) c.sc c.N (Yi (kid x 1)) caps&&(scp x).kind == .function&&okI it c (kid x 2) (!ZM p)&&okE e (c.blk (scp x) (Yi (kid x 1)) caps) (kid x 0)&&(Ny t||okT t (c.blk (scp x) (Yi (kid x 1)) caps) (kid x 3)))=true:=h;rw[bAq,bAq,bAq,bAq,bAq,bAq]at h;obtain⟨⟨⟨⟨⟨⟨h1,h2⟩,h3⟩,h4⟩,h5⟩,h6⟩,h7⟩:=h;rw[bAq,beq_iff_eq]at h1;obtain⟨h1,rfl⟩:=h1;have hk:=eq_of_beq h4;obtain⟨t1,t2⟩:=Mm (c:=c.blk (scp x) (Yi (kid x 1)) caps) p (kid x 1);obtain⟨a1,a2⟩:=eI it X c (kid x 2) (toP p (c.blk (scp x) (Yi (kid x 1)) caps) (kid x 1)) g (!ZM p) t1 t2 h5;exact(W7 g h2 h3 hk h1 a1 a2 (g.pt h2 h3 hk h1 _)
    (fun cl C s H ex=>pe0 (eE e _ _ _ (g.blk h3 hk cl C s H ex) h6)) (fun cl C s H ex=>GJ fun z=>(eT t _ _ _ (g.blk h3 hk cl C s H ex) (by rw[z]at h7;exact h7)).1)).1
 |.fstr es,X,c,x,g,h=>nomatch h
 |.repl _ _ _,X,c,x,g,h=>nomatch h
 |.split o a,X,c,x,g,h=>nomatch h
 |.rev a,X,c,x,g,h=>nomatch h
theorem eD:∀ (es:Own.Es) (X:Cx) (c:Md) (xs:List Expr) (pos:Pos),Gd X i P n c→okA es c xs=true→Wt es=true→PPs X pos (Xk (toA es c xs)) (Bs (toA es c xs)) (Nd X i (Own.wF P n) es)
 |.nil,X,c,xs,pos,g,h,he=>CQ
 |.cons k .nil,X,c,xs,pos,g,h,he=>by cases he
 |.cons k (.cons v r),X,c,xs,pos,g,h,he=>by have h:(okE k c (xs.headD dE)&&(okE v c (xs.tail.headD dE)&&okA r c xs.tail.tail))=true:=h;rw[bAq,bAq]at h;exact U8 (eE k X c _ g h.1) (eE v X c _ g h.2.1) (eD r X c _ pos g h.2.2 he)
theorem eA:∀ (ms:Own.Es) (X:Cx) (c:Md) (xs:List Expr),Gd X i P n c→okA ms c xs=true→PA X (toA ms c xs) (tAr X i (Own.wF P n) ms (toA ms c xs).length)
 |.nil,X,c,xs,g,h=>D3
 |.cons a as,X,c,xs,g,h=>by have h:(okE a c (xs.headD dE)&&okA as c xs.tail)=true:=h;rw[bAq]at h;exact Cu (eE a X c _ g h.1) (eA as X c _ g h.2) (ZL ..)
theorem eJ:∀ (ms:Own.Es) (X:Cx) (c:Md) (xs:List Expr),Gd X i P n c→okJ ms c xs=true→PJ X (toJ ms c xs) (tJs X i (Own.wF P n) ms)
 |.nil,X,c,xs,g,h=>EF
 |.cons a as,X,c,xs,g,h=>by
  have h:((N2 a||okE a c (kid (xs.headD dE) 0))&&okJ as c xs.tail)=true:=h;rw[bAq]at h;have hr:=eJ as X c _ g h.2;show PJ X ((if N2 a then toX a c (xs.headD dE)else .FormattedValue (toX a c (kid (xs.headD dE) 0)) (-1) none (xs.headD dE).pos)::toJ as c xs.tail) _;cases z:N2 a with
  |true =>obtain⟨s,rfl⟩:=L3 z;exact NM Fd hr rfl
  |false =>rw[z]at h;exact NM (Gm (eE a X c _ g h.1)) hr rfl
theorem eO:∀ (m:Own.Oe) (X:Cx) (c:Md) (x:Expr),Gd X i P n c→okO m c x=true→PO X (toO m c x) (tOx X i (Own.wF P n) m)
 |.none,X,c,x,g,h=>Dj
 |.some e,X,c,x,g,h=>CO (eE e X c _ g h)
theorem eT:∀ (m:Own.Tt) (X:Cx) (c:Md) (x:Expr),Gd X i P n c→okT m c x=true→PT X (toT m c x) (tTt X i (Own.wF P n) m)∧((Zv m||ZI m)=true→PW X (toT m c x) (tTt X i (Own.wF P n) m))
 |.yes,X,c,x,g,h=>nomatch h
 |.val e,X,c,x,g,h=>by
  refine⟨?_,fun z=>(by cases z)⟩;have h:(okE e c x&&(MA e||Iw e))=true:=h;rw[bAq]at h;have he:=eE e X c x g h.1;cases z:MA e with
  |true=>exact Fy he (by cases e<;>first|(cases z;done)|exact fun _=>rfl) g.K
  |false =>
   have h2:=h.2;rw[z]at h2;cases e with
   |cmp o a b =>have h:(okE a c (kid x 0)&&okE b c (kid x 1)&&(!Xj o||Kh b))=true:=h.1;rw[bAq,bAq]at h;exact(Ki g h.2 (eE a X c _ g h.1.1) (eE b X c _ g h.1.2)).2
   |chain o1 o2 a b d =>have h:(okE a c (kid x 0)&&okE b c (kid x 1)&&okE d c (kid x 2) && !Xj o1 && !Xj o2)=true:=h.1;rw[bAq,bAq,bAq,bAq,Bool.not_eq_true',Bool.not_eq_true']at h;obtain⟨⟨⟨⟨h1,h2⟩,h3⟩,h4⟩,h5⟩:=h;exact(X9 g h4 h5 (eE a X c _ g h1) (eE b X c _ g h2) (eE d X c _ g h3)).2
   |_=>cases h2
 |.not t,X,c,x,g,h=>⟨FK (eT t X c _ g h).1,fun z=>(by cases z)⟩
 |.and a b,X,c,x,g,h=>by
  have h:(okT a c (kid x 0)&&okT b c (rest (Zv b) x)&&(!Zv b||(rest (Zv b) x).pos==x.pos))=true:=h;rw[bAq,bAq]at h;have h2:=eT b X c _ g h.1.2;obtain⟨y,ys,e,h3⟩:=OB h.2 h2.1 h2.2;have h4:PW X (toT (.and a b) c x) (tTt X i (Own.wF P n) (.and a b)):=by show PW X (.BoolOp .And (toT a c (kid x 0)::YV (Zv b) (toT b c (rest (Zv b) x))) x.pos) _;rw[e];exact EN (eT a X c _ g h.1.1).1 h3
  exact⟨h4.pt,fun _=>h4⟩
 |.or a b,X,c,x,g,h=>by
  have h:(okT a c (kid x 0)&&okT b c (rest (ZI b) x)&&(!ZI b||(rest (ZI b) x).pos==x.pos))=true:=h;rw[bAq,bAq]at h;have h2:=eT b X c _ g h.1.2;obtain⟨y,ys,e,h3⟩:=Uw h.2 h2.1 h2.2;have h4:PW X (toT (.or a b) c x) (tTt X i (Own.wF P n) (.or a b)):=by show PW X (.BoolOp .Or (toT a c (kid x 0)::YV (ZI b) (toT b c (rest (ZI b) x))) x.pos) _;rw[e];exact HC (eT a X c _ g h.1.1).1 h3
  exact⟨h4.pt,fun _=>h4⟩
theorem eI:∀ (m:Own.It) (X:Cx) (c:Md) (x tg:Expr),Gd X i P n c→∀ (b:Bool),(b=true→∃ es k p,tg=.Tuple es k p)→(b=false→∃ y p,tg=.Name y p)→okI m c x b=true→PI X tg (toI m c x) (tIt X i (Own.wF P n) m)∧∀ y,foldedSetIterable (toI m c x) X.env y=pure y
 |.seq e,X,c,x,tg,g,b,t1,t2,h=>⟨EV g.K (eE e X c _ g h),Gc _ _ _ _⟩
 |.chars e,X,c,x,tg,g,b,t1,t2,h=>nomatch h
 |.range a,X,c,x,tg,g,b,t1,t2,h=>by have h:(c.gl "range" && okE a c (kid x 1))=true:=h;rw[bAq]at h;exact⟨A4 (g.gl h.1) (g.bl _ (by simp[blts])) (eE a X c _ g h.2) (ZL ..),fun _=>rfl⟩
 |.range2 a d,X,c,x,tg,g,b,t1,t2,h=>nomatch h
 |.zip a d,X,c,x,tg,g,b,t1,t2,h=>nomatch h
 |.enum e,X,c,x,tg,g,b,t1,t2,h=>by have h:(b&&c.gl "enumerate" && okE e c (kid x 1))=true:=h;rw[bAq,bAq]at h;obtain⟨es,k,p,rfl⟩:=t1 h.1.1;exact⟨CP g.K (g.gl h.1.2) (g.bl _ (by simp[blts])) (eE e X c _ g h.2) (by rw[ZL];rfl),fun _=>rfl⟩
 |.items e,X,c,x,tg,g,b,t1,t2,h=>nomatch h
 |.rev e,_,_,_,_,_,_,_,_,h=>nomatch h
end
theorem N9{X:Cx}{c:Md}(g:Gd X i P n c){caps:List Nat}{m:Nat}{p:Own.Pt}{it:Own.It}{t:Own.Tt}{e:Own.E}{x:Expr}(h:okE (.comp caps m p it t e) c x=true) :
  PE X (toX (.comp caps m p it t e) c x) (tE X i (Own.wF P n) (.comp caps m p it t e))∧
   ∀ (y:Str) (py spos:Pos) (j:Nat),X.N[j]?=some y→L2.Loc X.env.scope y→(X.fn y=true∨X.env.scope.names.lookup y=some .local)→swapsWith (toX (.comp caps m p it t e) c x) (some (.Name y py)) spos.line X.env=pure true→PS X (.Assign [.Name y py] (toX (.comp caps m p it t e) c x) spos) (tSt X i (Own.wF P n) (.set (.one j) (.comp caps m p it t e))):=by
 have h:((Mq m p&&(Yi (kid x 1)).length==m)&&c.cm&&Yc (scp x) c.sc c.N (Yi (kid x 1)) caps&&(scp x).kind == .function&&okI it c (kid x 2) (!ZM p)&&okE e (c.blk (scp x) (Yi (kid x 1)) caps) (kid x 0)&&(Ny t||okT t (c.blk (scp x) (Yi (kid x 1)) caps) (kid x 3)))=true:=h;rw[bAq,bAq,bAq,bAq,bAq,bAq]at h;obtain⟨⟨⟨⟨⟨⟨h1,h2⟩,h3⟩,h4⟩,h5⟩,h6⟩,h7⟩:=h;rw[bAq,beq_iff_eq]at h1;obtain⟨h1,rfl⟩:=h1;have hk:=eq_of_beq h4;obtain⟨t1,t2⟩:=Mm (c:=c.blk (scp x) (Yi (kid x 1)) caps) p (kid x 1);obtain⟨a1,a2⟩:=eI it X c (kid x 2) (toP p (c.blk (scp x) (Yi (kid x 1)) caps) (kid x 1)) g (!ZM p) t1 t2 h5;exact W7 g h2 h3 hk h1 a1 a2 (g.pt h2 h3 hk h1 _)
  (fun cl C s H ex=>pe0 (eE e _ _ _ (g.blk h3 hk cl C s H ex) h6)) (fun cl C s H ex=>GJ fun z=>(eT t _ _ _ (g.blk h3 hk cl C s H ex) (by rw[z]at h7;exact h7)).1)
noncomputable def dS:Stmt:=.Pass ⟨0,0,0,0⟩
noncomputable def stE:Stmt→List Expr
 |.Assign ts v _=>v::ts
 |.AugAssign t _ v _=>[v,t]
 |.For t it _ _ _=>[t,it]
 |.While t _ _ _=>[t]
 |.If t _ _ _=>[t]
 |.Expr e _=>[e]
 |.Return (some e) _=>[e]
 |.Raise (some e) _ _=>[e]
 |_=>[]
noncomputable def ke (s:Stmt) (j:Nat):Expr:=(stE s).getD j dE
noncomputable def stB:Stmt→List Stmt
 |.For _ _ b _ _=>b
 |.While _ b _ _=>b
 |.If _ b _ _=>b
 |.Try b _ _ _ _=>b
 |_=>[]
noncomputable def stO:Stmt→List Stmt
 |.If _ _ b _=>b
 |_=>[]
noncomputable def stH:Stmt→List ExceptHandler
 |.Try _ hs _ _ _=>hs
 |_=>[]
noncomputable def dH:ExceptHandler:=.ExceptHandler none none [] ⟨0,0,0,0⟩
noncomputable def hT:ExceptHandler→Expr
 |.ExceptHandler (some e) _ _ _=>e
 |_=>dE
noncomputable def hB:ExceptHandler→List Stmt
 |.ExceptHandler _ _ b _=>b
noncomputable def hP:ExceptHandler→Pos
 |.ExceptHandler _ _ _ p=>p
noncomputable def Md.hot (c:Md):Md:={c with cm:=false}
noncomputable def Ll (t:Option Nat) (e:Own.E) (c:Md) (y:Stmt):Stmt:=match t with
 |none=>.Expr (toX e c (ke y 0)) y.pos
 |some j=>.Assign [.Name (c.nmOf j) (ke y 1).pos] (toX e c (ke y 0)) y.pos
mutual
noncomputable def toS:Own.S→Md→Stmt→Stmt
 |.set p a,c,s=>.Assign [toP p c (ke s 1)] (toX a c (ke s 0)) s.pos
 |.setIdx a j e,c,s=>.Assign [.Subscript (toX a c (kid (ke s 1) 0)) (toX j c (kid (ke s 1) 1)) (ke s 1).pos] (toX e c (ke s 0)) s.pos
 |.setPair a i b j e,c,s=>.Assign [.Tuple [.Subscript (toX a c (kid (kid (ke s 1) 0) 0)) (toX i c (kid (kid (ke s 1) 0) 1)) (kid (ke s 1) 0).pos,.Subscript (toX b c (kid (kid (ke s 1) 1) 0)) (toX j c (kid (kid (ke s 1) 1) 1)) (kid (ke s 1) 1).pos] (num (ke s 1)) (ke s 1).pos] (toX e c (ke s 0)) s.pos
 |.setFld o f e,c,s=>.Assign [.Attribute (toX o c (kid (ke s 1) 0)) (Str.ofString f) (ke s 1).pos] (toX e c (ke s 0)) s.pos
 |.augVar j op e,c,s=>.AugAssign (.Name (c.nmOf j) (ke s 1).pos) (AH op) (toX e c (ke s 0)) s.pos
 |.augFld o f op n,c,s=>.AugAssign (.Attribute (toX o c (kid (ke s 1) 0)) (Str.ofString f) (ke s 1).pos) (AH op) (.Constant (.int n) (num (ke s 0)) (ke s 0).pos) s.pos
 |.augIdx a j op n,c,s=>.AugAssign (.Subscript (toX a c (kid (ke s 1) 0)) (toX j c (kid (ke s 1) 1)) (ke s 1).pos) (AH op) (.Constant (.int n) (num (ke s 0)) (ke s 0).pos) s.pos
 |.expr e,c,s=>.Expr (toX e c (ke s 0)) s.pos
 |.ret e,c,s=>.Return (some (toX e c (ke s 0))) s.pos
 |.retN,_,s=>.Return none s.pos
 |.ite t a b,c,s=>.If (toT t c (ke s 0)) (toSs a c (stB s)) (toSs b c (stO s)) s.pos
 |.whl t b,c,s=>.While (toT t c (ke s 0)) (toSs b c (stB s)) [] s.pos
 |.for p it b,c,s=>.For (toP p c (ke s 0)) (toI it c (ke s 1)) (toSs b c (stB s)) [] s.pos
 |.forI true p e b,c,s=>.For (toP p c (ke s 0)) (toX e c (ke s 1)) (toSs b c (stB s)) [] s.pos
 |.forI false p e b,c,s=>.For (toP p c (ke s 0)) (.Call (.Attribute (toX e c (kid (kid (ke s 1) 0) 0)) "items" (kid (ke s 1) 0).pos) [] [] (ke s 1).pos) (toSs b c (stB s)) [] s.pos
 |.brk,_,s=>.Break s.pos
 |.cnt,_,s=>.Continue s.pos
 |.pass,_,s=>.Pass s.pos
 |.raise C as,c,s=>.Raise (some (.Call (.Name (Str.ofString C) (kid (ke s 0) 0).pos) (toA as c (sub (ke s 0)).tail) [] (ke s 0).pos)) none s.pos
 |.try t e hs,c,s=>.Try [Ll t e c ((stB s).headD dS)] (toH hs c (stH s)) [] [] s.pos
 |_,_,s=>s
noncomputable def toH:Own.Hn→Md→List ExceptHandler→List ExceptHandler
 |.nil,_,_=>[]
 |.cons K nm b r,c,xs=>.ExceptHandler (some (.Name (Str.ofString K) (hT (xs.headD dH)).pos)) (nm.map c.nmOf) (toSs b c.hot (hB (xs.headD dH))) (hP (xs.headD dH))::toH r c xs.tail
noncomputable def toSs:Own.Ss→Md→List Stmt→List Stmt
 |.nil,_,_=>[]
 |.cons m ms,c,xs=>toS m c (xs.headD dS)::toSs ms c xs.tail
end
noncomputable def KD (c:Md) (j:Nat):Bool:=decide (j<c.N.length)&&c.loc (c.nmOf j)
noncomputable def okP (p:Own.Pt) (c:Md):Bool:=match p with
 |.one j=>KD c j
 |.many js=>js.all (KD c)
 |.nest j js=>KD c j&&js.all (KD c)
noncomputable def UK:Own.E→Bool
 |.tup _=>true
 |.key _=>true
 |_=>false
noncomputable def MK:Own.E→Bool
 |.comp _ _ _ _ _ _=>true
 |_=>false
noncomputable def swT (c:Md) (tg v:Expr):Bool:=match v,tg with
 |.ListComp _ _ s pos,.Name t p=>(if c.sc.kind.isAnnotationScope then ScopeKind.function else c.sc.kind) == .function&&c.sc.names.lookup t==some .local&&p.line==pos.line && !(s.names.any fun(n,k)=>n==t&&(k == .local||k == .cell))
 |_,_=>false
noncomputable def L1 (c:Md) (j:Nat):Bool:=decide (j<c.N.length)&&c.sc.names.lookup (c.nmOf j)==some .local
noncomputable def LH (c:Md):Option Nat→Bool
 |none=>true
 |some j=>L1 c j
noncomputable def Ic:Own.Ss→Bool
 |.nil=>false
 |_=>true
noncomputable def HR:Own.Hn→Bool
 |.nil=>true
 |_=>false
mutual
noncomputable def okS:Own.S→Md→Stmt→Bool
 |.set p a,c,s=>okP p c&&okE a c (ke s 0)&&(ZM p || !UK a)&&(ZM p||c.cm)
 |.setIdx a j e,c,s=>okE e c (ke s 0)&&okE a c (kid (ke s 1) 0)&&okE j c (kid (ke s 1) 1)
 |.expr e,c,s=>okE e c (ke s 0) && !MK e
 |.ret e,c,s=>okE e c (ke s 0)
 |.ite t a b,c,s=>okT t c (ke s 0)&&okSs a c (stB s)&&okSs b c (stO s)
 |.whl t b,c,s=>okT t c (ke s 0)&&okSs b c (stB s)&&c.cm
 |.for p it b,c,s=>okP p c&&okI it c (ke s 1) (!ZM p)&&okSs b c (stB s)&&c.cm
 |.never,_,_=>true
 |_,_,_=>false
noncomputable def okH:Own.Hn→Md→List ExceptHandler→Bool
 |.nil,_,_=>false
 |.cons K nm b r,c,xs=>(c.xs.contains K||K == "ShutError")&&c.gn K && !c.xs.isEmpty&&LH c nm&&Ic b&&okSs b c.hot (hB (xs.headD dH))&&HR r
noncomputable def okSs:Own.Ss→Md→List Stmt→Bool
 |.nil,_,_=>true
 |.cons m ms,c,xs=>okS m c (xs.headD dS)&&okSs ms c xs.tail
end
structure Gs (X:Cx) (i:Inf) (P:Own.Pg) (n:Nat) (c:Md):Prop extends Gd X i P n c where
 fn:∀ x,c.loc x=true→X.fn x=true∨X.env.scope.names.lookup x=some .local
 own:c.cm=true→PassesOwn (model X.prog X.w) X.A X.env X.xe
 stk:c.cm=true→X.stack=X.env::X.outer
variable {X:Cx}{i:Inf}{P:Own.Pg}{n:Nat}{c:Md}
theorem Gs.nm1(g:Gs X i P n c){j:Nat}(h:KD c j=true):X.N[j]?=some (c.nmOf j)∧L2.Loc X.env.scope (c.nmOf j)∧(X.fn (c.nmOf j)=true∨X.env.scope.names.lookup (c.nmOf j)=some .local):=by unfold KD at h;rw[bAq,decide_eq_true_eq]at h;exact⟨U1 g.N h.1,g.loc h.2,g.fn _ h.2⟩
theorem HG(g:Gs X i P n c){p:Own.Pt}(h:okP p c=true):DT (UB X c) p:=by
 cases p with
 |one j=>exact g.nm1 h
 |many js=>exact fun j hj=>g.nm1 (List.all_eq_true.mp h j hj)
 |nest j js =>have h:(KD c j&&js.all (KD c))=true:=h;rw[bAq]at h;exact⟨g.nm1 h.1,fun k hk=>g.nm1 (List.all_eq_true.mp h.2 k hk)⟩
theorem DU(g:Gs X i P n c)(hcm:c.cm=true){p:Own.Pt}{x:Expr}(h:okP p c=true):PG X (toP p c x) (gPt i p):=Dt g.K (by rw[g.N];exact g.nd) (g.calm hcm) (HG g h)
theorem JC{l:Nat}{env:Env}{tg:Expr}(a:Own.E)(x:Expr)(hs:env.scope=c.sc):swapsWith (toX a c x) (some tg) l env=pure (swT c tg (toX a c x)):=by
 cases a with
 |comp caps m p it t e =>
  cases tg with
  |Name t q =>unfold swapsWith swT Env.blockKind Env.kindOf;rw[hs];rfl
  |_=>rfl
 |_=>rfl
theorem Fh(p:Own.Pt)(a:Own.E)(x y:Expr)(env:Env)(h:(ZM p || !UK a)=true):swappedStores [toP p c x] (toX a c y) env=pure none:=by
 cases p with
 |one j=>cases a<;>rfl
 |many js=>cases a<;>first|rfl|cases h
 |nest j js=>cases a<;>first|rfl|cases h
theorem U7(p:Own.Pt)(x:Expr)(env:Env):(assignEach [toP p c x] env).map (·.2)=[assign (toP p c x) env]:=by cases p<;>rfl
theorem Ft{a:Own.E}{tg x:Expr}(h:swT c tg (toX a c x)=true):∃ caps m p it t e,a=.comp caps m p it t e:=by
 cases a with
 |comp caps m p it t e=>exact⟨_,_,_,_,_,_,rfl⟩
 |_=>cases h
theorem CU(y:Own.E){x b:Expr}{pos:Pos}{env:Env}:∀ v,assign (.Subscript b (toX y c x) pos) env v=(do
    let ov←holding [v] (eval b env)
    let iv←holding [v,ov] (eval (toX y c x) env)
    standAt pos
    holding [v,ov,iv] (setItem ov iv v)
    release [v,ov,iv] []):=by
 intro v;cases y<;>rfl
theorem PGet.or{r r':R2}(h:PGet X r)(h':PGet X r'):PGet X (fun x y H Q=>r x y H Q∨r' x y H Q):=fun pins s σ H o j ov jv Q I ro rj q=>by
 rcases q with q|q
 ·exact h pins s σ H o j ov jv Q I ro rj q
 ·exact h' pins s σ H o j ov jv Q I ro rj q
theorem BB(t v:Expr)(p:Pos)(env:Env)(h:(∃ a b q,t=.Subscript a b q)∨(∃ a b q,t=.Attribute a b q)):swappedStores [t] v env=pure none:=by rcases h with⟨a,b,q,rfl⟩|⟨a,b,q,rfl⟩<;>rfl
theorem B7{a:Own.E}{x:Expr}{t:Option Expr}{l:Nat}{env:Env}(h:(!MK a)=true):swapsWith (toX a c x) t l env=pure false:=by
 cases a with
 |comp caps m p it tt e=>cases h
 |_=>rfl
theorem Ge{a:Own.E}{tg x:Expr}(h:∀ y q,tg≠.Name y q):swT c tg (toX a c x)=false:=by
 cases a with
 |comp caps m p it tt e =>
  cases tg with
  |Name y q=>exact absurd rfl (h y q)
  |_=>rfl
 |_=>rfl
theorem ET(g:Gs X i P n c){p:Own.Pt}{x:Expr}(hc:(ZM p||c.cm)=true)(h:okP p c=true):PG X (toP p c x) (gPt i p):=by
 by_cases hcm:c.cm=true
 ·exact DU g hcm h
 ·cases p with
  |one j =>obtain⟨h1,h2,h3⟩:=g.nm1 h;exact K3 (by rw[g.N];exact g.nd) h1 h2 h3
  |many js=>exact absurd hc hcm
  |nest j js=>exact absurd hc hcm
theorem Gd.nox(g:Gd X i P n c):Gd X.nox i P n c :=
 ⟨g.K,g.N,g.sc,g.nd,g.un,g.calm,g.room,g.bl,g.dfs,g.cst,⟨g.kl.A,g.kl.F,g.kl.mkc,g.kl.mth⟩,fun h=>⟨(g.xl h).xc,(g.xl h).rs,(g.xl h).kn⟩⟩
theorem Gs.hot(g:Gs X i P n c)(a:Addr):Gs (X.caught a) i P n c.hot :=
 {K:=g.K,N:=g.N,sc:=g.sc,nd:=g.nd,un:=g.un,calm:=fun z=>(by cases z),room:=fun z=>(by cases z),bl:=g.bl,dfs:=g.dfs,cst:=g.cst,kl:=⟨g.kl.A,g.kl.F,g.kl.mkc,g.kl.mth⟩,xl:=fun h=>⟨(g.xl h).xc,(g.xl h).rs,(g.xl h).kn⟩,fn:=g.fn,own:=fun z=>(by cases z),stk:=fun z=>(by cases z)}
mutual
theorem sS:∀ (m:Own.S) (X:Cx) (c:Md) (s:Stmt),Gs X i P n c→okS m c s=true→PS X (toS m c s) (tSt X i (Own.wF P n) m)
 |.set p a,X,c,s,g,h=>by
  have h:(okP p c&&okE a c (ke s 0)&&(ZM p || !UK a)&&(ZM p||c.cm))=true:=h;rw[bAq,bAq,bAq]at h;obtain⟨⟨⟨h1,h2⟩,h3⟩,h4⟩:=h;by_cases hsw:swT c (toP p c (ke s 1)) (toX a c (ke s 0))=true
  ·obtain⟨caps,k,pt,it,tt,e,rfl⟩:=Ft hsw;cases p with
   |one j =>obtain⟨q1,q2,q3⟩:=g.nm1 h1;exact(N9 g.toGd h2).2 _ _ _ j q1 q2 q3 (by rw[←hsw];exact JC (c:=c) (.comp caps k pt it tt e) (ke s 0) g.sc)
   |many js=>cases hsw
   |nest j js=>cases hsw
  ·have hp:PG X (toP p c (ke s 1)) (gPt i p):=ET g h4 h1;exact Go (eE a X c _ g.toGd h2) hp (by rw[swapsWithSole,JC a _ g.sc,Bool.eq_false_iff.mpr hsw]) (Fh p a _ _ _ h3) (U7 p _ _)
 |.setIdx a j e,X,c,s,g,h=>by have h:(okE e c (ke s 0)&&okE a c (kid (ke s 1) 0)&&okE j c (kid (ke s 1) 1))=true:=h;rw[bAq,bAq]at h;have ha:=eE a X c _ g.toGd h.1.2;have hj:=eE j X c _ g.toGd h.2;exact NY g.K (eE e X c _ g.toGd h.1.1) ha hj (FV ha hj (PSet.or Bb (Ay (by have:=g.un;omega))) (CU j)) (by rw[swapsWithSole,JC e _ g.sc,Ge (fun y q z=>(by cases z))]) (BB _ _ (ke s 1).pos _ (.inl ⟨_,_,_,rfl⟩)) rfl
 |.setPair a j b k e,X,c,s,g,h=>nomatch h
 |.setFld o f e,X,c,s,g,h=>nomatch h
 |.augVar j op e,X,c,s,g,h=>nomatch h
 |.augFld o f op k,X,c,s,g,h=>nomatch h
 |.expr e,X,c,s,g,h=>by have h:(okE e c (ke s 0) && !MK e)=true:=h;rw[bAq]at h;exact BV (eE e X c _ g.toGd h.1) (B7 h.2)
 |.ret e,X,c,s,g,h=>D1 (eE e X c _ g.toGd h)
 |.retN,X,c,s,g,h=>nomatch h
 |.ite t a b,X,c,s,g,h=>by have h:(okT t c (ke s 0)&&okSs a c (stB s)&&okSs b c (stO s))=true:=h;rw[bAq,bAq]at h;exact FM (eT t X c _ g.toGd h.1.1).1 (sSs a X c _ g h.1.2) (sSs b X c _ g h.2)
 |.whl t b,X,c,s,g,h=>by have h:(okT t c (ke s 0)&&okSs b c (stB s)&&c.cm)=true:=h;rw[bAq,bAq]at h;exact Ev (g.own h.2) (eT t X c _ g.toGd h.1.1).1 (sSs b X c _ g h.1.2)
 |.for p it b,X,c,s,g,h=>by have h:(okP p c&&okI it c (ke s 1) (!ZM p)&&okSs b c (stB s)&&c.cm)=true:=h;rw[bAq,bAq,bAq]at h;obtain⟨⟨⟨h1,h2⟩,h3⟩,h4⟩:=h;obtain⟨t1,t2⟩:=Mm (c:=c) p (ke s 0);obtain⟨a1,a2⟩:=eI it X c (ke s 1) (toP p c (ke s 0)) g.toGd (!ZM p) t1 t2 h2;exact Fi (g.own h4) (g.calm h4) a1 (DU g h4 h1) (sSs b X c _ g h3) a2
 |.forI true p e b,X,c,s,g,h=>nomatch h
 |.forI false p e b,X,c,s,g,h=>nomatch h
 |.never,X,c,s,g,h=>Av
 |.brk,X,c,s,g,h=>nomatch h
 |.cnt,X,c,s,g,h=>nomatch h
 |.pass,X,c,s,g,h=>nomatch h
 |.raise C as,X,c,s,g,h=>nomatch h
 |.try t e (.cons K nm b .nil),X,c,s,g,h=>nomatch h
 |.try t e (.cons K nm b (.cons _ _ _ _)),X,c,s,g,h=>nomatch h
 |.try t e .nil,X,c,s,g,h=>nomatch h
 |.augIdx a j op k,X,c,s,g,h=>nomatch h
theorem sSs:∀ (ms:Own.Ss) (X:Cx) (c:Md) (xs:List Stmt),Gs X i P n c→okSs ms c xs=true→PSs X (toSs ms c xs) (tBl X i (Own.wF P n) ms)
 |.nil,X,c,xs,g,h=>Ga
 |.cons m ms,X,c,xs,g,h=>by have h:(okS m c (xs.headD dS)&&okSs ms c xs.tail)=true:=h;rw[bAq]at h;exact CN (sS m X c _ g h.1) (sSs ms X c _ g h.2)
end
noncomputable def K6 (N ps:List Str) (sc:Scope):Bool :=
 sc.kind == .function && !sc.isCoroutine && !sc.isGenerator&&decide N.Nodup&&(N.take ps.length==ps)&&ps.all (fun x=>sc.names.lookup x==some .local||sc.names.lookup x==some .cell)&&sc.names.all fun y=>y.2 != .free
theorem Ii{N ps:List Str}{sc:Scope}(h:K6 N ps sc=true):FnScope N ps sc:=by
 simp only[K6,bAq,Bool.not_eq_true',decide_eq_true_eq,List.all_eq_true]at h;obtain⟨⟨⟨⟨⟨⟨h1,h2⟩,h3⟩,h4⟩,h5⟩,h6⟩,h7⟩:=h;refine⟨eq_of_beq h1,h2,h3,h4,eq_of_beq h5,fun x hx=>?_,fun y hy=>?_⟩
 ·simpa using h6 x hx
 ·simpa using h7 y hy
structure Ds where
 st:Stmt
 N:List Str
 ps:List Str
 d:Own.Fn
structure Mt where
 C:String
 m:String
 qual:String
 x:Ds
structure Tb where
 fs:List (String×Ds)
 ms:List Mt
 cs:List (String×Own.Val)
 cl:List String
 fl:List String
 xs:List String
noncomputable def Tb.md (T:Tb) (x:Ds):Md:={N:=x.N,sc:=Zo x.st,cs:=T.cs,fs:=T.fs.map (·.1),cm:=true,cl:=T.cl,ms:=T.ms.map fun y=>(y.C,y.m),fl:=T.fl,xs:=T.xs}
noncomputable def Ds.test (T:Tb) (x:Ds):Bool :=
 K6 x.N x.ps (Zo x.st)&&okSs x.d.body (T.md x) (ZR x.st)&&x.ps.length==x.d.ar&&x.N.length==x.d.sz&&decide (x.d.ar≤x.d.sz)
structure Ds.Ok (T:Tb) (x:Ds):Prop where
 ok:x.test T=true
 eq:toSs x.d.body (T.md x) (ZR x.st)=ZR x.st
variable {pr:Program}{wd:World}{mg:Str→Option Value}{base:Heap}{i:Inf}{P:Own.Pg}{T:Tb}
def Dst (K:PySem.W.Frag) (mg:Str→Option Value) (f:String) (x:Ds):Prop:=∃ fa fd qual,Fun K (Str.ofString f) qual x.st fa fd∧mg (Str.ofString f)=some (.ref fa)∧Binds K fd x.ps []
structure Mst (i:Inf) (mg:Str→Option Value) (y:Mt) (a fa:Addr):Prop where
 cl:mg (Str.ofString y.C)=some (.ref a)
 fn:∃ fd,Fun i.K (Str.ofString y.m) (Str.ofString y.qual) y.x.st fa fd∧Binds i.K fd y.x.ps []
 at_:Meth i.K a (Str.ofString y.m) fa
theorem M8{f:String}{fa:Addr}{fd:FuncData}{ps:List Str}:FnOk pr wd i.K mg base (CX1 pr wd) 0 fa fd ps (spF i P 0 f):=by
 refine⟨fun vs H Q E h=>?_,fun A outer s H args us vs Q E hr he hb hv h=>?_⟩
 ·obtain⟨_,_,_,_,_,_,w,_⟩:=h;rw[Own.wF_eq]at w;exact w.elim
 ·obtain⟨_,_,_,_,_,_,w,_⟩:=h;rw[Own.wF_eq]at w;exact w.elim
theorem Bt{n:Nat}{f:String}{vs:List Own.Val}{h:Own.Hs}{Q:Own.Q1}{E:Own.XQ}(q:Own.wF P (n+1) f vs h Q E):∃ d,P f=some d∧vs.length=d.ar∧Own.wSs (Own.wF P n) d.body (d.env vs) h (fun _ g=>Q .non g) Q (fun _ _=>False) (fun _ _=>False) fun _ c g=>E c g:=by rw[Own.wF_eq]at q;obtain⟨d,e,q1,q2⟩:=go_some q;exact⟨d,e,q1,by rw[Own.wF_eq];exact q2⟩
structure Modu (mg:Str→Option Value) (base:Heap) (i:Inf) (T:Tb):Prop where
 bl:∀ x∈blts,mg x=none
 cst:∀ x v,T.cs.lookup x=some v→∃ u y,mg (Str.ofString x)=some u∧RelV y u∧∀ H,RV i.K H v y
 A:ClsA i
 F:∀ f,T.fl.contains f=true→FldOk i f
 cl:∀ C a,i.cl C a→mg (Str.ofString C)=some (.ref a)
 mkc:∀ C,T.cl.contains C=true→∃ a y f,i.ins C=true∧i.cl C a∧Mk i.K a f∧y∈T.ms∧y.C=C∧y.m = "__init__"∧Mst i mg y a f
 fs:∀ f x,(f,x)∈T.fs→Dst i.K mg f x
 ms:∀ y,y∈T.ms→∃ a f,Mst i mg y a f∧Cls i.K a
 xc:T.xs≠[]→∀ C a,i.xc C a→XCls i.K a∧PySem.W.kitOne i.K (.ref a) (.type "ValueError")=some true
 rs:T.xs≠[]→∀ C,T.xs.contains C=true→∃ a,i.xc C a∧PyProof.Rows.OwnCls (Str.ofString C) a [.type "ValueError",.type "Exception",.type "BaseException",.type "object"] "ValueError.__new__" mg base
 kn:T.xs≠[]→∀ T',(T.xs.contains T'||T' == "ShutError")=true→∃ D,mg (Str.ofString T')=some (.ref D)∧∀ C a,i.xc C a→PySem.W.kitOne i.K (.ref a) (.ref D)=some (Own.excSub C T')∧(Own.excSub C T'=true→PySem.W.exmOne i.K (.ref a) (.ref D)=some true)
structure Held (pr:Program) (wd:World) (mg:Str→Option Value) (base:Heap) (i:Inf) (P:Own.Pg) (T:Tb) (n:Nat):Prop where
 fs:∀ f x,(f,x)∈T.fs→Dfo pr wd mg base i P n f
 ms:∀ y a f,y∈T.ms→Mst i mg y a f→Dfm pr wd mg base i P n (y.C ++ "." ++ y.m) f
theorem fn_succ{n:Nat}{f:String}{x:Ds}{fa:Addr}{fd:FuncData}{nm qual:Str}(M:Modu mg base i T)(hn:Held pr wd mg base i P T n)(F:Fun i.K nm qual x.st fa fd)(hP:P f=some x.d)(ht:x.Ok T):FnOk pr wd i.K mg base (CX1 pr wd) (2*(n+1)) fa fd x.ps (spF i P (n+1) f):=by
 obtain⟨ht,heq⟩:=ht;simp only[Ds.test,bAq,decide_eq_true_eq]at ht;obtain⟨⟨⟨⟨h1,h2⟩,h3⟩,h4⟩,h5⟩:=ht;have h3:=eq_of_beq h3;have h4:=eq_of_beq h4;have S:=Ii h1;refine F.ok1 (k:=2*n+1) S (fun vs H Q E h=>?_) (fun cdv A outer s H vs Q E hr hsp hw=>?_)
 ·obtain⟨args,G,Qm,Em,r,g,w,_⟩:=h;obtain⟨d,e,q,_⟩:=Bt w;rw[hP]at e;cases e;rw[←r.length,q,h3]
 ·obtain⟨args,G,Qm,Em,r,g,w,cn,ex⟩:=hsp;obtain⟨d,e,q,w⟩:=Bt w;rw[hP]at e;cases e;have gd:Gs (Ww (CX1 pr wd) pr wd i.K mg base x.N qual (Zo x.st) fa cdv A outer s H E) i P n (T.md x) :=
   { K:=rfl,N:=rfl,sc:=rfl,nd:=S.nd,un:=(by have:=hr.un;show(A.deeper _).units+200<cLine;omega),calm:=fun _=>rfl,room:=fun _=>hr,bl:=M.bl
     dfs:=fun g hg=>(by
       obtain⟨p,hy,e⟩:=q8.mp (List.contains_iff_mem.mp hg)
       subst e
       exact hn.fs p.1 p.2 hy)
     cst:=M.cst
     kl:=⟨M.A,M.F,fun C hC=>(by
       obtain⟨a,y,f,q1,q2,q3,q4,rfl,q6,q7⟩:=M.mkc C hC
       refine⟨a,f,q1,q2,q3,M.cl _ _ q2,?_⟩
       have:=hn.ms y a f q4 q7
       rw[q6]at this
       rwa [show y.C ++ ".__init__" = y.C ++ "." ++ "__init__" by rw[String.append_assoc];rfl]),fun C m hC=>(by
       obtain⟨y,hy,e⟩:=q8.mp (List.contains_iff_mem.mp hC)
       cases e
       obtain⟨a,f,q1,q2⟩:=M.ms y hy
       refine⟨a,f,fun b hb=>?_,q2,q1.at_,hn.ms y a f hy q1⟩
       have e1:=M.cl _ _ hb
       rw[q1.cl]at e1
       cases e1
       rfl)⟩
     xl:=fun h=>⟨M.xc h,M.rs h,M.kn h⟩
     fn:=fun _ _=>.inl rfl
     own:=fun _=>PassesOwn.leaving
     stk:=fun _=>rfl }
  have hb:=sSs x.d.body _ _ _ gd h2;rw[heq]at hb;refine⟨_,hb,?_⟩;refine⟨x.d.env args,G,(fun _ g=>Qm .non g),Qm,(fun _ _=>False),(fun _ _=>False),(fun _ c g=>Em c g),?_,w,?_⟩
  ·refine⟨?_,g,?_⟩
   ·have:=REn.start (n:=x.d.sz - x.d.ar) r;unfold L2.start;have e1:x.N.length - vs.length=x.d.sz - x.d.ar:=by rw[h4,←r.length,q]
    rw[e1];exact this
   ·intro pins σ H0 s0 H' a cls s' I fl hx;obtain⟨e,c,G',ad,q1,q2,q3,q4,q5⟩:=hx;exact hw pins σ H0 s0 H' a cls s' I fl (ex _ _ _ ⟨c,G',ad,q1,q2,q3,q4,q5⟩)
  ·refine⟨?_,?_,?_,?_⟩
   ·intro env' σ' G' H' k g' e w';exact cn .non G' H' .non k g' .non w'
   ·intro v G' H' y k g' rv w';exact cn v G' H' y k g' rv w'
   ·intro _ _ _ _ _ _ _ z;exact z.elim
   ·intro _ _ _ _ _ _ _ z;exact z.elim
theorem held_all (M:Modu mg base i T) (hP:∀ f x,(f,x)∈T.fs→P f=some x.d) (hPm:∀ y,y∈T.ms→P (y.C ++ "." ++ y.m)=some y.x.d) (ht:∀ f x,(f,x)∈T.fs→x.Ok T) (htm:∀ y,y∈T.ms→y.x.Ok T):∀ n,Held pr wd mg base i P T n:=by
 intro n;induction n with
 |zero =>
  refine⟨fun f x h=>?_,fun y a f hy S=>?_⟩
  ·obtain⟨fa,fd,qual,F,hm,hb⟩:=M.fs f x h;exact⟨fa,fd,x.ps,M8,hm,F.kp,hb⟩
  ·obtain⟨fd,F,hb⟩:=S.fn;exact⟨fd,y.x.ps,M8,hb⟩
 |succ n ih =>
  refine⟨fun f x h=>?_,fun y a f hy S=>?_⟩
  ·obtain⟨fa,fd,qual,F,hm,hb⟩:=M.fs f x h;exact⟨fa,fd,x.ps,fn_succ M ih F (hP f x h) (ht f x h),hm,F.kp,hb⟩
  ·obtain⟨fd,F,hb⟩:=S.fn;exact⟨fd,y.x.ps,fn_succ M ih F (hPm y hy) (htm y hy),hb⟩
end Snd
namespace Hd
open PySem PySem.W PyProof.Rows
noncomputable def XJ (st:SharedT→Thread→Option (SharedT×Thread)) (ok th:Thread→Bool):Nat→SharedT→Thread→Option SharedT
 |0,_,_=>none
 |n+1,s,t=>match th t with
  |true=>some s
  |false=>match ok t with
   |false=>none
   |true=>match st s t with
    |some (s',t')=>XJ st ok th n s' t'
    |none=>none
theorem Wh{tb:String→Option Builtin}{p:Program}{w:World}{n₀:Nat}{ann:Option Value}:∀ {n:Nat}{s s':SharedT}{t:Thread},XJ (stepT (denote tb) p w) (stepOk n₀ ann) through n s t=some s'→topRun tb p w n₀ ann n s.abs t=some s'.abs
 |0,_,_,_,h=>by cases h
 |n+1,s,s',t,h=>by
  unfold XJ at h;unfold topRun;cases ht:through t with
  |true=>rw[ht]at h;cases h;rfl
  |false =>
   rw[ht]at h;dsimp only at h ⊢;cases hk:stepOk n₀ ann t with
   |false=>rw[hk]at h;cases h
   |true =>
    rw[hk]at h;dsimp only at h ⊢;cases hs:stepT (denote tb) p w s t with
    |none=>rw[hs]at h;cases h
    |some r =>obtain⟨s2,t2⟩:=r;rw[hs]at h;rw[stepT_spec hs];exact Wh h
noncomputable def Wc (P:Params):BT :=
 .node (boot_o_0 P) (.node (boot_o_1 P) (.node (boot_o_3 P) (.node (boot_o_7 P) .nil .nil) .nil) (.node (boot_o_5 P) (.node (boot_o_9 P) .nil .nil) .nil))
  (.node (boot_o_2 P) (.node (boot_o_4 P) (.node (boot_o_8 P) .nil .nil) .nil) (.node (boot_o_6 P) (.node (boot_o_10 P) .nil .nil) .nil))
theorem AF(P:Params):absHeap (Wc P) 11 {}=boot_heap P:=by kernel_rfl
theorem NZ (P:Params):((boot_heap P).isNs mainGlobals&&(Array.mk []:Array GenState).size==0,(boot_heap P).objs.size,(boot_heap P).nsMap mainGlobals "__annotations__")=(true,11,some (.ref 6)):=by
 rw[show @Heap.nsMap=_ from Fast.te8920871248978507458]
 kernel_rfl
noncomputable def DV:=Fast.tw10156331382660048174
noncomputable def Nj:=Fast.tw11892475500146522536
noncomputable def UI:=Fast.tw14364793385576792824
noncomputable def okY:=Fast.tw6613529449190102663
noncomputable def DF:=Fast.tw4187177175401517315
noncomputable def UF:=Fast.tw5923862056798008813
noncomputable def Nq {α:Type}(p q:Program) (loose:List Str) (Xt:Shared→Bool) (Yf:Shared→α) (h0:Heap) (s:SharedT) :=
 ((staticsOk (UF p.main.body) h0 s.abs.heap&&namesBound p s.abs.heap&&gensDone s.abs&&laidKept h0 s.abs.heap),DF q loose (UF p.main.body) Xt true s.abs,Yf s.abs)
theorem left_of{p q:Program}{loose:List Str}{Xt:Shared→Bool}{α:Type}{Yf:Shared→α}{Ya:World→α}{N:Nat}(e:opening p=plainProg p.main.scope.names)(hN:Nat.ble 600 N=true)(f:∀ s,fenceModules? p s=some s)
  (one:∀ (w:World) (os:OsState),(XJ (DV (Nj UI) p w) (okY 11 (some (.ref 6))) through N ⟨Wc w.params,11,{},Array.mk [],boot_drawn,boot_toks,os⟩ (topStub p)).map (Nq p q loose Xt Yf (boot_heap w.params))=some (true,openGood q loose,Ya w)) :
  LeftO p q loose Xt Yf Ya N:=by
 intro w;obtain⟨⟨h,gs,d,k,os⟩,e1,e2⟩:=qD.mp (boot_open e hN f w);obtain⟨rfl,rfl,rfl,rfl⟩:h=boot_heap w.params∧gs=Array.mk []∧d=boot_drawn∧k=boot_toks:=by simpa using e2
 obtain⟨s,r,z⟩:=qD.mp (one w os);obtain⟨z1,z2,z3⟩:_∧_∧_:=by simpa only[Prod.mk.injEq]using NZ w.params
 obtain⟨l1,l2,l3⟩:_∧_∧_:=by simpa only[Nq,Prod.mk.injEq]using z
 unfold DV Nj UI okY at r;rw[←Fast.te10156331382660048174,←Fast.te11892475500146522536,←Fast.te14364793385576792824,←Fast.te6613529449190102663]at r;unfold UF at l1 l2;unfold DF at l2;rw[←Fast.te5923862056798008813]at l1 l2;rw[←Fast.te4187177175401517315]at l2;have r2:=Wh r;have ea:(SharedT.mk (Wc w.params) 11 {} (Array.mk []) boot_drawn boot_toks os).abs=⟨boot_heap w.params,Array.mk [],boot_drawn,boot_toks,os⟩:=by show Shared.mk (absHeap _ _ _) _ _ _ _=_;rw[AF]
 rw[ea]at r2;have t:topFrom treeTable p w N ⟨boot_heap w.params,Array.mk [],boot_drawn,boot_toks,os⟩=some s.abs:=by unfold topFrom;dsimp only;rw[z1,z2,z3,r2];show(match staticsOk (importedModules p.main.body) (boot_heap w.params) s.abs.heap&&namesBound p s.abs.heap&&gensDone s.abs&&laidKept (boot_heap w.params) s.abs.heap with|true=>_|false=>_)=_;rw[l1]
 unfold openEnds;rw[e1];show(topFrom treeTable p w N _).map _=_;rw[t];exact congrArg some (Prod.ext l2 l3)
end Hd
namespace Hd
open PySem PySem.W PyProof.Rows L2
noncomputable def W4:Nat→List Obj→Frag
 |_,[]=>[]
 |i,o::r=>match o with
  |⟨_,_,.freed,_⟩=>W4 (i+1) r
  |o=>(i,o)::W4 (i+1) r
noncomputable def ZG (g:Heap):Frag:=W4 0 g.objs.toList
theorem Kp:∀ (l:List Obj) (i a:Nat) (o:Obj),(W4 i l).lookup a=some o→i≤a∧l[a - i]?=some o∧(match some o with|some ⟨_,_,.freed,_⟩=>none|o=>o)=some o
 |[],_,_,_,h=>by cases h
 |x::r,i,a,o,h=>by
  have rec1:(W4 (i+1) r).lookup a=some o→i≤a∧(x::r)[a - i]?=some o∧(match some o with|some ⟨_,_,.freed,_⟩=>none|o=>o)=some o:=fun q=>by obtain⟨h1,h2,h3⟩:=Kp r (i+1) a o q;refine⟨by omega,?_,h3⟩;rw[show a - i=(a - (i+1))+1 by omega,List.getElem?_cons_succ];exact h2
  unfold W4 at h;split at h
  ·exact rec1 h
  ·rename_i c hne;rw[qO]at h;split at h
   ·rename_i e;cases h;have e:=eq_of_beq e;subst e;refine⟨zJ _,by rw[Nat.sub_self];rfl,?_⟩;split
    ·rename_i d1 d2 d3 d4;cases d4;exact(hne _ _ _ rfl).elim
    ·rfl
   ·exact rec1 h
theorem MM{g:Heap}{a:Addr}{o:Obj}(h:(ZG g).lookup a=some o):g.get? a=some o:=by obtain⟨_,h2,h3⟩:=Kp _ _ _ _ h;unfold Heap.get?;rw[Nat.sub_zero,Array.getElem?_toList]at h2;rw[h2];exact h3
noncomputable def AI (K:Frag) (nm:Str):Option (FuncData×Bool×Bool):=match nsIn K mainGlobals nm with
 |some (some (.ref f))=>match K.lookup f with
  |some ⟨_,_,.func fd,_⟩=>some ({fd with kwdefaults:=.none,doc:=.none,pyModule:=.none,annotations:=none,code:=.none,closureTuple:=.none},codeIn K fd.code fd.qualname,keepIn K (.ref f))
  |_=>none
 |_=>none
noncomputable def Bu (nm:Str) (st:Stmt):Option (FuncData×Bool×Bool):=some (fnOf nm nm (Ym st) (ZR st) (Zo st) .none .none .none .none none .none .none,true,true)
theorem FE{K:Frag}{nm:Str}{st:Stmt}(e:AI K nm=Bu nm st):∃ fa fd,Fun K nm nm st fa fd∧nsIn K mainGlobals nm=some (some (.ref fa)):=by
 unfold AI at e;split at e
 ·rename_i f hf;split at e
  ·rename_i oc od fd sl hl;simp only[Bu,Option.some.injEq,Prod.mk.injEq]at e;obtain⟨e1,e2,e3⟩:=e;obtain⟨n1,n2,n3,n4,n5,n6,n7,n8,n9,n10,n11,n12,n13,n14,n15⟩:=fd;simp only[fnOf,FuncData.mk.injEq]at e1;obtain⟨rfl,rfl,rfl,rfl,rfl,rfl,rfl,rfl,-,-,-,-,-,-,rfl⟩:=e1;exact⟨f,_,UT hl e2 e3,hf⟩
  ·cases e
 ·cases e
noncomputable def DP (K:Frag) (y:Str):Bool:=match nsIn K mainGlobals y with
 |some none=>true
 |_=>false
theorem BP{l:OpenLaw}{n k:Nat}{q:Program}{loose:List Str}{XP:(Str→Option Value)→Heap→Prop}{YP:World→Heap→Prop}{d:DefRec}{CX:World→CXT}{x:Str}
  (hn:l.most=some n) (hn2:n≤sizeLine) (hdf:d.params.defaults=[]) (hr:Room k callerA)
  (F:∀ (w:World) (mg:Str→Option Value) (fa:Addr) (h:Heap),YP w h→h.Ns mainGlobals mg→mg d.name=some (.ref fa)→∃ (K:Frag) (sp:Sp),K.In h∧
    (∃ fd:FuncData,(∀ (s:Shared) (u:Value),BindsTo s fd ⟨[u],[]⟩ [(x,u)])∧∀ base:Heap,K.In base→base.Ns mainGlobals mg→FnOk l.prog w K mg base (CX w) k fa fd [x] sp)∧
    ∀ (H:Hp) (a:Addr) (ns:List Int),ns.length≤n→Fr H→SqL K H a (ns.map V.int)→sp [.ref a] H (fun v _=>v=.bl true) fun _ _ _=>False)
  (hCX:∀ (w:World) (H:Hp) (s:Shared) (e:Value) (s':Shared),CX w [] H s (fun _ _ _=>False) e s'→False) :
  WalkO q loose XP YP l.row.toRowW d [] (fun f vs=>PySem.call f vs):=by
 refine Att.attach_call hn hdf fun w s₀ s₁ mg mb fa o pm cd doc a vs ns G Y ho hd hcd hmg hobj hints hlen hg=>?_;obtain⟨K,sp,KX,⟨fd,hb,hF⟩,hsp⟩:=F w mg fa _ Y G.T.g hmg;exact AR KX G.T.g G.T.b G.T.builtins G.T.nolimit hg hobj hints (zH hlen hn2) hr hF hb (fun H hO hS=>hsp H a ns hlen hO hS) fun H e s'=>hCX w H s₁ e s'
noncomputable def BA (f:Value→Own.Val→Bool):List Value→List Own.Val→Bool
 |[],[]=>true
 |u::us,x::xs=>f u x&&BA f us xs
 |_,_=>false
noncomputable def DD (K:Frag):Value→Option (List Value)
 |.ref a=>match K.lookup a with
  |some ⟨.type n,_,.seq us _,_⟩=>if n == "tuple" && decide (us.size≤sizeLine)then some us.toList else none
  |_=>none
 |_=>none
noncomputable def CJ (K:Frag):Nat→Value→Own.Val→Bool
 |0,_,_=>false
 |n+1,u,v=>match v with
  |.non=>(match u with|.none=>true|_=>false)
  |.bl b=>(match u with|.bool a=>a==b|_=>false)
  |.int j=>(match u with|.int i _=>i==j|_=>false)
  |.str t=>(match u with|.str s _=>Fast.sEq s (Str.ofString t)|_=>false)
  |.tup xs=>(match DD K u with|some us=>BA (CJ K n) us xs|none=>false)
  |_=>false
theorem O7{K:Frag}{f:Value→Own.Val→Bool}(hf:∀ u v,f u v=true→∃ z,RelV z u∧∀ H,Snd.RV K H v z):∀ (us:List Value) (xs:List Own.Val),BA f us xs=true→∃ zs,Vals zs us∧∀ H,Snd.RVs K H xs zs
 |[],[],_=>⟨[],.nil,fun _=>.nil⟩
 |u::us,x::xs,h=>by rw[BA,bAq]at h;obtain⟨z,r,q⟩:=hf u x h.1;obtain⟨zs,rs,qs⟩:=O7 hf us xs h.2;exact⟨z::zs,.cons r rs,fun H=>.cons (q H) (qs H)⟩
 |[],_::_,h=>by cases h
 |_::_,[],h=>by cases h
theorem UH{K:Frag}:∀ (n:Nat) (u:Value) (v:Own.Val),CJ K n u v=true→∃ z,RelV z u∧∀ H,Snd.RV K H v z
 |0,_,_,h=>by cases h
 |n+1,u,v,h=>by
  unfold CJ at h;cases v with
  |non =>
   dsimp only at h;split at h
   ·exact⟨.non,rfl,fun _=>.non⟩
   ·cases h
  |bl b =>
   dsimp only at h;split at h
   ·cases eq_of_beq h;exact⟨.bl b,rfl,fun _=>.bl b⟩
   ·cases h
  |int j =>
   dsimp only at h;split at h
   ·cases eq_of_beq h;exact⟨.int j,⟨_,rfl⟩,fun _=>.int j⟩
   ·cases h
  |str t =>
   dsimp only at h;split at h
   ·cases Fast.sEq_iff.mp h;exact⟨.str (Str.ofString t),⟨_,rfl⟩,fun _=>.str t⟩
   ·cases h
  |tup xs =>
   dsimp only at h;split at h
   ·rename_i us hu;obtain⟨zs,rs,qs⟩:=O7 (fun u v=>UH n u v) us xs h;unfold DD at hu;split at hu
    ·rename_i a;split at hu
     ·rename_i nm od its k sl hl;split at hu
      ·rename_i hc;rw[bAq,decide_eq_true_eq]at hc;cases eq_of_beq hc.1;cases hu;exact⟨.ref a,rfl,fun H=>.tup (.inr ⟨_,its,k,hl,rfl,rfl,hc.2,rs⟩) (qs H)⟩
      ·cases hu
     ·cases hu
    ·cases hu
   ·cases h
  |ref a=>cases h
  |scr ns=>cases h
  |key i j=>cases h
noncomputable def Aw (K:Frag) (p:String×Own.Val):Bool:=match nsIn K mainGlobals (Str.ofString p.1)with
 |some (some u)=>CJ K 4 u p.2
 |_=>false
theorem Wq{α β:Type}[BEq α][LawfulBEq α]{a:α}{b:β}:∀ {l:List (α×β)},l.lookup a=some b→(a,b)∈l
 |[],h=>by cases h
 |(x,y)::r,h=>by
  rw[qO]at h;split at h
  ·rename_i e;cases h;cases eq_of_beq e;exact .head _
  ·exact .tail _ (Wq h)
theorem FY{K:Frag}{mg:Str→Option Value}{h:Heap}{x:Str}{C:Addr}{bmB:List Value}{id:String}(X:K.In h)(hm:mg x=some (.ref C))(q:excIn K C bmB id=true):PyProof.Rows.OwnCls x C bmB id mg h:=by
 constructor
 ·exact hm
 have z:=q;unfold excIn at z;split at z
 next dd cd sl ho =>
  split at z
  next C1 bm k0 k1 k2 k3 n k5 em es =>
   rw[bAq,bAq,bAq,bAq,bAq]at z;obtain⟨⟨⟨⟨⟨z1,z2⟩,z3⟩,z4⟩,z5⟩,z6⟩:=z;have z1:=eq_of_beq z1;have z2:=eq_of_beq z2;have z6:=eq_of_beq z6;subst z1 z2;have z3b:cd.hasDel=false:=by
    cases e:cd.hasDel with
    |false=>rfl
    |true=>rw[e]at z3;cases z3
   have es':sl=#[k0,k1,k2,k3,some (.builtin n),k5]:=Array.toList_inj.mp es;have nN:=nsMap_none_of_in X z5 z6;have nI:=Heap.Ns.of_isNs (isNs_of_in X z5);have tI:=tail_of_in X z4;cases cd;dsimp only at em z3b nN nI;subst em z3b es';exact⟨bm,_,_,_,_,_,_,_,_,_,dd,k0,k1,k2,k3,k5,_,X _ _ ho,nI,nN,tI⟩
  next=>cases z
 next=>cases z
noncomputable def F9 (K:Frag) (f:Addr):Option (FuncData×Bool×Bool):=match K.lookup f with
 |some ⟨_,_,.func fd,_⟩=>some ({fd with kwdefaults:=.none,doc:=.none,pyModule:=.none,annotations:=none,code:=.none,closureTuple:=.none},codeIn K fd.code fd.qualname,keepIn K (.ref f))
 |_=>none
noncomputable def K1 (nm qual:Str) (st:Stmt):Option (FuncData×Bool×Bool):=some (fnOf nm qual (Ym st) (ZR st) (Zo st) .none .none .none .none none .none .none,true,true)
theorem Gg{K:Frag}{nm qual:Str}{st:Stmt}{f:Addr}(e:F9 K f=K1 nm qual st):∃ fd,Fun K nm qual st f fd:=by
 unfold F9 at e;split at e
 ·rename_i oc od fd sl hl;simp only[K1,Option.some.injEq,Prod.mk.injEq]at e;obtain⟨e1,e2,e3⟩:=e;obtain⟨n1,n2,n3,n4,n5,n6,n7,n8,n9,n10,n11,n12,n13,n14,n15⟩:=fd;simp only[fnOf,FuncData.mk.injEq]at e1;obtain⟨rfl,rfl,rfl,rfl,rfl,rfl,rfl,rfl,-,-,-,-,-,-,rfl⟩:=e1;exact⟨_,UT hl e2 e3⟩
 ·cases e
noncomputable def Wv (K:Frag) (C:String):Option Addr:=match nsIn K mainGlobals (Str.ofString C)with
 |some (some (.ref a))=>some a
 |_=>none
theorem XR{K:Frag}{C:String}{a:Addr}(h:Wv K C=some a):nsIn K mainGlobals (Str.ofString C)=some (some (.ref a)):=by
 unfold Wv at h;split at h
 ·cases h;assumption
 ·cases h
structure CV where
 pg:Bool
 hd:Bool
 po:Bool
 sa:Option (Option Value)
noncomputable def Dk (K:Frag) (a:Addr):CV:=⟨plainGet K a Str.empty,hasDictIn K a,plainOver K a,findIn K (.ref a) "__setattr__"⟩
noncomputable def NA:CV:=⟨true,true,true,some (some (.builtin "object.__setattr__"))⟩
theorem UE{K:Frag}{a:Addr}(h:Dk K a=NA):Cls K a:=by simp only[Dk,NA,CV.mk.injEq]at h;exact⟨h.1,h.2.1,h.2.2.1,h.2.2.2⟩
structure MV where
 fn:Option (FuncData×Bool×Bool)
 isf:Bool
 cv:CV
noncomputable def Uc (K:Frag) (y:Snd.Mt):Option MV:=match Wv K y.C with
 |some a=>match findIn K (.ref a) (Str.ofString y.m)with
  |some (some (.ref f))=>some ⟨F9 K f,isFn K (.ref f),Dk K a⟩
  |_=>none
 |none=>none
noncomputable def A3 (y:Snd.Mt):Option MV:=some ⟨K1 (Str.ofString y.m) (Str.ofString y.qual) y.x.st,true,NA⟩
theorem Ix{K:Frag}{y:Snd.Mt}(e:Uc K y=A3 y):∃ a f fd,nsIn K mainGlobals (Str.ofString y.C)=some (some (.ref a))∧Fun K (Str.ofString y.m) (Str.ofString y.qual) y.x.st f fd∧Meth K a (Str.ofString y.m) f∧Cls K a:=by
 unfold Uc at e;split at e
 ·rename_i a ha;split at e
  ·rename_i f hf;simp only[A3,Option.some.injEq,MV.mk.injEq]at e;obtain⟨e1,e2,e3⟩:=e;obtain⟨fd,F⟩:=Gg e1;exact⟨a,f,fd,XR ha,F,⟨hf,e2,F.kp⟩,UE e3⟩
  ·cases e
 ·cases e
structure QV where
 mks:Bool
 kp:Bool
 cv:CV
 fl:List (Option (Option Value))
noncomputable def O1 (K:Frag) (fl:List String) (C:String):Option QV:=match Wv K C with
 |some a=>some ⟨makesIn K a,keepIn K (.ref a),Dk K a,fl.map fun f=>findIn K (.ref a) (Str.ofString f)⟩
 |none=>none
noncomputable def AT (fl:List String):Option QV:=some ⟨true,true,NA,fl.map fun _=>some none⟩
theorem DH{K:Frag}{fl:List String}{C:String}(e:O1 K fl C=AT fl):∃ a,nsIn K mainGlobals (Str.ofString C)=some (some (.ref a))∧makesIn K a=true∧keepIn K (.ref a)=true∧Cls K a∧∀ f∈fl,KO K a (Str.ofString f):=by
 unfold O1 at e;split at e
 ·rename_i a ha;simp only[AT,Option.some.injEq,QV.mk.injEq]at e;obtain⟨e1,e2,e3,e4⟩:=e;exact⟨a,XR ha,e1,e2,UE e3,fun f hf=>List.map_inj_left.mp e4 f hf⟩
 ·cases e
structure XV where
 ex:Bool
 f1:Option (Option Value)
 f2:Option (Option Value)
 f3:Option (Option Value)
 m1:Option Bool
 m2:Option Bool
 ci:Bool
 ve:Option Bool
 ks:List (Option (Option Bool×Option Bool))
noncomputable def Af (K:Frag) (xs:List String) (C:String):Option XV:=match Wv K C with
 |some a=>some ⟨excIn K a [.type "ValueError",.type "Exception",.type "BaseException",.type "object"] "ValueError.__new__",findIn K (.ref a) "__getattribute__",findIn K (.ref a) "__getattr__",findIn K (.ref a) "__class__",mroIn K a (.type "object"),mroIn K a (.type "BaseException"),(clsIn K a).isSome,kitOne K (.ref a) (.type "ValueError"),("ShutError" :: xs).map fun T=>(Wv K T).map fun D=>(kitOne K (.ref a) (.ref D),exmOne K (.ref a) (.ref D))⟩
 |none=>none
noncomputable def AV (xs:List String) (C:String):Option XV:=some ⟨true,some (some (.builtin "BaseException.__getattribute__")),some none,some (some (.builtin "object.__class__")),some true,some true,true,some true,("ShutError" :: xs).map fun T=>some (some (Own.excSub C T),some (Own.excSub C T))⟩
theorem Ac {K:Frag}{xs:List String}{C:String}(e:Af K xs C=AV xs C):∃ a,nsIn K mainGlobals (Str.ofString C)=some (some (.ref a))∧excIn K a [.type "ValueError",.type "Exception",.type "BaseException",.type "object"] "ValueError.__new__" = true∧XCls K a∧kitOne K (.ref a) (.type "ValueError")=some true∧
  ∀ T∈"ShutError" :: xs,∃ D,nsIn K mainGlobals (Str.ofString T)=some (some (.ref D))∧kitOne K (.ref a) (.ref D)=some (Own.excSub C T)∧exmOne K (.ref a) (.ref D)=some (Own.excSub C T):=by
 unfold Af at e;split at e
 ·rename_i a ha;simp only[AV,Option.some.injEq,XV.mk.injEq]at e;obtain⟨e1,e2,e3,e4,e5,e6,e7,e8,e9⟩:=e;refine⟨a,XR ha,e1,⟨e2,e3,e4,e5,e6,e7⟩,e8,fun T hT=>?_⟩;have:=List.map_inj_left.mp e9 T hT;cases z:Wv K T with
  |none=>rw[z]at this;cases this
  |some D =>rw[z]at this;simp only[Option.map_some,Option.some.injEq,Prod.mk.injEq]at this;exact⟨D,XR z,this.1,this.2⟩
 ·cases e
structure View where
 fs:List (Option (FuncData×Bool×Bool))
 ms:List (Option MV)
 cl:List (Option QV)
 xs:List (Option XV)
 ok:Bool
noncomputable def view (T:Snd.Tb) (K:Frag):View:=⟨T.fs.map fun p=>AI K (Str.ofString p.1),T.ms.map (Uc K),T.cl.map (O1 K T.fl),T.xs.map (Af K T.xs),T.cs.all (Aw K)&&Snd.blts.all (DP K)⟩
noncomputable def due (T:Snd.Tb):View:=⟨T.fs.map fun p=>Bu (Str.ofString p.1) p.2.st,T.ms.map A3,T.cl.map fun _=>AT T.fl,T.xs.map (AV T.xs),true⟩
noncomputable def hook (T:Snd.Tb):Hook where
 α:=View
 obs:=fun s=>view T (ZG s.heap)
 val:=fun _=>due T
 says:=fun _ h=>∃ g:Heap,view T (ZG g)=due T∧∀ b o,g.get? b=some o→h.get? b=some o
 of:=fun _ s e=>⟨s.heap,e,fun _ _ x=>x⟩
 keeps:=fun _ _ _ ⟨g,e,k⟩ k2=>⟨g,e,fun b o x=>k2 b o (k b o x)⟩
def Bd (nm qual:Str) (x:Snd.Ds):Prop:=∀ (kV doc pm:Value) (an:Option Addr) (cdv ct:Value) (us:List Value),us.length=x.ps.length→bindArgs (fnOf nm qual (Ym x.st) (ZR x.st) (Zo x.st) .none kV doc pm an cdv ct) ⟨us,[]⟩=pure (x.ps.zip us)
noncomputable def Cj (T:Snd.Tb):Bool:=T.cl.all fun C=>T.ms.any fun y=>y.C==C&&y.m == "__init__"
theorem law_walk{l:OpenLaw}{q:Program}{loose:List Str}{XP:(Str→Option Value)→Heap→Prop}{d:DefRec}{T:Snd.Tb}{pg:Own.Pg}{k:Nat}{xl:Snd.Ds}
  (hn:l.most=some 63) (hdf:d.params.defaults=[]) (hdn:d.name=Str.ofString "law") (hr:Room (2*(k+1)) callerA) (hlaw:("law",xl)∈T.fs) (hps:xl.ps=[Str.ofString "script"]) (hin:Cj T=true)
  (tab_pg:∀ f x,(f,x)∈T.fs→pg f=some x.d) (tab_pm:∀ y,y∈T.ms→pg (y.C ++ "." ++ y.m)=some y.x.d) (tab_ok:∀ f x,(f,x)∈T.fs→x.Ok T) (tab_om:∀ y,y∈T.ms→y.x.Ok T)
  (tab_bd:∀ f x,(f,x)∈T.fs→Bd (Str.ofString f) (Str.ofString f) x) (tab_bm:∀ y,y∈T.ms→Bd (Str.ofString y.m) (Str.ofString y.qual) y.x)
  (ok:∀ ns:List Int,ns.length≤63→Own.wF pg (k+1) "law" [.scr ns] (fun _=>none) (fun v _=>v=.bl true) fun _ _=>False) :
  WalkO q loose XP (hook T).says l.row.toRowW d [] (fun f vs=>PySem.call f vs):=by
 refine BP (n:=63) (k:=2*(k+1)) (x:=Str.ofString "script") (CX:=fun w=>CX1 l.prog w) hn (by decide) hdf hr (fun w mg fa h Y G hmg=>?_) fun _ _ _ _ _ ⟨_,_,_,_,_,z⟩=>z;obtain⟨g,e,keep⟩:=Y;have X:(ZG g).In h:=fun a o z=>keep a o (MM z);simp only[view,due,View.mk.injEq]at e;obtain⟨e1,e3,e4,e5,e2⟩:=e;rw[bAq,List.all_eq_true,List.all_eq_true]at e2
 let i:Snd.Inf:=⟨ZG g,fun C a=>T.cl.contains C=true∧mg (Str.ofString C)=some (.ref a),fun C=>T.cl.contains C,fun C a=>T.xs.contains C=true∧mg (Str.ofString C)=some (.ref a)⟩
 have hF:∀ f x,(f,x)∈T.fs→∃ fa fd,Fun (ZG g) (Str.ofString f) (Str.ofString f) x.st fa fd∧mg (Str.ofString f)=some (.ref fa):=fun f x hx=>by obtain⟨fa,fd,F,z⟩:=FE (List.map_inj_left.mp e1 (f,x) hx);exact⟨fa,fd,F,mg_of X G z⟩
 have hcl:∀ C a,i.cl C a→makesIn (ZG g) a=true∧keepIn (ZG g) (.ref a)=true∧Cls (ZG g) a∧∀ f∈T.fl,KO (ZG g) a (Str.ofString f):=fun C a ⟨hc,hm⟩=>by obtain⟨b,z,q⟩:=DH (List.map_inj_left.mp e4 C (List.contains_iff_mem.mp hc));have:=mg_of X G z;rw[hm]at this;cases this;exact q
 have hms:∀ y,y∈T.ms→∃ a f,Snd.Mst i mg y a f∧Cls i.K a:=fun y hy=>by obtain⟨a,f,fd,z,F,M,A⟩:=Ix (List.map_inj_left.mp e3 y hy);exact⟨a,f,⟨mg_of X G z,⟨fd,F,F.binds (tab_bm y hy)⟩,M⟩,A⟩
 have hxc:∀ C a,i.xc C a→excIn (ZG g) a [.type "ValueError",.type "Exception",.type "BaseException",.type "object"] "ValueError.__new__" = true∧XCls (ZG g) a∧kitOne (ZG g) (.ref a) (.type "ValueError")=some true∧
   ∀ T'∈"ShutError" :: T.xs,∃ D,nsIn (ZG g) mainGlobals (Str.ofString T')=some (some (.ref D))∧kitOne (ZG g) (.ref a) (.ref D)=some (Own.excSub C T')∧exmOne (ZG g) (.ref a) (.ref D)=some (Own.excSub C T'):=fun C a ⟨hc,hm⟩=>by
  obtain⟨b,z,q⟩:=Ac (List.map_inj_left.mp e5 C (List.contains_iff_mem.mp hc));have:=mg_of X G z;rw[hm]at this;cases this;exact q
 have mod:∀ base:Heap,(ZG g).In base→Snd.Modu mg base i T:=fun base Xb =>
  { bl:=fun y hy=>by
      have:=e2.2 y hy
      unfold DP at this
      split at this
      · rename_i z;exact mg_none_of X G z
      · cases this
    cst:=fun y v hv=>by
      have:=e2.1 _ (Wq hv)
      unfold Aw at this
      split at this
      · rename_i u z
        obtain⟨x,r,rv⟩:=UH 4 u v this
        exact⟨u,x,mg_of X G z,r,rv⟩
      · cases this
    A:=⟨fun C a _ z=>(hcl C a z).2.2.1⟩
    F:=fun f hf=>⟨fun C a z=>(hcl C a z).2.2.2 f (List.contains_iff_mem.mp hf)⟩
    cl:=fun C a z=>z.2
    mkc:=fun C hC=>by
      obtain⟨a,z,_⟩:=DH (List.map_inj_left.mp e4 C (List.contains_iff_mem.mp hC))
      have hi:i.cl C a:=⟨hC,mg_of X G z⟩
      obtain⟨y,hy,e⟩:=List.any_eq_true.mp (List.all_eq_true.mp hin C (List.contains_iff_mem.mp hC))
      rw[bAq]at e
      obtain⟨b,f,S,A⟩:=hms y hy
      have h1:=eq_of_beq e.1
      have h2:=eq_of_beq e.2
      have hb:=S.cl
      rw[h1,hi.2]at hb
      cases hb
      refine⟨a,y,f,hC,hi,⟨(hcl C a hi).1,?_,S.at_.fn,(hcl C a hi).2.1⟩,hy,h1,h2,S⟩
      have:=S.at_.at_
      rw[h2]at this
      exact this
    fs:=fun f x hx=>by
      obtain⟨fa,fd,F,m⟩:=hF f x hx
      exact⟨fa,fd,_,F,m,F.binds (tab_bd f x hx)⟩
    ms:=hms
    xc:=fun _ C a z=>⟨(hxc C a z).2.1,(hxc C a z).2.2.1⟩
    rs:=fun _ C hC=>by
      obtain⟨a,z,q1,_⟩:=Ac (List.map_inj_left.mp e5 C (List.contains_iff_mem.mp hC))
      exact⟨a,⟨hC,mg_of X G z⟩,FY Xb (mg_of X G z) q1⟩
    kn:=fun hne T' hT=>by
      have hT2:T'∈"ShutError" :: T.xs:=by
        rcases (Bool.or_eq_true ..).mp hT with z|z
        · exact .tail _ (List.contains_iff_mem.mp z)
        · cases eq_of_beq z;exact .head _
      obtain⟨C0,hC0⟩:=List.exists_mem_of_ne_nil _ hne
      obtain⟨a0,z0,_,_,_,q0⟩:=Ac (List.map_inj_left.mp e5 C0 hC0)
      obtain⟨D,zD,_⟩:=q0 T' hT2
      refine⟨D,mg_of X G zD,fun C a z=>?_⟩
      obtain⟨D2,z2,k1,k2⟩:=(hxc C a z).2.2.2 T' hT2
      rw[zD]at z2
      cases z2
      exact⟨k1,fun e=>by rw[k2,e]⟩ }
 obtain⟨fl,fd,F,m⟩:=hF "law" xl hlaw;have ef:=hmg.symm.trans (hdn▸m);cases ef;refine⟨ZG g,Snd.spF i pg (k+1) "law",X,⟨fd,fun s u=>?_,fun base Xb _=>?_⟩,fun H a ns hl hO hS=>?_⟩
 ·have B:=F.ex;obtain⟨oc,od,kV,dc,pm,an,cdv,ct,sl,rfl,lk,hcd⟩:=B;have:=tab_bd "law" xl hlaw kV dc pm an cdv ct [u] (by rw[hps];rfl);rw[hps]at this;exact .of_eq this
 ·have M:=mod base Xb;have:=Snd.fn_succ (i:=i) (pr:=l.prog) (wd:=w) (base:=base) (mg:=mg) (P:=pg) (n:=k) M (Snd.held_all M tab_pg tab_pm tab_ok tab_om k) F (tab_pg "law" xl hlaw) (tab_ok "law" xl hlaw);rw[hps]at this;exact this
 ·refine⟨[.scr ns],fun _=>none,fun v _=>v=.bl true,fun _ _=>False,.cons (.scr ?_) .nil,fun _ _ e=>(by cases e),ok ns hl,?_,?_⟩
  ·rcases hS with(h|⟨o,h⟩)|h
   ·rcases hO a with z|⟨o,xs,z⟩
    ·rw[h]at z;cases z
    ·rw[h]at z;cases z
   ·exact .inl ⟨o,h⟩
   ·exact .inr h
  ·intro v G' H' x _ _ r e;subst e;exact r.bl_inv
  ·rintro cls d H' ⟨_,_,_,_,_,_,_,z⟩;exact z
end Hd
set_option maxRecDepth 20000
set_option maxHeartbeats 2000000
namespace Own
abbrev B0 (P:Pg) (n:Nat) (d:Fn) (e:Env) (h:Hs) (Q:Q1) (X:XQ):Prop:=wSs (wF P n) d.body e h (fun _ g=>Q .non g) Q (fun _ _=>False) (fun _ _=>False) fun _ c g=>X c g
variable {P:Pg}{n:Nat}{a0 a1 a2 a3 a4 a5 a6 a7:Val}{h:Hs}{Q:Q1}{X:XQ}
noncomputable abbrev PQ:Fn:={ ar:=1,sz:=1,body:=(.cons (.ret (.and (.bi (.isi ["int"]) (.cons (.var 0) .nil)) (.not (.bi (.isi ["bool"]) (.cons (.var 0) .nil)))))
    .nil) }
noncomputable abbrev PR:Fn:={ ar:=3,sz:=3,body:=(.cons (.ret (.and (.call "is_whole" (.cons (.var 0) .nil)) (.chain .le .le (.var 1) (.var 0) (.var 2))))
    .nil) }
noncomputable abbrev QC:Fn:={ ar:=2,sz:=2,body:=(.cons (.ite (.or (.not (.val (.bi (.isi ["list"]) (.cons (.var 0) .nil)))) (.not (.val (.bi (.isi ["list"]) (.cons (.var 1) .nil))))) (.cons .never
    .nil) .nil)
    (.cons (.ite (.not (.val (.chain .le .le (.cst (.int 1)) (.bi .len (.cons (.var 0) .nil)) (.glob "MOST_BRIDGES" (.int 10))))) (.cons .never
    .nil) .nil)
    (.cons (.ite (.val (.cmp .gt (.bi .len (.cons (.var 1) .nil)) (.glob "MOST_TIES" (.int 16)))) (.cons .never
    .nil) .nil)
    (.cons (.ite (.not (.val (.call "are_bridges" (.cons (.var 0) .nil)))) (.cons .never
    .nil) .nil)
    (.cons (.ite (.not (.val (.bi .all (.cons (.comp [0] 1 (.one 0) (.seq (.var 1)) .yes (.call "is_tie" (.cons (.var 0) (.cons (.var 1) .nil)))) .nil)))) (.cons .never
    .nil) .nil)
    (.cons (.ret (.tup (.cons (.bi .tuple (.cons (.bi .sortedI (.cons (.var 0) .nil)) .nil)) (.cons (.bi .tuple (.cons (.comp [] 1 (.one 0) (.seq (.var 1)) .yes (.call "lesser_end_first" (.cons (.var 0) .nil))) .nil)) .nil))))
    .nil)))))) }
noncomputable abbrev PZ:Fn:={ ar:=1,sz:=1,body:=(.cons (.ite (.not (.val (.bi .all (.cons (.comp [] 1 (.one 0) (.seq (.var 0)) .yes (.call "is_whole_between" (.cons (.var 0) (.cons (.cst (.int 0)) (.cons (.glob "GREATEST_NUMBER" (.int 999)) .nil))))) .nil)))) (.cons (.ret (.cst (.bl false)))
    .nil) .nil)
    (.cons (.ret (.cmp .eq (.bi .lenSet (.cons (.var 0) .nil)) (.bi .len (.cons (.var 0) .nil))))
    .nil)) }
noncomputable abbrev PP:Fn:={ ar:=2,sz:=2,body:=(.cons (.ite (.or (.not (.val (.bi (.isi ["tuple"]) (.cons (.var 0) .nil)))) (.val (.cmp .ne (.bi .len (.cons (.var 0) .nil)) (.cst (.int 3))))) (.cons (.ret (.cst (.bl false)))
    .nil) .nil)
    (.cons (.ite (.or (.not (.val (.call "is_whole" (.cons (.idx (.var 0) (.cst (.int 0))) .nil)))) (.not (.val (.call "is_whole" (.cons (.idx (.var 0) (.cst (.int 1))) .nil))))) (.cons (.ret (.cst (.bl false)))
    .nil) .nil)
    (.cons (.ite (.or (.val (.cmp .notin (.idx (.var 0) (.cst (.int 0))) (.var 1))) (.val (.cmp .notin (.idx (.var 0) (.cst (.int 1))) (.var 1)))) (.cons (.ret (.cst (.bl false)))
    .nil) .nil)
    (.cons (.ret (.and (.cmp .ne (.idx (.var 0) (.cst (.int 0))) (.idx (.var 0) (.cst (.int 1)))) (.call "is_whole_between" (.cons (.idx (.var 0) (.cst (.int 2))) (.cons (.cst (.int 1)) (.cons (.glob "GREATEST_COST" (.int 1000)) .nil))))))
    .nil)))) }
noncomputable abbrev QB:Fn:={ ar:=1,sz:=1,body:=(.cons (.ret (.tup (.cons (.bi .min2 (.cons (.idx (.var 0) (.cst (.int 0))) (.cons (.idx (.var 0) (.cst (.int 1))) .nil))) (.cons (.bi .max2 (.cons (.idx (.var 0) (.cst (.int 0))) (.cons (.idx (.var 0) (.cst (.int 1))) .nil))) (.cons (.idx (.var 0) (.cst (.int 2))) .nil)))))
    .nil) }
noncomputable abbrev QD:Fn:={ ar:=2,sz:=5,body:=(.cons (.set (.one 2) (.lst .nil))
    (.cons (.for (.many [3,4]) (.enum (.idx (.var 0) (.cst (.int 1)))) (.cons (.ite (.val (.cmp .isin (.var 1) (.slc (.var 4) .none (.some (.cst (.int 2)))))) (.cons (.expr (.bm .append (.var 2) (.cons (.tup (.cons (.var 3) (.cons (.call "far_end" (.cons (.var 4) (.cons (.var 1) .nil))) (.cons (.idx (.var 4) (.cst (.int 2))) .nil)))) .nil)))
    .nil) .nil)
    .nil))
    (.cons (.ret (.var 2))
    .nil))) }
noncomputable abbrev PM:Fn:={ ar:=2,sz:=2,body:=(.cons (.ret (.ife (.val (.cmp .eq (.idx (.var 0) (.cst (.int 0))) (.var 1))) (.idx (.var 0) (.cst (.int 1))) (.idx (.var 0) (.cst (.int 0)))))
    .nil) }
noncomputable abbrev PX:Fn:={ ar:=2,sz:=2,body:=(.cons (.ret (.comp [1] 1 (.one 0) (.seq (.idx (.var 0) (.cst (.int 0)))) (.val (.cmp .notin (.var 0) (.idx (.var 1) (.cst (.int 0))))) (.var 0)))
    .nil) }
noncomputable abbrev QE:Fn:={ ar:=3,sz:=3,body:=(.cons (.ret (.comp [1] 1 (.one 0) (.seq (.call "neighbours" (.cons (.var 0) (.cons (.var 2) .nil)))) (.and (.val (.cmp .notin (.idx (.var 0) (.cst (.int 0))) (.idx (.var 1) (.cst (.int 1))))) (.val (.cmp .notin (.idx (.var 0) (.cst (.int 1))) (.idx (.var 1) (.cst (.int 0)))))) (.var 0)))
    .nil) }
noncomputable abbrev PN:Fn:={ ar:=3,sz:=5,body:=(.cons (.ite (.or (.not (.val (.bi (.isi ["list"]) (.cons (.var 2) .nil)))) (.not (.val (.bi .all (.cons (.comp [] 1 (.one 0) (.seq (.var 2)) .yes (.call "is_row" (.cons (.var 0) .nil))) .nil))))) (.cons (.ret (.cst (.bl false)))
    .nil) .nil)
    (.cons (.ite (.val (.cmp .ne (.comp [] 1 (.one 0) (.seq (.var 2)) .yes (.idx (.var 0) (.cst (.int 0)))) (.call "bridges_up" (.cons (.var 0) (.cons (.var 1) .nil))))) (.cons (.ret (.cst (.bl false)))
    .nil) .nil)
    (.cons (.set (.one 4) (.dct .nil))
    (.cons (.for (.one 3) (.seq (.var 2)) (.cons (.setIdx (.var 4) (.idx (.var 3) (.cst (.int 0))) (.var 3))
    .nil))
    (.cons (.ret (.bi .all (.cons (.comp [0,1,4] 1 (.one 0) (.seq (.var 2)) .yes (.cmp .eq (.var 0) (.call "least_row" (.cons (.var 1) (.cons (.var 2) (.cons (.idx (.var 0) (.cst (.int 0))) (.cons (.var 3) .nil))))))) .nil)))
    .nil))))) }
noncomputable abbrev PU:Fn:={ ar:=1,sz:=1,body:=(.cons (.ite (.or (.not (.val (.bi (.isi ["tuple"]) (.cons (.var 0) .nil)))) (.val (.cmp .ne (.bi .len (.cons (.var 0) .nil)) (.cst (.int 4))))) (.cons (.ret (.cst (.bl false)))
    .nil) .nil)
    (.cons (.ite (.not (.val (.bi .all (.cons (.comp [] 1 (.one 0) (.seq (.slc (.var 0) .none (.some (.cst (.int 3))))) .yes (.call "is_whole" (.cons (.var 0) .nil))) .nil)))) (.cons (.ret (.cst (.bl false)))
    .nil) .nil)
    (.cons (.ret (.or (.cmp .is (.idx (.var 0) (.cst (.int 3))) (.cst .non)) (.call "is_whole" (.cons (.idx (.var 0) (.cst (.int 3))) .nil))))
    .nil))) }
noncomputable abbrev QU:Fn:={ ar:=4,sz:=9,body:=(.cons (.set (.one 4) (.lst .nil))
    (.cons (.for (.many [5,6,7]) (.seq (.call "ties_up" (.cons (.var 0) (.cons (.var 1) (.cons (.var 2) .nil))))) (.cons (.expr (.bm .append (.var 4) (.cons (.tup (.cons (.idx (.idx (.var 3) (.var 6)) (.cst (.int 1))) (.cons (.bin .add (.idx (.idx (.var 3) (.var 6)) (.cst (.int 2))) (.var 7)) (.cons (.var 6) (.cons (.var 5) .nil))))) .nil)))
    .nil))
    (.cons (.set (.one 8) (.call "best_offer" (.cons (.var 2) (.cons (.var 4) .nil))))
    (.cons (.ite (.val (.cmp .is (.var 8) (.cst .non))) (.cons (.ret (.tup (.cons (.var 2) (.cons (.var 2) (.cons (.cst (.int 0)) (.cons (.cst .non) .nil))))))
    .nil) .nil)
    (.cons (.ret (.tup (.cons (.var 2) (.cons (.idx (.var 8) (.cst (.int 0))) (.cons (.idx (.var 8) (.cst (.int 1))) (.cons (.idx (.var 8) (.cst (.int 3))) .nil))))))
    .nil))))) }
noncomputable abbrev PY:Fn:={ ar:=2,sz:=3,body:=(.cons (.set (.one 2) (.comp [0] 1 (.one 0) (.seq (.var 1)) (.val (.cmp .lt (.idx (.var 0) (.cst (.int 0))) (.var 1))) (.var 0)))
    (.cons (.ret (.bi .minD (.cons (.var 2) .nil)))
    .nil)) }
noncomputable abbrev QX:Fn:={ ar:=1,sz:=2,body:=(.cons (.set (.one 1) (.bin .mod (.var 0) (.cst (.int 536870909))))
    (.cons (.set (.one 1) (.bin .mod (.bin .add (.bin .mul (.bin .mod (.bin .mul (.var 1) (.var 1)) (.cst (.int 536870909))) (.bin .add (.var 1) (.cst (.int 7)))) (.cst (.int 13))) (.cst (.int 536870909))))
    (.cons (.ret (.lst (.cons (.var 0) (.cons (.var 1) (.cons (.bi .int (.cons (.cmp .ge (.var 0) (.bin .pow (.cst (.int 10)) (.cst (.int 18)))) .nil)) .nil)))))
    .nil))) }
noncomputable abbrev QW:Fn:={ ar:=2,sz:=3,body:=(.cons (.ite (.val (.cmp .eq (.idx (.var 0) (.cst (.int 2))) (.cst (.int 1)))) (.cons (.set (.one 2) (.bin .mod (.idx (.var 0) (.cst (.int 0))) (.var 1)))
    (.cons (.setIdx (.var 0) (.cst (.int 0)) (.bin .fdiv (.idx (.var 0) (.cst (.int 0))) (.var 1)))
    (.cons (.ret (.var 2))
    .nil))) .nil)
    (.cons (.setIdx (.var 0) (.cst (.int 1)) (.bin .mod (.bin .mul (.bin .add (.idx (.var 0) (.cst (.int 1))) (.cst (.int 7919))) (.bin .add (.idx (.var 0) (.cst (.int 1))) (.cst (.int 104729)))) (.cst (.int 536870909))))
    (.cons (.ret (.bin .mod (.bin .fdiv (.bin .add (.bin .mul (.idx (.var 0) (.cst (.int 1))) (.cst (.int 48271))) (.cst (.int 11))) (.cst (.int 64))) (.var 1)))
    .nil))) }
noncomputable abbrev P1:Fn:={ ar:=1,sz:=5,body:=(.cons (.set (.one 1) (.lst .nil))
    (.cons (.set (.one 2) (.idx (.lst (.cons (.bin .add (.cst (.int 1)) (.call "_law_take" (.cons (.var 0) (.cons (.cst (.int 10)) .nil)))) (.cons (.bin .add (.cst (.int 4)) (.call "_law_take" (.cons (.var 0) (.cons (.cst (.int 4)) .nil)))) (.cons (.cst (.int 10)) .nil)))) (.call "_law_take" (.cons (.var 0) (.cons (.cst (.int 3)) .nil)))))
    (.cons (.for (.one 3) (.range (.var 2)) (.cons (.set (.one 4) (.idx (.lst (.cons (.call "_law_take" (.cons (.var 0) (.cons (.cst (.int 1000)) .nil))) (.cons (.bin .add (.cst (.int 990)) (.call "_law_take" (.cons (.var 0) (.cons (.cst (.int 10)) .nil)))) (.cons (.call "_law_take" (.cons (.var 0) (.cons (.cst (.int 12)) .nil))) .nil)))) (.call "_law_take" (.cons (.var 0) (.cons (.cst (.int 3)) .nil)))))
    (.cons (.whl (.val (.cmp .isin (.var 4) (.var 1))) (.cons (.set (.one 4) (.bin .mod (.bin .add (.var 4) (.cst (.int 1))) (.cst (.int 1000))))
    .nil))
    (.cons (.expr (.bm .append (.var 1) (.cons (.var 4) .nil)))
    .nil))))
    (.cons (.ret (.var 1))
    .nil)))) }
noncomputable abbrev P2:Fn:={ ar:=1,sz:=1,body:=(.cons (.ret (.idx (.lst (.cons (.bin .add (.cst (.int 1)) (.call "_law_take" (.cons (.var 0) (.cons (.cst (.int 1000)) .nil)))) (.cons (.cst (.int 1)) (.cons (.cst (.int 1000)) (.cons (.bin .add (.cst (.int 1)) (.call "_law_take" (.cons (.var 0) (.cons (.cst (.int 5)) .nil)))) .nil))))) (.call "_law_take" (.cons (.var 0) (.cons (.cst (.int 4)) .nil)))))
    .nil) }
noncomputable abbrev QK:Fn:={ ar:=2,sz:=7,body:=(.cons (.set (.one 2) (.lst .nil))
    (.cons (.for (.one 3) (.range (.bin .mul (.idx (.lst (.cons (.call "_law_take" (.cons (.var 0) (.cons (.cst (.int 17)) .nil))) (.cons (.cst (.int 16)) .nil))) (.call "_law_take" (.cons (.var 0) (.cons (.cst (.int 2)) .nil)))) (.bi .int (.cons (.cmp .gt (.bi .len (.cons (.var 1) .nil)) (.cst (.int 1))) .nil)))) (.cons (.set (.one 4) (.call "_law_take" (.cons (.var 0) (.cons (.bi .len (.cons (.var 1) .nil)) .nil))))
    (.cons (.set (.one 5) (.bin .mod (.bin .add (.bin .add (.var 4) (.cst (.int 1))) (.call "_law_take" (.cons (.var 0) (.cons (.bin .sub (.bi .len (.cons (.var 1) .nil)) (.cst (.int 1))) .nil)))) (.bi .len (.cons (.var 1) .nil))))
    (.cons (.set (.one 6) (.tup (.cons (.idx (.var 1) (.var 4)) (.cons (.idx (.var 1) (.var 5)) (.cons (.call "_law_cost" (.cons (.var 0) .nil)) .nil)))))
    (.cons (.ite (.and (.val (.cmp .neE (.var 2) (.lst .nil))) (.val (.cmp .eq (.call "_law_take" (.cons (.var 0) (.cons (.cst (.int 6)) .nil))) (.cst (.int 0))))) (.cons (.set (.one 6) (.idx (.var 2) (.call "_law_take" (.cons (.var 0) (.cons (.bi .len (.cons (.var 2) .nil)) .nil)))))
    (.cons (.set (.one 6) (.idx (.lst (.cons (.var 6) (.cons (.tup (.cons (.idx (.var 6) (.cst (.int 1))) (.cons (.idx (.var 6) (.cst (.int 0))) (.cons (.idx (.var 6) (.cst (.int 2))) .nil)))) (.cons (.tup (.cons (.idx (.var 6) (.cst (.int 0))) (.cons (.idx (.var 6) (.cst (.int 1))) (.cons (.call "_law_cost" (.cons (.var 0) .nil)) .nil)))) .nil)))) (.call "_law_take" (.cons (.var 0) (.cons (.cst (.int 3)) .nil)))))
    .nil)) .nil)
    (.cons (.expr (.bm .append (.var 2) (.cons (.var 6) .nil)))
    .nil))))))
    (.cons (.ret (.var 2))
    .nil))) }
noncomputable abbrev P5:Fn:={ ar:=2,sz:=2,body:=(.cons (.ret (.tup (.cons (.bi .tuple (.cons (.bi .sortedI (.cons (.var 0) .nil)) .nil)) (.cons (.bi .tuple (.cons (.comp [] 1 (.one 0) (.seq (.var 1)) .yes (.tup (.cons (.bi .minL (.cons (.slc (.var 0) .none (.some (.cst (.int 2)))) .nil)) (.cons (.bi .maxL (.cons (.slc (.var 0) .none (.some (.cst (.int 2)))) .nil)) (.cons (.idx (.var 0) (.cst (.int 2))) .nil))))) .nil)) .nil))))
    .nil) }
noncomputable abbrev QZ:Fn:={ ar:=2,sz:=2,body:=(.cons (.ite (.val (.bi (.isi ["list","tuple"]) (.cons (.var 1) .nil))) (.cons (.ite (.or (.val (.cmp .ne (.bi (.isi ["list"]) (.cons (.var 0) .nil)) (.bi (.isi ["list"]) (.cons (.var 1) .nil)))) (.val (.cmp .ne (.bi (.isi ["tuple"]) (.cons (.var 0) .nil)) (.bi (.isi ["tuple"]) (.cons (.var 1) .nil))))) (.cons (.ret (.cst (.bl false)))
    .nil) .nil)
    (.cons (.ite (.val (.cmp .ne (.bi .len (.cons (.var 0) .nil)) (.bi .len (.cons (.var 1) .nil)))) (.cons (.ret (.cst (.bl false)))
    .nil) .nil)
    (.cons (.ret (.cmp .eqE (.comp [0,1] 1 (.one 0) (.range (.bi .len (.cons (.var 1) .nil))) (.not (.val (.call "_law_same" (.cons (.idx (.var 1) (.var 0)) (.cons (.idx (.var 2) (.var 0)) .nil))))) (.var 0)) (.lst .nil)))
    .nil))) .nil)
    (.cons (.ite (.or (.val (.cmp .is (.var 1) (.cst .non))) (.val (.bi (.isi ["bool"]) (.cons (.var 0) .nil)))) (.cons (.ret (.and (.cmp .is (.var 0) (.cst .non)) (.cmp .is (.var 1) (.cst .non))))
    .nil) .nil)
    (.cons (.ret (.and (.bi (.isi ["int"]) (.cons (.var 0) .nil)) (.cmp .eq (.var 0) (.var 1))))
    .nil))) }
noncomputable abbrev P4:Fn:={ ar:=2,sz:=5,body:=(.cons (.set (.one 2) (.idx (.lst (.cons (.cst (.int 4)) (.cons (.cst (.int 2)) (.cons (.cst (.int 9)) .nil)))) (.call "_law_take" (.cons (.var 0) (.cons (.cst (.int 3)) .nil)))))
    (.cons (.set (.one 3) (.comp [0,2] 1 (.one 0) (.seq (.idx (.var 1) (.cst (.int 0)))) (.val (.cmp .eq (.call "_law_take" (.cons (.var 1) (.cons (.var 2) .nil))) (.cst (.int 1)))) (.var 0)))
    (.cons (.set (.one 4) (.comp [0,2] 1 (.one 0) (.range (.bi .len (.cons (.idx (.var 1) (.cst (.int 1))) .nil))) (.val (.cmp .eq (.call "_law_take" (.cons (.var 1) (.cons (.var 2) .nil))) (.cst (.int 1)))) (.var 0)))
    (.cons (.ret (.idx (.lst (.cons (.tup (.cons (.bi .tuple (.cons (.var 3) .nil)) (.cons (.bi .tuple (.cons (.var 4) .nil)) .nil))) (.cons (.tup (.cons (.tup .nil) (.cons (.tup .nil) .nil))) .nil))) (.bi .int (.cons (.cmp .eq (.call "_law_take" (.cons (.var 0) (.cons (.cst (.int 4)) .nil))) (.cst (.int 0))) .nil))))
    .nil)))) }
noncomputable abbrev P7:Fn:={ ar:=1,sz:=2,body:=(.cons (.set (.one 1) (.call "_law_bridges" (.cons (.var 0) .nil)))
    (.cons (.ret (.call "make_net" (.cons (.var 1) (.cons (.call "_law_ties" (.cons (.var 0) (.cons (.var 1) .nil))) .nil))))
    .nil)) }
noncomputable abbrev QN:Fn:={ ar:=2,sz:=7,body:=(.cons (.set (.one 2) (.lst .nil))
    (.cons (.for (.one 3) (.range (.bi .len (.cons (.idx (.var 0) (.cst (.int 1))) .nil))) (.cons (.set (.many [4,5,6]) (.idx (.idx (.var 0) (.cst (.int 1))) (.var 3)))
    (.cons (.ite (.and (.val (.cmp .notin (.var 3) (.idx (.var 1) (.cst (.int 1))))) (.and (.val (.cmp .notin (.var 4) (.idx (.var 1) (.cst (.int 0))))) (.val (.cmp .notin (.var 5) (.idx (.var 1) (.cst (.int 0))))))) (.cons (.expr (.bm .append (.var 2) (.cons (.tup (.cons (.var 3) (.cons (.var 4) (.cons (.var 5) (.cons (.var 6) .nil))))) .nil)))
    .nil) .nil)
    .nil)))
    (.cons (.ret (.var 2))
    .nil))) }
noncomputable abbrev P3:Fn:={ ar:=2,sz:=10,body:=(.cons (.set (.one 2) .dctP)
    (.cons (.for (.one 3) (.seq (.idx (.var 0) (.cst (.int 0)))) (.cons (.ite (.val (.cmp .notin (.var 3) (.idx (.var 1) (.cst (.int 0))))) (.cons (.setIdx (.var 2) (.key (.cons (.var 3) (.cons (.var 3) .nil))) (.cst (.int 0)))
    .nil) .nil)
    .nil))
    (.cons (.for (.many [4,5,6,7]) (.seq (.call "_law_up" (.cons (.var 0) (.cons (.var 1) .nil)))) (.cons (.set (.one 8) (.bi .min2 (.cons (.var 7) (.cons (.bm .dgetD (.var 2) (.cons (.key (.cons (.var 5) (.cons (.var 6) .nil))) (.cons (.cst (.int 1000)) .nil))) .nil))))
    (.cons (.setIdx (.var 2) (.key (.cons (.var 5) (.cons (.var 6) .nil))) (.var 8))
    (.cons (.setIdx (.var 2) (.key (.cons (.var 6) (.cons (.var 5) .nil))) (.var 8))
    .nil))))
    (.cons (.for (.one 9) (.seq (.idx (.var 0) (.cst (.int 0)))) (.cons (.for (.one 5) (.seq (.idx (.var 0) (.cst (.int 0)))) (.cons (.for (.one 6) (.seq (.idx (.var 0) (.cst (.int 0)))) (.cons (.ite (.and (.val (.cmp .isin (.key (.cons (.var 5) (.cons (.var 9) .nil))) (.var 2))) (.val (.cmp .isin (.key (.cons (.var 9) (.cons (.var 6) .nil))) (.var 2)))) (.cons (.set (.one 7) (.bin .add (.idx (.var 2) (.key (.cons (.var 5) (.cons (.var 9) .nil)))) (.idx (.var 2) (.key (.cons (.var 9) (.cons (.var 6) .nil))))))
    (.cons (.setIdx (.var 2) (.key (.cons (.var 5) (.cons (.var 6) .nil))) (.bi .min2 (.cons (.var 7) (.cons (.bm .dgetD (.var 2) (.cons (.key (.cons (.var 5) (.cons (.var 6) .nil))) (.cons (.var 7) .nil))) .nil))))
    .nil)) .nil)
    .nil))
    .nil))
    .nil))
    (.cons (.ret (.var 2))
    .nil))))) }
noncomputable abbrev QM:Fn:={ ar:=2,sz:=13,body:=(.cons (.set (.one 2) (.call "_law_costs" (.cons (.var 0) (.cons (.var 1) .nil))))
    (.cons (.set (.one 3) (.lst .nil))
    (.cons (.for (.one 4) (.seq (.idx (.var 0) (.cst (.int 0)))) (.cons (.ite (.val (.cmp .notin (.var 4) (.idx (.var 1) (.cst (.int 0))))) (.cons (.set (.one 6) (.bi .minL (.cons (.comp [2,4] 1 (.one 0) (.seq (.idx (.var 0) (.cst (.int 0)))) (.val (.cmp .isin (.key (.cons (.var 2) (.cons (.var 0) .nil))) (.var 1))) (.var 0)) .nil)))
    (.cons (.set (.one 7) (.lst .nil))
    (.cons (.for (.many [8,9,5,10]) (.seq (.call "_law_up" (.cons (.var 0) (.cons (.var 1) .nil)))) (.cons (.ite (.val (.cmp .isin (.var 4) (.tup (.cons (.var 9) (.cons (.var 5) .nil))))) (.cons (.set (.one 11) (.bin .sub (.bin .add (.var 9) (.var 5)) (.var 4)))
    (.cons (.expr (.bm .append (.var 7) (.cons (.tup (.cons (.bin .add (.idx (.var 2) (.key (.cons (.var 11) (.cons (.var 6) .nil)))) (.var 10)) (.cons (.var 11) (.cons (.var 8) .nil)))) .nil)))
    .nil)) .nil)
    .nil))
    (.cons (.set (.one 12) (.cst .non))
    (.cons (.ite (.val (.cmp .lt (.var 6) (.var 4))) (.cons (.set (.one 12) (.idx (.bi .minL (.cons (.var 7) .nil)) (.cst (.int 2))))
    .nil) .nil)
    (.cons (.expr (.bm .append (.var 3) (.cons (.tup (.cons (.var 4) (.cons (.var 6) (.cons (.idx (.var 2) (.key (.cons (.var 4) (.cons (.var 6) .nil)))) (.cons (.var 12) .nil))))) .nil)))
    .nil)))))) .nil)
    .nil))
    (.cons (.ret (.var 3))
    .nil)))) }
noncomputable abbrev P8:Fn:={ ar:=3,sz:=6,body:=(.cons (.set (.one 3) (.bi .list (.cons (.idx (.var 1) (.var 2)) .nil)))
    (.cons (.set (.one 4) (.idx (.lst (.cons (.cst (.bl true)) (.cons (.cst (.bl false)) (.cons (.cst .non) (.cons (.cst (.str "0")) (.cons (.tup (.cons (.cst (.int 1)) .nil)) (.cons (.lst .nil) (.cons (.neg (.cst (.int 1))) (.cons (.cst (.int 1000)) (.cons (.bin .pow (.cst (.int 10)) (.cst (.int 30))) (.cons (.cst (.int 0)) (.cons (.cst (.int 1)) .nil)))))))))))) (.call "_law_take" (.cons (.var 0) (.cons (.cst (.int 11)) .nil)))))
    (.cons (.setIdx (.var 3) (.call "_law_take" (.cons (.var 0) (.cons (.cst (.int 4)) .nil))) (.var 4))
    (.cons (.set (.one 5) (.lst (.cons (.bi .tuple (.cons (.var 3) .nil)) (.cons (.bi .tuple (.cons (.var 3) .nil)) (.cons (.bi .tuple (.cons (.var 3) .nil)) (.cons (.var 3) (.cons (.bi .tuple (.cons (.slc (.var 3) .none (.some (.cst (.int 3)))) .nil)) (.cons (.bin .add (.bi .tuple (.cons (.var 3) .nil)) (.tup (.cons (.cst (.int 0)) .nil))) (.cons (.var 4) .nil)))))))))
    (.cons (.ret (.idx (.var 5) (.call "_law_take" (.cons (.var 0) (.cons (.cst (.int 7)) .nil)))))
    .nil))))) }
noncomputable abbrev P0:Fn:={ ar:=3,sz:=8,body:=(.cons (.set (.one 3) (.idx (.idx (.var 1) (.var 2)) (.cst (.int 1))))
    (.cons (.set (.one 4) (.idx (.lst (.cons (.cst (.int 1)) (.cons (.neg (.cst (.int 1))) (.cons (.cst (.int 1000)) (.cons (.cst (.int 0)) .nil))))) (.call "_law_take" (.cons (.var 0) (.cons (.cst (.int 4)) .nil)))))
    (.cons (.set (.one 5) (.idx (.lst (.cons (.var 3) (.cons (.bin .sub (.var 3) (.cst (.int 1))) (.cons (.cst (.int 0)) (.cons (.neg (.cst (.int 1))) (.cons (.call "_law_take" (.cons (.var 0) (.cons (.cst (.int 1000)) .nil))) .nil)))))) (.call "_law_take" (.cons (.var 0) (.cons (.cst (.int 5)) .nil)))))
    (.cons (.set (.one 6) (.lst .nil))
    (.cons (.for (.one 7) (.seq (.var 1)) (.cons (.ite (.and (.val (.cmp .eq (.idx (.var 7) (.cst (.int 1))) (.var 3))) (.or (.val (.cmp .ne (.idx (.var 7) (.cst (.int 0))) (.var 3))) (.val (.cmp .eq (.call "_law_take" (.cons (.var 0) (.cons (.cst (.int 2)) .nil))) (.cst (.int 1)))))) (.cons (.set (.one 7) (.tup (.cons (.idx (.var 7) (.cst (.int 0))) (.cons (.var 5) (.cons (.bin .add (.idx (.var 7) (.cst (.int 2))) (.var 4)) (.cons (.idx (.var 7) (.cst (.int 3))) .nil))))))
    .nil) .nil)
    (.cons (.expr (.bm .append (.var 6) (.cons (.var 7) .nil)))
    .nil)))
    (.cons (.ret (.var 6))
    .nil)))))) }
noncomputable abbrev P6:Fn:={ ar:=4,sz:=13,body:=(.cons (.set (.one 4) (.call "_law_up" (.cons (.var 1) (.cons (.var 2) .nil))))
    (.cons (.ite (.val (.cmp .eqE (.var 4) (.lst .nil))) (.cons (.ret (.bin .add (.var 3) (.var 3)))
    .nil) .nil)
    (.cons (.set (.many [5,6,7,8]) (.idx (.var 4) (.call "_law_take" (.cons (.var 0) (.cons (.bi .len (.cons (.var 4) .nil)) .nil)))))
    (.cons (.set (.one 9) (.idx (.lst (.cons (.bi .minL (.cons (.idx (.var 1) (.cst (.int 0))) .nil)) (.cons (.bin .sub (.var 6) (.cst (.int 1))) (.cons (.neg (.cst (.int 1))) (.cons (.var 6) .nil))))) (.call "_law_take" (.cons (.var 0) (.cons (.cst (.int 4)) .nil)))))
    (.cons (.set (.one 10) (.bin .sub (.call "_law_take" (.cons (.var 0) (.cons (.cst (.int 9)) .nil))) (.cst (.int 4))))
    (.cons (.set (.one 11) (.lst .nil))
    (.cons (.for (.one 12) (.seq (.var 3)) (.cons (.ite (.val (.cmp .eq (.idx (.var 12) (.cst (.int 0))) (.var 6))) (.cons (.set (.one 12) (.tup (.cons (.var 6) (.cons (.var 9) (.cons (.var 10) (.cons (.var 5) .nil))))))
    .nil) .nil)
    (.cons (.ite (.val (.cmp .eq (.idx (.var 12) (.cst (.int 0))) (.var 7))) (.cons (.set (.one 12) (.tup (.cons (.var 7) (.cons (.var 9) (.cons (.bin .add (.var 10) (.var 8)) (.cons (.var 5) .nil))))))
    .nil) .nil)
    (.cons (.expr (.bm .append (.var 11) (.cons (.var 12) .nil)))
    .nil))))
    (.cons (.ret (.var 11))
    .nil)))))))) }
noncomputable abbrev P9:Fn:={ ar:=4,sz:=15,body:=(.cons (.set (.one 4) (.call "_law_costs" (.cons (.var 0) (.cons (.var 1) .nil))))
    (.cons (.set (.one 5) (.lst .nil))
    (.cons (.for (.one 6) (.seq (.var 2)) (.cons (.set (.one 7) (.idx (.var 6) (.cst (.int 0))))
    (.cons (.ite (.val (.cmp .isin (.key (.cons (.var 7) (.cons (.var 3) .nil))) (.var 4))) (.cons (.set (.one 8) (.lst .nil))
    (.cons (.for (.many [9,10,11,12]) (.seq (.call "_law_up" (.cons (.var 0) (.cons (.var 1) .nil)))) (.cons (.ite (.val (.cmp .isin (.var 7) (.tup (.cons (.var 10) (.cons (.var 11) .nil))))) (.cons (.set (.one 13) (.bin .sub (.bin .add (.var 10) (.var 11)) (.var 7)))
    (.cons (.expr (.bm .append (.var 8) (.cons (.tup (.cons (.bin .add (.idx (.var 4) (.key (.cons (.var 13) (.cons (.var 3) .nil)))) (.var 12)) (.cons (.var 13) (.cons (.var 9) .nil)))) .nil)))
    .nil)) .nil)
    .nil))
    (.cons (.set (.one 14) (.cst .non))
    (.cons (.ite (.val (.cmp .ne (.var 7) (.var 3))) (.cons (.set (.one 14) (.idx (.bi .minL (.cons (.var 8) .nil)) (.cst (.int 2))))
    .nil) .nil)
    (.cons (.set (.one 6) (.tup (.cons (.var 7) (.cons (.var 3) (.cons (.idx (.var 4) (.key (.cons (.var 7) (.cons (.var 3) .nil)))) (.cons (.var 14) .nil))))))
    .nil))))) .nil)
    (.cons (.expr (.bm .append (.var 5) (.cons (.var 6) .nil)))
    .nil))))
    (.cons (.ret (.var 5))
    .nil)))) }
noncomputable abbrev QY:Fn:={ ar:=4,sz:=13,body:=(.cons (.set (.one 4) (.call "_law_take" (.cons (.var 0) (.cons (.cst (.int 14)) .nil))))
    (.cons (.ite (.or (.val (.cmp .eqE (.var 3) (.lst .nil))) (.val (.cmp .eq (.var 4) (.cst (.int 0))))) (.cons (.set (.one 5) (.lst (.cons (.bi .tuple (.cons (.var 3) .nil)) (.cons (.cst .non) (.cons (.dct .nil) (.cons (.cst (.str "tree")) (.cons (.lst (.cons (.cst .non) .nil)) (.cons (.lst (.cons (.tup .nil) .nil)) (.cons (.lst (.cons (.tup (.cons (.cst (.int 0)) (.cons (.cst (.int 0)) (.cons (.cst (.int 0)) (.cons (.cst .non) .nil))))) .nil)) (.cons (.bin .add (.var 3) (.lst (.cons (.cst .non) .nil))) .nil))))))))))
    (.cons (.ret (.idx (.bin .add (.var 5) (.lst (.cons (.lst (.cons (.dct (.cons (.cst (.int 0)) (.cons (.cst (.int 4)) (.cons (.cst (.int 1)) (.cons (.cst (.int 4)) (.cons (.cst (.int 2)) (.cons (.cst (.int 0)) (.cons (.cst (.int 3)) (.cons (.cst .non) .nil))))))))) .nil)) .nil))) (.call "_law_take" (.cons (.var 0) (.cons (.cst (.int 9)) .nil)))))
    .nil)) .nil)
    (.cons (.set (.one 6) (.call "_law_take" (.cons (.var 0) (.cons (.bi .len (.cons (.var 3) .nil)) .nil))))
    (.cons (.set (.one 7) (.call "_law_take" (.cons (.var 0) (.cons (.bi .len (.cons (.var 3) .nil)) .nil))))
    (.cons (.set (.many [8,9,10,11]) (.idx (.var 3) (.var 6)))
    (.cons (.ite (.val (.cmp .eq (.var 4) (.cst (.int 1)))) (.cons (.ret (.bin .add (.slc (.var 3) .none (.some (.var 6))) (.slc (.var 3) (.some (.bin .add (.var 6) (.cst (.int 1)))) .none)))
    .nil) .nil)
    (.cons (.ite (.val (.cmp .eq (.var 4) (.cst (.int 2)))) (.cons (.ret (.bin .add (.bin .add (.slc (.var 3) .none (.some (.var 7))) (.lst (.cons (.idx (.var 3) (.var 6)) .nil))) (.slc (.var 3) (.some (.var 7)) .none)))
    .nil) .nil)
    (.cons (.ite (.val (.cmp .eq (.var 4) (.cst (.int 3)))) (.cons (.ret (.bin .add (.bin .add (.slc (.var 3) .none (.some (.var 6))) (.lst (.cons (.tup (.cons (.var 8) (.cons (.var 9) (.cons (.bin .add (.var 10) (.idx (.lst (.cons (.cst (.int 1)) (.cons (.neg (.cst (.int 1))) (.cons (.cst (.int 5)) .nil)))) (.call "_law_take" (.cons (.var 0) (.cons (.cst (.int 3)) .nil))))) (.cons (.var 11) .nil))))) .nil))) (.slc (.var 3) (.some (.bin .add (.var 6) (.cst (.int 1)))) .none)))
    .nil) .nil)
    (.cons (.ite (.val (.cmp .eq (.var 4) (.cst (.int 4)))) (.cons (.set (.one 12) (.bin .add (.lst (.cons (.cst .non) (.cons (.neg (.cst (.int 1))) (.cons (.bi .len (.cons (.idx (.var 1) (.cst (.int 1))) .nil)) (.cons (.var 11) (.cons (.cst (.int 0)) .nil)))))) (.bi .listRange (.cons (.bi .len (.cons (.idx (.var 1) (.cst (.int 1))) .nil)) .nil))))
    (.cons (.ret (.bin .add (.bin .add (.slc (.var 3) .none (.some (.var 6))) (.lst (.cons (.tup (.cons (.var 8) (.cons (.var 9) (.cons (.var 10) (.cons (.idx (.var 12) (.call "_law_take" (.cons (.var 0) (.cons (.bi .len (.cons (.var 12) .nil)) .nil)))) .nil))))) .nil))) (.slc (.var 3) (.some (.bin .add (.var 6) (.cst (.int 1)))) .none)))
    .nil)) .nil)
    (.cons (.ite (.val (.cmp .eq (.var 4) (.cst (.int 5)))) (.cons (.ret (.bin .add (.bin .add (.slc (.var 3) .none (.some (.var 6))) (.lst (.cons (.call "_law_part" (.cons (.var 0) (.cons (.var 3) (.cons (.var 6) .nil)))) .nil))) (.slc (.var 3) (.some (.bin .add (.var 6) (.cst (.int 1)))) .none)))
    .nil) .nil)
    (.cons (.ite (.val (.cmp .eq (.var 4) (.cst (.int 6)))) (.cons (.ret (.call "_law_all" (.cons (.var 0) (.cons (.var 3) (.cons (.var 6) .nil)))))
    .nil) .nil)
    (.cons (.ite (.val (.cmp .eq (.var 4) (.cst (.int 7)))) (.cons (.ret (.call "_law_leaning" (.cons (.var 0) (.cons (.var 1) (.cons (.var 2) (.cons (.var 3) .nil))))))
    .nil) .nil)
    (.cons (.ite (.val (.cmp .eq (.var 4) (.cst (.int 8)))) (.cons (.ret (.call "_law_tree" (.cons (.var 1) (.cons (.call "_law_down" (.cons (.var 0) (.cons (.var 1) .nil))) .nil))))
    .nil) .nil)
    (.cons (.ite (.val (.cmp .eq (.var 4) (.cst (.int 9)))) (.cons (.ret (.bin .add (.slc (.var 3) (.some (.var 6)) .none) (.slc (.var 3) .none (.some (.var 6)))))
    .nil) .nil)
    (.cons (.ite (.val (.cmp .eq (.var 4) (.cst (.int 10)))) (.cons (.ret (.call "_law_rooted" (.cons (.var 1) (.cons (.var 2) (.cons (.var 3) (.cons (.var 8) .nil))))))
    .nil) .nil)
    (.cons (.ite (.val (.cmp .eq (.var 4) (.cst (.int 11)))) (.cons (.ret (.comp [0,3] 1 (.one 0) (.seq (.var 3)) .yes (.idx (.var 2) (.call "_law_take" (.cons (.var 1) (.cons (.bi .len (.cons (.var 2) .nil)) .nil))))))
    .nil) .nil)
    (.cons (.set (.one 5) (.bi .list (.cons (.var 3) .nil)))
    (.cons (.setIdx (.var 5) (.var 7) (.idx (.var 3) (.var 6)))
    (.cons (.ite (.val (.cmp .eq (.var 4) (.cst (.int 12)))) (.cons (.setIdx (.var 5) (.var 6) (.idx (.var 3) (.var 7)))
    .nil) .nil)
    (.cons (.ret (.var 5))
    .nil)))))))))))))))))))) }
noncomputable abbrev PV:Fn:={ ar:=1,sz:=10,body:=(.cons (.for (.one 1) (.seq (.bin .add (.lst (.cons (.cst (.int 0)) .nil)) (.slc (.var 0) .none (.some (.cst (.int 20)))))) (.cons (.set (.one 2) (.call "_law_stream" (.cons (.var 1) .nil)))
    (.cons (.set (.one 3) (.call "_law_net" (.cons (.var 2) .nil)))
    (.cons (.set (.one 4) (.call "_law_down" (.cons (.var 2) (.cons (.var 3) .nil))))
    (.cons (.set (.one 5) (.call "_law_tree" (.cons (.var 3) (.cons (.var 4) .nil))))
    (.cons (.ite (.val (.cmp .ntT (.call "is_plain_tree" (.cons (.var 3) (.cons (.var 4) (.cons (.bi .list (.cons (.var 5) .nil)) .nil)))) (.cst (.bl true)))) (.cons (.ret (.cst (.bl false)))
    .nil) .nil)
    (.cons (.for (.one 6) (.range (.cst (.int 4))) (.cons (.set (.one 7) (.call "_law_spoilt" (.cons (.var 2) (.cons (.var 3) (.cons (.var 4) (.cons (.var 5) .nil))))))
    (.cons (.set (.one 8) (.var 7))
    (.cons (.ite (.val (.bi (.isi ["list"]) (.cons (.var 7) .nil))) (.cons (.set (.one 8) (.bi .list (.cons (.var 7) .nil)))
    .nil) .nil)
    (.cons (.set (.one 9) (.call "is_plain_tree" (.cons (.var 3) (.cons (.var 4) (.cons (.var 8) .nil)))))
    (.cons (.ite (.or (.not (.val (.bi (.isi ["bool"]) (.cons (.var 9) .nil)))) (.or (.val (.cmp .ne (.var 9) (.call "_law_same" (.cons (.var 7) (.cons (.var 5) .nil))))) (.val (.cmp .neX (.var 8) (.var 7))))) (.cons (.ret (.cst (.bl false)))
    .nil) .nil)
    .nil))))))
    .nil)))))))
    (.cons (.ret (.and (.call "is_plain_tree" (.cons (.tup (.cons (.tup (.cons (.cst (.int 4)) .nil)) (.cons (.tup .nil) .nil))) (.cons (.tup (.cons (.tup .nil) (.cons (.tup .nil) .nil))) (.cons (.lst (.cons (.tup (.cons (.cst (.int 4)) (.cons (.cst (.int 4)) (.cons (.cst (.int 0)) (.cons (.cst .non) .nil))))) .nil)) .nil)))) (.not (.call "is_plain_tree" (.cons (.tup (.cons (.tup (.cons (.cst (.int 4)) .nil)) (.cons (.tup .nil) .nil))) (.cons (.tup (.cons (.tup .nil) (.cons (.tup .nil) .nil))) (.cons (.lst .nil) .nil)))))))
    .nil)) }
class Al (P:Pg):Prop where
 c0:P "is_whole" = some PQ
 c1:P "is_whole_between" = some PR
 c2:P "make_net" = some QC
 c3:P "are_bridges" = some PZ
 c4:P "is_tie" = some PP
 c5:P "lesser_end_first" = some QB
 c6:P "neighbours" = some QD
 c7:P "far_end" = some PM
 c8:P "bridges_up" = some PX
 c9:P "ties_up" = some QE
 c10:P "is_plain_tree" = some PN
 c11:P "is_row" = some PU
 c12:P "least_row" = some QU
 c13:P "best_offer" = some PY
 c14:P "_law_stream" = some QX
 c15:P "_law_take" = some QW
 c16:P "_law_bridges" = some P1
 c17:P "_law_cost" = some P2
 c18:P "_law_ties" = some QK
 c19:P "_law_due" = some P5
 c20:P "_law_same" = some QZ
 c21:P "_law_down" = some P4
 c22:P "_law_net" = some P7
 c23:P "_law_up" = some QN
 c24:P "_law_costs" = some P3
 c25:P "_law_tree" = some QM
 c26:P "_law_part" = some P8
 c27:P "_law_all" = some P0
 c28:P "_law_leaning" = some P6
 c29:P "_law_rooted" = some P9
 c30:P "_law_spoilt" = some QY
 c31:P "law" = some PV
theorem YO [I:Al P] (q:B0 P n PQ [some a0] h Q X):wF P (n+1) "is_whole" [a0] h Q X:=Zt I.c0 rfl q
theorem YY [I:Al P] (q:B0 P n PR [some a0,some a1,some a2] h Q X):wF P (n+1) "is_whole_between" [a0,a1,a2] h Q X:=Zt I.c1 rfl q
theorem K4 [I:Al P] (q:B0 P n QC [some a0,some a1] h Q X):wF P (n+1) "make_net" [a0,a1] h Q X:=Zt I.c2 rfl q
theorem Wz [I:Al P] (q:B0 P n PZ [some a0] h Q X):wF P (n+1) "are_bridges" [a0] h Q X:=Zt I.c3 rfl q
theorem O9 [I:Al P] (q:B0 P n PP [some a0,some a1] h Q X):wF P (n+1) "is_tie" [a0,a1] h Q X:=Zt I.c4 rfl q
theorem YW [I:Al P] (q:B0 P n QB [some a0] h Q X):wF P (n+1) "lesser_end_first" [a0] h Q X:=Zt I.c5 rfl q
theorem JB [I:Al P] (q:B0 P n QD [some a0,some a1,none,none,none] h Q X):wF P (n+1) "neighbours" [a0,a1] h Q X:=Zt I.c6 rfl q
theorem OC [I:Al P] (q:B0 P n PM [some a0,some a1] h Q X):wF P (n+1) "far_end" [a0,a1] h Q X:=Zt I.c7 rfl q
theorem JS [I:Al P] (q:B0 P n PX [some a0,some a1] h Q X):wF P (n+1) "bridges_up" [a0,a1] h Q X:=Zt I.c8 rfl q
theorem NO [I:Al P] (q:B0 P n QE [some a0,some a1,some a2] h Q X):wF P (n+1) "ties_up" [a0,a1,a2] h Q X:=Zt I.c9 rfl q
theorem Z3 [I:Al P] (q:B0 P n PN [some a0,some a1,some a2,none,none] h Q X):wF P (n+1) "is_plain_tree" [a0,a1,a2] h Q X:=Zt I.c10 rfl q
theorem Ku [I:Al P] (q:B0 P n PU [some a0] h Q X):wF P (n+1) "is_row" [a0] h Q X:=Zt I.c11 rfl q
theorem Ke [I:Al P] (q:B0 P n QU [some a0,some a1,some a2,some a3,none,none,none,none,none] h Q X):wF P (n+1) "least_row" [a0,a1,a2,a3] h Q X:=Zt I.c12 rfl q
theorem JR [I:Al P] (q:B0 P n PY [some a0,some a1,none] h Q X):wF P (n+1) "best_offer" [a0,a1] h Q X:=Zt I.c13 rfl q
theorem Jz [I:Al P] (q:B0 P n QX [some a0,none] h Q X):wF P (n+1) "_law_stream" [a0] h Q X:=Zt I.c14 rfl q
theorem MP [I:Al P] (q:B0 P n QW [some a0,some a1,none] h Q X):wF P (n+1) "_law_take" [a0,a1] h Q X:=Zt I.c15 rfl q
theorem WE [I:Al P] (q:B0 P n P1 [some a0,none,none,none,none] h Q X):wF P (n+1) "_law_bridges" [a0] h Q X:=Zt I.c16 rfl q
theorem MN [I:Al P] (q:B0 P n P2 [some a0] h Q X):wF P (n+1) "_law_cost" [a0] h Q X:=Zt I.c17 rfl q
theorem KR [I:Al P] (q:B0 P n QK [some a0,some a1,none,none,none,none,none] h Q X):wF P (n+1) "_law_ties" [a0,a1] h Q X:=Zt I.c18 rfl q
theorem Yr [I:Al P] (q:B0 P n QZ [some a0,some a1] h Q X):wF P (n+1) "_law_same" [a0,a1] h Q X:=Zt I.c20 rfl q
theorem KK [I:Al P] (q:B0 P n P4 [some a0,some a1,none,none,none] h Q X):wF P (n+1) "_law_down" [a0,a1] h Q X:=Zt I.c21 rfl q
theorem ON [I:Al P] (q:B0 P n P7 [some a0,none] h Q X):wF P (n+1) "_law_net" [a0] h Q X:=Zt I.c22 rfl q
theorem Ao [I:Al P] (q:B0 P n QN [some a0,some a1,none,none,none,none,none] h Q X):wF P (n+1) "_law_up" [a0,a1] h Q X:=Zt I.c23 rfl q
theorem Kk [I:Al P] (q:B0 P n P3 [some a0,some a1,none,none,none,none,none,none,none,none] h Q X):wF P (n+1) "_law_costs" [a0,a1] h Q X:=Zt I.c24 rfl q
theorem Mf [I:Al P] (q:B0 P n QM [some a0,some a1,none,none,none,none,none,none,none,none,none,none,none] h Q X):wF P (n+1) "_law_tree" [a0,a1] h Q X:=Zt I.c25 rfl q
theorem Mh [I:Al P] (q:B0 P n P8 [some a0,some a1,some a2,none,none,none] h Q X):wF P (n+1) "_law_part" [a0,a1,a2] h Q X:=Zt I.c26 rfl q
theorem OV [I:Al P] (q:B0 P n P0 [some a0,some a1,some a2,none,none,none,none,none] h Q X):wF P (n+1) "_law_all" [a0,a1,a2] h Q X:=Zt I.c27 rfl q
theorem WA [I:Al P] (q:B0 P n P6 [some a0,some a1,some a2,some a3,none,none,none,none,none,none,none,none,none] h Q X):wF P (n+1) "_law_leaning" [a0,a1,a2,a3] h Q X:=Zt I.c28 rfl q
theorem Jn [I:Al P] (q:B0 P n P9 [some a0,some a1,some a2,some a3,none,none,none,none,none,none,none,none,none,none,none] h Q X):wF P (n+1) "_law_rooted" [a0,a1,a2,a3] h Q X:=Zt I.c29 rfl q
theorem JW [I:Al P] (q:B0 P n QY [some a0,some a1,some a2,some a3,none,none,none,none,none,none,none,none,none] h Q X):wF P (n+1) "_law_spoilt" [a0,a1,a2,a3] h Q X:=Zt I.c30 rfl q
theorem HL [I:Al P] (q:B0 P n PV [some a0,none,none,none,none,none,none,none,none,none] h Q X):wF P (n+1) "law" [a0] h Q X:=Zt I.c31 rfl q
local macro_rules | `(tactic| walk_at "ne")=>`(tactic| first | assumption | (apply Ne.symm; assumption) | ((with_reducible apply ne_none'); (· assumption); (· walk_at "look")) | (apply Ne.symm; (with_reducible apply ne_none'); (· assumption); (· walk_at "look")))
local macro_rules | `(tactic| walk_at "look")=>`(tactic| first | assumption | with_reducible exact upd_same | ((with_reducible apply upd_ne'); (· walk_at "ne"); (· walk_at "look")) | ((with_reducible apply Ext.get); (· assumption); (· walk_at "look")) | ((with_reducible apply ExtB.get); (· assumption); (· walk_at "ne"); (· walk_at "look")))
local macro_rules | `(tactic| walk_at "ar")=>`(tactic| first | decide | omega | assumption | (simp only [qB,List.length_nil]; decide))
local macro_rules | `(tactic| walk_at "mul")=>`(tactic| first | exact .inl (.inr (by omega)) | exact .inl (.inl (by omega)) | exact .inr ⟨by decide,by decide⟩)
local macro_rules | `(tactic| walk_at "setl")=>`(tactic| first | (simp only [List.zip_cons_cons,List.zip_nil_right,List.zip_nil_left,List.foldl_cons,List.foldl_nil,List.set_cons_succ,List.set_cons_zero]; done) | (simp only [List.zip_cons_cons,List.zip_nil_right,List.zip_nil_left,List.foldl_cons,List.foldl_nil,List.set_cons_succ,List.set_cons_zero]; exact rfl) | exact rfl)
local macro_rules | `(tactic| walk_at "py1")=>do
 let a←#[`ss_cons,`ss_nil,`s_set,`s_ret,`s_ite,`s_expr,`s_for,`s_setIdx,`s_whl,`e_cst,`e_glob,`e_bin,`e_idx,`e_cmp,`e_call,`e_bi,`e_tup,`e_key,`e_dctP,`e_lst,`e_bm,`e_slc,`e_and,`e_or,`e_not,`e_neg,`e_chain,`e_dct0,`e_dct,`e_ife,`e_comp,`a_cons,`a_nil,`o_none,`o_some,`t_val,`t_not,`t_and,`t_or,`t_yes,`i_seq,`i_range,`i_enum,`b_add,`b_sub,`g_int,`g_bl,`g_ref,`g_tbl,`c_lt,`c_gt,`c_le,`c_ge,`c_eqI,`c_neI,`c_isN,`ln_tup,`in_bl,`mn2,`mx2,`ls_tup,`sl_scr,`it_tup].mapM fun n=>`(tactic| refine $(Lean.mkIdent n) ?_)
 let c←#[`ln_lst,`tp_lst,`ls_lst,`sl_lst,`it_lst].mapM fun n=>`(tactic| ((with_reducible apply $(Lean.mkIdent n)); (· walk_at "look")))
 `(tactic| first
 |(with_reducible first $[| $a:tactic]*)
 |((with_reducible apply X5);(· exact rfl))
 |((with_reducible apply AB);(· walk_at "setl"))|((with_reducible apply Ep);(· (simp only[bindL,List.set_cons_succ,List.set_cons_zero];exact rfl)))|((with_reducible apply b_mul);(· walk_at "mul"))|((with_reducible apply b_fdiv);(· walk_at "ar"))|((with_reducible apply b_mod);(· walk_at "ar"))|((with_reducible apply Fz);(· walk_at "ar");(· simp only[Int.reduceToNat,Int.reducePow];exact rfl))|((with_reducible apply ZN);(· walk_at "look");(· walk_at "look");(· first|(simp only[List.cons_append,List.nil_append,qB,List.length_nil];decide)|omega))|((with_reducible apply A1);(· walk_at "ar"))
 |((with_reducible apply ix_tup);(· exact rfl))|((with_reducible apply Zm);(· walk_at "look");(· exact rfl))
 |((with_reducible apply Jp);(· walk_at "look");(· exact rfl))
 |((with_reducible apply Cq);(· exact rfl))|((with_reducible apply sl_tup);(· decide))
 | ((with_reducible apply Fj);(· first | exact .inl rfl | exact .inr (.inl rfl) | simp);(· walk_at "look")) | ((with_reducible apply Zw);(· walk_at "look");(· walk_at "ar")) | (first $[| $c:tactic]*))
local macro_rules | `(tactic| walk_at "py")=>`(tactic| repeat walk_at "py1")
theorem Hq{h:Hs}{v u:Val}{c:Bool}{KB:Bool→Prop}(e:eqV h v u=some c)(q:KB c):go (cmpV h .eq v u) KB:=go_of e q
theorem YL{h:Hs}{v u:Val}{c:Bool}{KB:Bool→Prop}(e:eqV h v u=some c)(q:KB (!c)):go (cmpV h .ne v u) KB:=go_of (by show(eqV h v u).map _=_;rw[e];rfl) q
theorem Za{h:Hs}{o:Ob}{Q:Q1}(q:∀ p g,h p=none→Ext h g→g p=some o→Q (.ref p) g):new h o Q:=Ut fun p hp=>q p _ hp (Ext.new hp) upd_same
theorem Yl{α:Type}{xs:List α}{r:Int}{x:α}(r0:0≤r)(e:xs[r.toNat]?=some x):atI xs r=some x:=by have:=(qK.mp e).1;unfold atI ixN;rw[if_pos r0,if_pos (by omega)];exact e
theorem Js{α:Type}{xs:List α}{r:Int}(r0:0≤r)(r1:r<xs.length):∃ x,xs[r.toNat]?=some x∧x∈xs:=by
 have h:r.toNat<xs.length:=by omega
 exact⟨xs[r.toNat],qH h,List.getElem_mem h⟩
theorem ZH{α:Type}{xs:List α}{r:Int}(r0:0≤r)(r1:r<xs.length):∃ x,atI xs r=some x∧x∈xs:=by obtain⟨x,h1,h2⟩:=Js r0 r1;exact⟨x,Yl r0 h1,h2⟩
def Row (h:Hs) (w:Ad):Prop:=∃ a b c:Int,h w=some (.lst [.int a,.int b,.int c])∧0≤b∧b<536870909
theorem Row.ne{h:Hs}{w p:Ad}(x:Row h w)(e:h p=none):w≠p:=by obtain⟨_,_,_,x,_⟩:=x;exact Y2 x e
theorem Row.ext{h g:Hs}{w:Ad}(x:Row h w)(e:Ext h g):Row g w:=by obtain⟨_,_,_,x,y⟩:=x;exact⟨_,_,_,e.get x,y⟩
theorem Yb:∀ ns:List Int,intsOf (ns.map .int)=some ns
 |[]=>rfl
 |n::ns=>by rw[qG,intsOf,Yb ns];rfl
theorem ZK:∀ bs:List Bool,blsOf (bs.map .bl)=some bs
 |[]=>rfl
 |b::bs=>by rw[qG,blsOf,ZK bs];rfl
theorem Wi{h:Hs}{d:Nat}:∀ ns:List Int,(ns.map Val.int).mapM (dat h d)=some (ns.map D.int)
 |[]=>rfl
 |n::ns=>by rw[qG,List.mapM_cons,Wi ns,qG];cases d<;>rfl
theorem Nf{i:Int}:∀ ns:List Int,((ns.map D.int).any fun e=>D.eqv e (.int i))=decide (i∈ns)
 |[]=>by simp
 |n::ns=>by
  rw[qG,List.any_cons,Nf ns,JY];by_cases h:n=i
  ·simp[h]
  ·simp[h,Ne.symm h]
theorem XI{h:Hs}{i:Int}{ns:List Int}:inL h (.int i) (ns.map .int)=some (decide (i∈ns)):=by unfold inL;rw[Wi];exact congrArg some (Nf ns)
theorem DE{h:Hs}{i:Int}{ns:List Int}{a:Ad}{KB:Bool→Prop}(e:h a=some (.lst (ns.map .int)))(q:KB (!decide (i∈ns))):go (cmpV h .notin (.int i) (.ref a)) KB:=go_of (by show(inV h (.int i) (.ref a)).map _=_;unfold inV;simp only[e];rw[XI];rfl) q
theorem GR{h:Hs}{i:Int}{ns:List Int}{a:Ad}{KB:Bool→Prop}(e:h a=some (.lst (ns.map .int)))(q:KB (decide (i∈ns))):go (cmpV h .isin (.int i) (.ref a)) KB:=go_of (by show inV h (.int i) (.ref a)=_;unfold inV;simp only[e];rw[XI]) q
theorem lset{h:Hs}{a:Ad}{ns:List Int}{Q:Q1}(e:h a=some (.lst (ns.map .int)))(m:ns.length<4000)(q:Q (.int (dedup ns).length) h):(biV h .lenSet [.ref a]).wp h Q:=wp_val (by show biLenSet h (.ref a)=_;unfold biLenSet sortOf;simp only[e,lsOf,Option.bind_some,Yb];rw[if_pos m]) q
theorem mem_dedup{x:Int}:∀ {ns:List Int},x∈dedup ns↔x∈ns
 |[]=>by simp[dedup]
 |n::ns=>by rw[dedup,qE,List.mem_filter,mem_dedup,qE];by_cases h:x=n<;>simp[h]
theorem J9:∀ (ns:List Int),(dedup ns).length≤ns.length
 |[]=>by simp[dedup]
 |n::ns=>by have:=J9 ns;have:=List.length_filter_le (fun y=>y != n) (dedup ns);rw[dedup,qB,qB];omega
theorem WZ:∀ (ns:List Int),(dedup ns).length=ns.length↔ns.Nodup
 |[]=>by simp[dedup]
 |n::ns=>by
  have h1:=J9 ns;have h2:=List.length_filter_le (fun y=>y != n) (dedup ns);have ih:=WZ ns;rw[dedup,qB,qB,List.nodup_cons];constructor
  ·intro h;have h3:(List.filter (fun y=>y != n) (dedup ns)).length=(dedup ns).length:=by omega
   have h4:=List.length_filter_eq_length_iff.mp h3;refine⟨fun hm=>?_,ih.mp (by omega)⟩;have:=h4 n (mem_dedup.mpr hm);simp at this
  ·rintro⟨h3,h4⟩;have h5:=ih.mpr h4;have h6:(List.filter (fun y=>y != n) (dedup ns)).length=(dedup ns).length:=List.length_filter_eq_length_iff.mpr fun y hy=>by
    have:=mem_dedup.mp hy;simp only[bne_iff_ne,ne_eq];rintro rfl;exact h3 this
   omega
theorem YD{i:Nat}{v:Val}{m:Int}(h:(rangeV 0 m)[i]?=some v):v=.int i∧(i:Int)<m:=by unfold rangeV at h;rw[qF]at h;obtain⟨k,hk,rfl⟩:=qD.mp h;obtain⟨hlt,rfl⟩:=qK.mp hk;rw[List.length_range]at hlt;rw[List.getElem_range];exact⟨by rw[Int.zero_add],by omega⟩
theorem Yk{m:Int}:(rangeV 0 m).length=m.toNat:=by unfold rangeV;rw[qA,List.length_range,Int.sub_zero]
noncomputable def cnt (n0:Int) (ns:List Int) (j:Int):Nat:=(ns.filter fun m=>decide (j≤(m - n0) % 1000)).length
theorem Ey(n0:Int)(ns:List Int)(j:Int):cnt n0 ns (j+1)≤cnt n0 ns j:=by
 unfold cnt;induction ns with
 |nil=>exact zJ _
 |cons m r ih =>
  rw[List.filter_cons,List.filter_cons];by_cases h1:j+1≤(m - n0) % 1000
  ·have h2:j≤(m - n0) % 1000:=by omega
   simp only[h1,h2,decide_true,if_true,qB];omega
  ·by_cases h2:j≤(m - n0) % 1000
   ·simp only[h1,h2,decide_true,decide_false,if_true,Bool.false_eq_true,if_false,qB];omega
   ·simp only[h1,h2,decide_false,Bool.false_eq_true,if_false];exact ih
theorem Ax{n0 n:Int}:∀ {ns:List Int},n∈ns→cnt n0 ns ((n - n0) % 1000+1)+1≤cnt n0 ns ((n - n0) % 1000)
 |[],h=>nomatch h
 |m::r,h=>by
  have hle:=Ey n0 r ((n - n0) % 1000);unfold cnt at hle ⊢;rw[List.filter_cons,List.filter_cons];rcases qE.mp h with e|h
  ·subst e;have h1:¬ (n - n0) % 1000+1≤(n - n0) % 1000:=by omega
   simp only[h1,decide_false,Bool.false_eq_true,if_false,Int.le_refl,decide_true,if_true,qB];omega
  ·have ih:=Ax (n0:=n0) h;unfold cnt at ih;by_cases h1:(n - n0) % 1000+1≤(m - n0) % 1000
   ·have h2:(n - n0) % 1000≤(m - n0) % 1000:=by omega
    simp only[h1,h2,decide_true,if_true,qB];omega
   ·by_cases h2:(n - n0) % 1000≤(m - n0) % 1000
    ·simp only[h1,h2,decide_true,decide_false,if_true,Bool.false_eq_true,if_false,qB];omega
    ·simp only[h1,h2,decide_false,Bool.false_eq_true,if_false];exact ih
def Brs (ns:List Int):Prop:=∀ i∈ns,0≤i∧i<1000
theorem Row.exb{h:Hs}{w p:Ad}{o:Ob}(x:Row h w)(n:p≠w):Row (upd h p o) w:=by obtain⟨_,_,_,x,y⟩:=x;exact⟨_,_,_,(upd_ne n.symm).trans x,y⟩
theorem Yt{h g:Hs}{w p:Ad}{o:Ob}(x:ExtB w h g)(e:h p=none):ExtB w h (upd g p o):=⟨fun {a u} n z=>by rw[upd_ne (Y2 z e)];exact x.get n z⟩
variable {P:Pg} [Al P] {n:Nat}{h:Hs}{w:Ad}{Q:Q1}{X:XQ}
theorem N6 {c:Int}(k:∀ p g,h p=none→Ext h g→Row g p→Q (.ref p) g):wF P (n+1) "_law_stream" [.int c] h Q X:=by refine Jz ?_;walk_at "py";refine Za fun p g hp x e=>k p g hp x ⟨_,_,_,e,Int.emod_nonneg _ (by decide),Int.emod_lt_of_pos _ (by decide)⟩
theorem Zf {m:Int}(hw:Row h w) (h1:0<m) (h2:m<1073741824) (k:∀ r g,0≤r→r<m→ExtB w h g→Row g w→Q (.int r) g):wF P (n+1) "_law_take" [.ref w,.int m] h Q X:=by
 obtain⟨a,b,c,e,b0,b1⟩:=hw;refine MP ?_;walk_at "py";refine ifP (fun hc=>?_) (fun hc=>?_)<;>walk_at "py"
 ·exact k _ _ (Int.emod_nonneg _ (by omega)) (Int.emod_lt_of_pos _ h1) ExtB.upd ⟨_,_,_,upd_same,b0,b1⟩
 ·exact k _ _ (Int.emod_nonneg _ (by omega)) (Int.emod_lt_of_pos _ h1) ExtB.upd ⟨_,_,_,upd_same,Int.emod_nonneg _ (by decide),Int.emod_lt_of_pos _ (by decide)⟩
theorem Mr (hw:Row h w) (k:∀ p ns g,p≠w→g p=some (.lst (ns.map .int))→1≤ns.length→ns.length≤10→Brs ns→ns.Nodup→ExtB w h g→Row g w→Q (.ref p) g):wF P (n+2) "_law_bridges" [.ref w] h Q X:=by
 refine WE ?_;walk_at "py";refine Za fun p g0 hp x0 e0=>?_;have np:p≠w:=fun z=>hw.ne hp z.symm;walk_at "py";refine Zf (hw.ext x0) (by decide) (by decide) fun r1 g1 a1 b1 x1 w1=>?_;walk_at "py";refine Zf w1 (by decide) (by decide) fun r2 g2 a2 b2 x2 w2=>?_;walk_at "py";refine Za fun p3 g3 hp3 x3 e3=>?_;walk_at "py";refine Zf (w2.ext x3) (by decide) (by decide) fun r4 g4 a4 b4 x4 w4=>?_;obtain⟨v,ev,hv⟩:=ZH (xs:=[Val.int (1+r1),.int (4+r2),.int 10]) (r:=r4) a4 b4;have hm:∃ m:Int,v=.int m∧1≤m∧m≤10:=by
  simp only[qE,List.not_mem_nil,or_false]at hv;rcases hv with rfl|rfl|rfl
  ·exact⟨_,rfl,by omega,by omega⟩
  ·exact⟨_,rfl,by omega,by omega⟩
  ·exact⟨_,rfl,by omega,by omega⟩
 obtain⟨m,rfl,m1,m2⟩:=hm;have n3:p3≠w:=fun z=>w2.ne hp3 z.symm;refine Zm (x4.get n3 e3) ev ?_;have xx:ExtB w g0 g4:=((x1.trans x2).trans (.of x3)).trans x4;have e4:=xx.get np e0;have xh:ExtB w h g4:=(ExtB.of x0).trans xx;walk_at "py";refine⟨⟨by omega,by omega⟩,?_⟩;refine Zq (fun i en g=>∃ v3 v4 ns,en=[some (.ref w),some (.ref p),some (.int m),v3,v4]∧g p=some (.lst (ns.map .int))∧ns.length=i∧Brs ns∧ns.Nodup∧ExtB w h g∧Row g w) ⟨none,none,[],rfl,e4,rfl,(fun i hi=>absurd hi List.not_mem_nil),List.nodup_nil,xh,w4⟩ (fun _ _ _ _ _=>trivial) ?_ ?_
 ·rintro i v en g hv ⟨v3,v4,ns,rfl,ep,hl,hb,nd,x,hr⟩ K hK;obtain⟨rfl,hi⟩:=YD hv;walk_at "py";refine Zf hr (by decide) (by decide) fun r6 g6 a6 b6 x6 w6=>?_;walk_at "py";refine Zf w6 (by decide) (by decide) fun r7 g7 a7 b7 x7 w7=>?_;walk_at "py";refine Zf w7 (by decide) (by decide) fun r8 g8 a8 b8 x8 w8=>?_;walk_at "py";refine Za fun p9 g9 hp9 x9 e9=>?_;walk_at "py";refine Zf (w8.ext x9) (by decide) (by decide) fun rA gA aA bA xA wA=>?_;obtain⟨v,ev,hv⟩:=ZH (xs:=[Val.int r6,.int (990+r7),.int r8]) (r:=rA) aA bA;have hm:∃ m:Int,v=.int m∧0≤m∧m<1000:=by
   simp only[qE,List.not_mem_nil,or_false]at hv;rcases hv with rfl|rfl|rfl
   ·exact⟨_,rfl,by omega,by omega⟩
   ·exact⟨_,rfl,by omega,by omega⟩
   ·exact⟨_,rfl,by omega,by omega⟩
  obtain⟨q0,rfl,q1,q2⟩:=hm;have n9:p9≠w:=fun z=>w8.ne hp9 z.symm;refine Zm (xA.get n9 e9) ev ?_;have xB:ExtB w g gA:=(((x6.trans x7).trans x8).trans (.of x9)).trans xA;have eA:=xB.get np ep;have yA:=x.trans xB;walk_at "py";refine Oa (m:=cnt q0 ns 0) (fun m' en g=>g=gA∧∃ q:Int,en=[some (.ref w),some (.ref p),some (.int m),some (.int i),some (.int q)]∧0≤q∧q<1000∧m'=cnt q0 ns ((q - q0) % 1000)∧(m':Int)+(q - q0) % 1000≤ns.length) ⟨rfl,q0,rfl,q1,q2,by rw[Int.sub_self];rfl,?_⟩ ?_
  ·have:=List.length_filter_le (fun m=>decide ((0:Int)≤(m - q0) % 1000)) ns;unfold cnt;rw[Int.sub_self];omega
  rintro m' en g ⟨rfl,q,rfl,c1,c2,rfl,hlq⟩ K2 hK2;walk_at "py";refine GR eA ?_;walk_at "py";refine ifP (fun hq=>?_) (fun hq=>?_)
  ·walk_at "py";have hc:=Ax (n0:=q0) hq;have hs:((q+1) % 1000 - q0) % 1000=(q - q0) % 1000+1:=by omega
   refine hK2 (cnt q0 ns ((q - q0) % 1000+1)) _ _ (by omega) ⟨rfl,_,rfl,Int.emod_nonneg _ (by decide),Int.emod_lt_of_pos _ (by decide),by rw[hs],?_⟩;rw[hs];omega
  ·walk_at "py";refine Zw eA (by rw[qA,lim];omega) ?_;walk_at "py";refine hK _ _ ⟨_,_,ns++[q],rfl,by rw[qJ];exact upd_same,by rw[qU,hl];rfl,?_,?_,Yt yA hp,wA.exb np⟩
   ·intro j hj;rcases q9.mp hj with hj|hj
    ·exact hb j hj
    ·rw[zL.mp hj];exact⟨c1,c2⟩
   ·rw[List.nodup_append];exact⟨nd,by simp,fun a ha b hb e=>hq (by rw[←zL.mp hb,←e];exact ha)⟩
 ·rintro en g ⟨v3,v4,ns,rfl,ep,hl,hb,nd,x,hr⟩;rw[Yk]at hl;walk_at "py";exact k _ _ _ np ep (by omega) (by omega) hb nd x hr
noncomputable abbrev Tie:=Int×Int×Int
noncomputable def Zs (t:Tie):Val:=.tup [.int t.1,.int t.2.1,.int t.2.2]
def TOk (ns:List Int) (t:Tie):Prop:=t.1∈ns∧t.2.1∈ns∧t.1≠t.2.1∧1≤t.2.2∧t.2.2≤1000
def IsT (ns:List Int) (v:Val):Prop:=∃ t:Tie,v=Zs t∧TOk ns t
theorem HM{ns:List Int}(nd:ns.Nodup){i j:Int}{a b:Int}(i0:0≤i)(i1:i<ns.length)(j0:0≤j)(j1:j<ns.length)(hij:i≠j)(ea:atI (ns.map Val.int) i=some (.int a))(eb:atI (ns.map Val.int) j=some (.int b)):a≠b:=by
 have hi:i.toNat<ns.length:=by omega
 have hj:j.toNat<ns.length:=by omega
 have e1:=Yl (xs:=ns.map Val.int) i0 (x:=.int ns[i.toNat]) (by rw[qF,qH hi];rfl);have e2:=Yl (xs:=ns.map Val.int) j0 (x:=.int ns[j.toNat]) (by rw[qF,qH hj];rfl);rw[ea]at e1;rw[eb]at e2;simp only[Option.some.injEq,Val.int.injEq]at e1 e2;rw[e1,e2];intro z;have:=(List.getElem_inj nd).mp z;omega
theorem Nb (hw:Row h w) (k:∀ c g,1≤c→c≤1000→ExtB w h g→Row g w→Q (.int c) g):wF P (n+2) "_law_cost" [.ref w] h Q X:=by
 refine MN ?_;walk_at "py";refine Zf hw (by decide) (by decide) fun r1 g1 a1 b1 x1 w1=>?_;walk_at "py";refine Zf w1 (by decide) (by decide) fun r2 g2 a2 b2 x2 w2=>?_;walk_at "py";refine Za fun p3 g3 hp3 x3 e3=>?_;walk_at "py";refine Zf (w2.ext x3) (by decide) (by decide) fun r4 g4 a4 b4 x4 w4=>?_;obtain⟨v,ev,hv⟩:=ZH (xs:=[Val.int (1+r1),.int 1,.int 1000,.int (1+r2)]) (r:=r4) a4 b4;have hm:∃ m:Int,v=.int m∧1≤m∧m≤1000:=by simp only[qE,List.not_mem_nil,or_false]at hv;rcases hv with rfl|rfl|rfl|rfl<;>exact⟨_,rfl,by omega,by omega⟩
 obtain⟨m,rfl,m1,m2⟩:=hm;have n3:p3≠w:=fun z=>w2.ne hp3 z.symm;refine Zm (x4.get n3 e3) ev ?_;exact k _ _ m1 m2 (((x1.trans x2).trans (.of x3)).trans x4) w4
theorem UM{ns:List Int}{N B C:NQ}{R:Q1}{X:EQ}{b p:Ad}{v3 v4 v5:Option Val}{ts:List Val}{t:Val}(hw:Row h w)(np:p≠w)(ep:h p=some (.lst ts))(ht:∀ t∈ts,IsT ns t)(hl:ts.length≤16)(it:IsT ns t)
  (k:∀ u g,IsT ns u→ExtB w h g→Row g w→N [some (.ref w),some (.ref b),some (.ref p),v3,v4,v5,some u] g):wS (wF P (n+2)) (.ite (.and (.val (.cmp .neE (.var 2) (.lst .nil))) (.val (.cmp .eq (.call "_law_take" (.cons (.var 0) (.cons (.cst (.int 6)) .nil))) (.cst (.int 0))))) (.cons (.set (.one 6) (.idx (.var 2) (.call "_law_take" (.cons (.var 0) (.cons (.bi .len (.cons (.var 2) .nil)) .nil)))))
  (.cons (.set (.one 6) (.idx (.lst (.cons (.var 6) (.cons (.tup (.cons (.idx (.var 6) (.cst (.int 1))) (.cons (.idx (.var 6) (.cst (.int 0))) (.cons (.idx (.var 6) (.cst (.int 2))) .nil)))) (.cons (.tup (.cons (.idx (.var 6) (.cst (.int 0))) (.cons (.idx (.var 6) (.cst (.int 1))) (.cons (.call "_law_cost" (.cons (.var 0) .nil)) .nil)))) .nil)))) (.call "_law_take" (.cons (.var 0) (.cons (.cst (.int 3)) .nil)))))
  .nil)) .nil) [some (.ref w),some (.ref b),some (.ref p),v3,v4,v5,some t] h N R B C X:=by
 walk_at "py";refine Za fun q g0 hq x0 e0=>?_;refine c_neE (x0.get ep) e0 ?_;have w0:=hw.ext x0;have ep0:=x0.get ep;walk_at "py";cases ts with
 |nil =>refine ifF rfl (ifF rfl (ss_nil ?_));exact k _ _ it (.of x0) w0
 |cons t1 ts =>
  refine ifT rfl ?_;walk_at "py";refine Zf w0 (by decide) (by decide) fun r1 g1 a1 b1 x1 w1=>?_;have y1:ExtB w h g1:=(ExtB.of x0).trans x1;have ep1:=y1.get np ep;walk_at "py";refine ifP (fun hc=>?_) (fun hc=>?_)
  ·walk_at "py";refine Zf w1 (by rw[qB];omega) (by omega) fun r2 g2 a2 b2 x2 w2=>?_;have ep2:=x2.get np ep1;obtain⟨u,eu,hu⟩:=ZH (xs:=t1::ts) (r:=r2) a2 b2;refine Zm ep2 eu ?_;obtain⟨⟨i,j,c⟩,rfl,h1,h2,h3,h4,h5⟩:=ht u hu;unfold Zs;walk_at "py";refine Nb w2 fun c2 g3 m1 m2 x3 w3=>?_;walk_at "py";refine Za fun q4 g4 hq4 x4 e4=>?_;walk_at "py";refine Zf (w3.ext x4) (by decide) (by decide) fun r5 g5 a5 b5 x5 w5=>?_;obtain⟨u,eu,hu⟩:=ZH (xs:=[Val.tup [.int i,.int j,.int c],.tup [.int j,.int i,.int c],.tup [.int i,.int j,.int c2]]) (r:=r5) a5 b5;have n4:q4≠w:=fun z=>w3.ne hq4 z.symm;refine Zm (x5.get n4 e4) eu ?_;walk_at "py";refine k _ _ ?_ (((y1.trans (x2.trans x3)).trans (.of x4)).trans x5) w5;simp only[qE,List.not_mem_nil,or_false]at hu;rcases hu with rfl|rfl|rfl
   ·exact⟨(i,j,c),rfl,h1,h2,h3,h4,h5⟩
   ·exact⟨(j,i,c),rfl,h2,h1,Ne.symm h3,h4,h5⟩
   ·exact⟨(i,j,c2),rfl,h1,h2,h3,m1,m2⟩
  ·refine ss_nil ?_;exact k _ _ it y1 w1
theorem Cy {b:Ad}{ns:List Int}(hw:Row h w) (nb:b≠w) (eb:h b=some (.lst (ns.map .int))) (l1:1≤ns.length) (l2:ns.length≤10) (nd:ns.Nodup) (k:∀ p ts g,p≠w→g p=some (.lst ts)→ts.length≤16→(∀ t∈ts,IsT ns t)→ExtB w h g→Row g w→Q (.ref p) g):wF P (n+3) "_law_ties" [.ref w,.ref b] h Q X:=by
 refine KR ?_;walk_at "py";refine Za fun p g0 hp x0 e0=>?_;have np:p≠w:=fun z=>hw.ne hp z.symm;walk_at "py";refine Zf (hw.ext x0) (by decide) (by decide) fun r1 g1 a1 b1 x1 w1=>?_;walk_at "py";refine Za fun p3 g3 hp3 x3 e3=>?_;walk_at "py";refine Zf (w1.ext x3) (by decide) (by decide) fun r4 g4 a4 b4 x4 w4=>?_;obtain⟨v,ev,hv⟩:=ZH (xs:=[Val.int r1,.int 16]) (r:=r4) a4 b4;have hm:∃ m:Int,v=.int m∧0≤m∧m≤16:=by
  simp only[qE,List.not_mem_nil,or_false]at hv;rcases hv with rfl|rfl
  ·exact⟨_,rfl,by omega,by omega⟩
  ·exact⟨_,rfl,by omega,by omega⟩
 obtain⟨m,rfl,m1,m2⟩:=hm;have n3:p3≠w:=fun z=>w1.ne hp3 z.symm;refine Zm (x4.get n3 e3) ev ?_;have xx:ExtB w g0 g4:=(x1.trans (.of x3)).trans x4;have e4:=xx.get np e0;have xh:ExtB w h g4:=(ExtB.of x0).trans xx;have eb4:=xh.get nb eb;walk_at "py";rw[qA];have hy:∃ y:Int,(m*if decide (1<(ns.length:Int))=true then(1:Int)else 0)=y∧0≤y∧y≤16∧(0<y→1<ns.length):=by
  by_cases hl:1<ns.length
  ·exact⟨m,by rw[if_pos (qQ (by omega)),Int.mul_one],m1,m2,fun _=>hl⟩
  ·exact⟨0,by rw[if_neg (by simpa using (by omega:(ns.length:Int)≤1)),Int.mul_zero],by decide,by decide,fun z=>absurd z (by decide)⟩
 obtain⟨y,ey,y0,y1,yl⟩:=hy;rw[ey];refine⟨⟨by omega,by omega⟩,?_⟩;have hL:(ns.map Val.int).length=ns.length:=qA _;refine Zq (fun i en g=>∃ v3 v4 v5 v6 ts,en=[some (.ref w),some (.ref b),some (.ref p),v3,v4,v5,v6]∧g p=some (.lst ts)∧ts.length=i∧(∀ t∈ts,IsT ns t)∧ExtB w h g∧Row g w) ⟨none,none,none,none,[],rfl,e4,rfl,(fun i hi=>absurd hi List.not_mem_nil),xh,w4⟩ (fun _ _ _ _ _=>trivial) ?_ ?_
 ·rintro i v en g hv ⟨v3,v4,v5,v6,ts,rfl,ep,hl,ht,x,hr⟩ K hK;obtain⟨rfl,hi⟩:=YD hv;have h2:=yl (by omega);have ebg:=x.get nb eb;walk_at "py";refine Zf hr (by omega) (by omega) fun at1 g5 a5 b5 x5 w5=>?_;have eb5:=x5.get nb ebg;walk_at "py";refine Zf w5 (by omega) (by omega) fun r6 g6 a6 b6 x6 w6=>?_;have eb6:=x6.get nb eb5;walk_at "py";obtain⟨u1,eu1,hu1⟩:=ZH (xs:=ns.map Val.int) (r:=at1) a5 b5;obtain⟨i1,hi1,rfl⟩:=q8.mp hu1;refine Zm eb6 eu1 ?_;walk_at "py";obtain⟨u2,eu2,hu2⟩:=ZH (xs:=ns.map Val.int) (r:=(at1+1+r6) % ((ns.map Val.int).length:Int)) (Int.emod_nonneg _ (by omega)) (Int.emod_lt_of_pos _ (by omega));obtain⟨i2,hi2,rfl⟩:=q8.mp hu2;refine Zm eb6 eu2 ?_;walk_at "py";refine Nb w6 fun c g7 m1' m2' x7 w7=>?_;have x57:=x.trans ((x5.trans x6).trans x7);have ep7:=((x5.trans x6).trans x7).get np ep;refine a_nil (AB (env':=[some (.ref w),some (.ref b),some (.ref p),some (.int i),some (.int at1),some (.int ((at1+1+r6) % ((ns.map Val.int).length:Int))),some (.tup [.int i1,.int i2,.int c])]) rfl ?_);refine ss_cons (UM w7 np ep7 ht (by omega) ⟨(i1,i2,c),rfl,hi1,hi2,?_,m1',m2'⟩ fun u g8 iu x8 w8=>?_)
  ·have e0:=Int.emod_nonneg (at1+1+r6) (show((ns.map Val.int).length:Int)≠0 by omega);have e1:=Int.emod_lt_of_pos (at1+1+r6) (show(0:Int)<((ns.map Val.int).length:Int) by omega);refine HM nd a5 (by omega) e0 (by omega) (fun z=>?_) eu1 eu2;by_cases hc:at1+1+r6<((ns.map Val.int).length:Int)
   ·rw[Int.emod_eq_of_lt (by omega) hc]at z;omega
   ·have hs:(at1+1+r6) % ((ns.map Val.int).length:Int)=at1+1+r6 - ((ns.map Val.int).length:Int):=by
     rw[←Int.sub_emod_right,Int.emod_eq_of_lt (by omega) (by omega)]
    rw[hs]at z;omega
  have ep8:=x8.get np ep7;refine ss_cons (s_expr (e_bm (X5 rfl ?_)));walk_at "py";refine Zw ep8 (by rw[lim];omega) ?_;refine ss_nil ?_;refine hK _ _ ⟨_,_,_,_,ts++[u],rfl,upd_same,by rw[qU,hl];rfl,?_,Yt (x57.trans x8) hp,w8.exb np⟩;intro t ht';rcases q9.mp ht' with ht'|ht'
  ·exact ht t ht'
  ·rw[zL.mp ht'];exact iu
 ·rintro en g ⟨v3,v4,v5,v6,ts,rfl,ep,hl,ht,x,hr⟩;rw[Yk]at hl;walk_at "py";exact k _ _ _ np ep (by omega) ht x hr
noncomputable def MG (t:Tie):Tie:=(if t.2.1<t.1 then t.2.1 else t.1,if t.2.1 > t.1 then t.2.1 else t.1,t.2.2)
def LOk (ns:List Int) (t:Tie):Prop:=t.1∈ns∧t.2.1∈ns∧t.1<t.2.1∧1≤t.2.2∧t.2.2≤1000
theorem Dg{ns:List Int}{t:Tie}(h:TOk ns t):LOk ns (MG t):=by
 obtain⟨h1,h2,h3,h4,h5⟩:=h;unfold MG LOk;by_cases z:t.2.1<t.1
 ·rw[if_pos z,if_neg (by omega)];exact⟨h2,h1,z,h4,h5⟩
 ·rw[if_neg z,if_pos (by omega)];exact⟨h1,h2,by show t.1<t.2.1;omega,h4,h5⟩
theorem NB{ns:List Int}:∀ {ys:List Val},(∀ y∈ys,IsT ns y)→∃ zs:List Tie,ys=zs.map Zs∧∀ z∈zs,TOk ns z
 |[],_=>⟨[],rfl,by simp⟩
 |y::ys,h=>by obtain⟨t,rfl,ht⟩:=h y (by simp);obtain⟨zs,rfl,hz⟩:=NB (ys:=ys) fun z hz=>h z (qI _ hz);exact⟨t::zs,rfl,fun z hz'=>(qE.mp hz').elim (fun e=>e▸ht) (hz z)⟩
structure NetOk (bs:List Int) (ts:List Tie):Prop where
 one:1≤bs.length
 ten:bs.length≤10
 rng:Brs bs
 up:bs.Pairwise (· < ·)
 sixteen:ts.length≤16
 tie:∀ t∈ts,LOk bs t
noncomputable def ZD (bs:List Int) (ts:List Tie):Val:=.tup [.tup (bs.map .int),.tup (ts.map Zs)]
theorem mem_sort{ns:List Int}{i:Int}:i∈sortI ns↔i∈ns:=(List.mergeSort_perm ns _).mem_iff
theorem BM{ns:List Int}(nd:ns.Nodup):(sortI ns).Pairwise (· < ·):=by have p:=List.mergeSort_perm ns fun a b=>decide (a≤b);have s:(sortI ns).Pairwise (fun a b=>decide (a≤b)=true):=List.pairwise_mergeSort (fun a b c h1 h2=>by simp at *;omega) (fun a b=>by simp;omega) ns;have d:(sortI ns).Nodup:=p.nodup_iff.mpr nd;exact(s.and d).imp fun⟨h1,h2⟩=>by simp at h1;omega
theorem isl {a:Ad}{xs:List Val}(e:h a=some (.lst xs)) (q:Q (.bl true) h):(biV h (.isi ["list"]) [.ref a]).wp h Q:=Cq (by unfold isiAny isiAny isiV kindV;simp only[e];rfl) q
theorem M0 {i lo hi:Int}(h1:lo≤i) (h2:i≤hi) (k:Q (.bl true) h):wF P (n+2) "is_whole_between" [.int i,.int lo,.int hi] h Q X:=by refine YY ?_;walk_at "py";refine YO ?_;walk_at "py";refine ifT rfl ?_;walk_at "py";refine ifT rfl ?_;walk_at "py";refine ifT (by simpa using h1) ?_;walk_at "py";rw[qQ h2];exact k
theorem Xd {i:Int}(k:Q (.bl true) h):wF P (n+1) "is_whole" [.int i] h Q X:=by refine YO ?_;walk_at "py";refine ifT rfl ?_;walk_at "py";exact k
theorem Jm{xs:List Val}:xs.filterMap (fun _=>some (Val.bl true))=(xs.map fun _=>true).map Val.bl:=by rw[List.map_map];exact congrFun (List.filterMap_eq_map' (f:=Val.bl ∘ fun _=>true)) xs
theorem EI {a:Ad}{ns:List Int}(e:h a=some (.lst (ns.map .int))) (l2:ns.length≤10) (hb:Brs ns) (nd:ns.Nodup) (k:∀ g,Ext h g→Q (.bl true) g):wF P (n+3) "are_bridges" [.ref a] h Q X:=by
 refine Wz ?_;have hL:(ns.map Val.int).length=ns.length:=qA _;walk_at "py";refine⟨qS (by rw[hL];exact l2) (by decide),ZF (fun _=>some (.bl true)) (lsE e) (fun v hv K hK=>?_) ?_⟩
 ·obtain⟨i,hi,rfl⟩:=q8.mp hv;walk_at "py";refine ifT rfl ?_;walk_at "py";exact M0 (hb i hi).1 (by have:=(hb i hi).2;omega) hK
 rw[Jm];refine Za fun p g hp x ep=>?_;walk_at "py";refine YN ep (ZK _) ?_;walk_at "py";refine ifF (by simp) ?_;have e':=x.get e;walk_at "py";refine lset e' (by omega) ?_;walk_at "py";have:decide (((dedup ns).length:Int)=((ns.map Val.int).length:Int))=true:=qQ (by rw[hL];have:=(WZ ns).mpr nd;omega);rw[this];exact k g x
theorem F1 {t:Tie}{b:Ad}{ns:List Int}(ht:TOk ns t) (e:h b=some (.lst (ns.map .int))) (k:Q (.bl true) h):wF P (n+3) "is_tie" [Zs t,.ref b] h Q X:=by obtain⟨i,j,c⟩:=t;obtain⟨h1,h2,h3,h4,h5⟩:=ht;unfold Zs;dsimp only at h1 h2 h3 h4 h5 ⊢;refine O9 ?_;walk_at "py";refine ifF rfl ?_;walk_at "py";refine ifF rfl ?_;walk_at "py";refine Xd ?_;walk_at "py";refine ifF rfl ?_;walk_at "py";refine Xd ?_;walk_at "py";refine ifF rfl ?_;walk_at "py";refine DE e ?_;walk_at "py";refine ifF (by simpa using h1) ?_;walk_at "py";refine DE e ?_;walk_at "py";refine ifF (by simpa using h2) ?_;walk_at "py";refine ifT (by simpa using h3) ?_;walk_at "py";exact M0 h4 h5 k
theorem B2 {t:Tie}(k:Q (Zs (MG t)) h):wF P (n+1) "lesser_end_first" [Zs t] h Q X:=by obtain⟨i,j,c⟩:=t;unfold Zs;refine YW ?_;walk_at "py";exact k
theorem CA{b t:Ad}{ns:List Int}{zs:List Tie}(eb:h b=some (.lst (ns.map .int)))(et:h t=some (.lst (zs.map Zs)))(l1:1≤ns.length)(l2:ns.length≤10)(hb:Brs ns)(nd:ns.Nodup)(lt:zs.length≤16)(hz:∀ z∈zs,TOk ns z)
  (k:∀ g,Ext h g→Q (ZD (sortI ns) (zs.map MG)) g):wF P (n+4) "make_net" [.ref b,.ref t] h Q X:=by
 have hL:(ns.map Val.int).length=ns.length:=qA _;have hT:(zs.map Zs).length=zs.length:=qA _;refine K4 ?_;refine ss_cons (s_ite (t_or (t_not (t_val (e_bi (a_cons (X5 rfl (a_nil (isl eb (g_tbl ?_))))))))));refine ifF rfl ?_;refine t_not (t_val (e_bi (a_cons (X5 rfl (a_nil (isl et (g_tbl ?_)))))));refine ifF rfl ?_;walk_at "py";refine ifT (by simpa using (by omega:(1:Int)≤(ns.map Val.int).length)) ?_;walk_at "py";refine ifF (by simpa using (by omega:(ns.length:Int)≤10)) ?_;walk_at "py";refine ifF (by simpa using (by omega:(zs.length:Int)≤16)) ?_;walk_at "py";refine EI eb l2 hb nd fun g x=>?_;walk_at "py";refine ifF rfl ?_;have eb':=x.get eb;have et':=x.get et;walk_at "py";refine⟨qS (by rw[hT];exact lt) (by decide),ZF (fun _=>some (.bl true)) (lsE et') (fun v hv K hK=>?_) ?_⟩
 ·obtain⟨z,hz',rfl⟩:=q8.mp hv;walk_at "py";refine ifT rfl ?_;walk_at "py";exact F1 (hz z hz') eb' hK
 rw[Jm];refine Za fun p g2 hp x2 ep=>?_;walk_at "py";refine YN ep (ZK _) ?_;walk_at "py";refine ifF (by simp) ?_;have eb2:=x2.get eb';have et2:=x2.get et';walk_at "py";refine FL eb2 (Yb _) (by omega) ?_;refine Za fun p3 g3 hp3 x3 ep3=>?_;have et3:=x3.get et2;walk_at "py";refine⟨qS (by rw[hT];exact lt) (by decide),Z1 (fun i ys g=>g=g3∧ys=(zs.take i).map fun z=>Zs (MG z)) ⟨rfl,rfl⟩ (fun _ _ g _ z=>by rw[z.1];exact lsE et3) (fun i v ys g hv hI K hK=>?_) (fun ys g hI=>?_)⟩
 ·obtain⟨rfl,rfl⟩:=hI;rw[qF]at hv;obtain⟨z,hz',rfl⟩:=qD.mp hv;walk_at "py";refine ifT rfl ?_;walk_at "py";refine B2 (hK _ _ ⟨rfl,?_⟩);rw[qW,hz',qJ];rfl
 ·obtain⟨rfl,rfl⟩:=hI;rw[hT,zC];refine Za fun p4 g4 hp4 x4 ep4=>?_;walk_at "py";have e:ZD (sortI ns) (zs.map MG)=.tup [.tup ((sortI ns).map .int),.tup (zs.map fun z=>Zs (MG z))]:=by unfold ZD;rw[List.map_map];rfl
  rw[e]at k;exact k _ (((x.trans x2).trans x3).trans x4)
theorem En (hw:Row h w) (k:∀ bs ts g,NetOk bs ts→ExtB w h g→Row g w→Q (ZD bs ts) g):wF P (n+5) "_law_net" [.ref w] h Q X:=by refine ON ?_;walk_at "py";refine Mr hw fun b ns g1 nb eb l1 l2 hb nd x1 w1=>?_;walk_at "py";refine Cy w1 nb eb l1 l2 nd fun t ys g2 nt et lt ht x2 w2=>?_;obtain⟨zs,rfl,hz⟩:=NB ht;rw[qA]at lt;walk_at "py";refine CA (x2.get nb eb) et l1 l2 hb nd lt hz fun g3 x3=>?_;have hl:(sortI ns).length=ns.length:=(List.mergeSort_perm ns _).length_eq;refine k _ _ _ ⟨by omega,by omega,fun i hi=>hb i (mem_sort.mp hi),BM nd,by rw[qA];exact lt,fun t ht=>?_⟩ ((x1.trans x2).trans (.of x3)) (w2.ext x3);obtain⟨z,hz',rfl⟩:=q8.mp ht;obtain⟨q1,q2,q3⟩:=Dg (hz z hz');exact⟨mem_sort.mpr q1,mem_sort.mpr q2,q3⟩
theorem ZC{h g:Hs}{p:Ad}{o:Ob}(x:Ext h g)(e:h p=none):Ext h (upd g p o):=⟨fun {a u} z=>by rw[upd_ne (Y2 z e)];exact x.get z⟩
noncomputable def Zp (ds ps:List Int):Val:=.tup [.tup (ds.map .int),.tup (ps.map .int)]
noncomputable def far (t:Tie) (b:Int):Int:=if t.1=b then t.2.1 else t.1
noncomputable def nbs (b:Int):Nat→List Tie→List Tie
 |_,[]=>[]
 |k,t::r=>if b=t.1∨b=t.2.1 then((k:Int),far t b,t.2.2)::nbs b (k+1) r else nbs b (k+1) r
noncomputable def upB (ds ps:List Int) (r:Tie):Bool:=!decide (r.1∈ps) && !decide (r.2.1∈ds)
noncomputable def ups (ts:List Tie) (ds ps:List Int) (b:Int):List Tie:=(nbs b 0 ts).filter (upB ds ps)
noncomputable def bup (bs ds:List Int):List Int:=bs.filter fun b=>!decide (b∈ds)
theorem Ky{b:Int}{t:Tie}:∀ {l:List Tie}{k:Nat},nbs b k (l++[t])=nbs b k l++(if b=t.1∨b=t.2.1 then [(((k+l.length:Nat):Int),far t b,t.2.2)]else [])
 |[],k=>by show nbs b k [t]=_;unfold nbs;split<;>rfl
 |u::l,k=>by
  rw[List.cons_append,nbs,nbs,Ky,qB,show k+1+l.length=k+(l.length+1) by omega];by_cases h:b=u.1∨b=u.2.1
  ·rw[if_pos h,if_pos h,List.cons_append]
  ·rw[if_neg h,if_neg h]
theorem NI:∀ {xs:List Val}{k i:Nat}{v:Val},(enumL k xs)[i]?=some v→∃ x,xs[i]?=some x∧v=.tup [.int ((k+i:Nat):Int),x]
 |[],_,_,_,e=>by simp[enumL]at e
 |x::xs,k,0,v,e=>by have e:some (Val.tup [.int k,x])=some v:=e;cases e;exact⟨x,rfl,rfl⟩
 |x::xs,k,i+1,v,e=>by obtain⟨y,h1,h2⟩:=NI (xs:=xs) (k:=k+1) (i:=i) (v:=v) (by simpa[enumL]using e);exact⟨y,by simpa using h1,by rw[h2,show k+1+i=k+(i+1) by omega]⟩
theorem Kw:∀ (xs:List Val) (k:Nat),(enumL k xs).length=xs.length
 |[],_=>rfl
 |_::xs,k=>by simp[enumL,Kw xs (k+1)]
theorem KZ{h:Hs}{i:Int}{ns:List Int}{KB:Bool→Prop}(q:KB (decide (i∈ns))):go (cmpV h .isin (.int i) (.tup (ns.map .int))) KB:=go_of (by show inV h (.int i) (.tup _)=_;unfold inV;exact XI) q
theorem YB{h:Hs}{i:Int}{ns:List Int}{KB:Bool→Prop}(q:KB (!decide (i∈ns))):go (cmpV h .notin (.int i) (.tup (ns.map .int))) KB:=go_of (by show(inV h (.int i) (.tup _)).map _=_;unfold inV;simp only[XI];rfl) q
noncomputable def upF (ds ps:List Int):Val→Option Val
 |.tup [.int a,.int b,c]=>if upB ds ps (a,b,0)then some (.tup [.int a,.int b,c])else none
 |_=>none
theorem Dp{ds ps:List Int}:∀ l:List Tie,(l.map Zs).filterMap (upF ds ps)=(l.filter (upB ds ps)).map Zs
 |[]=>rfl
 |r::l=>by rw[qG,zN,List.filter_cons];have e:upF ds ps (Zs r)=if upB ds ps r then some (Zs r)else none:=rfl;rw[e,Dp l];cases upB ds ps r<;>rfl
noncomputable def Cr (ds:List Int):Val→Option Val
 |.int b=>if decide (b∈ds)then none else some (.int b)
 |_=>none
theorem Bo{ds:List Int}:∀ l:List Int,(l.map Val.int).filterMap (Cr ds)=(bup l ds).map .int
 |[]=>rfl
 |b::l=>by unfold bup;rw[qG,zN,List.filter_cons,Bo l];unfold Cr bup;by_cases h:b∈ds<;>simp[h]
section
variable {bs ds ps:List Int}{ts:List Tie}
theorem Ek {t:Tie}{b:Int}(k:Q (.int (far t b)) h):wF P (n+1) "far_end" [Zs t,.int b] h Q X:=by
 obtain⟨x,y,c⟩:=t;unfold Zs;unfold far at k;dsimp only at k ⊢;refine OC ?_;walk_at "py";by_cases e:x=b
 ·refine ifT (qQ e) ?_;rw[if_pos e]at k;walk_at "py";exact k
 ·refine ifF (qP e) ?_;rw[if_neg e]at k;walk_at "py";exact k
theorem WC {b:Int}(l:ts.length≤16) (k:∀ p g,h p=none→Ext h g→g p=some (.lst ((nbs b 0 ts).map Zs))→Q (.ref p) g):wF P (n+2) "neighbours" [ZD bs ts,.int b] h Q X:=by
 unfold ZD;refine JB ?_;walk_at "py";refine Za fun p g0 hp x0 e0=>?_;walk_at "py";refine go_of rfl ?_;have nl:∀ l:List Tie,∀ k,(nbs b k l).length≤l.length:=by
  intro l;induction l with
  |nil=>intro k;exact zJ _
  |cons t l ih =>intro k;have:=ih (k+1);unfold nbs;split<;>simp only[qB]<;>omega
 refine Zq (fun i en g=>∃ v3 v4,en=[some (.tup [.tup (bs.map .int),.tup (ts.map Zs)]),some (.int b),some (.ref p),v3,v4]∧Ext h g∧g p=some (.lst ((nbs b 0 (ts.take i)).map Zs))) ⟨_,_,rfl,x0,e0⟩ (fun _ _ _ _ _=>trivial) ?_ ?_
 ·rintro i v en g hv ⟨v3,v4,rfl,x,ep⟩ K hK;obtain⟨y,hy,rfl⟩:=NI hv;rw[qF]at hy;obtain⟨t,ht,rfl⟩:=qD.mp hy;have hi:i<ts.length:=(qK.mp ht).1;have hn:nbs b 0 (ts.take (i+1))=nbs b 0 (ts.take i)++(if b=t.1∨b=t.2.1 then [((i:Int),far t b,t.2.2)]else []):=by
   rw[qW,ht];have:=Ky (b:=b) (t:=t) (l:=ts.take i) (k:=0);rw[qV,Nat.min_eq_left (by omega),Nat.zero_add]at this;exact this
  rw[Nat.zero_add];have et:Zs t=.tup [.int t.1,.int t.2.1,.int t.2.2]:=rfl;walk_at "py";rw[et];refine sl_tup (by simp[cutAt]) ?_;refine KZ (ns:=[t.1,t.2.1]) ?_;walk_at "py";refine ifP (fun hc=>?_) (fun hc=>?_)
  ·walk_at "py";refine Ek (t:=t) ?_;walk_at "py";have hl:=nl (ts.take i) 0;rw[qV]at hl;refine Zw ep (by rw[qA,lim];omega) ?_;walk_at "py";refine hK _ _ ⟨_,_,rfl,?_,?_⟩
   ·exact ZC x hp
   ·have hc:b=t.1∨b=t.2.1:=by simpa using hc
    rw[hn,if_pos hc,qJ];exact upd_same
  ·walk_at "py";refine hK _ _ ⟨_,_,rfl,x,?_⟩;have hc:¬ (b=t.1∨b=t.2.1):=by simpa using hc
   rw[hn,if_neg hc,zF];exact ep
 ·rintro en g ⟨v3,v4,rfl,x,ep⟩;rw[Kw,qA,zC]at ep;walk_at "py";exact k p g hp x ep
theorem Ed {b:Int}(l:ts.length≤16) (k:∀ p g,h p=none→Ext h g→g p=some (.lst ((ups ts ds ps b).map Zs))→Q (.ref p) g):wF P (n+3) "ties_up" [ZD bs ts,Zp ds ps,.int b] h Q X:=by
 unfold Zp;refine NO ?_;walk_at "py";refine WC l fun p g hp x ep=>?_;have nl:∀ l:List Tie,∀ k,(nbs b k l).length≤l.length:=by
  intro l;induction l with
  |nil=>intro k;exact zJ _
  |cons t l ih =>intro k;have:=ih (k+1);unfold nbs;split<;>simp only[qB]<;>omega
 have hl:=nl ts 0;walk_at "py";refine⟨by show(List.map Zs _).length<lim;rw[qA,lim];omega,ZF (upF ds ps) (lsE ep) (fun v hv K hK=>?_) ?_⟩
 ·obtain⟨r,_,rfl⟩:=q8.mp hv;obtain⟨pl,nb,c⟩:=r;have e:upF ds ps (Zs (pl,nb,c))=if upB ds ps (pl,nb,c)then some (Zs (pl,nb,c))else none:=rfl;rw[e]at hK;unfold upB at hK;unfold Zs at hK ⊢;dsimp only at hK ⊢;walk_at "py";refine YB ?_;walk_at "py";by_cases h1:pl∈ps
  ·refine ifF (by simpa using h1) ?_;refine ifF rfl ?_;simpa[h1]using hK
  ·refine ifT (by simpa using h1) ?_;walk_at "py";refine YB ?_;walk_at "py";by_cases h2:nb∈ds
   ·refine ifF (by simpa using h2) ?_;simpa[h1,h2]using hK
   ·refine ifT (by simpa using h2) ?_;walk_at "py";simpa[h1,h2]using hK
 rw[Dp];refine Za fun q g2 hq x2 eq=>?_;have hq':h q=none:=by
  cases z:h q with
  |none=>rfl
  |some o=>rw[x.get z]at hq;cases hq
 exact k q g2 hq' (x.trans x2) eq
theorem U9 (l:bs.length≤10) (k:∀ p g,h p=none→Ext h g→g p=some (.lst ((bup bs ds).map .int))→Q (.ref p) g):wF P (n+1) "bridges_up" [ZD bs ts,Zp ds ps] h Q X:=by
 unfold Zp ZD;refine JS ?_;walk_at "py";refine⟨by show(List.map Val.int _).length<lim;rw[qA,lim];omega,ZF (Cr ds) trivial (fun v hv K hK=>?_) ?_⟩
 ·obtain⟨b,_,rfl⟩:=q8.mp hv;unfold Cr at hK;walk_at "py";refine YB ?_;walk_at "py";by_cases h1:b∈ds
  ·refine ifF (by simpa using h1) ?_;simpa[h1]using hK
  ·refine ifT (by simpa using h1) ?_;walk_at "py";simpa[h1]using hK
 rw[Bo];refine Za fun q g2 hq x2 eq=>?_;exact k q g2 hq x2 eq
end
section
variable {α:Type}(val:α→Val)
noncomputable def YF (kvs:List (Int×α)):List (Val×Val):=kvs.map fun p=>(.int p.1,val p.2)
noncomputable def YE (kvs:List (Int×α)) (k:Int) (v:α):List (Int×α):=if(kvs.lookup k).isSome then kvs.map (fun p=>if p.1=k then(k,v)else p)else kvs++[(k,v)]
variable {val}
theorem JU(a b:Int):(Val.int a==Val.int b)=decide (a=b):=by
 by_cases e:a=b
 ·subst e;simp
 ·rw[qP e];exact beq_eq_false_iff_ne.mpr fun z=>e (by injection z)
theorem GX(kvs:List (Int×α))(k:Int):lookK (YF val kvs) (.int k)=(kvs.lookup k).map val:=by
 induction kvs with
 |nil=>rfl
 |cons p r ih =>
  unfold lookK YF at ih ⊢;rw[qG,List.find?_cons,qO,JU];by_cases e:p.1=k
  ·have:(k==p.1)=true:=by simp[e]
   simp[e]
  ·have h2:(k==p.1)=false:=by simpa using fun z=>e z.symm
   rw[qP e,h2];exact ih
theorem IQ(kvs:List (Int×α))(k:Int):hasK (YF val kvs) (.int k)=(kvs.lookup k).isSome:=by
 induction kvs with
 |nil=>rfl
 |cons p r ih =>
  unfold hasK YF at ih ⊢;rw[qG,List.any_cons,qO,JU];by_cases e:p.1=k
  ·simp[e]
  ·have h2:(k==p.1)=false:=by simpa using fun z=>e z.symm
   rw[qP e,h2];exact ih
theorem CC(kvs:List (Int×α))(k:Int)(v:α):putK (YF val kvs) (.int k) (val v)=YF val (YE kvs k v):=by
 unfold putK YE;rw[IQ];split
 ·unfold YF;rw[List.map_map,List.map_map];refine List.map_congr_left fun p _=>?_;simp only[Function.comp_apply,JU];by_cases e:p.1=k
  ·simp[e]
  ·simp[e]
 ·unfold YF;rw[qJ];rfl
theorem Ai(ns:List Int):intsOf (ns.map Val.int)=some ns:=by
 induction ns with
 |nil=>rfl
 |cons n ns ih=>show(intsOf (ns.map Val.int)).map _=_;rw[ih];rfl
theorem LD(kvs:List (Int×α)):(YF val kvs).length=kvs.length:=by unfold YF;rw[qA]
theorem OW{kvs:List (Int×α)}{k:Int}{v:α}(h:kvs.lookup k=some v):(k,v)∈kvs:=by
 induction kvs with
 |nil=>cases h
 |cons p r ih =>
  rw[qO]at h;by_cases e:k=p.1
  ·have:(k==p.1)=true:=by simp[e]
   rw[this]at h;cases h;rw[e];exact qT
  ·have:(k==p.1)=false:=by simpa using e
   rw[this]at h;exact qI _ (ih h)
theorem Xn{kvs:List (Int×α)}{k:Int}(h:k∈kvs.map (·.1)):∃ v,kvs.lookup k=some v:=by
 induction kvs with
 |nil=>cases h
 |cons p r ih =>
  rw[qO];by_cases e:k=p.1
  ·have:(k==p.1)=true:=by simp[e]
   rw[this];exact⟨_,rfl⟩
  ·have:(k==p.1)=false:=by simpa using e
   rw[this];rw[qG,qE]at h;exact ih (h.resolve_left e)
theorem W3{kvs:List (Int×α)}{k:Int}(h:kvs.lookup k=none):k∉kvs.map (·.1):=fun m=>by obtain⟨v,e⟩:=Xn m;rw[h]at e;cases e
theorem J6(kvs:List (Int×α))(k:Int)(v:α):(YE kvs k v).map (·.1)=if(kvs.lookup k).isSome then kvs.map (·.1)else kvs.map (·.1)++[k]:=by
 unfold YE;split
 ·rw[List.map_map];refine List.map_congr_left fun p _=>?_;simp only[Function.comp_apply];by_cases e:p.1=k<;>simp[e]
 ·rw[qJ];rfl
theorem C4{kvs:List (Int×α)}{k:Int}(v:α)(h:k∉kvs.map (·.1)):YE kvs k v=kvs++[(k,v)]:=by
 unfold YE;have:kvs.lookup k=none:=by
  cases e:kvs.lookup k with
  |none=>rfl
  |some w=>exact absurd (qZ (f:=(·.1)) (OW e)) h
 rw[this];rfl
theorem OT{kvs:List (Int×α)}(nd:(kvs.map (·.1)).Nodup)(k:Int)(v:α):((YE kvs k v).map (·.1)).Nodup:=by
 rw[J6];split
 ·exact nd
 ·rename_i h;have h:kvs.lookup k=none:=Option.not_isSome_iff_eq_none.mp h;rw[List.nodup_append];refine⟨nd,by simp,fun a ha b hb=>?_⟩;rw[zL.mp hb];exact fun e=>W3 h (e▸ha)
end
theorem ZO{α:Type}{kvs:List (Int×α)}{k:Int}{v:α}(x:Int):(YE kvs k v).lookup x=if x=k then some v else kvs.lookup x:=by
 unfold YE;split
 ·rename_i hs;induction kvs with
  |nil=>cases hs
  |cons p r ih =>
   obtain⟨a,b⟩:=p;rw[qG];by_cases ha:a=k
   ·subst ha;rw[if_pos rfl];by_cases hx:x=a
    ·subst hx;rw[if_pos rfl,List.lookup_cons_self]
    ·rw[if_neg hx,qO,qO,beq_false_of_ne hx];dsimp only;clear ih hs;induction r with
     |nil=>rfl
     |cons q r ih =>
      rw[qG];by_cases hq:q.1=a
      ·rw[if_pos hq,qO,beq_false_of_ne hx];obtain⟨c,d⟩:=q;dsimp only at hq ⊢;subst hq;rw[qO,beq_false_of_ne hx];exact ih
      ·rw[if_neg hq];obtain⟨c,d⟩:=q;rw[qO,qO];split
       ·rfl
       ·exact ih
   ·rw[if_neg ha];have hs':(r.lookup k).isSome=true:=by
     rw[qO,beq_false_of_ne (Ne.symm ha)]at hs;exact hs
    rw[qO,qO];by_cases hx:x=a
    ·subst hx;rw[beq_self_eq_true,if_neg ha]
    ·rw[beq_false_of_ne hx];exact ih hs'
 ·rename_i hs;have hn:kvs.lookup k=none:=by
   cases z:kvs.lookup k with
   |none=>rfl
   |some o=>rw[z]at hs;exact absurd rfl hs
  rw[List.lookup_append];by_cases hx:x=k
  ·subst hx;rw[hn,if_pos rfl];simp
  ·rw[if_neg hx];cases kvs.lookup x with
   |some o=>rfl
   |none=>simp[qO,beq_false_of_ne hx]
theorem Nv{b:Int}{e:Tie}:∀ {ts:List Tie}{k:Nat},e∈nbs b k ts↔∃ i t,ts[i]?=some t∧(b=t.1∨b=t.2.1)∧e=(((k+i:Nat):Int),far t b,t.2.2)
 |[],k=>by simp[nbs]
 |t::ts,k=>by
  have ih:=Nv (b:=b) (e:=e) (ts:=ts) (k:=k+1);have key:(∃ i t',(t::ts)[i]?=some t'∧(b=t'.1∨b=t'.2.1)∧e=(((k+i:Nat):Int),far t' b,t'.2.2))↔((b=t.1∨b=t.2.1)∧e=((k:Int),far t b,t.2.2))∨e∈nbs b (k+1) ts:=by
   rw[ih];constructor
   ·rintro⟨i,t',h1,h2,h3⟩;cases i with
    |zero=>simp at h1;subst h1;exact .inl ⟨h2,h3⟩
    |succ i=>exact .inr ⟨i,t',by simpa using h1,h2,by rw[h3,show k+(i+1)=k+1+i by omega]⟩
   ·rintro(⟨h2,h3⟩|⟨i,t',h1,h2,h3⟩)
    ·exact⟨0,t,rfl,h2,h3⟩
    ·exact⟨i+1,t',by simpa using h1,h2,by rw[h3,show k+(i+1)=k+1+i by omega]⟩
  rw[key,nbs];by_cases h:b=t.1∨b=t.2.1
  ·rw[if_pos h,qE];exact⟨fun z=>z.elim (fun z=>.inl ⟨h,z⟩) .inr,fun z=>z.elim (fun z=>.inl z.2) .inr⟩
  ·rw[if_neg h];exact⟨.inr,fun z=>z.elim (fun z=>absurd z.1 h) id⟩
theorem mem_ups{ts:List Tie}{ds ps:List Int}{b:Int}{e:Tie}:e∈ups ts ds ps b↔∃ (i:Nat) (t:Tie),ts[i]?=some t∧(b=t.1∨b=t.2.1)∧e=((i:Int),far t b,t.2.2)∧(i:Int)∉ps∧far t b∉ds:=by
 unfold ups;rw[List.mem_filter,Nv];constructor
 ·rintro⟨⟨i,t,h1,h2,rfl⟩,h3⟩;rw[Nat.zero_add]at h3 ⊢;simp only[upB,bAq,Bool.not_eq_true',decide_eq_false_iff_not]at h3;exact⟨i,t,h1,h2,rfl,h3.1,h3.2⟩
 ·rintro⟨i,t,h1,h2,rfl,h3,h4⟩;refine⟨⟨i,t,h1,h2,by rw[Nat.zero_add]⟩,?_⟩;simp only[upB,bAq,Bool.not_eq_true',decide_eq_false_iff_not];exact⟨h3,h4⟩
theorem FO{bs:List Int}{t:Tie}(h:LOk bs t){b:Int}:far t b∈bs:=by
 unfold far;split
 ·exact h.2.1
 ·exact h.1
theorem Fq{bs:List Int}{t:Tie}(h:LOk bs t){b:Int}(hb:b=t.1∨b=t.2.1):far t b≠b:=by have:=h.2.2.1;unfold far;split<;>rcases hb with rfl|rfl<;>omega
theorem CK{bs:List Int}{t:Tie}(h:LOk bs t){b:Int}(hb:b=t.1∨b=t.2.1):(far t b=t.1∨far t b=t.2.1)∧far t (far t b)=b:=by
 have:=h.2.2.1;unfold far;rcases hb with rfl|rfl
 ·rw[if_pos rfl,if_neg (by omega)];exact⟨.inr rfl,rfl⟩
 ·rw[if_neg (by omega),if_pos rfl];exact⟨.inl rfl,rfl⟩
theorem Jh{bs:List Int}{ts:List Tie}{ds ps:List Int}(ht:∀ t∈ts,LOk bs t){b:Int}(hb:b∉ds){e:Tie}(h:e∈ups ts ds ps b):(e.1,b,e.2.2)∈ups ts ds ps e.2.1:=by obtain⟨i,t,h1,h2,rfl,h3,h4⟩:=mem_ups.mp h;have hl:=ht t (qY h1);obtain⟨q1,q2⟩:=CK hl h2;exact mem_ups.mpr ⟨i,t,h1,q1,by dsimp only;rw[q2],h3,by rw[q2];exact hb⟩
theorem Y9{bs:List Int}{ts:List Tie}{ds ps:List Int}(ht:∀ t∈ts,LOk bs t){b:Int}{e:Tie}(h:e∈ups ts ds ps b):e.2.1∈bs∧e.2.1∉ds∧e.2.1≠b∧1≤e.2.2∧e.2.2≤1000:=by obtain⟨i,t,h1,h2,rfl,h3,h4⟩:=mem_ups.mp h;have hl:=ht t (qY h1);exact⟨FO hl,h4,Fq hl h2,hl.2.2.2⟩
theorem Xs:∀ {xs ys:List Int},xs.Nodup→(∀ x∈xs,x∈ys)→xs.length≤ys.length
 |[],_,_,_=>Nat.zero_le _
 |x::xs,ys,nd,h=>by
  rw[List.nodup_cons]at nd;have hx:=h x (by simp);have:=Xs (xs:=xs) (ys:=ys.erase x) nd.2 fun y hy=>by have:y≠x:=fun e=>nd.1 (e▸hy);exact(List.mem_erase_of_ne this).mpr (h y (by simp[hy]))
  rw[List.length_erase_of_mem hx]at this;have:=List.length_pos_of_mem hx;rw[qB];omega
theorem UV{f f':Int→Nat}:∀ {l:List Int},(∀ k∈l,f' k≤f k)→(l.map f').sum≤(l.map f).sum
 |[],_=>zJ _
 |x::l,h=>by have:=h x (by simp);have:=UV (l:=l) fun k hk=>h k (by simp[hk]);simp only[qG,List.sum_cons];omega
theorem Ah{f f':Int→Nat}:∀ {l:List Int}{k0:Int},k0∈l→f' k0<f k0→(∀ k∈l,f' k≤f k)→(l.map f').sum<(l.map f).sum
 |[],_,h,_,_=>nomatch h
 |x::l,k0,h,h1,h2=>by
  simp only[qG,List.sum_cons];have hx:=h2 x (by simp);have hr:∀ k∈l,f' k≤f k:=fun k hk=>h2 k (by simp[hk]);rcases qE.mp h with rfl|h
  ·have:=UV hr;omega
  ·have:=Ah h h1 hr;omega
section
variable (bs:List Int) (ts:List Tie) (ds ps:List Int) (r:Int)
structure CI (cs:List (Int×Int)) (ws:List Int):Prop where
 nd:(cs.map (·.1)).Nodup
 sub:∀ k v,cs.lookup k=some v→k∈bs∧k∉ds
 wsub:∀ x∈ws,(cs.lookup x).isSome=true
 root:cs.lookup r=some 0
 pos:∀ k v,cs.lookup k=some v→0≤v∧(k≠r→1≤v)
 bnd:∀ k v,cs.lookup k=some v→v+1000≤1000*(cs.length:Int)
 pred:∀ k v,cs.lookup k=some v→k≠r→∃ e∈ups ts ds ps k,∃ u,cs.lookup e.2.1=some u∧u+e.2.2≤v
noncomputable def fee (cs:List (Int×Int)) (k:Int):Nat:=match cs.lookup k with
 |some v=>v.toNat
 |none=>10000
noncomputable def GN (cs:List (Int×Int)):Nat:=(bs.map (fee cs)).sum
end
section
variable {bs:List Int}{ts:List Tie}{ds ps:List Int}{r:Int}{cs:List (Int×Int)}{ws:List Int}
theorem CI.len(c:CI bs ts ds ps r cs ws):cs.length≤bs.length:=by
 have:=Xs c.nd (ys:=bs) fun k hk=>by obtain⟨v,hv⟩:=Xn hk;exact(c.sub k v hv).1
 rwa [qA]at this
theorem CI.put(c:CI bs ts ds ps r cs ws)(l10:bs.length≤10)(ht:∀ t∈ts,LOk bs t){b vb:Int}(hb:cs.lookup b=some vb){e:Tie}(he:e∈ups ts ds ps b)(hlt:∀ v,cs.lookup e.2.1=some v→vb+e.2.2<v) :
  CI bs ts ds ps r (YE cs e.2.1 (vb+e.2.2)) (ws++[e.2.1])∧GN bs (YE cs e.2.1 (vb+e.2.2))<GN bs cs∧(∀ k u,cs.lookup k=some u→∃ u',(YE cs e.2.1 (vb+e.2.2)).lookup k=some u'∧u'≤u)∧(YE cs e.2.1 (vb+e.2.2)).lookup b=some vb:=by
 obtain⟨f1,f2,f3,f4,f5⟩:=Y9 ht he;obtain⟨pb,qb⟩:=c.pos b vb hb;have bb:=c.bnd b vb hb;have hlen:(YE cs e.2.1 (vb+e.2.2)).length=if(cs.lookup e.2.1).isSome then cs.length else cs.length+1:=by have:=congrArg List.length (J6 cs e.2.1 (vb+e.2.2));rw[qA]at this;rw[this];split<;>simp
 have mono:∀ k u,cs.lookup k=some u→∃ u',(YE cs e.2.1 (vb+e.2.2)).lookup k=some u'∧u'≤u:=fun k u hu=>by
  rw[ZO];by_cases hk:k=e.2.1
  ·rw[if_pos hk];exact⟨_,rfl,by have:=hlt u (hk▸hu);omega⟩
  ·rw[if_neg hk];exact⟨u,hu,Int.le_refl _⟩
 have hr:e.2.1≠r:=fun z=>by have:=hlt 0 (z▸c.root);omega
 have hbk:(YE cs e.2.1 (vb+e.2.2)).lookup b=some vb:=by rw[ZO,if_neg (Ne.symm f3)];exact hb
 refine⟨⟨OT c.nd _ _,fun k v hv=>?_,fun x hx=>?_,?_,fun k v hv=>?_,fun k v hv=>?_,fun k v hv hk=>?_⟩,?_,mono,hbk⟩
 ·rw[ZO]at hv;by_cases hk:k=e.2.1
  ·rw[hk];exact⟨f1,f2⟩
  ·rw[if_neg hk]at hv;exact c.sub k v hv
 ·rw[ZO];by_cases hk:x=e.2.1
  ·rw[if_pos hk];rfl
  ·rw[if_neg hk];rcases q9.mp hx with hx|hx
   ·exact c.wsub x hx
   ·exact absurd (zL.mp hx) hk
 ·rw[ZO,if_neg (Ne.symm hr)];exact c.root
 ·rw[ZO]at hv;by_cases hk:k=e.2.1
  ·rw[if_pos hk]at hv;cases hv;exact⟨by omega,fun _=>by omega⟩
  ·rw[if_neg hk]at hv;exact c.pos k v hv
 ·rw[ZO]at hv;rw[hlen];by_cases hk:k=e.2.1
  ·rw[if_pos hk]at hv;cases hv;cases z:cs.lookup e.2.1 with
   |none=>simp;omega
   |some o =>have h1:=hlt o z;have h2:=c.bnd _ o z;simp;omega
  ·rw[if_neg hk]at hv;have:=c.bnd k v hv;split<;>(try simp only[Nat.cast_add])<;>omega
 ·rw[ZO]at hv;by_cases hk':k=e.2.1
  ·rw[if_pos hk']at hv;cases hv;refine⟨(e.1,b,e.2.2),by rw[hk'];exact Jh ht (c.sub b vb hb).2 he,vb,hbk,Int.le_refl _⟩
  ·rw[if_neg hk']at hv;obtain⟨e',h1,u,h2,h3⟩:=c.pred k v hv hk;obtain⟨u',h4,h5⟩:=mono _ u h2;exact⟨e',h1,u',h4,by omega⟩
 ·refine Ah f1 ?_ fun k _=>?_
  ·unfold fee;rw[ZO,if_pos rfl];cases z:cs.lookup e.2.1 with
   |none =>
    have hn:(e.2.1::cs.map (·.1)).Nodup:=List.nodup_cons.mpr ⟨W3 z,c.nd⟩;have:=Xs hn (ys:=bs) fun k hk=>by
     rcases qE.mp hk with rfl|hk
     ·exact f1
     ·obtain⟨v,hv⟩:=Xn hk;exact(c.sub k v hv).1
    rw[qB,qA]at this;dsimp only;omega
   |some o =>have:=hlt o z;have:=(c.pos _ o z).1;dsimp only;omega
  ·unfold fee;rw[ZO];by_cases hk:k=e.2.1
   ·rw[if_pos hk,hk];cases z:cs.lookup e.2.1 with
    |none =>have:=c.len;dsimp only;omega
    |some o=>have:=hlt o z;dsimp only;omega
   ·rw[if_neg hk];exact zJ _
end
noncomputable def YA (r:List Int):Val:=.tup (r.map .int)
theorem We(rows:List (List Int)):rowsOf (rows.map YA)=some rows:=by
 induction rows with
 |nil=>rfl
 |cons r rs ih =>show(intsOf (r.map .int)).bind (fun ns=>(rowsOf (rs.map YA)).map (ns :: ·))=_;rw[Ai,ih];rfl
theorem J4:∀ (r:List (List Int)) (x:List Int),minR x r∈x::r
 |[],x=>qT
 |y::r,x=>by
  show minR (if lexI y x then y else x) r∈x::y::r;have h:=J4 r (if lexI y x then y else x);rcases qE.mp h with e|h
  ·rw[e];split
   ·simp
   ·simp
  ·simp[h]
theorem Xf:∀ {a b:List Int},lexI a b=true→lexI b a=false
 |[],[],h=>by cases h
 |[],_::_,_=>rfl
 |_::_,[],h=>by cases h
 |x::xs,y::ys,h=>by
  rw[lexI]at h ⊢;by_cases e:x=y
  ·subst e;rw[if_pos rfl]at h ⊢;exact Xf h
  ·rw[if_neg e]at h;have h:x<y:=by simpa using h
   rw[if_neg (Ne.symm e)];simp;omega
theorem JL:∀ {a b c:List Int},lexI b a=false→lexI c b=false→lexI c a=false
 |[],[],[],_,_=>rfl
 |[],_,_::_,_,_=>rfl
 |[],_::_,[],_,h=>by cases h
 |_::_,[],_,h,_=>by cases h
 |_::_,_::_,[],_,h=>by cases h
 |x::xs,y::ys,z::zs,h1,h2=>by
  rw[lexI]at h1 h2 ⊢;by_cases e1:y=x
  ·subst e1;rw[if_pos rfl]at h1;by_cases e2:z=y
   ·subst e2;rw[if_pos rfl]at h2 ⊢;exact JL h1 h2
   ·rw[if_neg e2]at h2 ⊢;exact h2
  ·rw[if_neg e1]at h1;have h1:¬ y<x:=by simpa using h1
   by_cases e2:z=y
   ·subst e2;rw[if_neg e1];simpa using h1
   ·rw[if_neg e2]at h2;have h2:¬ z<y:=by simpa using h2
    rw[if_neg (by omega)];simp;omega
def Iv (m:List Int) (rows:List (List Int)):Prop:=m∈rows∧∀ y∈rows,lexI y m=false
theorem Yj:∀ (r:List (List Int)) (x:List Int),Iv (minR x r) (x::r)
 | [],x=>⟨qT,fun y hy=>by
   rw[zL.mp hy]
   cases q:lexI x x with
   |false=>exact q
   | true=>have:=Xf q;rw[q]at this;cases this⟩
 |z::r,x=>by
  obtain⟨h1,h2⟩:=Yj r (if lexI z x then z else x);refine⟨J4 (z::r) x,fun y hy=>?_⟩;show lexI y (minR (if lexI z x then z else x) r)=false;have hb:=h2 _ qT;have hx:lexI x (if lexI z x then z else x)=false:=by
   cases q:lexI z x with
   |false =>
    simp only[Bool.false_eq_true,if_false];cases q2:lexI x x with
    |false=>rfl
    |true=>have:=Xf q2;rw[q2]at this;cases this
   |true=>simp only[if_true];exact Xf q
  have hz:lexI z (if lexI z x then z else x)=false:=by
   cases q:lexI z x with
   |false=>simp only[Bool.false_eq_true,if_false];exact q
   |true =>
    simp only[if_true];cases q2:lexI z z with
    |false=>rfl
    |true=>have:=Xf q2;rw[q2]at this;cases this
  rcases qE.mp hy with e|hy
  ·rw[e];exact JL hb hx
  ·rcases qE.mp hy with e|hy
   ·rw[e];exact JL hb hz
   ·exact h2 y (qI _ hy)
theorem Wb{a b:Int}{xs ys:List Int}(h:lexI (a::xs) (b::ys)=false):b≤a:=by
 unfold lexI at h;split at h
 ·omega
 ·have:=of_decide_eq_false h;omega
theorem Jd{x:List Int}{l:List (List Int)}:intsOf ((x::l).map YA)=none:=rfl
noncomputable abbrev Rw:=Int×Int×Int×Option Int
noncomputable def oU:Option Int→Val
 |none=>.non
 |some p=>.int p
noncomputable def rV (R:Rw):Val:=.tup [.int R.1,.int R.2.1,.int R.2.2.1,oU R.2.2.2]
theorem Ba{bs ds:List Int}(h:bs.Pairwise (· < ·)):(bup bs ds).Pairwise (· < ·):=h.sublist List.filter_sublist
theorem mem_bup{bs ds:List Int}{b:Int}:b∈bup bs ds↔b∈bs∧b∉ds:=by unfold bup;rw[List.mem_filter];simp
structure TR (E:Int→Tie→Prop) (L:Int→Prop) (f:Int→Rw):Prop where
 cls:∀ b,L b→∀ e,E b e→L e.2.1∧1≤e.2.2∧(f e.2.1).2.1=(f b).2.1
 key:∀ b,L b→(f b).1=b
 row:∀ b,L b→(b=(f b).2.1∧(f b).2.2.1=0∧(f b).2.2.2=none)∨((f b).2.1<b∧1≤(f b).2.2.1∧∃ e,E b e∧(f b).2.2.2=some e.1∧(f b).2.2.1=(f e.2.1).2.2.1+e.2.2∧∀ e',E b e'→lexI [(f e'.2.1).2.2.1+e'.2.2,e'.2.1,e'.1] [(f b).2.2.1,e.2.1,e.1]=false)
theorem lex_eq:∀ {a b:List Int},lexI a b=false→lexI b a=false→a.length=b.length→a=b
 |[],[],_,_,_=>rfl
 |[],_::_,_,_,h=>by cases h
 |_::_,[],_,_,h=>by cases h
 |x::xs,y::ys,h1,h2,h=>by
  rw[lexI]at h1 h2;by_cases e:x=y
  ·subst e;rw[if_pos rfl]at h1 h2;rw[lex_eq h1 h2 (by simpa using h)]
  ·rw[if_neg e]at h1;rw[if_neg (Ne.symm e)]at h2;have h1:=of_decide_eq_false h1;have h2:=of_decide_eq_false h2;omega
section
variable {E:Int→Tie→Prop}{L:Int→Prop}{f g:Int→Rw}
theorem TR.root_le(a:TR E L f)(b:TR E L g):∀ (m:Nat) (k:Int),L k→(f k).2.2.1.toNat≤m→(g k).2.1≤(f k).2.1:=by
 intro m;induction m with
 |zero =>
  intro k hk hm;rcases a.row k hk with⟨h1,_⟩|⟨_,h2,_⟩
  ·rcases b.row k hk with⟨h2,_⟩|⟨h2,_⟩<;>omega
  ·omega
 |succ m ih =>
  intro k hk hm;rcases a.row k hk with⟨h1,_⟩|⟨_,h2,e,he,_,h3,_⟩
  ·rcases b.row k hk with⟨h2,_⟩|⟨h2,_⟩<;>omega
  ·obtain⟨q1,q2,q3⟩:=a.cls k hk e he;obtain⟨_,_,q4⟩:=b.cls k hk e he;have:=ih e.2.1 q1 (by rcases a.row _ q1 with⟨_,z,_⟩|⟨_,z,_⟩<;>omega);omega
theorem TR.cost_le(a:TR E L f)(b:TR E L g)(ro:∀ k,L k→(f k).2.1=(g k).2.1):∀ (m:Nat) (k:Int),L k→(g k).2.2.1.toNat≤m→(f k).2.2.1≤(g k).2.2.1:=by
 have key:∀ k,L k→(f k).2.2.1≤(g k).2.2.1∨∃ e,E k e∧1≤e.2.2∧L e.2.1∧0≤(g e.2.1).2.2.1∧(g k).2.2.1=(g e.2.1).2.2.1+e.2.2∧(f k).2.2.1≤(f e.2.1).2.2.1+e.2.2:=by
  intro k hk;have hr:=ro k hk;rcases a.row k hk with⟨h1,h2,_⟩|⟨h1,h2,e0,_,_,_,h3⟩
  ·left;rcases b.row k hk with⟨_,z,_⟩|⟨_,z,_⟩<;>omega
  ·rcases b.row k hk with⟨z,_⟩|⟨_,_,e,he,_,h5,_⟩
   ·omega
   ·obtain⟨q1,q2,_⟩:=b.cls k hk e he;exact .inr ⟨e,he,q2,q1,by rcases b.row _ q1 with⟨_,z,_⟩|⟨_,z,_⟩<;>omega,h5,Wb (h3 e he)⟩
 intro m;induction m with
 |zero =>intro k hk hm;rcases key k hk with h|⟨e,_,h1,_,h2,h3,_⟩<;>omega
 |succ m ih =>
  intro k hk hm;rcases key k hk with h|⟨e,_,h1,h2,h3,h4,h5⟩
  ·exact h
  ·have:=ih e.2.1 h2 (by omega);omega
theorem TR.one(a:TR E L f)(b:TR E L g){k:Int}(hk:L k):f k=g k:=by
 have ro:∀ k,L k→(f k).2.1=(g k).2.1:=fun k hk=>zK (b.root_le a _ k hk (zJ _)) (a.root_le b _ k hk (zJ _));have co:∀ k,L k→(f k).2.2.1=(g k).2.2.1:=fun k hk=>zK (a.cost_le b ro _ k hk (zJ _)) (b.cost_le a (fun k hk=>(ro k hk).symm) _ k hk (zJ _));have up:(f k).2.2.2=(g k).2.2.2:=by
  have hr:=ro k hk;rcases a.row k hk with⟨h1,_,h2⟩|⟨h1,_,e,he,h2,h3,h4⟩<;>rcases b.row k hk with⟨z1,_,z2⟩|⟨z1,_,e',he',z2,z3,z4⟩
  ·rw[h2,z2]
  ·omega
  ·omega
  ·have q1:=h4 e' he';have q2:=z4 e he;rw[co _ (a.cls k hk e' he').1,←z3]at q1;rw[←co _ (a.cls k hk e he).1,←h3]at q2;rw[co k hk]at q1 q2;have:=lex_eq q1 q2 rfl;simp only[List.cons.injEq]at this;rw[h2,z2,this.2.2.1]
 refine Prod.ext ((a.key k hk).trans (b.key k hk).symm) (Prod.ext (ro k hk) (Prod.ext (co k hk) up))
end
def SR (E:Int→Tie→Prop) (f:Int→Rw) (b:Int) (R:Rw):Prop:=((∀ e,E b e→¬ (f e.2.1).2.1<b)∧R=(b,b,0,none))∨∃ e,E b e∧(f e.2.1).2.1<b∧R=(b,(f e.2.1).2.1,(f e.2.1).2.2.1+e.2.2,some e.1)∧∀ e',E b e'→(f e'.2.1).2.1<b→lexI [(f e'.2.1).2.1,(f e'.2.1).2.2.1+e'.2.2,e'.2.1,e'.1] [(f e.2.1).2.1,(f e.2.1).2.2.1+e.2.2,e.2.1,e.1]=false
theorem Aq{a b:Int}{xs ys:List Int}(e:a=b):lexI (a::xs) (b::ys)=lexI xs ys:=by rw[lexI,if_pos e]
section
variable {E:Int→Tie→Prop}{l:List Int}{f g t:Int→Rw}
theorem SR.one{b:Int}{R S:Rw}(h1:SR E f b R)(h2:SR E f b S):R=S:=by
 rcases h1 with⟨a,rfl⟩|⟨e,e1,e2,rfl,e3⟩<;>rcases h2 with⟨c,rfl⟩|⟨d,d1,d2,rfl,d3⟩
 ·rfl
 ·exact absurd d2 (a d d1)
 ·exact absurd e2 (c e e1)
 ·have:=lex_eq (e3 d d1 d2) (d3 e e1 e2) rfl;simp only[List.cons.injEq]at this;obtain⟨q1,q2,q3,q4,_⟩:=this;rw[q1,q2,q4]
theorem TR.sr(a:TR E (·∈l) f){b:Int}(hb:b∈l):SR E f b (f b):=by
 have k:=a.key b hb;rcases a.row b hb with⟨h1,h2,h3⟩|⟨h1,h2,e,h3,h4,h5,h6⟩
 ·refine .inl ⟨fun e he z=>?_,Prod.ext k (Prod.ext h1.symm (Prod.ext h2 h3))⟩;have:=(a.cls b hb e he).2.2;omega
 ·have hr:∀ e,E b e→(f e.2.1).2.1=(f b).2.1:=fun e he=>(a.cls b hb e he).2.2;refine .inr ⟨e,h3,by rw[hr e h3];exact h1,Prod.ext k (Prod.ext (hr e h3).symm (Prod.ext h5 h4)),fun e' he' _=>?_⟩;rw[Aq ((hr e' he').trans (hr e h3).symm),←h5];exact h6 e' he'
theorem low:∀ (l:List Int) (c:Int→Int),l≠[]→∃ m∈l,∀ x∈l,c m≤c x
 |[],_,h=>absurd rfl h
 |[a],_,_=>⟨a,by simp,by simp⟩
 |a::b::l,c,_=>by
  obtain⟨m,h1,h2⟩:=low (b::l) c (by simp);by_cases h:c a≤c m
  ·refine⟨a,by simp,fun x hx=>?_⟩;rcases qE.mp hx with rfl|hx
   ·exact Int.le_refl _
   ·have:=h2 x hx;omega
  ·refine⟨m,qI _ h1,fun x hx=>?_⟩;rcases qE.mp hx with rfl|hx
   ·omega
   ·exact h2 x hx
theorem TR.of(cl:∀ b∈l,∀ e,E b e→e.2.1∈l∧1≤e.2.2∧E e.2.1 (e.1,b,e.2.2))(a:∀ b∈l,SR E f b (f b)):TR E (·∈l) f:=by
 have pos:∀ b∈l,0≤(f b).2.2.1:=fun b hb=>by
  obtain⟨m,h1,h2⟩:=low l (fun b=>(f b).2.2.1) (List.ne_nil_of_mem hb);have:=h2 b hb;rcases a m h1 with⟨_,h⟩|⟨e,e1,_,h,_⟩
  ·rw[h]at this;exact this
  ·obtain⟨q1,q2,_⟩:=cl m h1 e e1;have q3:=h2 _ q1;have q4:(f m).2.2.1=(f e.2.1).2.2.1+e.2.2:=by rw[h]
   omega
 have le:∀ b∈l,∀ e,E b e→(f b).2.1≤(f e.2.1).2.1:=fun b hb e he=>by
  rcases a b hb with⟨h1,h⟩|⟨d,d1,d2,h,d3⟩
  ·have:=h1 e he;rw[h];show b≤_;omega
  ·rw[h];show(f d.2.1).2.1≤_;by_cases z:(f e.2.1).2.1<b
   ·exact Wb (d3 e he z)
   ·omega
 have eq:∀ b∈l,∀ e,E b e→(f e.2.1).2.1=(f b).2.1:=fun b hb e he=>by obtain⟨q1,_,q3⟩:=cl b hb e he;exact zK (le _ q1 _ q3) (le b hb e he)
 refine⟨fun b hb e he=>?_,fun b hb=>?_,fun b hb=>?_⟩
 ·obtain⟨q1,q2,_⟩:=cl b hb e he;exact⟨q1,q2,eq b hb e he⟩
 ·rcases a b hb with⟨_,h⟩|⟨_,_,_,h,_⟩<;>rw[h]
 ·rcases a b hb with⟨_,h⟩|⟨e,e1,e2,h,e3⟩
  ·exact .inl ⟨by rw[h],by rw[h],by rw[h]⟩
  ·obtain⟨q1,q2,_⟩:=cl b hb e e1;have q3:=pos _ q1;have q4:(f b).2.2.1=(f e.2.1).2.2.1+e.2.2:=by rw[h]
   have q5:=eq b hb e e1;refine .inr ⟨by omega,by omega,e,e1,by rw[h],q4,fun e' he'=>?_⟩;have q6:=eq b hb e' he';have:=e3 e' he' (by omega);rw[Aq (q6.trans q5.symm),←q4]at this;exact this
end
noncomputable def dOf (f:Int→Rw) (l:List Int):List (Int×Rw):=l.map fun b=>(b,f b)
theorem Uk{f:Int→Rw}{l:List Int}:(dOf f l).map (·.1)=l:=by unfold dOf;rw[List.map_map];exact List.map_id l
theorem Kg{f:Int→Rw}:∀ {l:List Int}{b:Int},b∈l→(dOf f l).lookup b=some (f b)
 |a::l,b,h=>by
  show List.lookup b ((a,f a)::dOf f l)=_;rw[qO];by_cases e:b=a
  ·rw[e,beq_self_eq_true]
  ·rw[beq_false_of_ne e];exact Kg ((qE.mp h).resolve_left e)
noncomputable def ofr (f:Int→Rw) (e:Tie):List Int:=[(f e.2.1).2.1,(f e.2.1).2.2.1+e.2.2,e.2.1,e.1]
section
variable {E:Int→Tie→Prop}{l:List Int}{f g t:Int→Rw}
theorem Eb{b:Int}{S:List (List Int)}(hS:∀ r,r∈S↔∃ e,E b e∧(f e.2.1).2.1<b∧r=ofr f e):(S=[]→SR E f b (b,b,0,none))∧∀ x r,S=x::r→∃ e,minR x r=ofr f e∧SR E f b (b,(f e.2.1).2.1,(f e.2.1).2.2.1+e.2.2,some e.1):=by
 constructor
 ·rintro rfl;refine .inl ⟨fun e he z=>?_,rfl⟩;have:=(hS _).mpr ⟨e,he,z,rfl⟩;cases this
 ·rintro x r rfl;obtain⟨m1,m2⟩:=Yj r x;obtain⟨e,e1,e2,e3⟩:=(hS _).mp m1;refine⟨e,e3,.inr ⟨e,e1,e2,rfl,fun e' h1 h2=>?_⟩⟩;have:=m2 _ ((hS _).mpr ⟨e',h1,h2,rfl⟩);rw[e3]at this;exact this
theorem SR.congr{b:Int}{R:Rw}(h:∀ e,E b e→f e.2.1=g e.2.1)(s:SR E f b R):SR E g b R:=by
 rcases s with⟨h1,h2⟩|⟨e,e1,e2,e3,e4⟩
 ·exact .inl ⟨fun e he=>by rw[←h e he];exact h1 e he,h2⟩
 ·refine .inr ⟨e,e1,by rw[←h e e1];exact e2,by rw[←h e e1];exact e3,fun e' h1 h2=>?_⟩;rw[←h e' h1]at h2 ⊢;rw[←h e e1];exact e4 e' h1 h2
noncomputable def MX (E:Int→Tie→Prop) (f:Int→Rw) (b:Int):Bool:=@decide (SR E f b (f b)) (Classical.propDecidable _)
theorem Ug{b:Int}{R:Rw}(s:SR E f b R):decide (f b=R)=MX E f b:=by
 unfold MX;by_cases h:f b=R
 ·rw[qQ h];exact(@qQ _ (Classical.propDecidable _) (by rw[h];exact s)).symm
 ·rw[qP h];exact(@qP _ (Classical.propDecidable _) fun z=>h (z.one s)).symm
theorem Ol(cl:∀ b∈l,∀ e,E b e→e.2.1∈l∧1≤e.2.2∧E e.2.1 (e.1,b,e.2.2))(tr:TR E (·∈l) t):(l.map (MX E f)).all id=decide (l.map f=l.map t):=by
 have key:(∀ b∈l,SR E f b (f b))↔l.map f=l.map t:=by
  constructor
  ·intro h;exact List.map_congr_left fun b hb=>(TR.of cl h).one tr hb
  ·intro h b hb;have h:=List.map_inj_left.mp h;rw[h b hb];exact(tr.sr hb).congr fun e he=>(h _ (cl b hb e he).1).symm
 rw[Bool.eq_iff_iff,decide_eq_true_iff,←key,List.all_map,List.all_eq_true];exact forall₂_congr fun b _=>@decide_eq_true_iff _ (Classical.propDecidable _)
end
noncomputable def rD (R:Rw):D:=.tup [.int R.1,.int R.2.1,.int R.2.2.1,match R.2.2.2 with|none=>.non|some p=>.int p]
theorem K0{h:Hs}{d:Nat}(R:Rw):dat h (d+2) (rV R)=some (rD R):=by obtain⟨a,b,c,u⟩:=R;cases u<;>rfl
theorem MW{h:Hs}{d:Nat}:∀ l:List Rw,(l.map rV).mapM (dat h (d+2))=some (l.map rD)
 |[]=>rfl
 |R::l=>by rw[qG,List.mapM_cons,MW l,K0];rfl
theorem UR(R S:Rw):D.eqv (rD R) (rD S)=decide (R=S):=by obtain⟨a,b,c,u⟩:=R;obtain⟨a',b',c',u'⟩:=S;rw[Bool.eq_iff_iff];cases u<;>cases u'<;>simp[rD,D.eqv,D.eqvs]
theorem M1:∀ l m:List Rw,D.eqvs (l.map rD) (m.map rD)=decide (l=m)
 |[],[]=>rfl
 |[],_::_=>rfl
 |_::_,[]=>rfl
 |R::l,S::m=>by rw[qG,qG,D.eqvs,M1 l m,UR];simp
theorem D9{h:Hs}{R S:Rw}:eqV h (rV R) (rV S)=some (decide (R=S)):=by unfold eqV deep;rw[K0,K0];show some (D.eqv _ _)=_;rw[UR]
theorem WH:∀ xs:List Int,D.eqvs (xs.map D.int) (xs.map D.int)=true
 |[]=>rfl
 |x::xs=>by rw[qG,D.eqvs,WH xs,JY];simp
theorem B5{h:Hs}{a b:Ad}{ns:List Int}(e1:h a=some (.lst (ns.map .int)))(e2:h b=some (.lst (ns.map .int))):eqV h (.ref a) (.ref b)=some true:=by
 have d:∀ c,h c=some (.lst (ns.map .int))→dat h deep (.ref c)=some (.lst (ns.map .int)):=fun c e=>by unfold deep;rw[dat,e,ZX,Option.bind_some,Wi];rfl
 unfold eqV;rw[d a e1,d b e2];show some (D.eqv (.lst _) (.lst _))=_;rw[D.eqv,WH]
section
variable {bs ds ps:List Int}{ts:List Tie}
theorem Ag {R:Rw}(k:∀ g,Ext h g→Q (.bl true) g):wF P (n+2) "is_row" [rV R] h Q X:=by
 obtain⟨a,b,c,u⟩:=R;unfold rV;refine Ku ?_;walk_at "py";refine ifF rfl ?_;walk_at "py";refine ifF rfl ?_;walk_at "py";refine sl_tup (by simp[cutAt]) ?_;walk_at "py";refine⟨by show(3:Nat)<lim;decide,ZF (fun _=>some (.bl true)) trivial (fun v hv K hK=>?_) ?_⟩
 ·have hv:v∈[Val.int a,.int b,.int c]:=hv;simp only[qE,List.not_mem_nil,or_false]at hv;walk_at "py";refine ifT rfl ?_;walk_at "py";rcases hv with rfl|rfl|rfl<;>exact Xd hK
 rw[Jm];refine Za fun p g hp x ep=>?_;walk_at "py";refine YN ep (ZK _) ?_;walk_at "py";refine ifF (by simp) ?_;walk_at "py";cases u with
 |none =>refine ifT (by simp[oU]) ?_;exact k g x
 |some q =>refine ifF (by simp[oU]) ?_;walk_at "py";exact Xd (k g x)
noncomputable def FC:List (List Int)→Val
 |[]=>.non
 |x::r=>YA (minR x r)
noncomputable def CT (b:Int):Val→Option Val
 |.tup (.int i::r)=>if i<b then some (.tup (.int i::r))else none
 |_=>none
theorem Ak{f:Int→Rw}{b:Int}:∀ l:List Tie,((l.map (ofr f)).map YA).filterMap (CT b)=((l.filter fun e=>decide ((f e.2.1).2.1<b)).map (ofr f)).map YA
 |[]=>rfl
 |e::l=>by rw[qG,qG,zN,List.filter_cons,Ak l];have q:CT b (YA (ofr f e))=if(f e.2.1).2.1<b then some (YA (ofr f e))else none:=rfl;rw[q];by_cases z:(f e.2.1).2.1<b<;>simp[z]
theorem BQ {f:Int→Rw}{b:Int}{l:List Tie}{po:Ad}(e:h po=some (.lst ((l.map (ofr f)).map YA))) (hl:l.length≤16) (k:∀ g,Ext h g→Q (FC ((l.filter fun e=>decide ((f e.2.1).2.1<b)).map (ofr f))) g):wF P (n+1) "best_offer" [.int b,.ref po] h Q X:=by
 have hlim:(1000:Nat)≤lim:=by decide
 refine JR ?_;walk_at "py";refine⟨by show(List.map YA _).length<lim;rw[qA,qA];omega,ZF (CT b) (lsE e) (fun v hv K hK=>?_) ?_⟩
 ·obtain⟨r,hr,rfl⟩:=q8.mp hv;obtain⟨t,_,rfl⟩:=q8.mp hr;have q:CT b (YA (ofr f t))=if(f t.2.1).2.1<b then some (YA (ofr f t))else none:=rfl;rw[q]at hK;unfold YA ofr at hK ⊢;dsimp only[List.map]at hK ⊢;walk_at "py";by_cases z:(f t.2.1).2.1<b
  ·refine ifT (qQ z) ?_;rw[if_pos z]at hK;walk_at "py";exact hK
  ·refine ifF (qP z) ?_;rw[if_neg z]at hK;exact hK
 rw[Ak];refine Za fun p g hp x ep=>?_;walk_at "py";revert ep k;generalize (l.filter fun e=>decide ((f e.2.1).2.1<b)).map (ofr f)=S;intro k ep;cases S with
 |nil=>exact Fo ep (k g x)
 |cons y r=>exact BZ ep (We _) (k g x)
theorem AO {pr:Ad}{f:Int→Rw}{b:Int}(no:NetOk bs ts) (er:h pr=some (.dct (YF rV (dOf f (bup bs ds))))) (k:∀ R g,Ext h g→SR (fun b e=>e∈ups ts ds ps b) f b R→Q (rV R) g):wF P (n+4) "least_row" [ZD bs ts,Zp ds ps,.int b,.ref pr] h Q X:=by
 have hlim:(1000:Nat)≤lim:=by decide
 refine Ke ?_;walk_at "py";refine Za fun po g0 hpo x0 e0=>?_;walk_at "py";refine Ed no.sixteen fun pu g1 hpu x1 eu=>?_;have nl:∀ l:List Tie,∀ k,(nbs b k l).length≤l.length:=by
  intro l;induction l with
  |nil=>intro k;exact zJ _
  |cons t l ih =>intro k;have:=ih (k+1);unfold nbs;split<;>simp only[qB]<;>omega
 have hl:(ups ts ds ps b).length≤16:=zH (List.length_filter_le _ _) (zH (nl ts 0) no.sixteen);have nou:pu≠po:=fun z=>by rw[z,e0]at hpu;cases hpu
 walk_at "py";refine Zq (fun i en g=>∃ v5 v6 v7 v8,en=[some (ZD bs ts),some (Zp ds ps),some (.int b),some (.ref pr),some (.ref po),v5,v6,v7,v8]∧Ext h g∧g pu=some (.lst ((ups ts ds ps b).map Zs))∧g po=some (.lst ((((ups ts ds ps b).take i).map (ofr f)).map YA))) ⟨_,_,_,_,rfl,x0.trans x1,eu,x1.get e0⟩ (fun _ _ g _ ⟨_,_,_,_,_,_,e,_⟩=>lsE e) ?_ ?_
 ·rintro i v en g hv ⟨v5,v6,v7,v8,rfl,x,eu,eo⟩ K hK;rw[qF]at hv;obtain⟨⟨pl,nb,c⟩,hs,rfl⟩:=qD.mp hv;obtain⟨f1,f2,_⟩:=Y9 no.tie (qY hs);have er':=x.get er;have lk:lookK (YF rV (dOf f (bup bs ds))) (.int nb)=some (rV (f nb)):=by rw[GX,Kg (mem_bup.mpr ⟨f1,f2⟩)];rfl
  unfold Zs;dsimp only;walk_at "py";refine Bf er' rfl lk ?_;have ev:rV (f nb)=.tup [.int (f nb).1,.int (f nb).2.1,.int (f nb).2.2.1,oU (f nb).2.2.2]:=rfl;rw[ev];walk_at "py";refine Bf er' rfl lk ?_;rw[ev];walk_at "py";refine Zw eo (by rw[qA,qA,qV];omega) ?_;walk_at "py";refine hK _ _ ⟨_,_,_,_,rfl,ZC x hpo,(upd_ne nou).trans eu,?_⟩;rw[qW,hs,qJ,qJ];exact upd_same
 ·rintro en g ⟨v5,v6,v7,v8,rfl,x,_,eo⟩;rw[qA,zC]at eo;walk_at "py";refine BQ eo hl fun g2 x2=>?_;have hS:∀ r,r∈((ups ts ds ps b).filter fun e=>decide ((f e.2.1).2.1<b)).map (ofr f)↔∃ e,e∈ups ts ds ps b∧(f e.2.1).2.1<b∧r=ofr f e:=fun r=>by
   rw[q8];constructor
   ·rintro⟨e,he,rfl⟩;obtain⟨h1,h2⟩:=List.mem_filter.mp he;exact⟨e,h1,of_decide_eq_true h2,rfl⟩
   ·rintro⟨e,h1,h2,rfl⟩;exact⟨e,List.mem_filter.mpr ⟨h1,qQ h2⟩,rfl⟩
  obtain⟨s1,s2⟩:=Eb (E:=fun b e=>e∈ups ts ds ps b) hS;revert s1 s2;generalize ((ups ts ds ps b).filter fun e=>decide ((f e.2.1).2.1<b)).map (ofr f)=S;intro s1 s2;cases S with
  |nil =>unfold FC;walk_at "py";refine ifT rfl ?_;walk_at "py";exact k _ g2 (x.trans x2) (s1 rfl)
  |cons y r =>
   obtain⟨e,e1,e2⟩:=s2 y r rfl;have ev:FC (y::r)=.tup [.int (f e.2.1).2.1,.int ((f e.2.1).2.2.1+e.2.2),.int e.2.1,.int e.1]:=by show YA (minR y r)=_;rw[e1];rfl
   rw[ev];walk_at "py";refine ifF rfl ?_;walk_at "py";exact k _ g2 (x.trans x2) e2
end
noncomputable def upl (ds ps:List Int):Nat→List Tie→List (Int×Tie)
 |_,[]=>[]
 |k,t::r=>if(k:Int)∉ps∧t.1∉ds∧t.2.1∉ds then((k:Int),t)::upl ds ps (k+1) r else upl ds ps (k+1) r
noncomputable def q4V (p:Int×Tie):Val:=.tup [.int p.1,.int p.2.1,.int p.2.2.1,.int p.2.2.2]
theorem KA{ds ps:List Int}{t:Tie}:∀ {l:List Tie}{k:Nat},upl ds ps k (l++[t])=upl ds ps k l++(if((k+l.length:Nat):Int)∉ps∧t.1∉ds∧t.2.1∉ds then [(((k+l.length:Nat):Int),t)]else [])
 |[],k=>rfl
 |u::l,k=>by
  rw[List.cons_append,upl,upl,KA,qB,show k+1+l.length=k+(l.length+1) by omega];by_cases h:(k:Int)∉ps∧u.1∉ds∧u.2.1∉ds
  ·rw[if_pos h,if_pos h,List.cons_append]
  ·rw[if_neg h,if_neg h]
theorem mem_upl{ds ps:List Int}{e:Int×Tie}:∀ {ts:List Tie}{k:Nat},e∈upl ds ps k ts↔∃ i t,ts[i]?=some t∧((k+i:Nat):Int)∉ps∧t.1∉ds∧t.2.1∉ds∧e=(((k+i:Nat):Int),t)
 |[],k=>by simp[upl]
 |t::ts,k=>by
  have ih:=mem_upl (ds:=ds) (ps:=ps) (e:=e) (ts:=ts) (k:=k+1);have key:(∃ i t',(t::ts)[i]?=some t'∧((k+i:Nat):Int)∉ps∧t'.1∉ds∧t'.2.1∉ds∧e=(((k+i:Nat):Int),t'))↔(((k:Int)∉ps∧t.1∉ds∧t.2.1∉ds)∧e=((k:Int),t))∨e∈upl ds ps (k+1) ts:=by
   rw[ih];constructor
   ·rintro⟨i,t',h1,h2,h3,h4,h5⟩;cases i with
    |zero=>simp at h1;subst h1;exact .inl ⟨⟨h2,h3,h4⟩,h5⟩
    |succ i=>exact .inr ⟨i,t',by simpa using h1,by rw[show k+1+i=k+(i+1) by omega];exact h2,h3,h4,by rw[h5,show k+(i+1)=k+1+i by omega]⟩
   ·rintro(⟨⟨h2,h3,h4⟩,h5⟩|⟨i,t',h1,h2,h3,h4,h5⟩)
    ·exact⟨0,t,rfl,h2,h3,h4,h5⟩
    ·exact⟨i+1,t',by simpa using h1,by rw[show k+(i+1)=k+1+i by omega];exact h2,h3,h4,by rw[h5,show k+(i+1)=k+1+i by omega]⟩
  rw[key,upl];by_cases h:(k:Int)∉ps∧t.1∉ds∧t.2.1∉ds
  ·rw[if_pos h,qE];exact⟨fun z=>z.elim (fun z=>.inl ⟨h,z⟩) .inr,fun z=>z.elim (fun z=>.inl z.2) .inr⟩
  ·rw[if_neg h];exact⟨.inr,fun z=>z.elim (fun z=>absurd z.1 h) id⟩
theorem YC{ds ps:List Int}:∀ (l:List Tie) (k:Nat),(upl ds ps k l).length≤l.length
 |[],_=>zJ _
 |t::l,k=>by have:=YC (ds:=ds) (ps:=ps) l (k+1);rw[upl];split<;>simp only[qB]<;>omega
section
variable {bs ds ps:List Int}{ts:List Tie}
theorem M5 (hw:Row h w) (lb:bs.length≤10) (lt:ts.length≤16) (k:∀ ds ps g,ds.Sublist bs→ps.length≤16→ExtB w h g→Row g w→Q (Zp ds ps) g):wF P (n+2) "_law_down" [.ref w,ZD bs ts] h Q X:=by
 have hlim:(1000:Nat)≤lim:=by decide
 unfold ZD;refine KK ?_;walk_at "py";refine Za fun p1 g1 hp1 x1 e1=>?_;have n1:p1≠w:=fun z=>hw.ne hp1 z.symm;walk_at "py";refine Zf (hw.ext x1) (by decide) (by decide) fun r2 g2 a2 b2 x2 w2=>?_;obtain⟨v,ev,hv⟩:=ZH (xs:=[Val.int 4,.int 2,.int 9]) (r:=r2) a2 b2;have hm:∃ m:Int,v=.int m∧0<m∧m<1000:=by simp only[qE,List.not_mem_nil,or_false]at hv;rcases hv with rfl|rfl|rfl<;>exact⟨_,rfl,by decide,by decide⟩
 obtain⟨m,rfl,m1,m2⟩:=hm;refine Zm (x2.get n1 e1) ev ?_;have y2:ExtB w h g2:=(ExtB.of x1).trans x2;walk_at "py";refine⟨by show(List.map Val.int _).length<lim;rw[qA];omega,Z1 (fun i zs g=>∃ ns:List Int,zs=ns.map .int∧ns.Sublist (bs.take i)∧ExtB w h g∧Row g w) ⟨[],rfl,.slnil,y2,w2⟩ (fun _ _ _ _ _=>trivial) (fun i v zs g hv hI K hK=>?_) (fun zs g hI=>?_)⟩
 ·obtain⟨ns,rfl,sl,x,hr⟩:=hI;rw[qF]at hv;obtain⟨b,hs,rfl⟩:=qD.mp hv;have tk:bs.take (i+1)=bs.take i++[b]:=by rw[qW,hs];rfl
  walk_at "py";refine Zf hr m1 (by omega) fun r3 g3 a3 b3 x3 w3=>?_;walk_at "py";refine ifP (fun hc=>?_) (fun hc=>?_)
  ·walk_at "py";exact hK _ _ ⟨ns++[b],by rw[qJ];rfl,by rw[tk];exact sl.append_right [b],x.trans x3,w3⟩
  ·exact hK _ _ ⟨ns,by simp,by rw[tk];exact sl.trans (List.sublist_append_left _ _),x.trans x3,w3⟩
 obtain⟨d1,rfl,sl,x3,w3⟩:=hI;rw[qA,zC]at sl;refine Za fun p4 g4 hp4 x4 e4=>?_;have n4:p4≠w:=fun z=>w3.ne hp4 z.symm;have y4:ExtB w h g4:=x3.trans (.of x4);walk_at "py";refine⟨⟨by omega,by rw[qA];omega⟩,?_⟩;refine⟨by rw[Yk,qA];omega,Z1 (fun i zs g=>∃ ns:List Int,zs=ns.map .int∧ns.length≤i∧ExtB w g4 g∧Row g w) ⟨[],rfl,zJ _,ExtB.refl,w3.ext x4⟩ (fun _ _ _ _ _=>trivial) (fun i v zs g hv hI K hK=>?_) (fun zs g hI=>?_)⟩
 ·obtain⟨ns,rfl,nl,x,hr⟩:=hI;obtain⟨rfl,_⟩:=YD hv;walk_at "py";refine Zf hr m1 (by omega) fun r3 g3 a3 b3 x3 w3=>?_;walk_at "py";refine ifP (fun hc=>?_) (fun hc=>?_)
  ·walk_at "py";exact hK _ _ ⟨ns++[(i:Int)],by rw[qJ];rfl,by rw[qU];exact Nat.succ_le_succ nl,x.trans x3,w3⟩
  ·exact hK _ _ ⟨ns,by simp,by omega,x.trans x3,w3⟩
 obtain⟨d2,rfl,nl,x5,w5⟩:=hI;rw[Yk,qA]at nl;refine Za fun p6 g6 hp6 x6 e6=>?_;have e46:=x6.get (x5.get n4 e4);walk_at "py";refine Za fun p7 g7 hp7 x7 e7=>?_;have w6:=w5.ext x6;have n7:p7≠w:=fun z=>w6.ne hp7 z.symm;walk_at "py";refine Zf (w6.ext x7) (by decide) (by decide) fun r8 g8 a8 b8 x8 w8=>?_;have y8:ExtB w h g8:=(y4.trans x5).trans ((ExtB.of (x6.trans x7)).trans x8);walk_at "py";by_cases h8:r8=0
 ·have e:atI [Val.tup [.tup (d1.map .int),.tup (d2.map .int)],.tup [.tup [],.tup []]] (if decide (r8=0)=true then 1 else 0)=some (Zp [] []):=by rw[if_pos (qQ h8)];rfl
  exact Zm (x8.get n7 e7) e (k [] [] g8 (List.nil_sublist _) (by simp) y8 w8)
 ·have e:atI [Val.tup [.tup (d1.map .int),.tup (d2.map .int)],.tup [.tup [],.tup []]] (if decide (r8=0)=true then 1 else 0)=some (Zp d1 d2):=by rw[if_neg (by simpa using h8)];rfl
  exact Zm (x8.get n7 e7) e (k d1 d2 g8 sl (by omega) y8 w8)
theorem Jv (lt:ts.length≤16) (k:∀ p g,h p=none→Ext h g→g p=some (.lst ((upl ds ps 0 ts).map q4V))→Q (.ref p) g):wF P (n+1) "_law_up" [ZD bs ts,Zp ds ps] h Q X:=by
 have hlim:(1000:Nat)≤lim:=by decide
 unfold ZD Zp;refine Ao ?_;walk_at "py";refine Za fun p g0 hp x0 e0=>?_;walk_at "py";refine⟨⟨by omega,by rw[qA];omega⟩,?_⟩;refine Zq (fun i en g=>∃ v3 v4 v5 v6,en=[some (.tup [.tup (bs.map .int),.tup (ts.map Zs)]),some (.tup [.tup (ds.map .int),.tup (ps.map .int)]),some (.ref p),v3,v4,v5,v6]∧Ext h g∧g p=some (.lst ((upl ds ps 0 (ts.take i)).map q4V))) ⟨_,_,_,_,rfl,x0,e0⟩ (fun _ _ _ _ _=>trivial) ?_ ?_
 ·rintro i v en g hv ⟨v3,v4,v5,v6,rfl,x,ep⟩ K hK;obtain⟨rfl,hi⟩:=YD hv;rw[qA]at hi;have hi:i<ts.length:=by omega
  obtain⟨⟨one,other,c⟩,ht⟩:∃ t,ts[i]?=some t:=⟨ts[i],qH hi⟩
  have hn:upl ds ps 0 (ts.take (i+1))=upl ds ps 0 (ts.take i)++(if(i:Int)∉ps∧one∉ds∧other∉ds then [((i:Int),(one,other,c))]else []):=by rw[qW,ht];have:=KA (ds:=ds) (ps:=ps) (t:=(one,other,c)) (l:=ts.take i) (k:=0);rw[qV,Nat.min_eq_left (by omega),Nat.zero_add]at this;exact this
  have hl:=YC (ds:=ds) (ps:=ps) (ts.take i) 0;rw[qV]at hl;walk_at "py";refine ix_tup (v:=Zs (one,other,c)) (Yl (by omega) (by rw[Int.toNat_natCast,qF,ht];rfl)) ?_;unfold Zs;dsimp only;walk_at "py";refine YB ?_;walk_at "py";have no:¬ ((i:Int)∉ps∧one∉ds∧other∉ds)→K [some (.tup [.tup (bs.map .int),.tup (ts.map fun t=>.tup [.int t.1,.int t.2.1,.int t.2.2])]),some (.tup [.tup (ds.map .int),.tup (ps.map .int)]),some (.ref p),some (.int i),some (.int one),some (.int other),some (.int c)] g:=fun z=>hK _ _ ⟨_,_,_,_,rfl,x,by rw[hn,if_neg z,zF];exact ep⟩;by_cases h1:(i:Int)∈ps
  ·refine ifF (by simpa using h1) (ifF rfl ?_);walk_at "py";exact no fun z=>z.1 h1
  ·refine ifT (by simpa using h1) ?_;walk_at "py";refine YB ?_;walk_at "py";by_cases h2:one∈ds
   ·refine ifF (by simpa using h2) (ifF rfl ?_);walk_at "py";exact no fun z=>z.2.1 h2
   ·refine ifT (by simpa using h2) ?_;walk_at "py";refine YB ?_;walk_at "py";by_cases h3:other∈ds
    ·refine ifF (by simpa using h3) ?_;walk_at "py";exact no fun z=>z.2.2 h3
    ·refine ifT (by simpa using h3) ?_;walk_at "py";refine Zw ep (by rw[qA];omega) ?_;walk_at "py";refine hK _ _ ⟨_,_,_,_,rfl,ZC x hp,?_⟩;rw[hn,if_pos ⟨h1,h2,h3⟩,qJ];exact upd_same
 ·rintro en g ⟨v3,v4,v5,v6,rfl,x,ep⟩;rw[Yk,qA,Int.toNat_natCast,zC]at ep;walk_at "py";exact k p g hp x ep
end
noncomputable def Aj:Val→Option Val
 |.tup (x::_)=>some x
 |_=>none
theorem X1:∀ l:List Rw,(l.map rV).filterMap Aj=(l.map (·.1)).map .int
 |[]=>rfl
 |R::l=>by rw[qG,zN,X1 l];rfl
section
variable {bs ds ps:List Int}{ts:List Tie}{f t:Int→Rw}
theorem Mj {p:Ad}(no:NetOk bs ts) (tr:TR (fun b e=>e∈ups ts ds ps b) (·∈bup bs ds) t) (es:h p=some (.lst (((bup bs ds).map f).map rV))) (hk:∀ b∈bup bs ds,(f b).1=b) (k:∀ g,Ext h g→Q (.bl (decide ((bup bs ds).map f=(bup bs ds).map t))) g):wF P (n+5) "is_plain_tree" [ZD bs ts,Zp ds ps,.ref p] h Q X:=by
 have hlim:(1000:Nat)≤lim:=by decide
 have h10:=no.ten;have hbl:(bup bs ds).length≤bs.length:=List.length_filter_le _ _;have asc:=Ba (ds:=ds) no.up;have nd:(bup bs ds).Nodup:=asc.imp fun h=>by omega
 have hL:(((bup bs ds).map f).map rV).length<lim:=by rw[qA,qA];omega
 have cl:∀ b∈bup bs ds,∀ e,e∈ups ts ds ps b→e.2.1∈bup bs ds∧1≤e.2.2∧(e.1,b,e.2.2)∈ups ts ds ps e.2.1:=fun b hb e he=>by obtain⟨f1,f2,_,f4,_⟩:=Y9 no.tie he;exact⟨mem_bup.mpr ⟨f1,f2⟩,f4,Jh no.tie (mem_bup.mp hb).2 he⟩
 rw[←Ol (f:=f) cl tr]at k;refine Z3 ?_;refine ss_cons (s_ite (t_or (t_not (t_val (e_bi (a_cons (X5 rfl (a_nil (isl es (g_tbl ?_))))))))));refine ifF rfl ?_;walk_at "py";refine⟨hL,Z1 (fun i zs g=>Ext h g∧zs=(List.replicate i true).map .bl) ⟨Ext.refl,rfl⟩ (fun _ _ g _ z=>lsE (z.1.get es)) (fun i v zs g hv hI K hK=>?_) (fun zs g hI=>?_)⟩
 ·obtain⟨x,rfl⟩:=hI;rw[qF]at hv;obtain⟨R,hs,rfl⟩:=qD.mp hv;walk_at "py";refine ifT rfl ?_;walk_at "py";refine Ag fun g2 x2=>hK _ _ ⟨x.trans x2,?_⟩;rw[List.replicate_succ',qJ];rfl
 obtain⟨x1,rfl⟩:=hI;refine Za fun p2 g2 hp2 x2 e2=>?_;walk_at "py";refine YN e2 (ZK _) ?_;walk_at "py";refine ifF (by simp) ?_;have y2:=x1.trans x2;have es2:=y2.get es;walk_at "py";refine⟨hL,ZF Aj (lsE es2) (fun v hv K hK=>?_) ?_⟩
 ·obtain⟨R,_,rfl⟩:=q8.mp hv;unfold rV at hK ⊢;walk_at "py";refine ifT rfl ?_;walk_at "py";exact hK
 have eh:((bup bs ds).map f).map (·.1)=bup bs ds:=by rw[List.map_map];exact(List.map_congr_left fun b hb=>hk b hb).trans (List.map_id _)
 rw[X1,eh];refine Za fun p3 g3 hp3 x3 e3=>?_;walk_at "py";refine U9 no.ten fun p4 g4 hp4 x4 e4=>?_;refine YL (B5 (x4.get e3) e4) ?_;walk_at "py";refine ifF rfl ?_;have y4:=y2.trans (x3.trans x4);walk_at "py";intro pr hpr;have x5:=Ext.new (o:=.dct []) hpr;have e5:upd g4 pr (.dct []) pr=some (.dct (YF rV [])):=upd_same;generalize upd g4 pr (.dct [])=g5 at x5 e5 ⊢;have y5:=y4.trans x5;have es5:=y5.get es;have hpr':h pr=none:=by
  cases q:h pr with
  |none=>rfl
  |some o=>rw[y4.get q]at hpr;cases hpr
 walk_at "py";refine Zq (fun i en g=>∃ v3,en=[some (ZD bs ts),some (Zp ds ps),some (.ref p),v3,some (.ref pr)]∧Ext h g∧g pr=some (.dct (YF rV (dOf f ((bup bs ds).take i))))) ⟨_,rfl,y5,e5⟩ (fun _ _ g _ ⟨_,_,x,_⟩=>lsE (x.get es)) ?_ ?_
 ·rintro i v en g hv ⟨v3,rfl,x,er⟩ K hK;rw[qF,qF]at hv;obtain⟨R,hR,rfl⟩:=qD.mp hv;obtain⟨b,hs,rfl⟩:=qD.mp hR;have tk:(bup bs ds).take (i+1)=(bup bs ds).take i++[b]:=by rw[qW,hs];rfl
  have nk:b∉(dOf f ((bup bs ds).take i)).map (·.1):=by rw[Uk];have:=nd.sublist (List.take_sublist (i+1) _);rw[tk,List.nodup_append]at this;exact fun z=>this.2.2 b z b (by simp) rfl
  have ev:rV (f b)=.tup [.int b,.int (f b).2.1,.int (f b).2.2.1,oU (f b).2.2.2]:=by have:rV (f b)=.tup [.int (f b).1,.int (f b).2.1,.int (f b).2.2.1,oU (f b).2.2.2]:=rfl;rw[this,hk b (qY hs)]
  have ep:putK (YF rV (dOf f ((bup bs ds).take i))) (.int b) (rV (f b))=YF rV (dOf f ((bup bs ds).take (i+1))):=by rw[CC,C4 _ nk,tk];unfold dOf;rw[qJ];rfl
  rw[ev]at ep ⊢;walk_at "py";refine Gb er ⟨rfl,by rw[LD];unfold dOf;rw[qA,qV];omega⟩ ?_;rw[ep];walk_at "py";exact hK _ _ ⟨_,rfl,ZC x hpr',upd_same⟩
 ·rintro en g ⟨v3,rfl,x,er⟩;rw[qA,qA,zC]at er;have esg:=x.get es;walk_at "py";refine⟨hL,Z1 (fun i zs g2=>Ext g g2∧zs=(((bup bs ds).take i).map (MX (fun b e=>e∈ups ts ds ps b) f)).map .bl) ⟨Ext.refl,rfl⟩ (fun _ _ g2 _ z=>lsE (z.1.get esg)) (fun i v zs g2 hv hI K hK=>?_) (fun zs g2 hI=>?_)⟩
  ·obtain⟨xg,rfl⟩:=hI;rw[qF,qF]at hv;obtain⟨R,hR,rfl⟩:=qD.mp hv;obtain⟨b,hs,rfl⟩:=qD.mp hR;have ev:rV (f b)=.tup [.int b,.int (f b).2.1,.int (f b).2.2.1,oU (f b).2.2.2]:=by
    have:rV (f b)=.tup [.int (f b).1,.int (f b).2.1,.int (f b).2.2.1,oU (f b).2.2.2]:=rfl;rw[this,hk b (qY hs)]
   rw[ev];walk_at "py";refine ifT rfl ?_;walk_at "py";refine AO no (xg.get er) fun R g3 x3 sr=>?_;rw[←ev];refine Hq D9 ?_;rw[Ug sr];refine hK _ _ ⟨xg.trans x3,?_⟩;rw[qW,hs,qJ,qJ];rfl
  ·obtain⟨xg,rfl⟩:=hI;rw[qA,qA,zC];refine Za fun p6 g6 hp6 x6 e6=>?_;walk_at "py";refine YN e6 (ZK _) ?_;exact k _ (x.trans (xg.trans x6))
end
theorem UU(ns:List Int)(lo hi:Option Int):cut (ns.map Val.int) lo hi=(cut ns lo hi).map Val.int:=by unfold cut;rw[qA,List.map_take,List.map_drop]
theorem XN{α:Type}(xs:List α)(lo hi:Option Int):(cut xs lo hi).length≤xs.length:=by unfold cut;rw[qV,List.length_drop];omega
inductive Wk (E:Int→Tie→Prop) (L:Int→Prop):Int→Int→Int→Prop
 |nil {x:Int}:L x→Wk E L x x 0
 |cons {x y d:Int}{e:Tie}:E x e→Wk E L e.2.1 y d→Wk E L x y (e.2.2+d)
noncomputable def stp (m:Int) (D:Int→Int→Option Int) (x y:Int):Option Int:=match D x m,D m y with
 |some a,some b=>some (if(D x y).getD (a+b)<a+b then(D x y).getD (a+b)else a+b)
 |_,_=>D x y
structure Gd (E:Int→Tie→Prop) (L:Int→Prop) (M:List Int) (D:Int→Int→Option Int):Prop where
 dom:∀ {x y d},D x y=some d→L x∧L y
 wk:∀ {x y d},D x y=some d→Wk E L x y d
 dia:∀ {x},L x→D x x=some 0
 edg:∀ {x e},L x→E x e→∃ d,D x e.2.1=some d∧d≤e.2.2
 tri:∀ {m x y a b},m∈M→D x m=some a→D m y=some b→∃ c,D x y=some c∧c≤a+b
section
variable {E:Int→Tie→Prop}{L:Int→Prop}{M:List Int}{D:Int→Int→Option Int}
theorem Wk.app{x y z d c:Int}(a:Wk E L x y d)(b:Wk E L y z c):Wk E L x z (d+c):=by
 induction a with
 |nil _=>rw[Int.zero_add];exact b
 |cons he _ ih=>rw[Int.add_assoc];exact .cons he (ih b)
theorem Wk.pos(hc:∀ b e,E b e→1≤e.2.2){x y d:Int}(a:Wk E L x y d):0≤d∧(x≠y→1≤d):=by
 induction a with
 |nil _=>exact⟨by omega,fun h=>absurd rfl h⟩
 |cons he _ ih =>have:=hc _ _ he;exact⟨by omega,fun _=>by omega⟩
theorem Mo{m x y c:Int}(h:D x y=some c):∃ c',stp m D x y=some c'∧c'≤c:=by
 unfold stp;split
 ·rw[h];refine⟨_,rfl,?_⟩;show(if c<_ then c else _)≤c;split<;>omega
 ·exact⟨c,h,Int.le_refl _⟩
theorem Xi{m x y a b:Int}(h1:D x m=some a)(h2:D m y=some b):∃ c',stp m D x y=some c'∧c'≤a+b:=by unfold stp;rw[h1,h2];refine⟨_,rfl,?_⟩;split<;>omega
theorem Xg{m x y c:Int}(h:stp m D x y=some c):D x y=some c∨∃ a b,D x m=some a∧D m y=some b∧c=a+b:=by
 unfold stp at h;split at h
 ·rename_i a b h1 h2;cases q:D x y with
  |none =>rw[q]at h;refine .inr ⟨a,b,h1,h2,?_⟩;simpa using h.symm
  |some v =>
   rw[q]at h;change some (if v<a+b then v else a+b)=some c at h;by_cases hv:v<a+b
   ·rw[if_pos hv]at h;exact .inl h
   ·rw[if_neg hv]at h;cases h;exact .inr ⟨a,b,h1,h2,rfl⟩
 ·exact .inl h
theorem Gd.col(g:Gd E L M D)(m x:Int):stp m D x m=D x m:=by
 unfold stp;split
 ·rename_i a b h1 h2;rw[g.dia (g.dom h1).2]at h2;cases h2;rw[h1];show some (if a<a+0 then a else a+0)=_;rw[Int.add_zero,if_neg (by omega)]
 ·rfl
theorem Gd.rw(g:Gd E L M D)(m y:Int):stp m D m y=D m y:=by
 unfold stp;split
 ·rename_i a b h1 h2;rw[g.dia (g.dom h1).2]at h1;cases h1;rw[h2];show some (if b<0+b then b else 0+b)=_;rw[Int.zero_add,if_neg (by omega)]
 ·rfl
theorem Gd.nxt(hc:∀ b e,E b e→1≤e.2.2)(g:Gd E L M D)(m:Int):Gd E L (M++[m]) (stp m D):=by
 have p0:∀ {x y d},D x y=some d→0≤d:=fun h=>((g.wk h).pos hc).1;refine⟨fun h=>?_,fun h=>?_,fun {x} hx=>?_,fun hx he=>?_,fun {m' x y a b} hm h1 h2=>?_⟩
 ·rcases Xg h with h|⟨a,b,h1,h2,_⟩
  ·exact g.dom h
  ·exact⟨(g.dom h1).1,(g.dom h2).2⟩
 ·rcases Xg h with h|⟨a,b,h1,h2,rfl⟩
  ·exact g.wk h
  ·exact(g.wk h1).app (g.wk h2)
 ·obtain⟨c,h1,h2⟩:=Mo (m:=m) (g.dia hx);have:0≤c:=by
   rcases Xg h1 with h|⟨a,b,q1,q2,rfl⟩
   ·exact p0 h
   ·have:=p0 q1;have:=p0 q2;omega
  rw[h1,show c=0 by omega]
 ·obtain⟨d,h1,h2⟩:=g.edg hx he;obtain⟨c,h3,h4⟩:=Mo (m:=m) h1;exact⟨c,h3,by omega⟩
 ·rcases q9.mp hm with hm|hm
  ·rcases Xg h1 with h1|⟨a1,a2,q1,q2,rfl⟩<;>rcases Xg h2 with h2|⟨b1,b2,z1,z2,rfl⟩
   ·obtain⟨c,h3,h4⟩:=g.tri hm h1 h2;obtain⟨c',h5,h6⟩:=Mo (m:=m) h3;exact⟨c',h5,by omega⟩
   ·obtain⟨c,h3,h4⟩:=g.tri hm h1 z1;obtain⟨c',h5,h6⟩:=Xi h3 z2;exact⟨c',h5,by omega⟩
   ·obtain⟨c,h3,h4⟩:=g.tri hm q2 h2;obtain⟨c',h5,h6⟩:=Xi q1 h3;exact⟨c',h5,by omega⟩
   ·obtain⟨c',h5,h6⟩:=Xi q1 z2;have:=p0 q2;have:=p0 z1;exact⟨c',h5,by omega⟩
  ·rw[zL.mp hm]at h1 h2;rw[g.col]at h1;rw[g.rw]at h2;exact Xi h1 h2
structure Fn2 (E:Int→Tie→Prop) (L:Int→Prop) (D:Int→Int→Option Int):Prop where
 dom:∀ {x y d},D x y=some d→L x∧L y
 dia:∀ {x},L x→D x x=some 0
 pos:∀ {x y d},D x y=some d→x≠y→1≤d
 edg:∀ {x e y c},L x→E x e→D e.2.1 y=some c→∃ d,D x y=some d∧d≤e.2.2+c
 sam:∀ {x e y c},L x→E x e→D x y=some c→∃ d,D e.2.1 y=some d
 way:∀ {x y d},D x y=some d→x≠y→∃ e c,E x e∧D e.2.1 y=some c∧d=e.2.2+c
theorem Gd.fin(g:Gd E L M D)(hc:∀ b e,E b e→1≤e.2.2)(hE:∀ b e,L b→E b e→L e.2.1∧∃ e',E e.2.1 e'∧e'.2.1=b)(hL:∀ b,L b→b∈M):Fn2 E L D:=by
 have edg:∀ {x e y c},L x→E x e→D e.2.1 y=some c→∃ d,D x y=some d∧d≤e.2.2+c:=fun {x e y c} hx he h=>by obtain⟨d,h1,h2⟩:=g.edg hx he;obtain⟨d',h3,h4⟩:=g.tri (hL _ (hE x e hx he).1) h1 h;exact⟨d',h3,by omega⟩
 have wl:∀ {x y d},L x→Wk E L x y d→∃ c,D x y=some c∧c≤d:=fun {x y d} hx w=>by
  induction w with
  |nil hx=>exact⟨0,g.dia hx,Int.le_refl _⟩
  |cons he _ ih =>obtain⟨c,h1,h2⟩:=ih (hE _ _ hx he).1;obtain⟨d',h3,h4⟩:=edg hx he h1;exact⟨d',h3,by omega⟩
 refine⟨g.dom,g.dia,fun h=>((g.wk h).pos hc).2,edg,fun {x e y c} hx he h=>?_,fun {x y d} h hn=>?_⟩
 ·obtain⟨q1,e',q2,q3⟩:=hE x e hx he;obtain⟨d,h1,_⟩:=edg q1 q2 (q3.symm▸h);exact⟨d,h1⟩
 ·have hx:=(g.dom h).1;cases g.wk h with
  |nil _=>exact absurd rfl hn
  |cons he w =>obtain⟨c,h1,h2⟩:=wl (hE _ _ hx he).1 w;obtain⟨d',h3,h4⟩:=edg hx he h1;rw[h]at h3;cases h3;exact⟨_,c,he,h1,by omega⟩
theorem Fn2.tr{f:Int→Rw}(g:Fn2 E L D)(hc:∀ b e,E b e→1≤e.2.2)(hE:∀ b e,L b→E b e→L e.2.1∧∃ e',E e.2.1 e'∧e'.2.1=b)
  (hf:∀ b,L b→(f b).1=b∧D b (f b).2.1=some (f b).2.2.1∧(∀ y d,D b y=some d→(f b).2.1≤y)∧(¬ (f b).2.1<b→(f b).2.2.2=none)∧((f b).2.1<b→∃ e v,E b e∧(f b).2.2.2=some e.1∧D e.2.1 (f b).2.1=some v∧∀ e' v',E b e'→D e'.2.1 (f b).2.1=some v'→lexI [v'+e'.2.2,e'.2.1,e'.1] [v+e.2.2,e.2.1,e.1]=false)):TR E L f:=by
 have rt:∀ b e,L b→E b e→(f e.2.1).2.1=(f b).2.1:=fun b e hb he=>by have hl:=(hE b e hb he).1;obtain⟨_,h1,h2,_⟩:=hf b hb;obtain⟨_,q1,q2,_⟩:=hf e.2.1 hl;obtain⟨d,h3⟩:=g.sam hb he h1;obtain⟨d',h4,_⟩:=g.edg hb he q1;exact zK (q2 _ _ h3) (h2 _ _ h4)
 refine⟨fun b hb e he=>⟨(hE b e hb he).1,hc b e he,rt b e hb he⟩,fun b hb=>(hf b hb).1,fun b hb=>?_⟩;obtain⟨_,h1,h2,h3,h4⟩:=hf b hb;have hle:=h2 b 0 (g.dia hb);by_cases hlt:(f b).2.1<b
 ·obtain⟨e,v,q1,q2,q3,q4⟩:=h4 hlt;have hv:(f e.2.1).2.2.1=v:=by
   have:=(hf e.2.1 (hE b e hb q1).1).2.1;rw[rt b e hb q1,q3]at this;cases this;rfl
  obtain⟨d,z1,z2⟩:=g.edg hb q1 q3;rw[h1]at z1;cases z1;obtain⟨e0,c0,z3,z4,z5⟩:=g.way h1 (by omega);have z6:=Wb (q4 e0 c0 z3 z4);have hco:(f b).2.2.1=(f e.2.1).2.2.1+e.2.2:=by omega
  refine .inr ⟨hlt,g.pos h1 (by omega),e,q1,q2,hco,fun e' he'=>?_⟩;obtain⟨v',w1⟩:=g.sam hb he' h1;have:=q4 e' v' he' w1;have hv':(f e'.2.1).2.2.1=v':=by have:=(hf e'.2.1 (hE b e' hb he').1).2.1;rw[rt b e' hb he',w1]at this;cases this;rfl
  rw[hv',hco,hv];exact this
 ·have hb':(f b).2.1=b:=by omega
  refine .inl ⟨hb'.symm,?_,h3 hlt⟩;rw[hb',g.dia hb]at h1;exact(Option.some.inj h1).symm
end
theorem AL{kvs:List (Val×Val)}{k v k':Val}:lookK (putK kvs k v) k'=if k=k' then some v else lookK kvs k':=by
 unfold putK;split
 ·rename_i hk;unfold hasK at hk;unfold lookK;induction kvs with
  |nil=>cases hk
  |cons p r ih =>
   rw[qG,List.find?_cons,List.find?_cons];by_cases e:p.1=k
   ·rw[if_pos (by simpa using e)];by_cases e2:k=k'
    ·rw[show((k,v).1==k')=true by simpa using e2,if_pos e2];rfl
    ·rw[show((k,v).1==k')=false by simpa using e2,if_neg e2,show(p.1==k')=false by rw[e];simpa using e2];dsimp only;congr 1;clear ih hk;induction r with
     |nil=>rfl
     |cons q r ih =>
      rw[qG,List.find?_cons,List.find?_cons,ih];by_cases e3:q.1=k
      ·rw[if_pos (by simpa using e3),show((k,v).1==k')=false by simpa using e2,show(q.1==k')=false by rw[e3];simpa using e2]
      ·rw[if_neg (by simpa using e3)]
   ·rw[if_neg (by simpa using e)];rw[List.any_cons,show(p.1==k)=false by simpa using e,Bool.false_or]at hk;by_cases e2:p.1=k'
    ·rw[show(p.1==k')=true by simpa using e2,if_neg fun z=>e (e2.trans z.symm)]
    ·rw[show(p.1==k')=false by simpa using e2];exact ih hk
 ·rename_i hk;unfold hasK at hk;unfold lookK;rw[List.find?_append];by_cases e:k=k'
  ·rw[if_pos e];cases q:kvs.find? fun p=>p.1==k' with
   |none=>simp[e]
   |some p =>refine absurd (List.any_eq_true.mpr ⟨p,List.mem_of_find?_eq_some q,?_⟩) hk;have:=List.find?_some q;rw[e];exact this
  ·rw[if_neg e];cases q:kvs.find? fun p=>p.1==k' with
   |none=>simp[e]
   |some p=>rfl
theorem Uu{kvs:List (Val×Val)}{k:Val}:hasK kvs k=(lookK kvs k).isSome:=by
 unfold hasK lookK;induction kvs with
 |nil=>rfl
 |cons p r ih =>
  rw[List.any_cons,List.find?_cons];cases p.1==k with
  |true=>rfl
  |false=>exact ih
theorem C5{kvs:List (Val×Val)}{k v:Val}:(putK kvs k v).length≤kvs.length+1:=by
 unfold putK;split
 ·rw[qA];omega
 ·rw[qU];exact zJ _
def Pm (h:Hs) (p:Ad) (D:Int→Int→Option Int) (c:Nat):Prop:=∃ kvs,h p=some (.dtp kvs)∧(∀ x y,lookK kvs (.key x y)=(D x y).map .int)∧kvs.length≤c
noncomputable def pD (D:Int→Int→Option Int) (i j v:Int) (x y:Int):Option Int:=if i=x∧j=y then some v else D x y
section
variable {h g:Hs}{p:Ad}{D:Int→Int→Option Int}{c:Nat}{i j:Int}
theorem Pm.congr{D':Int→Int→Option Int}(a:Pm h p D c)(e:∀ x y,D' x y=D x y):Pm h p D' c:=by obtain⟨kvs,h1,h2,h3⟩:=a;exact⟨kvs,h1,fun x y=>by rw[e];exact h2 x y,h3⟩
theorem Pm.ext(a:Pm h p D c)(x:Ext h g):Pm g p D c:=by obtain⟨kvs,h1,h2,h3⟩:=a;exact⟨kvs,x.get h1,h2,h3⟩
theorem Pm.le{c':Nat}(a:Pm h p D c)(x:c≤c'):Pm h p D c':=by obtain⟨kvs,h1,h2,h3⟩:=a;exact⟨kvs,h1,h2,by omega⟩
theorem NJ{KB:Bool→Prop}(a:Pm h p D c)(q:KB (D i j).isSome):go (cmpV h .isin (.key i j) (.ref p)) KB:=by obtain⟨kvs,h1,h2,_⟩:=a;refine GD h1 ?_;rw[Uu,h2,Option.isSome_map];exact q
theorem XB{K:Val→Prop}{v:Int}(a:Pm h p D c)(e:D i j=some v)(q:K (.int v)):go (idxV h (.ref p) (.key i j)) K:=by obtain⟨kvs,h1,h2,_⟩:=a;exact FA h1 (by rw[h2,e];rfl) q
theorem U5{K:Val×Hs→Prop}{u:Int}(a:Pm h p D c)(q:K (.int ((D i j).getD u),h)):go (bmV h .dgetD (.ref p) [.key i j,.int u]) K:=by
 obtain⟨kvs,h1,h2,_⟩:=a;refine Gn h1 ?_;rw[h2];cases e:D i j with
 |none=>rw[e]at q;exact q
 |some v=>rw[e]at q;exact q
theorem Jo{K:Hs→Prop}{v:Int}(a:Pm h p D c)(hc:c<lim)(q:∀ o,Pm (upd h p o) p (pD D i j v) (c+1)→K (upd h p o)):go (putV h (.ref p) (.key i j) (.int v)) K:=by
 obtain⟨kvs,h1,h2,h3⟩:=a;refine Ea h1 (by omega) (q _ ⟨_,upd_same,fun x y=>?_,?_⟩)
 ·rw[AL];unfold pD;by_cases e:i=x∧j=y
  ·rw[if_pos e,e.1,e.2,if_pos rfl];rfl
  ·rw[if_neg e,if_neg (fun z=>e (by injection z with z1 z2;exact⟨z1,z2⟩))];exact h2 x y
 ·have:=C5 (kvs:=kvs) (k:=.key i j) (v:=.int v);omega
theorem DI{P:Prop}(a:Pm h p D c)(q:P):bmTy h .dgetD (.ref p)=true∧P:=by obtain⟨kvs,h1,_⟩:=a;refine⟨?_,q⟩;show YU isDct h (.ref p)=true;unfold YU;simp only[h1];rfl
theorem ZY{K:Int×Int→Prop}(q:K (i,j)):go (pairI (.tup [.int i,.int j])) K:=go_of rfl q
end
structure I2 (L:Int→Prop) (U:List (Int×Tie)) (D:Int→Int→Option Int):Prop where
 sym:∀ x y,D x y=D y x
 dia:∀ x,L x→D x x=some 0
 src:∀ x y d,D x y=some d→(x=y∧d=0∧L x)∨∃ e∈U,((e.2.1=x∧e.2.2.1=y)∨(e.2.1=y∧e.2.2.1=x))∧e.2.2.2=d
 low:∀ e∈U,∃ d,D e.2.1 e.2.2.1=some d∧d≤e.2.2.2
section
variable {L:Int→Prop}{U:List (Int×Tie)}{D:Int→Int→Option Int}
theorem I2.nxt(a:I2 L U D){i o t c:Int}(hn:o≠t)(hc:c≤1000):I2 L (U++[(i,o,t,c)]) (pD (pD D o t (if(D o t).getD 1000<c then(D o t).getD 1000 else c)) t o (if(D o t).getD 1000<c then(D o t).getD 1000 else c)):=by
 have hm:∃ m,m=(if(D o t).getD 1000<c then(D o t).getD 1000 else c)∧m≤c∧(∀ d,D o t=some d→m≤d)∧(m=c∨D o t=some m):=by
  refine⟨_,rfl,by split<;>omega,fun d hd=>?_,?_⟩
  ·rw[hd];show(if d<c then d else c)≤d;split<;>omega
  ·split
   ·rename_i hl;cases q:D o t with
    |none=>rw[q]at hl;change 1000<c at hl;omega
    |some d=>exact .inr rfl
   ·exact .inl rfl
 obtain⟨m,e,h1,h2,h3⟩:=hm;rw[←e];have pv:∀ x y,pD (pD D o t m) t o m x y=if(o=x∧t=y)∨(t=x∧o=y)then some m else D x y:=fun x y=>by
  unfold pD;by_cases e1:t=x∧o=y
  ·rw[if_pos e1,if_pos (.inr e1)]
  ·rw[if_neg e1];by_cases e2:o=x∧t=y
   ·rw[if_pos e2,if_pos (.inl e2)]
   ·rw[if_neg e2,if_neg (fun z=>z.elim e2 e1)]
 refine⟨fun x y=>?_,fun x hx=>?_,fun x y d hd=>?_,fun z hz=>?_⟩
 ·rw[pv,pv,a.sym x y];by_cases e:(o=x∧t=y)∨(t=x∧o=y)
  ·rw[if_pos e,if_pos (by omega)]
  ·rw[if_neg e,if_neg (by omega)]
 ·rw[pv,if_neg (by omega)];exact a.dia x hx
 ·rw[pv]at hd;by_cases e:(o=x∧t=y)∨(t=x∧o=y)
  ·rw[if_pos e]at hd;cases hd;rcases h3 with h3|h3
   ·refine .inr ⟨_,qL _ (zL.mpr rfl),?_,h3.symm⟩;dsimp only;omega
   ·rcases a.src o t m h3 with⟨q,_⟩|⟨z,q1,q2,q3⟩
    ·exact absurd q hn
    ·refine .inr ⟨z,qM _ q1,?_,q3⟩;omega
  ·rw[if_neg e]at hd;rcases a.src x y d hd with q|⟨z,q1,q2,q3⟩
   ·exact .inl q
   ·exact .inr ⟨z,qM _ q1,q2,q3⟩
 ·rcases q9.mp hz with hz|hz
  ·obtain⟨d,q1,q2⟩:=a.low z hz;rw[pv];by_cases e:(o=z.2.1∧t=z.2.2.1)∨(t=z.2.1∧o=z.2.2.1)
   ·rw[if_pos e];refine⟨m,rfl,?_⟩;have:D o t=some d:=by
     rcases e with⟨e1,e2⟩|⟨e1,e2⟩
     ·rw[e1,e2];exact q1
     ·rw[a.sym,e1,e2];exact q1
    have:=h2 d this;omega
   ·rw[if_neg e];exact⟨d,q1,q2⟩
  ·rw[zL.mp hz];dsimp only;rw[pv,if_pos (.inl ⟨rfl,rfl⟩)];exact⟨m,rfl,h1⟩
end
section
variable {bs ds ps:List Int}{ts:List Tie}{D:Int→Int→Option Int}
theorem I2.gd(no:NetOk bs ts)(a:I2 (·∈bup bs ds) (upl ds ps 0 ts) D):Gd (fun b e=>e∈ups ts ds ps b) (·∈bup bs ds) [] D:=by
 have hu:∀ e∈upl ds ps 0 ts,e.2.1≠e.2.2.1∧e.2.1∈bup bs ds∧e.2.2.1∈bup bs ds∧(e.1,e.2.2.1,e.2.2.2)∈ups ts ds ps e.2.1∧(e.1,e.2.1,e.2.2.2)∈ups ts ds ps e.2.2.1:=fun e he=>by
  obtain⟨i,t,h1,h2,h3,h4,rfl⟩:=mem_upl.mp he;obtain⟨q1,q2,q3,_⟩:=no.tie t (qY h1);rw[Nat.zero_add]at h2 ⊢;have hn:t.1≠t.2.1:=by omega
  have f1:far t t.1=t.2.1:=by unfold far;rw[if_pos rfl]
  have f2:far t t.2.1=t.1:=by unfold far;rw[if_neg hn]
  exact⟨hn,mem_bup.mpr ⟨q1,h3⟩,mem_bup.mpr ⟨q2,h4⟩,mem_ups.mpr ⟨i,t,h1,.inl rfl,by rw[f1],h2,by rw[f1];exact h4⟩,mem_ups.mpr ⟨i,t,h1,.inr rfl,by rw[f2],h2,by rw[f2];exact h3⟩⟩
 refine⟨fun {x y d} h=>?_,fun {x y d} h=>?_,fun h=>a.dia _ h,fun {x e} hx he=>?_,fun h=>nomatch h⟩
 ·rcases a.src x y d h with⟨rfl,_,q⟩|⟨e,he,q,_⟩
  ·exact⟨q,q⟩
  ·obtain⟨_,q1,q2,_⟩:=hu e he;rcases q with⟨rfl,rfl⟩|⟨rfl,rfl⟩
   ·exact⟨q1,q2⟩
   ·exact⟨q2,q1⟩
 ·rcases a.src x y d h with⟨rfl,rfl,q⟩|⟨e,he,q,rfl⟩
  ·exact .nil q
  ·obtain⟨_,q1,q2,q3,q4⟩:=hu e he;rw[show e.2.2.2=e.2.2.2+0 by omega];rcases q with⟨rfl,rfl⟩|⟨rfl,rfl⟩
   ·exact .cons (e:=(e.1,e.2.2.1,e.2.2.2)) q3 (.nil q2)
   ·exact .cons (e:=(e.1,e.2.1,e.2.2.2)) q4 (.nil q1)
 ·obtain⟨i,t,h1,h2,rfl,h3,h4⟩:=mem_ups.mp he;have hx2:=(mem_bup.mp hx).2;obtain⟨_,_,q3,_⟩:=no.tie t (qY h1);have hn:t.1≠t.2.1:=by omega
  rcases h2 with rfl|rfl
  ·have f1:far t t.1=t.2.1:=by unfold far;rw[if_pos rfl]
   rw[f1]at h4 ⊢;exact a.low _ (mem_upl.mpr ⟨i,t,h1,by rw[Nat.zero_add];exact h3,hx2,h4,rfl⟩)
  ·have f2:far t t.2.1=t.1:=by unfold far;rw[if_neg hn]
   rw[f2]at h4 ⊢;obtain⟨d,z1,z2⟩:=a.low _ (mem_upl.mpr ⟨i,t,h1,by rw[Nat.zero_add];exact h3,h4,hx2,rfl⟩);exact⟨d,by rw[a.sym];exact z1,z2⟩
theorem J5(no:NetOk bs ts):∀ b e,b∈bup bs ds→e∈ups ts ds ps b→e.2.1∈bup bs ds∧∃ e',e'∈ups ts ds ps e.2.1∧e'.2.1=b:=fun b e hb he=>by obtain⟨q1,q2,_⟩:=Y9 no.tie he;exact⟨mem_bup.mpr ⟨q1,q2⟩,_,Jh no.tie (mem_bup.mp hb).2 he,rfl⟩
theorem Jt(no:NetOk bs ts):∀ b e,e∈ups ts ds ps b→1≤e.2.2:=fun b e he=>(Y9 no.tie he).2.2.2.1
end
theorem Ee{D:Int→Int→Option Int}{m x y a b:Int}{v:Option Int}(h1:D x m=some a)(h2:D m y=some b)(hv:v=D x y∨v=stp m D x y):stp m D x y=some (if v.getD (a+b)<a+b then v.getD (a+b)else a+b):=by
 rcases hv with rfl|rfl
 ·unfold stp;rw[h1,h2]
 ·obtain⟨c,h3,h4⟩:=Xi (y:=y) h1 h2;rw[h3];show some c=some (if c<a+b then c else a+b);split
  ·rfl
  ·rw[show c=a+b by omega]
theorem MB{D:Int→Int→Option Int}{m x y:Int}(h:¬ ((D x m).isSome=true∧(D m y).isSome=true)):stp m D x y=D x y:=by
 unfold stp;split
 ·rename_i h1 h2;exact absurd ⟨by rw[h1];rfl,by rw[h2];rfl⟩ h
 ·rfl
noncomputable def Yq (m:Int) (D:Int→Int→Option Int) (A:List Int) (o:Int) (B:List Int) (x y:Int):Option Int:=if x∈A∨(x=o∧y∈B)then stp m D x y else D x y
theorem JN(m:Int)(D:Int→Int→Option Int)(A:List Int)(o:Int)(B:List Int)(x y:Int):Yq m D A o B x y=D x y∨Yq m D A o B x y=stp m D x y:=by
 unfold Yq;split
 ·exact .inr rfl
 ·exact .inl rfl
theorem UO{D:Int→Int→Option Int}{m o t:Int}{A B:List Int}{v:Int}(hv:stp m D o t=some v)(x y:Int):Yq m D A o (B++[t]) x y=pD (Yq m D A o B) o t v x y:=by
 unfold pD;by_cases e:o=x∧t=y
 ·rw[if_pos e,←e.1,←e.2];unfold Yq;rw[if_pos (.inr ⟨rfl,by simp⟩)];exact hv
 ·rw[if_neg e];unfold Yq;by_cases h1:x∈A∨(x=o∧y∈B)
  ·rw[if_pos h1,if_pos (h1.imp id fun z=>⟨z.1,by simp[z.2]⟩)]
  ·rw[if_neg h1,if_neg];rintro(z|⟨z1,z2⟩)
   ·exact h1 (.inl z)
   ·rcases q9.mp z2 with z2|z2
    ·exact h1 (.inr ⟨z1,z2⟩)
    ·exact e ⟨z1.symm,(zL.mp z2).symm⟩
theorem Bw{D:Int→Int→Option Int}{m o t:Int}{A B:List Int}(hv:stp m D o t=D o t)(x y:Int):Yq m D A o (B++[t]) x y=Yq m D A o B x y:=by
 unfold Yq;by_cases h1:x∈A∨(x=o∧y∈B)
 ·rw[if_pos h1,if_pos (h1.imp id fun z=>⟨z.1,by simp[z.2]⟩)]
 ·rw[if_neg h1];split
  ·rename_i h2;rcases h2 with z|⟨z1,z2⟩
   ·exact absurd (.inl z) h1
   ·rcases q9.mp z2 with z2|z2
    ·exact absurd (.inr ⟨z1,z2⟩) h1
    ·rw[z1,zL.mp z2];exact hv
  ·rfl
section
variable {bs ds ps:List Int}{ts:List Tie}
theorem W8 (no:NetOk bs ts) (k:∀ p D c g,h p=none→Ext h g→Pm g p D c→Fn2 (fun b e=>e∈ups ts ds ps b) (·∈bup bs ds) D→Q (.ref p) g):wF P (n+2) "_law_costs" [ZD bs ts,Zp ds ps] h Q X:=by
 have hlim:lim=1000000:=rfl;have h10:=no.ten;have h16:=no.sixteen;have hul:=YC (ds:=ds) (ps:=ps) ts 0;unfold ZD Zp;refine Kk ?_;walk_at "py";refine Za fun p g0 hp x0 e0=>?_;walk_at "py";refine Zq (fun i en g=>∃ v3,en=[some (.tup [.tup (bs.map .int),.tup (ts.map Zs)]),some (.tup [.tup (ds.map .int),.tup (ps.map .int)]),some (.ref p),v3,none,none,none,none,none,none]∧Ext h g∧Pm g p (fun x y=>if x=y∧x∈bup (bs.take i) ds then some 0 else none) i) ⟨_,rfl,x0,[],e0,fun x y=>by simp[bup,lookK],zJ _⟩ (fun _ _ _ _ _=>trivial) ?_ ?_
 ·rintro i v en g hv ⟨v3,rfl,x,pm⟩ K hK;rw[qF]at hv;obtain⟨b,hs,rfl⟩:=qD.mp hv;have hi:=(qK.mp hs).1;have tk:bup (bs.take (i+1)) ds=bup (bs.take i) ds++(if b∈ds then []else [b]):=by
   rw[qW,hs];unfold bup;rw[List.filter_append];congr 1;by_cases hb:b∈ds<;>simp[hb]
  walk_at "py";refine YB ?_;walk_at "py";by_cases hb:b∈ds
  ·refine ifF (by simpa using hb) ?_;walk_at "py";exact hK _ _ ⟨_,rfl,x,(pm.congr fun x y=>by rw[tk,if_pos hb,zF]).le (by omega)⟩
  ·refine ifT (by simpa using hb) ?_;walk_at "py";refine ZY ?_;refine Jo pm (by omega) fun o pm2=>?_;walk_at "py";refine hK _ _ ⟨_,rfl,ZC x hp,pm2.congr fun x y=>?_⟩;rw[tk,if_neg hb];unfold pD;by_cases e:b=x∧b=y
   ·rw[if_pos e,if_pos ⟨by omega,qL _ (by rw[e.1];exact zL.mpr rfl)⟩]
   ·rw[if_neg e];by_cases e2:x=y∧x∈bup (bs.take i) ds
    ·exact(if_pos ⟨e2.1,qM _ e2.2⟩).trans (if_pos e2).symm
    ·refine Eq.trans (if_neg ?_) (if_neg e2).symm;rintro⟨z1,z2⟩;rcases q9.mp z2 with z2|z2
     ·exact e2 ⟨z1,z2⟩
     ·have:=zL.mp z2;exact e (by omega)
 rintro en g ⟨v3,rfl,x,pm⟩;rw[qA,zC]at pm;walk_at "py";refine Jv no.sixteen fun pu g1 hpu x1 eu=>?_;have hpp:pu≠p:=by rintro rfl;obtain⟨kvs,q,_⟩:=pm;rw[q]at hpu;cases hpu
 have hmul:∀ e∈upl ds ps 0 ts,e.2.1≠e.2.2.1∧e.2.2.2≤1000:=fun e he=>by obtain⟨i,t,h1,_,_,_,rfl⟩:=mem_upl.mp he;obtain⟨_,_,q3,q4⟩:=no.tie t (qY h1);exact⟨by dsimp only;omega,q4.2⟩
 have x01:=x.trans x1;have pm:=pm.ext x1;walk_at "py";refine Zq (fun i en g=>∃ v4 v5 v6 v7 v8 D,en=[some (.tup [.tup (bs.map .int),.tup (ts.map Zs)]),some (.tup [.tup (ds.map .int),.tup (ps.map .int)]),some (.ref p),v3,v4,v5,v6,v7,v8,none]∧Ext h g∧g pu=some (.lst ((upl ds ps 0 ts).map q4V))∧Pm g p D (bs.length+2*i)∧I2 (·∈bup bs ds) ((upl ds ps 0 ts).take i) D) ⟨_,_,_,_,_,_,rfl,x01,eu,pm,?_⟩ (fun _ _ g _ ⟨_,_,_,_,_,_,_,_,e,_⟩=>lsE e) ?_ ?_
 ·refine⟨fun x y=>?_,fun x hx=>if_pos ⟨rfl,hx⟩,fun x y d hd=>?_,fun e he=>nomatch he⟩
  ·by_cases e:x=y
   ·rw[e]
   ·rw[if_neg (fun z=>e z.1),if_neg (fun z=>e z.1.symm)]
  ·by_cases e:x=y∧x∈bup bs ds
   ·rw[if_pos e]at hd;cases hd;exact .inl ⟨e.1,rfl,e.2⟩
   ·rw[if_neg e]at hd;cases hd
 ·rintro i v en g hv ⟨v4,v5,v6,v7,v8,D,rfl,x,eu,pm,i2⟩ K hK;rw[qF]at hv;obtain⟨⟨pl,o,t,c⟩,hs,rfl⟩:=qD.mp hv;have hi:=(qK.mp hs).1;obtain⟨hn,hc⟩:=hmul _ (qY hs);have i3:=i2.nxt (i:=pl) hn hc;unfold q4V;walk_at "py";refine DI pm ?_;walk_at "py";refine ZY ?_;walk_at "py";refine U5 pm ?_;walk_at "py";generalize (if(D o t).getD 1000<c then(D o t).getD 1000 else c)=m at i3 ⊢;refine ZY ?_;refine Jo pm (by omega) fun o1 pm1=>?_;walk_at "py";refine ZY ?_;refine Jo pm1 (by omega) fun o2 pm2=>?_;walk_at "py";refine hK _ _ ⟨_,_,_,_,_,_,rfl,ZC (ZC x hp) hp,?_,pm2.le (by omega),?_⟩
  ·rw[upd_ne hpp,upd_ne hpp];exact eu
  ·rw[qW,hs];exact i3
 rintro en g ⟨v4,v5,v6,v7,v8,D,rfl,x,eu,pm,i2⟩;rw[qA,zC]at i2;rw[qA]at pm;have gd:=i2.gd no;have pm:Pm g p D 50:=pm.le (by omega);clear i2 eu;walk_at "py";refine Zq (fun i en g=>∃ v5 v6 v7 v9 D,en=[some (.tup [.tup (bs.map .int),.tup (ts.map Zs)]),some (.tup [.tup (ds.map .int),.tup (ps.map .int)]),some (.ref p),v3,v4,v5,v6,v7,v8,v9]∧Ext h g∧Pm g p D (50+100*i)∧Gd (fun b e=>e∈ups ts ds ps b) (·∈bup bs ds) (bs.take i) D) ⟨_,_,_,_,_,rfl,x,pm,gd⟩ (fun _ _ _ _ _=>trivial) ?_ ?_
 ·rintro i v en g hv ⟨v5,v6,v7,v9,D,rfl,x,pm,gd⟩ K hK;rw[qF]at hv;obtain⟨m,hs,rfl⟩:=qD.mp hv;have hi:=(qK.mp hs).1;have tk:bs.take (i+1)=bs.take i++[m]:=by rw[qW,hs];rfl
  have gd2:=gd.nxt (Jt no) m;rw[←tk]at gd2;have hcol:∀ A o B y,Yq m D A o B y m=D y m:=fun A o B y=>by
   rcases JN m D A o B y m with q|q
   ·exact q
   ·rw[q];exact gd.col m y
  have hrow:∀ A o B y,Yq m D A o B m y=D m y:=fun A o B y=>by
   rcases JN m D A o B m y with q|q
   ·exact q
   ·rw[q];exact gd.rw m y
  walk_at "py";refine Zq (fun j en g=>∃ v5 v6 v7,en=[some (.tup [.tup (bs.map .int),.tup (ts.map Zs)]),some (.tup [.tup (ds.map .int),.tup (ps.map .int)]),some (.ref p),v3,v4,v5,v6,v7,v8,some (.int m)]∧Ext h g∧Pm g p (Yq m D (bs.take j) 0 []) (50+100*i+10*j)) ⟨_,_,_,rfl,x,pm.congr fun x y=>by simp[Yq]⟩ (fun _ _ _ _ _=>trivial) ?_ ?_
  ·rintro j v en g hv ⟨v5,v6,v7,rfl,x,pm⟩ K hK;rw[qF]at hv;obtain⟨o,hs,rfl⟩:=qD.mp hv;have hj:=(qK.mp hs).1;have tk2:bs.take (j+1)=bs.take j++[o]:=by rw[qW,hs];rfl
   walk_at "py";refine Zq (fun l en g=>∃ v6 v7,en=[some (.tup [.tup (bs.map .int),.tup (ts.map Zs)]),some (.tup [.tup (ds.map .int),.tup (ps.map .int)]),some (.ref p),v3,v4,some (.int o),v6,v7,v8,some (.int m)]∧Ext h g∧Pm g p (Yq m D (bs.take j) o (bs.take l)) (50+100*i+10*j+l)) ⟨_,_,rfl,x,pm.congr fun x y=>by simp[Yq]⟩ (fun _ _ _ _ _=>trivial) ?_ ?_
   ·rintro l v en g hv ⟨v6,v7,rfl,x,pm⟩ K hK;rw[qF]at hv;obtain⟨t,hs,rfl⟩:=qD.mp hv;have hl:=(qK.mp hs).1;have tk3:bs.take (l+1)=bs.take l++[t]:=by rw[qW,hs];rfl
    have stay:¬ ((D o m).isSome=true∧(D m t).isSome=true)→Pm g p (Yq m D (bs.take j) o (bs.take (l+1))) (50+100*i+10*j+(l+1)):=fun z=>(pm.congr fun x y=>by rw[tk3];exact Bw (MB z) x y).le (by omega);walk_at "py";refine ZY ?_;walk_at "py";refine NJ pm ?_;rw[hcol];walk_at "py";cases q1:D o m with
    |none =>refine ifF rfl (ifF rfl ?_);walk_at "py";exact hK _ _ ⟨_,_,rfl,x,stay fun z=>by rw[q1]at z;cases z.1⟩
    |some a =>
     refine ifT rfl ?_;walk_at "py";refine ZY ?_;walk_at "py";refine NJ pm ?_;rw[hrow];walk_at "py";cases q2:D m t with
     |none =>refine ifF rfl ?_;walk_at "py";exact hK _ _ ⟨_,_,rfl,x,stay fun z=>by rw[q2]at z;cases z.2⟩
     |some b =>refine ifT rfl ?_;walk_at "py";refine ZY ?_;refine XB pm ((hcol _ _ _ _).trans q1) ?_;walk_at "py";refine ZY ?_;refine XB pm ((hrow _ _ _ _).trans q2) ?_;walk_at "py";refine DI pm ?_;walk_at "py";refine ZY ?_;walk_at "py";refine U5 pm ?_;walk_at "py";refine ZY ?_;refine Jo pm (by omega) fun o1 pm1=>?_;walk_at "py";refine hK _ _ ⟨_,_,rfl,ZC x hp,(pm1.congr fun x y=>by rw[tk3];exact UO (Ee q1 q2 (JN m D _ _ _ _ _)) x y).le (by omega)⟩
   ·rintro en g ⟨v6,v7,rfl,x,pm⟩;rw[qA,zC]at pm;walk_at "py";refine hK _ _ ⟨_,_,_,rfl,x,(pm.congr fun x y=>?_).le (by omega)⟩;rw[tk2];unfold Yq;by_cases z:x∈bs.take j
    ·rw[if_pos (.inl (qM _ z)),if_pos (.inl z)]
    ·by_cases z2:x=o
     ·rw[if_pos (.inl (qL _ (zL.mpr z2)))];by_cases z3:y∈bs
      ·rw[if_pos (.inr ⟨z2,z3⟩)]
      ·rw[if_neg (by simp[z,z3])];refine MB fun w=>z3 ?_;obtain⟨d,hd⟩:=zB.mp w.2;exact(mem_bup.mp (gd.dom hd).2).1
     ·rw[if_neg (by simp[z,z2]),if_neg (by simp[z,z2])]
  ·rintro en g ⟨v5,v6,v7,rfl,x,pm⟩;rw[qA,zC]at pm;walk_at "py";refine hK _ _ ⟨_,_,_,_,stp m D,rfl,x,(pm.congr fun x y=>?_).le (by omega),gd2⟩;unfold Yq;by_cases z:x∈bs
   ·rw[if_pos (.inl z)]
   ·rw[if_neg (by simp[z])];refine MB fun w=>z ?_;obtain⟨d,hd⟩:=zB.mp w.1;exact(mem_bup.mp (gd.dom hd).1).1
 ·rintro en g ⟨v5,v6,v7,v9,D,rfl,x,pm,gd⟩;rw[qA,zC]at gd;walk_at "py";exact k p D _ g hp x pm (gd.fin (Jt no) (J5 no) fun b hb=>(mem_bup.mp hb).1)
end
noncomputable def cd (D:Int→Int→Option Int) (r b:Int) (e:Int×Tie):Option (List Int):=if b=e.2.1∨b=e.2.2.1 then some [(D (e.2.1+e.2.2.1 - b) r).getD 0+e.2.2.2,e.2.1+e.2.2.1 - b,e.1]else none
noncomputable def rtD (D:Int→Int→Option Int) (bs:List Int) (b:Int):Int:=minI (bs.filter fun y=>(D b y).isSome)
noncomputable def upD (l:List (List Int)):Option Int:=match l with
 |[]=>none
 |x::l=>some ((minR x l)[2]?.getD 0)
noncomputable def rwD (D:Int→Int→Option Int) (bs:List Int) (U:List (Int×Tie)) (b:Int):Rw:=(b,rtD D bs b,(D b (rtD D bs b)).getD 0,if rtD D bs b<b then upD (U.filterMap (cd D (rtD D bs b) b))else none)
theorem Kt:∀ (r:List Int) (x:Int),(r.foldl (fun a b=>if b<a then b else a) x=x∨r.foldl (fun a b=>if b<a then b else a) x∈r)∧r.foldl (fun a b=>if b<a then b else a) x≤x∧∀ y∈r,r.foldl (fun a b=>if b<a then b else a) x≤y
 |[],x=>⟨.inl rfl,Int.le_refl _,fun _ h=>nomatch h⟩
 |z::r,x=>by
  obtain⟨h1,h2,h3⟩:=Kt r (if z<x then z else x);rw[List.foldl_cons];have q1:(if z<x then z else x)≤x:=by split<;>omega
  have q2:(if z<x then z else x)≤z:=by split<;>omega
  refine⟨?_,by omega,fun y hy=>?_⟩
  ·rcases h1 with h1|h1
   ·rw[h1];split
    ·exact .inr (by simp)
    ·exact .inl rfl
   ·exact .inr (qI _ h1)
  ·rcases qE.mp hy with rfl|hy
   ·omega
   ·exact h3 y hy
theorem Mw{l:List Int}{z:Int}(hz:z∈l):minI l∈l∧∀ y∈l,minI l≤y:=by
 cases l with
 |nil=>cases hz
 |cons x r =>
  obtain⟨h1,h2,h3⟩:=Kt r x;change r.foldl (fun a b=>if b<a then b else a) x∈x::r∧∀ y∈x::r,r.foldl (fun a b=>if b<a then b else a) x≤y;refine⟨h1.elim (fun e=>by rw[e];exact qT) fun h=>qI _ h,fun y hy=>?_⟩;rcases qE.mp hy with rfl|hy
  ·exact h2
  ·exact h3 y hy
section
variable {bs ds ps:List Int}{ts:List Tie}{D:Int→Int→Option Int}{b r:Int}
theorem Ni{t:Tie}(h:b=t.1∨b=t.2.1):far t b=t.1+t.2.1 - b:=by
 unfold far;rcases h with rfl|rfl
 ·rw[if_pos rfl];omega
 ·split<;>omega
theorem YR(hb:b∈bup bs ds){x:List Int}:x∈(upl ds ps 0 ts).filterMap (cd D r b)↔∃ e∈ups ts ds ps b,x=[(D e.2.1 r).getD 0+e.2.2,e.2.1,e.1]:=by
 have hb2:=(mem_bup.mp hb).2;rw[zM];constructor
 ·rintro⟨e,he,hx⟩;obtain⟨i,t,h1,h2,h3,h4,rfl⟩:=mem_upl.mp he;unfold cd at hx;dsimp only at hx;by_cases hc:b=t.1∨b=t.2.1
  ·rw[if_pos hc]at hx;cases hx;rw[Nat.zero_add]at h2 ⊢;refine⟨_,mem_ups.mpr ⟨i,t,h1,hc,rfl,h2,?_⟩,by dsimp only;rw[Ni hc]⟩;unfold far;split
   ·exact h4
   ·exact h3
  ·rw[if_neg hc]at hx;cases hx
 ·rintro⟨e,he,rfl⟩;obtain⟨i,t,h1,h2,rfl,h3,h4⟩:=mem_ups.mp he;have hh:t.1∉ds∧t.2.1∉ds:=by
   unfold far at h4;rcases h2 with rfl|rfl
   ·rw[if_pos rfl]at h4;exact⟨hb2,h4⟩
   ·split at h4
    ·rename_i z;rw[z];exact⟨hb2,hb2⟩
    ·exact⟨h4,hb2⟩
  refine⟨_,mem_upl.mpr ⟨i,t,h1,by rw[Nat.zero_add];exact h3,hh.1,hh.2,rfl⟩,?_⟩;unfold cd;dsimp only;rw[if_pos h2,Ni h2,Nat.zero_add]
theorem Bn(no:NetOk bs ts)(f:Fn2 (fun b e=>e∈ups ts ds ps b) (·∈bup bs ds) D)(hb:b∈bup bs ds):(∃ v,D b (rtD D bs b)=some v)∧∀ y d,D b y=some d→rtD D bs b≤y:=by have hm:∀ y d,D b y=some d→y∈bs.filter fun y=>(D b y).isSome:=fun y d h=>List.mem_filter.mpr ⟨(mem_bup.mp (f.dom h).2).1,by rw[h];rfl⟩;obtain⟨h1,h2⟩:=Mw (hm b 0 (f.dia hb));exact⟨zB.mp (List.mem_filter.mp h1).2,fun y d h=>h2 y (hm y d h)⟩
theorem Dm(no:NetOk bs ts)(f:Fn2 (fun b e=>e∈ups ts ds ps b) (·∈bup bs ds) D)(hb:b∈bup bs ds)(hl:rtD D bs b<b):∃ x l e v,(upl ds ps 0 ts).filterMap (cd D (rtD D bs b) b)=x::l∧e∈ups ts ds ps b∧D e.2.1 (rtD D bs b)=some v∧minR x l=[v+e.2.2,e.2.1,e.1]∧∀ e' v',e'∈ups ts ds ps b→D e'.2.1 (rtD D bs b)=some v'→lexI [v'+e'.2.2,e'.2.1,e'.1] [v+e.2.2,e.2.1,e.1]=false:=by
 obtain⟨⟨v0,h0⟩,h1⟩:=Bn no f hb;obtain⟨e0,c0,h2,_,_⟩:=f.way h0 (by omega);have m0:=(YR (D:=D) (r:=rtD D bs b) hb).mpr ⟨e0,h2,rfl⟩;cases q:(upl ds ps 0 ts).filterMap (cd D (rtD D bs b) b)with
 |nil=>rw[q]at m0;cases m0
 |cons x l =>obtain⟨m1,m2⟩:=Yj l x;rw[←q]at m1 m2;obtain⟨e,he,hx⟩:=(YR hb).mp m1;obtain⟨v,hv⟩:=f.sam hb he h0;rw[hv]at hx;change minR x l=[v+e.2.2,e.2.1,e.1]at hx;refine⟨x,l,e,v,rfl,he,hv,hx,fun e' v' he' hv'=>?_⟩;rw[←hx];refine m2 _ ((YR hb).mpr ⟨e',he',?_⟩);rw[hv'];rfl
theorem EK(no:NetOk bs ts)(f:Fn2 (fun b e=>e∈ups ts ds ps b) (·∈bup bs ds) D):TR (fun b e=>e∈ups ts ds ps b) (·∈bup bs ds) (rwD D bs (upl ds ps 0 ts)):=by
 refine f.tr (Jt no) (J5 no) fun b hb=>?_;obtain⟨⟨v,h1⟩,h2⟩:=Bn no f hb;refine⟨rfl,?_,h2,fun hn=>if_neg hn,fun hl=>?_⟩
 ·show D b (rtD D bs b)=some ((D b (rtD D bs b)).getD 0);rw[h1];rfl
 ·obtain⟨x,l,e,v,q1,q2,q3,q4,q5⟩:=Dm no f hb hl;refine⟨e,v,q2,(if_pos hl).trans ?_,q3,q5⟩;rw[q1];unfold upD;dsimp only;rw[q4];rfl
end
noncomputable def rtF (D:Int→Int→Option Int) (b:Int):Val→Option Val
 |.int y=>if(D b y).isSome then some (.int y)else none
 |_=>none
theorem Dz{D:Int→Int→Option Int}{b:Int}:∀ l:List Int,(l.map Val.int).filterMap (rtF D b)=(l.filter fun y=>(D b y).isSome).map .int
 |[]=>rfl
 |y::l=>by rw[qG,zN,List.filter_cons,Dz l];rw[show rtF D b (.int y)=if(D b y).isSome then some (.int y)else none from rfl];cases (D b y).isSome<;>rfl
section
variable {bs ds ps:List Int}{ts:List Tie}
theorem KH (no:NetOk bs ts) (k:∀ p f g,h p=none→Ext h g→TR (fun b e=>e∈ups ts ds ps b) (·∈bup bs ds) f→g p=some (.lst (((bup bs ds).map f).map rV))→Q (.ref p) g):wF P (n+3) "_law_tree" [ZD bs ts,Zp ds ps] h Q X:=by
 have hlim:lim=1000000:=rfl;have h10:=no.ten;have h16:=no.sixteen;have hul:=YC (ds:=ds) (ps:=ps) ts 0;refine Mf ?_;walk_at "py";refine W8 no fun pc D c g1 hpc x1 pm fn=>?_;have tr:=EK no fn;unfold ZD Zp;walk_at "py";refine Za fun p g2 hp x2 e2=>?_;have pm2:=pm.ext x2;have x12:=x1.trans x2;have hp0:h p=none:=by
  cases q:h p with
  |none=>rfl
  |some o=>rw[x1.get q]at hp;cases hp
 have hpp:pc≠p:=by rintro rfl;obtain⟨kvs,q,_⟩:=pm;rw[q]at hp;cases hp
 walk_at "py";refine Zq (fun i en g=>∃ v4 v5 v6 v7 v8 v9 v10 v11 v12,en=[some (ZD bs ts),some (Zp ds ps),some (.ref pc),some (.ref p),v4,v5,v6,v7,v8,v9,v10,v11,v12]∧Ext h g∧Pm g pc D c∧g p=some (.lst (((bup (bs.take i) ds).map (rwD D bs (upl ds ps 0 ts))).map rV))) ⟨_,_,_,_,_,_,_,_,_,rfl,x12,pm2,e2⟩ (fun _ _ _ _ _=>trivial) ?_ ?_
 ·rintro i0 v en g hv ⟨v4,v5,v6,v7,v8,v9,v10,v11,v12,rfl,x,pm,ep⟩ K hK;rw[qF]at hv;obtain⟨b,hs,rfl⟩:=qD.mp hv;have hi:=(qK.mp hs).1;have tk:bup (bs.take (i0+1)) ds=bup (bs.take i0) ds++(if b∈ds then []else [b]):=by
   rw[qW,hs];unfold bup;rw[List.filter_append];congr 1;by_cases hb:b∈ds<;>simp[hb]
  have hbl:(bup (bs.take i0) ds).length≤10:=zH (List.length_filter_le _ _) (by rw[qV];omega);unfold Zp;walk_at "py";refine YB ?_;walk_at "py";by_cases hd:b∈ds
  ·refine ifF (by simpa using hd) ?_;walk_at "py";exact hK _ _ ⟨_,_,_,_,_,_,_,_,_,rfl,x,pm,by rw[tk,if_pos hd,zF];exact ep⟩
  refine ifT (by simpa using hd) ?_;have hb:b∈bup bs ds:=mem_bup.mpr ⟨qY hs,hd⟩;obtain⟨⟨v,hv1⟩,hv2⟩:=Bn no fn hb;unfold ZD;walk_at "py";refine⟨by show(List.map Val.int _).length<lim;rw[qA];omega,ZF (rtF D b) trivial (fun v hv K hK=>?_) ?_⟩
  ·obtain⟨y,_,rfl⟩:=q8.mp hv;unfold rtF at hK;walk_at "py";refine ZY ?_;walk_at "py";refine NJ pm ?_;walk_at "py";dsimp only at hK;cases q:(D b y).isSome with
   |true =>refine ifT rfl ?_;walk_at "py";simpa[q]using hK
   |false =>refine ifF rfl ?_;simpa[q]using hK
  rw[Dz];refine Za fun pl g3 hpl x3 e3=>?_;walk_at "py";have hm:b∈bs.filter fun y=>(D b y).isSome:=List.mem_filter.mpr ⟨(mem_bup.mp hb).1,by rw[fn.dia hb];rfl⟩;have hmin:(biV g3 .minL [.ref pl])=.val (.int (rtD D bs b)):=by
   unfold rtD;cases q:bs.filter fun y=>(D b y).isSome with
   |nil=>rw[q]at hm;cases hm
   |cons z l =>rw[q]at e3;show biMinL g3 (.ref pl)=_;unfold biMinL pairI intsAt;simp only[e3,lsOf,Option.bind_some];rw[Yb];rfl
  refine wp_val hmin ?_;have e13:=x3.get ep;have pm3:=pm.ext x3;have x03:=x.trans x3;have hw:rwD D bs (upl ds ps 0 ts) b=(b,rtD D bs b,(D b (rtD D bs b)).getD 0,if rtD D bs b<b then upD ((upl ds ps 0 ts).filterMap (cd D (rtD D bs b) b))else none):=rfl;have upo:=fun hl:rtD D bs b<b=>Dm no fn hb hl;generalize rtD D bs b=r at hv1 hv2 hw upo ⊢;walk_at "py";refine Za fun q g4 hq x4 e4=>?_;have hqp:q≠p:=by rintro rfl;rw[e13]at hq;cases hq
  have hqc:q≠pc:=by rintro rfl;obtain⟨kvs,z,_⟩:=pm3;rw[z]at hq;cases hq
  have hq0:h q=none:=by
   cases z:h q with
   |none=>rfl
   |some o=>rw[x03.get z]at hq;cases hq
  walk_at "py";refine Jv no.sixteen fun pu g5 hpu x5 eu=>?_;have e45:=x5.get e4;have hqu:pu≠q:=by rintro rfl;rw[e4]at hpu;cases hpu
  have e15:=x5.get (x4.get e13);have pm5:=(pm3.ext x4).ext x5;have x05:=(x03.trans x4).trans x5;walk_at "py";refine Zq (fun i en g=>∃ v5 v8 v9 v10 v11,en=[some (ZD bs ts),some (Zp ds ps),some (.ref pc),some (.ref p),some (.int b),v5,some (.int r),some (.ref q),v8,v9,v10,v11,v12]∧Ext h g∧Pm g pc D c∧g p=some (.lst (((bup (bs.take i0) ds).map (rwD D bs (upl ds ps 0 ts))).map rV))∧g pu=some (.lst ((upl ds ps 0 ts).map q4V))∧g q=some (.lst ((((upl ds ps 0 ts).take i).filterMap (cd D r b)).map YA))) ⟨_,_,_,_,_,rfl,x05,pm5,e15,eu,e45⟩ (fun _ _ g _ ⟨_,_,_,_,_,_,_,_,_,e,_⟩=>lsE e) ?_ ?_
  ·rintro j v' en g hv ⟨v5,v8,v9,v10,v11,rfl,x,pm,ep,eu,eq⟩ K hK;rw[qF]at hv;obtain⟨⟨pl,o,t,cc⟩,hs,rfl⟩:=qD.mp hv;have hj:=(qK.mp hs).1;have tk2:((upl ds ps 0 ts).take (j+1)).filterMap (cd D r b)=((upl ds ps 0 ts).take j).filterMap (cd D r b)++(cd D r b (pl,o,t,cc)).toList:=by
    rw[qW,hs,List.filterMap_append];congr 1
   have hln:(((upl ds ps 0 ts).take j).filterMap (cd D r b)).length≤16:=zH (List.length_filterMap_le _ _) (by rw[qV];omega);unfold q4V;walk_at "py";refine KZ (ns:=[o,t]) ?_;walk_at "py";by_cases hc:b=o∨b=t
   ·refine ifT (qQ (by simpa using hc)) ?_;have hcd:cd D r b (pl,o,t,cc)=some [(D (o+t - b) r).getD 0+cc,o+t - b,pl]:=if_pos hc;have he:∃ e∈ups ts ds ps b,e.2.1=o+t - b:=by
     obtain⟨e,he,hx⟩:=(YR (D:=D) (r:=r) hb).mp (zM.mpr ⟨_,qY hs,hcd⟩);injection hx with _ hx;injection hx with hx _;exact⟨e,he,hx.symm⟩
    obtain⟨e,he,hfe⟩:=he;obtain⟨u,hu⟩:=fn.sam hb he hv1;rw[hfe]at hu;walk_at "py";refine ZY ?_;refine XB pm hu ?_;walk_at "py";refine Zw eq (by rw[qA];omega) ?_;walk_at "py";refine hK _ _ ⟨_,_,_,_,_,rfl,ZC x hq0,?_,?_,?_,?_⟩
    ·obtain⟨kvs,z1,z2⟩:=pm;exact⟨kvs,(upd_ne hqc.symm).trans z1,z2⟩
    ·exact(upd_ne hqp.symm).trans ep
    ·exact(upd_ne hqu).trans eu
    ·rw[tk2,hcd,hu,qJ];exact upd_same
   ·refine ifF (qP (by simpa using hc)) ?_;have hcd:cd D r b (pl,o,t,cc)=none:=if_neg hc;walk_at "py";exact hK _ _ ⟨_,_,_,_,_,rfl,x,pm,ep,eu,by rw[tk2,hcd];simpa using eq⟩
  ·rintro en g ⟨v5,v8,v9,v10,v11,rfl,x,pm,ep,eu,eq⟩;rw[qA,zC]at eq;have fin:∀ (u:Option Int),rwD D bs (upl ds ps 0 ts) b=(b,r,v,u)→K [some (ZD bs ts),some (Zp ds ps),some (.ref pc),some (.ref p),some (.int b),v5,some (.int r),some (.ref q),v8,v9,v10,v11,some (oU u)] (upd g p (.lst ((((bup (bs.take i0) ds).map (rwD D bs (upl ds ps 0 ts))).map rV)++[.tup [.int b,.int r,.int v,oU u]]))):=fun u hu=>by
    refine hK _ _ ⟨_,_,_,_,_,_,_,_,_,rfl,ZC x hp0,?_,?_⟩
    ·obtain⟨kvs,z1,z2⟩:=pm;exact⟨kvs,(upd_ne hpp).trans z1,z2⟩
    ·rw[tk,if_neg hd,qJ,qJ,List.map_singleton,hu];exact upd_same
   rw[hv1]at hw;walk_at "py";by_cases hl:r<b
   ·refine ifT (qQ hl) ?_;obtain⟨y,l,e,ve,q1,q2,q3,q4,_⟩:=upo hl;rw[q1]at eq;rw[if_pos hl,q1]at hw;have hw:rwD D bs (upl ds ps 0 ts) b=(b,r,v,some e.1):=by
     rw[hw];unfold upD;dsimp only;rw[q4];rfl
    walk_at "py";refine mnR eq Jd (We _) ?_;rw[q4];walk_at "py";refine ZY ?_;refine XB pm hv1 ?_;walk_at "py";refine Zw ep (by rw[qA,qA];omega) ?_;walk_at "py";exact fin (some e.1) hw
   ·refine ifF (qP hl) ?_;rw[if_neg hl]at hw;walk_at "py";refine ZY ?_;refine XB pm hv1 ?_;walk_at "py";refine Zw ep (by rw[qA,qA];omega) ?_;walk_at "py";exact fin none hw
 ·rintro en g ⟨v4,v5,v6,v7,v8,v9,v10,v11,v12,rfl,x,pm,ep⟩;rw[qA,zC]at ep;walk_at "py";exact k p _ g hp0 x tr ep
end
noncomputable def isI:Val→Bool
 |.int _=>true
 |_=>false
noncomputable def isR:Val→Bool
 |.tup [a,b,c,d]=>isI a&&isI b&&isI c&&(decide (d=.non)||isI d)
 |_=>false
theorem NC{v:Val}(h:isI v=true):∃ i,v=.int i:=by
 cases v with
 |int i=>exact⟨i,rfl⟩
 |_=>cases h
theorem HP{v:Val}(h:isR v=true):∃ R,v=rV R:=by
 unfold isR at h;split at h
 ·rename_i a b c d;simp only[bAq,Bool.or_eq_true,decide_eq_true_eq]at h;obtain⟨⟨⟨h1,h2⟩,h3⟩,h4⟩:=h;obtain⟨a,rfl⟩:=NC h1;obtain⟨b,rfl⟩:=NC h2;obtain⟨c,rfl⟩:=NC h3;rcases h4 with rfl|h4
  ·exact⟨(a,b,c,none),rfl⟩
  ·obtain⟨d,rfl⟩:=NC h4;exact⟨(a,b,c,some d),rfl⟩
 ·cases h
theorem AG:∀ {xs:List Val},(∀ x∈xs,isR x=true)→∃ l:List Rw,xs=l.map rV
 |[],_=>⟨[],rfl⟩
 |x::xs,h=>by obtain⟨R,rfl⟩:=HP (h x (by simp));obtain⟨l,rfl⟩:=AG fun y hy=>h y (qI _ hy);exact⟨R::l,rfl⟩
theorem E4{R S:Rw}(h:rV R=rV S):R=S:=by obtain⟨a,b,c,u⟩:=R;obtain⟨a',b',c',u'⟩:=S;unfold rV at h;simp only[Val.tup.injEq,List.cons.injEq,Val.int.injEq,and_true]at h;obtain⟨rfl,rfl,rfl,h⟩:=h;cases u<;>cases u'<;>first|rfl|(cases h;rfl)|cases h
theorem XY:∀ {l m:List Rw},l.map rV=m.map rV→l=m
 |[],[],_=>rfl
 |[],_::_,h=>by cases h
 |_::_,[],h=>by cases h
 |R::l,S::m,h=>by rw[qG,qG,List.cons.injEq]at h;rw[E4 h.1,XY h.2]
def KV (h:Hs) (v:Val):Prop:=∃ t,kindV h v=some t
def TH (h:Hs) (v:Val):Prop:=KV h v∧∀ xs,v=.tup xs→∀ x∈xs,KV h x
def TS (h:Hs) (v:Val):Prop:=(KV h v∧∀ ns,v≠.scr ns)∧∀ a xs,v=.ref a→h a=some (.lst xs)→xs.length≤1000∧∀ x∈xs,TH h x
noncomputable def isT (h:Hs) (v:Val) (l:List Rw):Bool:=match v with
 | .ref a=>(match h a with
   |some (.lst xs)=>decide (xs=l.map rV)
   | _=>false)
 |_=>false
theorem KV.ext{h g:Hs}{v:Val}(x:Ext h g)(k:KV h v):KV g v:=by
 obtain⟨t,e⟩:=k;cases v with
 |ref a =>
  cases q:h a with
  |none=>unfold kindV at e;simp only[q]at e;cases e
  |some o=>exact⟨t,by unfold kindV at e ⊢;simp only[q]at e;simp only[x.get q];exact e⟩
 |_=>exact⟨t,e⟩
theorem TH.ext{h g:Hs}{v:Val}(x:Ext h g)(k:TH h v):TH g v:=⟨k.1.ext x,fun xs e y hy=>(k.2 xs e y hy).ext x⟩
theorem ZP {h:Hs}{a:Ad}{xs:List Val}(e:h a=some (.lst xs)):kindV h (.ref a)=some "list":=by unfold kindV;simp only[e]
theorem Xw {h:Hs}{v:Val}(k:KV h v) (n:∀ ns,v≠.scr ns):(∃ a xs,v=.ref a∧h a=some (.lst xs))∨∃ t,kindV h v=some t∧t≠"list":=by
 obtain⟨t,e⟩:=k;cases v with
 |ref a =>
  cases q:h a with
  |none=>unfold kindV at e;simp only[q]at e;cases e
  |some o =>
   cases o with
   |lst xs=>exact .inl ⟨a,xs,rfl,q⟩
   |dct kvs=>unfold kindV at e;simp only[q]at e;cases e;exact .inr ⟨"dict",by unfold kindV;simp only[q],by decide⟩
   |_=>unfold kindV at e;simp only[q]at e;cases e
 |scr ns=>exact absurd rfl (n ns)
 |key _ _=>cases e
 |_=>cases e;exact .inr ⟨_,rfl,by decide⟩
theorem YH {v:Val}{t T:String}(e:kindV h v=some t) (q:Q (.bl (t==T||(t == "bool" && T == "int"))) h):(biV h (.isi [T]) [v]).wp h Q:=Cq (by unfold isiAny isiAny isiV;rw[e];simp) q
theorem W9 {v:Val}(kv:KV h v) (k:Q (.bl (isI v)) h):wF P (n+1) "is_whole" [v] h Q X:=by
 obtain⟨t,e⟩:=kv;refine YO ?_;walk_at "py";refine YH e ?_;walk_at "py";cases v with
 |int i =>cases e;refine ifT rfl ?_;walk_at "py";exact k
 |bl b =>cases e;refine ifT rfl ?_;walk_at "py";exact k
 |ref a =>
  cases q:h a with
  |none=>unfold kindV at e;simp only[q]at e;cases e
  |some o =>
   cases o with
   |lst xs=>unfold kindV at e;simp only[q]at e;cases e;exact ifF rfl k
   |dct kvs=>unfold kindV at e;simp only[q]at e;cases e;exact ifF rfl k
   |_=>unfold kindV at e;simp only[q]at e;cases e
 |key _ _=>cases e
 |_=>cases e;exact ifF rfl k
theorem UJ:∀ l:List Val,l.filterMap (fun v=>some (Val.bl (isI v)))=(l.map isI).map .bl
 |[]=>rfl
 |v::l=>by rw[zN,qG,qG,UJ l]
theorem Cz {v:Val}(th:TH h v) (k:∀ g,Ext h g→Q (.bl (isR v)) g):wF P (n+2) "is_row" [v] h Q X:=by
 obtain⟨⟨t,e⟩,hp⟩:=th;refine Ku ?_;walk_at "py";refine YH e ?_;walk_at "py";cases v with
 |tup xs =>
  cases e;refine ifF rfl ?_;walk_at "py";have hp:=hp xs rfl;by_cases hl:xs.length=4
  ·refine ifF (by simp[hl]) ?_;obtain⟨a,b,c,d,rfl⟩:∃ a b c d,xs=[a,b,c,d]:=by
    match xs,hl with
    |[a,b,c,d],_=>exact⟨a,b,c,d,rfl⟩
   walk_at "py";refine sl_tup (by simp[cutAt]) ?_;walk_at "py";refine⟨by show(3:Nat)<lim;decide,ZF (fun v=>some (.bl (isI v))) trivial (fun v hv K hK=>?_) ?_⟩
   ·have hv:v∈[a,b,c]:=hv;simp only[qE,List.not_mem_nil,or_false]at hv;walk_at "py";refine ifT rfl ?_;walk_at "py";exact W9 (hp v (by simp only[qE];rcases hv with h|h|h<;>simp[h])) hK
   rw[UJ];refine Za fun p g hpp x ep=>?_;walk_at "py";refine YN ep (ZK _) ?_;have k:Q (.bl (isI a&&isI b&&isI c&&(decide (d=.non)||isI d))) g:=k g x;walk_at "py";change(if(!(isI a&&(isI b&&(isI c&&true))))=true then _ else _);cases ha:isI a with
   |false=>rw[ha]at k;refine ifT rfl ?_;walk_at "py";exact k
   |true =>
    cases hb:isI b with
    |false=>rw[ha,hb]at k;refine ifT rfl ?_;walk_at "py";exact k
    |true =>
     cases hc:isI c with
     |false=>rw[ha,hb,hc]at k;refine ifT rfl ?_;walk_at "py";exact k
     |true =>
      rw[ha,hb,hc]at k;refine ifF rfl ?_;walk_at "py";by_cases hd:d=.non
      ·refine ifT (qQ hd) ?_;rw[qQ hd]at k;exact k
      ·refine ifF (qP hd) ?_;rw[qP hd]at k;walk_at "py";exact W9 ((hp d (by simp)).ext x) k
  ·refine ifT (by simp;omega) ?_;walk_at "py";have:isR (.tup xs)=false:=by
    unfold isR;split
    ·rename_i z;injection z with z;rw[z]at hl;exact absurd rfl hl
    ·rfl
   rw[this]at k;exact k h Ext.refl
 |ref a =>
  cases q:h a with
  |none=>unfold kindV at e;simp only[q]at e;cases e
  |some o =>
   cases o with
   |lst xs=>unfold kindV at e;simp only[q]at e;cases e;refine ifT rfl (ifT rfl ?_);walk_at "py";exact k h Ext.refl
   |dct kvs=>unfold kindV at e;simp only[q]at e;cases e;refine ifT rfl (ifT rfl ?_);walk_at "py";exact k h Ext.refl
   |_=>unfold kindV at e;simp only[q]at e;cases e
 |key _ _=>cases e
 |_=>cases e;refine ifT rfl (ifT rfl ?_);walk_at "py";exact k h Ext.refl
theorem OU {v:Val}{z:Int}(kv:KV h v) (k:Q (.bl (decide (v=.int z))) h):wF P (n+1) "_law_same" [v,.int z] h Q X:=by
 obtain⟨t,e⟩:=kv;refine Yr ?_;walk_at "py";refine ifF (by simp) ?_;walk_at "py";refine ifF (by simp) ?_;walk_at "py";refine YH e ?_;walk_at "py";cases v with
 |int i =>cases e;refine ifF rfl ?_;walk_at "py";refine ifT rfl ?_;walk_at "py";simpa using k
 |bl b =>cases e;refine ifT rfl ?_;walk_at "py";refine ifF (by simp) ?_;simpa using k
 |ref a =>
  cases q:h a with
  |none=>unfold kindV at e;simp only[q]at e;cases e
  |some o =>
   have e0:=e;cases o with
   |lst xs=>unfold kindV at e;simp only[q]at e;cases e;refine ifF rfl ?_;walk_at "py";refine YH e0 ?_;walk_at "py";exact ifF rfl (by simpa using k)
   |dct kvs=>unfold kindV at e;simp only[q]at e;cases e;refine ifF rfl ?_;walk_at "py";refine YH e0 ?_;walk_at "py";exact ifF rfl (by simpa using k)
   |_=>unfold kindV at e;simp only[q]at e;cases e
 |key _ _=>cases e
 |non=>cases e;refine ifF rfl ?_;walk_at "py";exact ifF rfl (by simpa using k)
 |str s=>cases e;refine ifF rfl ?_;walk_at "py";exact ifF rfl (by simpa using k)
 |tup xs=>cases e;refine ifF rfl ?_;walk_at "py";exact ifF rfl (by simpa using k)
 |scr ns=>cases e;refine ifF rfl ?_;walk_at "py";exact ifF rfl (by simpa using k)
theorem N4 {v:Val}(k:Q (.bl (decide (v=.non))) h):wF P (n+1) "_law_same" [v,.non] h Q X:=by
 refine Yr ?_;walk_at "py";refine ifF (by simp) ?_;walk_at "py";refine ifT rfl ?_;refine ifT rfl ?_;walk_at "py";by_cases hv:v=.non
 ·refine ifT (qQ hv) ?_;walk_at "py";rw[qQ hv]at k;exact k
 ·refine ifF (qP hv) ?_;rw[qP hv]at k;exact k
theorem M3{m:Nat}{N B C:NQ}{X:EQ}{v u:Val}{xs ys:List Val}(hlen:xs.length=ys.length)(hl:ys.length≤1000)(lv:∀ K:Q1,K (.int ys.length) h→(biV h .len [u]).wp h K)
  (ix:∀ g i x,Ext h g→xs[i]?=some x→idxV g v (.int (i:Nat))=some x) (iy:∀ g i y,Ext h g→ys[i]?=some y→idxV g u (.int (i:Nat))=some y)
  (hs:∀ (i:Nat) x y g (K:Q1) Z,Ext h g→xs[i]?=some x→ys[i]?=some y→(∀ g',Ext g g'→K (.bl (decide (x=y))) g')→wF P m "_law_same" [x,y] g K Z)
  (k:∀ g,Ext h g→Q (.bl (decide (xs=ys))) g):wSs (wF P m) (.cons (.ret (.cmp .eqE (.comp [0,1] 1 (.one 0) (.range (.bi .len (.cons (.var 1) .nil))) (.not (.val (.call "_law_same" (.cons (.idx (.var 1) (.var 0)) (.cons (.idx (.var 2) (.var 0)) .nil))))) (.var 0)) (.lst .nil))) .nil) [some v,some u] h N Q B C X:=by
 have hlim:(1000:Nat)<lim:=by decide
 walk_at "py";refine lv _ ?_;walk_at "py";refine⟨⟨by omega,by omega⟩,?_⟩;refine⟨by rw[Yk];omega,Z1 (fun i zs g=>Ext h g∧zs.isEmpty=decide (xs.take i=ys.take i)) ⟨Ext.refl,by simp⟩ (fun _ _ _ _ _=>trivial) (fun i v' zs g hv hI K hK=>?_) (fun zs g hI=>?_)⟩
 ·obtain⟨x,hz⟩:=hI;obtain⟨rfl,hi⟩:=YD hv;have hi:i<ys.length:=by omega
  obtain⟨y,hy⟩:∃ y,ys[i]?=some y:=⟨_,qH hi⟩
  obtain⟨z,hx⟩:∃ z,xs[i]?=some z:=⟨_,qH (by omega)⟩
  have tk:decide (xs.take (i+1)=ys.take (i+1))=(decide (xs.take i=ys.take i)&&decide (z=y)):=by
   rw[qW,qW,hx,hy];have hll:(xs.take i).length=(ys.take i).length:=by rw[qV,qV];omega
   by_cases e:xs.take i=ys.take i
   ·by_cases e2:z=y
    ·simp[e,e2]
    ·simp[e,e2]
   ·have:¬ (xs.take i++(some z).toList=ys.take i++(some y).toList):=fun q=>e (List.append_inj q hll).1;rw[qP this,qP e];rfl
  walk_at "py";refine go_of (ix g i z x hx) ?_;walk_at "py";refine go_of (iy g i y x hy) ?_;walk_at "py";refine hs i z y g _ _ x hx hy fun g' x'=>?_;walk_at "py";by_cases e:z=y
  ·rw[qQ e];refine ifF rfl (hK _ _ ⟨x.trans x',?_⟩);rw[tk,qQ e,Bool.and_true];simpa using hz
  ·rw[qP e];refine ifT rfl ?_;walk_at "py";refine hK _ _ ⟨x.trans x',?_⟩;rw[tk,qP e,Bool.and_false];simp
 ·obtain⟨x,hz⟩:=hI;rw[Yk,Int.toNat_natCast,zC,←hlen,zC]at hz;refine Za fun p1 g1 hp1 x1 e1=>?_;walk_at "py";refine Za fun p2 g2 hp2 x2 e2=>?_;refine c_eqE (x2.get e1) e2 ?_;rw[hz];exact k g2 ((x.trans x1).trans x2)
theorem OX{g:Hs}{xs:List Val}{i:Nat}{x:Val}(e:xs[i]?=some x):idxV g (.tup xs) (.int (i:Nat))=some x:=Yl (by omega) (by rw[Int.toNat_natCast];exact e)
theorem Oc {v:Val}{R:Rw}(th:TH h v) (k:∀ g,Ext h g→Q (.bl (decide (v=rV R))) g):wF P (n+2) "_law_same" [v,rV R] h Q X:=by
 obtain⟨⟨t,e⟩,hp⟩:=th;have k0:∀ {c:Bool},decide (v=rV R)=c→Q (.bl c) h:=fun e=>e▸k h Ext.refl;refine Yr ?_;have er:rV R=.tup [.int R.1,.int R.2.1,.int R.2.2.1,oU R.2.2.2]:=rfl;rw[er]at k k0 ⊢;walk_at "py";refine ifT (by simp) ?_;walk_at "py";refine YH e ?_;walk_at "py";refine YL (c:=!(t == "list")) (by by_cases ht:t = "list"<;>simp[ht,eqV,dat,deep,D.eqv]) ?_;walk_at "py";by_cases ht:t = "list"
 ·refine ifT (by simp[ht]) ?_;refine ifT rfl ?_;walk_at "py";refine k0 (qP fun z=>?_);rw[z,ht]at e;exact absurd (Option.some.inj e) (by decide)
 refine ifF (by simp[ht]) ?_;walk_at "py";refine YH e ?_;walk_at "py";by_cases ht2:t = "tuple"
 case neg =>refine YL (c:=false) (by simp[ht2,eqV,dat,deep,D.eqv]) ?_;walk_at "py";refine ifT rfl ?_;walk_at "py";refine k0 (qP fun z=>?_);rw[z]at e;cases e;cases ht2 rfl
 refine YL (c:=true) (by simp[ht2,eqV,dat,deep,D.eqv]) ?_;walk_at "py";refine ifF rfl ?_;obtain⟨xs,rfl⟩:∃ xs,v=.tup xs:=by
  subst ht2;cases v with
  |tup xs=>exact⟨xs,rfl⟩
  |ref a =>
   cases q:h a with
   |none=>unfold kindV at e;simp only[q]at e;cases e
   |some o=>cases o<;>(unfold kindV at e;simp only[q]at e;first|cases e|exact absurd (Option.some.inj e) (by decide))
  |key _ _=>cases e
  |_=>exact absurd (Option.some.inj e) (by decide)
 have hp:=hp xs rfl;walk_at "py";by_cases hl:xs.length=4
 case neg =>refine ifT (by simp;omega) ?_;walk_at "py";refine k0 (qP fun z=>?_);injection z with z;rw[z]at hl;exact hl rfl
 refine ifF (by simp[hl]) ?_
 repeat refine ss_nil ?_
 refine M3 (xs:=xs) (ys:=[.int R.1,.int R.2.1,.int R.2.2.1,oU R.2.2.2]) hl (by show 4≤1000;decide) (fun K hK=>ln_tup hK) (fun g i x _ e=>OX e) (fun g i x _ e=>OX e) (fun i x y g K Z xg hx hy hK=>?_) fun g x=>?_
 ·have kx:=(hp x (qY hx)).ext xg;have hy:=qY hy;have leaf:(∃ z,y=.int z)∨y=.non:=by
   simp only[qE,List.not_mem_nil,or_false]at hy;rcases hy with rfl|rfl|rfl|rfl
   ·exact .inl ⟨_,rfl⟩
   ·exact .inl ⟨_,rfl⟩
   ·exact .inl ⟨_,rfl⟩
   ·cases R.2.2.2 with
    |none=>exact .inr rfl
    |some z=>exact .inl ⟨z,rfl⟩
  rcases leaf with⟨z,rfl⟩|rfl
  ·exact OU kx (hK g Ext.refl)
  ·exact N4 (hK g Ext.refl)
 ·have:=k g x
  rwa [show decide (Val.tup xs=.tup [.int R.1,.int R.2.1,.int R.2.2.1,oU R.2.2.2])=decide (xs=[.int R.1,.int R.2.1,.int R.2.2.1,oU R.2.2.2]) by simp]at this
theorem O5{h:Hs}{v:Val}{l:List Rw}(hn:∀ a xs,v=.ref a→h a≠some (.lst xs)):isT h v l=false:=by
 unfold isT;split
 ·rename_i a;split
  ·rename_i xs e;exact absurd e (hn a xs rfl)
  ·rfl
 ·rfl
theorem Yo{h:Hs}{a:Ad}{xs:List Val}{l:List Rw}(e:h a=some (.lst xs)):isT h (.ref a) l=decide (xs=l.map rV):=by unfold isT;simp only[e]
theorem TS.ext{h g:Hs}{v:Val}(t:TS h v)(x:Ext h g):TS g v:=by
 obtain⟨⟨k,n⟩,t⟩:=t;refine⟨⟨k.ext x,n⟩,fun a xs e q=>?_⟩;subst e;rcases Xw k n with⟨a',xs',z,e'⟩|⟨t',e',hn⟩
 ·cases z;rw[x.get e']at q;cases q;obtain⟨h1,h2⟩:=t a xs rfl e';exact⟨h1,fun y hy=>(h2 y hy).ext x⟩
 ·obtain⟨t2,e2⟩:=KV.ext x ⟨t',e'⟩;have e3:=ZP q;have:kindV h (.ref a)=some t':=e';cases z:h a with
  |none=>unfold kindV at e';simp only[z]at e';cases e'
  |some o =>rw[x.get z]at q;cases q;unfold kindV at e';simp only[z]at e';exact absurd (Option.some.inj e').symm hn
theorem CD{h g:Hs}{v:Val}{l:List Rw}(t:TS h v)(x:Ext h g):isT g v l=isT h v l:=by
 obtain⟨⟨k,n⟩,_⟩:=t;cases v with
 |ref a =>
  obtain⟨t,e⟩:=k;cases z:h a with
  |none=>unfold kindV at e;simp only[z]at e;cases e
  |some o=>unfold isT;simp only[z,x.get z]
 |_=>rfl
theorem JZ {v:Val}{b:Ad}{l:List Rw}(ts:TS h v) (eb:h b=some (.lst (l.map rV))) (hl:l.length≤10) (k:∀ g,Ext h g→Q (.bl (isT h v l)) g):wF P (n+3) "_law_same" [v,.ref b] h Q X:=by
 obtain⟨⟨kv,ns⟩,hs⟩:=ts;have kb:=ZP eb;refine Yr ?_;walk_at "py";refine Cq (c:=true) (by simp[isiAny,isiV,kb]) ?_;walk_at "py";refine ifT rfl ?_;walk_at "py";rcases Xw kv ns with⟨a,xs,rfl,ea⟩|⟨t,e,ht⟩
 case inr =>
  have hno:isT h v l=false:=O5 fun a xs z q=>by subst z;rw[ZP q]at e;exact ht (Option.some.inj e).symm
  rw[hno]at k;refine YH e ?_;walk_at "py";refine YH kb ?_;walk_at "py";refine YL (c:=false) (by simp[ht,eqV,dat,deep,D.eqv]) ?_;walk_at "py";refine ifT rfl ?_;refine ifT rfl ?_;walk_at "py";exact k h Ext.refl
 rw[Yo ea]at k;obtain⟨h1,h2⟩:=hs a xs rfl ea;have ka:=ZP ea;refine YH ka ?_;walk_at "py";refine YH kb ?_;walk_at "py";refine YL (c:=true) rfl ?_;walk_at "py";refine ifF rfl ?_;walk_at "py";refine YH ka ?_;walk_at "py";refine YH kb ?_;walk_at "py";refine YL (c:=true) rfl ?_;walk_at "py";refine ifF rfl ?_;walk_at "py";by_cases hln:xs.length=(l.map rV).length
 case neg =>refine ifT (by simp;rw[qA]at hln;omega) ?_;walk_at "py";rw[qP (fun z=>hln (by rw[z]))]at k;exact k h Ext.refl
 refine ifF (by simp;rw[qA]at hln;omega) ?_
 repeat refine ss_nil ?_
 have ix:∀ (d:Ad) (ys:List Val),h d=some (.lst ys)→∀ g i x,Ext h g→ys[i]?=some x→idxV g (.ref d) (.int (i:Nat))=some x:=fun d ys ed g i x xg hx=>by unfold idxV;simp only[xg.get ed];exact Yl (by omega) (by rw[Int.toNat_natCast];exact hx)
 refine M3 (xs:=xs) (ys:=l.map rV) hln (by rw[qA];omega) (fun K hK=>ln_lst eb hK) (ix a xs ea) (ix b _ eb) (fun i x y g K Z xg hx hy hK=>?_) k;rw[qF]at hy;obtain⟨R,_,rfl⟩:=qD.mp hy;exact Oc ((h2 x (qY hx)).ext xg) hK
theorem X4:∀ xs ys:List Int,D.eqvs (xs.map D.int) (ys.map D.int)=decide (xs=ys)
 |[],[]=>rfl
 |[],_::_=>rfl
 |_::_,[]=>rfl
 |x::xs,y::ys=>by rw[qG,qG,D.eqvs,X4 xs ys,JY];by_cases e:x=y<;>by_cases e2:xs=ys<;>simp[e,e2]
theorem UY{h:Hs}{a b:Ad}{ns ms:List Int}(e1:h a=some (.lst (ns.map .int)))(e2:h b=some (.lst (ms.map .int))):eqV h (.ref a) (.ref b)=some (decide (ns=ms)):=by
 have m:∀ l:List Int,(l.map Val.int).mapM (dat h 11)=some (l.map D.int):=fun l=>by
  induction l with
  |nil=>rfl
  |cons x l ih=>rw[qG,List.mapM_cons,ih];rfl
 have d:∀ c (l:List Int),h c=some (.lst (l.map .int))→dat h deep (.ref c)=some (.lst (l.map D.int)):=fun c l e=>by unfold deep;rw[dat,e,ZX,Option.bind_some,m];rfl
 unfold eqV;rw[d a _ e1,d b _ e2];show some (D.eqv (.lst _) (.lst _))=_;rw[D.eqv,X4]
theorem Co{l:List Int}(nd:l.Nodup):∀ {m:List Rw},m.map (·.1)=l→∃ f:Int→Rw,m=l.map f∧∀ b∈l,(f b).1=b:=by
 intro m h;subst h;induction m with
 |nil=>exact⟨fun _=>(0,0,0,none),rfl,fun _ h=>nomatch h⟩
 |cons R m ih =>
  rw[qG,List.nodup_cons]at nd;obtain⟨f,h1,h2⟩:=ih nd.2;refine⟨fun b=>if b=R.1 then R else f b,?_,fun b hb=>?_⟩
  ·rw[qG,qG,if_pos rfl];congr 1;refine h1.trans (List.map_congr_left fun b hb=>?_);exact(if_neg (fun e:b=R.1=>nd.1 (e▸hb))).symm
  ·rw[qG]at hb;dsimp only;split
   ·rename_i e;exact e.symm
   ·rename_i e;rcases qE.mp hb with e2|hb
    ·exact absurd e2 e
    ·exact h2 b hb
section
variable {bs ds ps:List Int}{ts:List Tie}{t:Int→Rw}
theorem Z2 {v:Val}(no:NetOk bs ts) (tr:TR (fun b e=>e∈ups ts ds ps b) (·∈bup bs ds) t) (th:TS h v) (k:∀ g,Ext h g→Q (.bl (isT h v ((bup bs ds).map t))) g):wF P (n+5) "is_plain_tree" [ZD bs ts,Zp ds ps,v] h Q X:=by
 have hlim:(1000:Nat)<lim:=by decide
 obtain⟨⟨kv,ns⟩,hs⟩:=th;have nd:(bup bs ds).Nodup:=(Ba (ds:=ds) no.up).imp fun h=>by omega
 rcases Xw kv ns with⟨a,xs,rfl,ea⟩|⟨t',e,ht⟩
 case inr =>
  have hno:isT h v ((bup bs ds).map t)=false:=O5 fun a xs z q=>by subst z;rw[ZP q]at e;exact ht (Option.some.inj e).symm
  rw[hno]at k;refine Z3 ?_;refine ss_cons (s_ite (t_or (t_not (t_val (e_bi (a_cons (X5 rfl (a_nil (YH e (g_tbl ?_))))))))));refine ifT (by simp[ht]) (ifT rfl ?_);walk_at "py";exact k h Ext.refl
 rw[Yo ea]at k;obtain⟨hL,h2⟩:=hs a xs rfl ea;by_cases hx:∃ f:Int→Rw,xs=((bup bs ds).map f).map rV∧∀ b∈bup bs ds,(f b).1=b
 ·obtain⟨f,rfl,hk⟩:=hx;refine Mj no tr ea hk fun g x=>?_;have:=k g x
  rwa [show decide (((bup bs ds).map f).map rV=((bup bs ds).map t).map rV)=decide ((bup bs ds).map f=(bup bs ds).map t) from decide_eq_decide.mpr ⟨XY,fun z=>by rw[z]⟩]at this
 have hF:decide (xs=((bup bs ds).map t).map rV)=false:=qP fun z=>hx ⟨t,z,tr.key⟩;rw[hF]at k;refine Z3 ?_;refine ss_cons (s_ite (t_or (t_not (t_val (e_bi (a_cons (X5 rfl (a_nil (isl ea (g_tbl ?_))))))))));refine ifF rfl ?_;walk_at "py";refine⟨by show xs.length<lim;omega,Z1 (fun i zs g=>Ext h g∧zs=((xs.take i).map isR).map .bl) ⟨Ext.refl,rfl⟩ (fun _ _ g _ z=>lsE (z.1.get ea)) (fun i v zs g hv hI K hK=>?_) (fun zs g hI=>?_)⟩
 ·obtain⟨x,rfl⟩:=hI;walk_at "py";refine ifT rfl ?_;walk_at "py";refine Cz ((h2 v (qY hv)).ext x) fun g2 x2=>hK _ _ ⟨x.trans x2,?_⟩;have hv:xs[i]?=some v:=hv;rw[qW,hv,qJ,qJ];rfl
 obtain⟨x1,rfl⟩:=hI;rw[zC];refine Za fun p2 g2 hp2 x2 e2=>?_;walk_at "py";refine YN e2 (ZK _) ?_;walk_at "py";have y2:=x1.trans x2;cases hall:(xs.map isR).all id with
 |false =>refine ifT rfl ?_;walk_at "py";exact k g2 y2
 |true =>
 refine ifF rfl ?_;obtain⟨l,rfl⟩:=AG (xs:=xs) fun x hx=>by have:=List.all_eq_true.mp hall (isR x) (qZ hx);exact this
 have ea2:=y2.get ea;walk_at "py";refine⟨by show(l.map rV).length<lim;omega,ZF Aj (lsE ea2) (fun v hv K hK=>?_) ?_⟩
 ·obtain⟨R,_,rfl⟩:=q8.mp hv;unfold rV at hK ⊢;walk_at "py";refine ifT rfl ?_;walk_at "py";exact hK
 rw[X1];refine Za fun p3 g3 hp3 x3 e3=>?_;walk_at "py";refine U9 no.ten fun p4 g4 hp4 x4 e4=>?_;have hne:l.map (·.1)≠bup bs ds:=fun z=>by obtain⟨f,h1,h2⟩:=Co nd z;exact hx ⟨f,by rw[h1],h2⟩
 refine YL (UY (x4.get e3) e4) ?_;rw[qP hne];walk_at "py";refine ifT rfl ?_;walk_at "py";exact k g4 (y2.trans (x3.trans x4))
end
noncomputable def sr:Nat→Val→Bool
 |_,.non=>true
 |_,.bl _=>true
 |_,.int _=>true
 |_,.str _=>true
 |_,.ref _=>true
 |n+1,.tup xs=>xs.all (sr n)
 |_,_=>false
theorem Xr{f:Val→Val→Bool}:∀ {xs:List Val},(∀ x∈xs,f x x=true)→samL f xs xs=true
 |[],_=>rfl
 |x::xs,h=>by rw[samL,h x (by simp),Xr fun y hy=>h y (qI _ hy)];rfl
theorem UQ{h:Hs}:∀ (n:Nat){v:Val},sr n v=true→sam h n v v=true:=by
 intro n;induction n with
 |zero =>
  intro v hv;cases v with
  |tup xs=>cases hv
  |scr ns=>cases hv
  |key _ _=>cases hv
  |_=>simp[sam]
 |succ n ih =>
  intro v hv;cases v with
  |tup xs =>rw[sam];exact Xr fun x hx=>ih (List.all_eq_true.mp hv x hx)
  |scr ns=>cases hv
  |key _ _=>cases hv
  |_=>simp[sam]
def OD (h:Hs) (v:Val):Prop:=KV h v∧sr 7 v=true
def IT (h:Hs) (v:Val):Prop:=TH h v∧sr 8 v=true
theorem OD.int{h:Hs}(i:Int):OD h (.int i):=⟨⟨_,rfl⟩,rfl⟩
theorem OD.non{h:Hs}:OD h .non:=⟨⟨_,rfl⟩,rfl⟩
theorem OD.oU{h:Hs}:∀ u,OD h (oU u)
 |none=>.non
 |some i=>.int i
theorem IT.tup{h:Hs}{xs:List Val}(hx:∀ x∈xs,OD h x):IT h (.tup xs):=⟨⟨⟨_,rfl⟩,fun ys e y hy=>by cases e;exact(hx y hy).1⟩,List.all_eq_true.mpr fun x m=>(hx x m).2⟩
theorem IT.rV{h:Hs}(R:Rw):IT h (rV R):=IT.tup fun x hx=>by
 simp only[qE,List.not_mem_nil,or_false]at hx;rcases hx with rfl|rfl|rfl|rfl
 ·exact .int _
 ·exact .int _
 ·exact .int _
 ·exact .oU _
theorem Hj:∀ {v:Val},sr 7 v=true→sr 8 v=true:=by
 have key:∀ (n:Nat){v:Val},sr n v=true→sr (n+1) v=true:=by
  intro n;induction n with
  |zero=>intro v hv;cases v<;>first|rfl|cases hv
  |succ n ih =>
   intro v hv;cases v with
   |tup xs=>exact List.all_eq_true.mpr fun x hx=>ih (List.all_eq_true.mp hv x hx)
   |_=>first|rfl|cases hv
 exact fun {v} hv=>key 7 hv
theorem KV.exb{h g:Hs}{w:Ad}{v:Val}(k:KV h v)(x:ExtB w h g)(r:Row g w):KV g v:=by
 obtain⟨t,e⟩:=k;cases v with
 |ref a =>
  by_cases ha:a=w
  ·subst ha;obtain⟨_,_,_,r,_⟩:=r;exact⟨"list",ZP r⟩
  ·cases q:h a with
   |none=>unfold kindV at e;simp only[q]at e;cases e
   |some o=>exact⟨t,by unfold kindV at e ⊢;simp only[q]at e;simp only[x.get ha q];exact e⟩
 |_=>exact⟨t,e⟩
theorem OD.exb{h g:Hs}{w:Ad}{v:Val}(k:OD h v)(x:ExtB w h g)(r:Row g w):OD g v:=⟨k.1.exb x r,k.2⟩
theorem IT.exb{h g:Hs}{w:Ad}{v:Val}(k:IT h v)(x:ExtB w h g)(r:Row g w):IT g v:=⟨⟨k.1.1.exb x r,fun xs e y hy=>(k.1.2 xs e y hy).exb x r⟩,k.2⟩
theorem OD.ext{h g:Hs}{v:Val}(k:OD h v)(x:Ext h g):OD g v:=⟨k.1.ext x,k.2⟩
theorem IT.ext{h g:Hs}{v:Val}(k:IT h v)(x:Ext h g):IT g v:=⟨k.1.ext x,k.2⟩
def SP (g:Hs) (v:Val):Prop:=(∃ a xs,v=.ref a∧g a=some (.lst xs)∧xs.length≤1000∧∀ x∈xs,IT g x)∨(∃ a,v=.ref a∧g a=some (.dct []))∨v=.non∨(∃ s,v=.str s)∨∃ l:List Rw,v=.tup (l.map rV)
theorem SP.ts{g:Hs}{v:Val}(s:SP g v):TS g v:=by
 rcases s with⟨a,xs,rfl,e,h1,h2⟩|⟨a,rfl,e⟩|rfl|⟨s,rfl⟩|⟨l,rfl⟩
 ·exact⟨⟨⟨_,ZP e⟩,fun _ z=>by cases z⟩,fun b ys z q=>by cases z;rw[e]at q;cases q;exact⟨h1,fun x hx=>(h2 x hx).1⟩⟩
 ·exact⟨⟨⟨"dict",by unfold kindV;simp only[e]⟩,fun _ z=>by cases z⟩,fun b ys z q=>by cases z;rw[e]at q;cases q⟩
 ·exact⟨⟨⟨_,rfl⟩,fun _ z=>by cases z⟩,fun b ys z q=>by cases z⟩
 ·exact⟨⟨⟨_,rfl⟩,fun _ z=>by cases z⟩,fun b ys z q=>by cases z⟩
 ·exact⟨⟨⟨_,rfl⟩,fun _ z=>by cases z⟩,fun b ys z q=>by cases z⟩
theorem SP.rows{g:Hs}{a:Ad}{l:List Rw}(e:g a=some (.lst (l.map rV)))(hl:l.length≤1000):SP g (.ref a):=.inl ⟨a,_,rfl,e,by rw[qA];exact hl,fun x hx=>by obtain⟨R,_,rfl⟩:=q8.mp hx;exact .rV R⟩
theorem BN{α β:Type}(f:α→β)(ns:List α)(lo hi:Option Int):cut (ns.map f) lo hi=(cut ns lo hi).map f:=by unfold cut;rw[qA,List.map_take,List.map_drop]
theorem K8{n:Nat}{r:Int}(r0:0≤r)(r1:r<n):ixN n r=some r.toNat:=by unfold ixN;rw[if_pos r0,if_pos r1]
theorem OD.lst{g:Hs}{a:Ad}{xs:List Val}(e:g a=some (.lst xs)):OD g (.ref a):=⟨⟨_,ZP e⟩,rfl⟩
theorem OD.it{g:Hs}{v:Val}(o:OD g v)(n:∀ xs,v=.tup xs→∀ x∈xs,KV g x):IT g v:=⟨⟨o.1,n⟩,Hj o.2⟩
section
variable {pt:Ad}{l:List Rw}{aq:Int}
theorem BU {R:Rw}(hw:Row h w) (nw:pt≠w) (et:h pt=some (.lst (l.map rV))) (ha:atI (l.map rV) aq=some (rV R)) (k:∀ v g,ExtB w h g→Row g w→IT g v→Q v g):wF P (n+2) "_law_part" [.ref w,.ref pt,.int aq] h Q X:=by
 have hlim:(1000:Nat)≤lim:=by decide
 refine Mh ?_;walk_at "py";refine Zm et ha ?_;have er:rV R=.tup [.int R.1,.int R.2.1,.int R.2.2.1,oU R.2.2.2]:=rfl;rw[er];walk_at "py";refine Za fun p1 g1 hp1 x1 e1=>?_;walk_at "py";refine Za fun p2 g2 hp2 x2 e2=>?_;walk_at "py";refine Za fun p3 g3 hp3 x3 e3=>?_;have w3:=((hw.ext x1).ext x2).ext x3;walk_at "py";refine Zf w3 (by decide) (by decide) fun r4 g4 a4 b4 x4 w4=>?_;have n1:p1≠w:=fun z=>hw.ne hp1 z.symm;have n2:p2≠w:=fun z=>(hw.ext x1).ne hp2 z.symm;have n3:p3≠w:=fun z=>((hw.ext x1).ext x2).ne hp3 z.symm;obtain⟨od,eo,ho⟩:=ZH (xs:=[Val.bl true,.bl false,.non,.str "0",.tup [.int 1],.ref p2,.int (-1),.int 1000,.int 1000000000000000000000000000000,.int 0,.int 1]) (r:=r4) a4 b4;refine Zm (x4.get n3 e3) eo ?_;have hod:OD g4 od∧∀ xs,od=.tup xs→∀ x∈xs,∃ i,x=.int i:=by
  simp only[qE,List.not_mem_nil,or_false]at ho;rcases ho with rfl|rfl|rfl|rfl|rfl|rfl|rfl|rfl|rfl|rfl|rfl
  ·exact⟨⟨⟨_,rfl⟩,rfl⟩,fun _ z=>by cases z⟩
  ·exact⟨⟨⟨_,rfl⟩,rfl⟩,fun _ z=>by cases z⟩
  ·exact⟨.non,fun _ z=>by cases z⟩
  ·exact⟨⟨⟨_,rfl⟩,rfl⟩,fun _ z=>by cases z⟩
  ·exact⟨⟨⟨_,rfl⟩,rfl⟩,fun _ z x hx=>by cases z;exact⟨1,zL.mp hx⟩⟩
  ·exact⟨.lst (x4.get n2 (x3.get e2)),fun _ z=>by cases z⟩
  ·exact⟨.int _,fun _ z=>by cases z⟩
  ·exact⟨.int _,fun _ z=>by cases z⟩
  ·exact⟨.int _,fun _ z=>by cases z⟩
  ·exact⟨.int _,fun _ z=>by cases z⟩
  ·exact⟨.int _,fun _ z=>by cases z⟩
 obtain⟨hod,hodt⟩:=hod;have e14:=x4.get n1 (x3.get (x2.get e1));walk_at "py";refine Zf w4 (by decide) (by decide) fun r5 g5 a5 b5 x5 w5=>?_;have e15:=x5.get n1 e14;have hod5:=hod.exb x5 w5;have y5:ExtB w h g5:=(ExtB.of (x1.trans (x2.trans x3))).trans (x4.trans x5);refine Jp e15 (K8 a5 (by simpa using b5)) ?_;have hys:∀ y∈[Val.int R.1,.int R.2.1,.int R.2.2.1,oU R.2.2.2].set r5.toNat od,OD g5 y:=fun y hy=>by
  rcases List.mem_or_eq_of_mem_set hy with hy|rfl
  ·simp only[qE,List.not_mem_nil,or_false]at hy;rcases hy with rfl|rfl|rfl|rfl
   ·exact .int _
   ·exact .int _
   ·exact .int _
   ·exact .oU _
  ·exact hod5
 have hyl:([Val.int R.1,.int R.2.1,.int R.2.2.1,oU R.2.2.2].set r5.toNat od).length=4:=by rw[List.length_set];rfl
 generalize [Val.int R.1,.int R.2.1,.int R.2.2.1,oU R.2.2.2].set r5.toNat od=ys at hys hyl ⊢;have y6:ExtB w h (upd g5 p1 (.lst ys)):=Yt y5 hp1;have w6:Row (upd g5 p1 (.lst ys)) w:=w5.exb n1;have e6:upd g5 p1 (.lst ys) p1=some (.lst ys):=upd_same;have kv6:∀ v,KV g5 v→KV (upd g5 p1 (.lst ys)) v:=fun v kv=>by
  obtain⟨t,e⟩:=kv;cases v with
  |ref a =>
   by_cases ha:a=p1
   ·subst ha;exact⟨_,ZP e6⟩
   ·refine⟨t,?_⟩;show(match upd g5 p1 (.lst ys) a with|some (.lst _)=>some "list" | some (.dct _)=>some "dict" | _=>none)=some t;rw[upd_ne ha];exact e
  |_=>exact⟨t,e⟩
 have hys6:∀ y∈ys,OD (upd g5 p1 (.lst ys)) y:=fun y hy=>⟨kv6 y (hys y hy).1,(hys y hy).2⟩
 have hod6:OD (upd g5 p1 (.lst ys)) od:=⟨kv6 od hod5.1,hod5.2⟩
 generalize upd g5 p1 (.lst ys)=g6 at y6 w6 e6 hys6 hod6 ⊢;walk_at "py";refine Za fun p7 g7 hp7 x7 e7=>?_;walk_at "py";refine A1 (by simp[lim];omega) ?_;walk_at "py";refine Za fun p8 g8 hp8 x8 e8=>?_;have w8:=(w6.ext x7).ext x8;walk_at "py";refine Zf w8 (by decide) (by decide) fun r9 g9 a9 b9 x9 w9=>?_;have n8:p8≠w:=fun z=>(w6.ext x7).ne hp8 z.symm;obtain⟨v,ev,hv⟩:=ZH (xs:=[Val.tup ys,.tup ys,.tup ys,.ref p1,.tup (cut ys none (some 3)),.tup (ys++[.int 0]),od]) (r:=r9) a9 b9;have x69:∀ {v},OD g6 v→OD g9 v:=fun o=>(o.ext (x7.trans x8)).exb x9 w9;refine Zm (x9.get n8 e8) ev (k v g9 (y6.trans ((ExtB.of (x7.trans x8)).trans x9)) w9 ?_);simp only[qE,List.not_mem_nil,or_false]at hv;have it:IT g9 (.tup ys):=.tup fun y hy=>x69 (hys6 y hy);rcases hv with rfl|rfl|rfl|rfl|rfl|rfl|rfl
 ·exact it
 ·exact it
 ·exact it
 ·exact(x69 (.lst e6)).it fun _ z=>by cases z
 ·refine .tup fun y hy=>x69 (hys6 y ?_);unfold cut at hy;exact List.mem_of_mem_drop (List.mem_of_mem_take hy)
 ·refine .tup fun y hy=>?_;rcases q9.mp hy with hy|hy
  ·exact x69 (hys6 y hy)
  ·rw[zL.mp hy];exact .int _
 ·refine(x69 hod6).it fun xs z x hx=>?_;obtain⟨i,rfl⟩:=hodt xs z x hx;exact⟨_,rfl⟩
end
section
variable {pt:Ad}{l:List Rw}{aq:Int}{bs ds ps:List Int}{ts:List Tie}
theorem F0 {R:Rw}(hw:Row h w) (nw:pt≠w) (et:h pt=some (.lst (l.map rV))) (hl:l.length≤10) (ha:atI (l.map rV) aq=some (rV R)) (k:∀ v g,ExtB w h g→Row g w→SP g v→Q v g):wF P (n+2) "_law_all" [.ref w,.ref pt,.int aq] h Q X:=by
 have hlim:(1000:Nat)≤lim:=by decide
 have ev:∀ R:Rw,rV R=.tup [.int R.1,.int R.2.1,.int R.2.2.1,oU R.2.2.2]:=fun _=>rfl;refine OV ?_;walk_at "py";refine Zm et ha ?_;rw[ev R];walk_at "py";refine Za fun p1 g1 hp1 x1 e1=>?_;have w1:=hw.ext x1;have n1:p1≠w:=fun z=>hw.ne hp1 z.symm;walk_at "py";refine Zf w1 (by decide) (by decide) fun r2 g2 a2 b2 x2 w2=>?_;obtain⟨v2,ev2,hv2⟩:=ZH (xs:=[Val.int 1,.int (-1),.int 1000,.int 0]) (r:=r2) a2 b2;obtain⟨mo,rfl⟩:∃ i,v2=.int i:=by simp only[qE,List.not_mem_nil,or_false]at hv2;rcases hv2 with rfl|rfl|rfl|rfl<;>exact⟨_,rfl⟩
 refine Zm (x2.get n1 e1) ev2 ?_;walk_at "py";refine Zf w2 (by decide) (by decide) fun r3 g3 a3 b3 x3 w3=>?_;walk_at "py";refine Za fun p4 g4 hp4 x4 e4=>?_;have w4:=w3.ext x4;have n4:p4≠w:=fun z=>w3.ne hp4 z.symm;walk_at "py";refine Zf w4 (by decide) (by decide) fun r5 g5 a5 b5 x5 w5=>?_;obtain⟨v5,ev5,hv5⟩:=ZH (xs:=[Val.int R.2.1,.int (R.2.1 - 1),.int 0,.int (-1),.int r3]) (r:=r5) a5 b5;obtain⟨gh,rfl⟩:∃ i,v5=.int i:=by simp only[qE,List.not_mem_nil,or_false]at hv5;rcases hv5 with rfl|rfl|rfl|rfl|rfl<;>exact⟨_,rfl⟩
 refine Zm (x5.get n4 e4) ev5 ?_;walk_at "py";have y5:ExtB w h g5:=((ExtB.of x1).trans (x2.trans x3)).trans ((ExtB.of x4).trans x5);refine Za fun p g6 hp x6 e6=>?_;have np:p≠w:=fun z=>w5.ne hp z.symm;have hp0:h p=none:=by
  cases q:h p with
  |none=>rfl
  |some o =>
   by_cases z:p=w
   ·exact absurd z np
   ·rw[y5.get z q]at hp;cases hp
 have y6:ExtB w h g6:=y5.trans (.of x6);have w6:=w5.ext x6;walk_at "py";refine Zq (fun i en g=>∃ v7 l',en=[some (.ref w),some (.ref pt),some (.int aq),some (.int R.2.1),some (.int mo),some (.int gh),some (.ref p),v7]∧ExtB w h g∧Row g w∧g p=some (.lst (l'.map rV))∧l'.length=i) ⟨_,[],rfl,y6,w6,e6,rfl⟩ (fun _ _ g _ ⟨_,_,_,x,_⟩=>lsE (x.get nw et)) ?_ ?_
 ·rintro i v en g hv ⟨v7,l',rfl,x,hr,ep,hl'⟩ K hK;rw[qF]at hv;obtain⟨S,hs,rfl⟩:=qD.mp hv;have hi:=(qK.mp hs).1;have fin:∀ (T:Rw) g',ExtB w h g'→Row g' w→g' p=some (.lst (l'.map rV))→K [some (.ref w),some (.ref pt),some (.int aq),some (.int R.2.1),some (.int mo),some (.int gh),some (.ref p),some (rV T)] (upd g' p (.lst (l'.map rV++[rV T]))):=fun T g' x' w' e'=>hK _ _ ⟨_,l'++[T],rfl,Yt x' hp0,w'.exb np,by rw[qJ];exact upd_same,by rw[qU,hl'];rfl⟩;rw[ev S];walk_at "py";by_cases h1:S.2.1=R.2.1
  ·refine ifT (qQ h1) ?_;walk_at "py";by_cases h2:S.1=R.2.1
   ·refine ifF (by simp[h2]) ?_;walk_at "py";refine Zf hr (by decide) (by decide) fun r8 g8 a8 b8 x8 w8=>?_;have e8:=x8.get np ep;walk_at "py";refine ifP (fun _=>?_) (fun _=>?_)
    ·walk_at "py";refine Zw e8 (by rw[qA];omega) ?_;walk_at "py";exact fin (S.1,gh,S.2.2.1+mo,S.2.2.2) g8 (x.trans x8) w8 e8
    ·walk_at "py";refine Zw e8 (by rw[qA];omega) ?_;walk_at "py";exact fin S g8 (x.trans x8) w8 e8
   ·refine ifT (by simp[h2]) ?_;refine ifT rfl ?_;walk_at "py";refine Zw ep (by rw[qA];omega) ?_;walk_at "py";exact fin (S.1,gh,S.2.2.1+mo,S.2.2.2) g x hr ep
  ·refine ifF (qP h1) ?_;refine ifF rfl ?_;walk_at "py";refine Zw ep (by rw[qA];omega) ?_;walk_at "py";exact fin S g x hr ep
 ·rintro en g ⟨v7,l',rfl,x,hr,ep,hl'⟩;rw[qA]at hl';walk_at "py";exact k _ g x hr (.rows ep (by omega))
end
section
variable {pt:Ad}{l:List Rw}{aq:Int}{bs ds ps:List Int}{ts:List Tie}
theorem BE (no:NetOk bs ts) (hw:Row h w) (nw:pt≠w) (et:h pt=some (.lst (l.map rV))) (hl:l.length≤10) (k:∀ v g,ExtB w h g→Row g w→SP g v→Q v g):wF P (n+2) "_law_leaning" [.ref w,ZD bs ts,Zp ds ps,.ref pt] h Q X:=by
 have hlim:(1000:Nat)≤lim:=by decide
 have ev:∀ R:Rw,rV R=.tup [.int R.1,.int R.2.1,.int R.2.2.1,oU R.2.2.2]:=fun _=>rfl;have h16:=no.sixteen;have hone:=no.one;have hul:=YC (ds:=ds) (ps:=ps) ts 0;refine WA ?_;walk_at "py";refine Jv no.sixteen fun pu g1 hpu x1 eu=>?_;have w1:=hw.ext x1;have nu:pu≠w:=fun z=>hw.ne hpu z.symm;walk_at "py";refine Za fun p2 g2 hp2 x2 e2=>?_;refine c_eqE (x2.get eu) e2 ?_;have et2:=x2.get (x1.get et);have w2:=w1.ext x2;have x12:=x1.trans x2;walk_at "py";cases hU:upl ds ps 0 ts with
 |nil =>refine ifT rfl ?_;walk_at "py";refine ZN et2 et2 (by rw[qU,qA];omega) ?_;refine Za fun p3 g3 hp3 x3 e3=>?_;rw[←qJ]at e3;exact k _ g3 (.of (x12.trans x3)) (w2.ext x3) (.rows e3 (by rw[qU];omega))
 |cons u0 U0 =>
 rw[←hU];have hU1:1≤(upl ds ps 0 ts).length:=by rw[hU];simp
 refine ifF (by rw[hU];rfl) ?_;have eu2:=x2.get eu;walk_at "py";refine Zf w2 (by rw[qA];omega) (by rw[qA];omega) fun r3 g3 a3 b3 x3 w3=>?_;obtain⟨v3,ev3,hv3⟩:=ZH (xs:=(upl ds ps 0 ts).map q4V) (r:=r3) a3 b3;obtain⟨⟨pl,o,t,c⟩,_,rfl⟩:=q8.mp hv3;refine Zm (x3.get nu eu2) ev3 ?_;unfold q4V ZD;dsimp only;walk_at "py";refine mnT (fun z=>by rw[z]at hone;cases hone) fun mi=>?_;walk_at "py";refine Za fun p4 g4 hp4 x4 e4=>?_;have w4:=w3.ext x4;have n4:p4≠w:=fun z=>w3.ne hp4 z.symm;walk_at "py";refine Zf w4 (by decide) (by decide) fun r5 g5 a5 b5 x5 w5=>?_;obtain⟨v5,ev5,hv5⟩:=ZH (xs:=[Val.int mi,.int (o - 1),.int (-1),.int o]) (r:=r5) a5 b5;obtain⟨gh,rfl⟩:∃ i,v5=.int i:=by simp only[qE,List.not_mem_nil,or_false]at hv5;rcases hv5 with rfl|rfl|rfl|rfl<;>exact⟨_,rfl⟩
 refine Zm (x5.get n4 e4) ev5 ?_;walk_at "py";refine Zf w5 (by decide) (by decide) fun r6 g6 a6 b6 x6 w6=>?_;walk_at "py";have y6:ExtB w h g6:=((ExtB.of x12).trans x3).trans ((ExtB.of x4).trans (x5.trans x6));refine Za fun p g7 hp x7 e7=>?_;have np:p≠w:=fun z=>w6.ne hp z.symm;have hp0:h p=none:=by
  cases q:h p with
  |none=>rfl
  |some o =>
   by_cases z:p=w
   ·exact absurd z np
   ·rw[y6.get z q]at hp;cases hp
 have y7:ExtB w h g7:=y6.trans (.of x7);have w7:=w6.ext x7;walk_at "py";refine Zq (fun i en g=>∃ v12 l',en=[some (.ref w),some (ZD bs ts),some (Zp ds ps),some (.ref pt),some (.ref pu),some (.int pl),some (.int o),some (.int t),some (.int c),some (.int gh),some (.int (r6 - 4)),some (.ref p),v12]∧ExtB w h g∧Row g w∧g p=some (.lst (l'.map rV))∧l'.length=i) ⟨_,[],rfl,y7,w7,e7,rfl⟩ (fun _ _ g _ ⟨_,_,_,x,_⟩=>lsE (x.get nw et)) ?_ ?_
 ·rintro i v en g hv ⟨v12,l',rfl,x,hr,ep,hl'⟩ K hK;rw[qF]at hv;obtain⟨S,hs,rfl⟩:=qD.mp hv;have hi:=(qK.mp hs).1;have fin:∀ (T:Rw),K [some (.ref w),some (ZD bs ts),some (Zp ds ps),some (.ref pt),some (.ref pu),some (.int pl),some (.int o),some (.int t),some (.int c),some (.int gh),some (.int (r6 - 4)),some (.ref p),some (rV T)] (upd g p (.lst (l'.map rV++[rV T]))):=fun T=>hK _ _ ⟨_,l'++[T],rfl,Yt x hp0,hr.exb np,by rw[qJ];exact upd_same,by rw[qU,hl'];rfl⟩;have la:(l'.map rV).length<lim:=by rw[qA];omega
  rw[ev S];walk_at "py";by_cases h1:S.1=o
  ·refine ifT (qQ h1) ?_;walk_at "py";by_cases h2:o=t
   ·refine ifT (qQ h2) ?_;walk_at "py";exact fin (t,gh,r6 - 4+c,some pl)
   ·refine ifF (qP h2) ?_;walk_at "py";exact fin (o,gh,r6 - 4,some pl)
  ·refine ifF (qP h1) ?_;walk_at "py";by_cases h2:S.1=t
   ·refine ifT (qQ h2) ?_;walk_at "py";exact fin (t,gh,r6 - 4+c,some pl)
   ·refine ifF (qP h2) ?_;walk_at "py";exact fin S
 ·rintro en g ⟨v7,l',rfl,x,hr,ep,hl'⟩;rw[qA]at hl';walk_at "py";exact k _ g x hr (.rows ep (by omega))
theorem Eg{D:Int→Int→Option Int}{b r v:Int}(f:Fn2 (fun b e=>e∈ups ts ds ps b) (·∈bup bs ds) D)(hb:b∈bup bs ds)(hv:D b r=some v)(hn:b≠r):∃ x l a c u,(upl ds ps 0 ts).filterMap (cd D r b)=x::l∧minR x l=[a,c,u]:=by
 obtain⟨e0,c0,h2,_,_⟩:=f.way hv hn;have m0:=(YR (D:=D) (r:=r) hb).mpr ⟨e0,h2,rfl⟩;cases q:(upl ds ps 0 ts).filterMap (cd D r b)with
 |nil=>rw[q]at m0;cases m0
 |cons x l =>have m1:=(Yj l x).1;rw[←q]at m1;obtain⟨e,he,hx⟩:=(YR hb).mp m1;exact⟨x,l,_,_,_,rfl,hx⟩
theorem NW {r:Int}(no:NetOk bs ts) (et:h pt=some (.lst (l.map rV))) (hl:l.length≤10) (hh:∀ R∈l,R.1∈bup bs ds) (k:∀ v g,Ext h g→SP g v→Q v g):wF P (n+3) "_law_rooted" [ZD bs ts,Zp ds ps,.ref pt,.int r] h Q X:=by
 have hlim:lim=1000000:=rfl;have ev:∀ R:Rw,rV R=.tup [.int R.1,.int R.2.1,.int R.2.2.1,oU R.2.2.2]:=fun _=>rfl;have h16:=no.sixteen;have hul:=YC (ds:=ds) (ps:=ps) ts 0;refine Jn ?_;walk_at "py";refine W8 no fun pc D c g1 hpc x1 pm fn=>?_;walk_at "py";refine Za fun p g2 hp x2 e2=>?_;have x12:=x1.trans x2;have hp0:h p=none:=by
  cases q:h p with
  |none=>rfl
  |some o=>rw[x1.get q]at hp;cases hp
 have hpp:pc≠p:=by rintro rfl;obtain⟨kvs,q,_⟩:=pm;rw[q]at hp;cases hp
 walk_at "py";refine Zq (fun i en g=>∃ v6 v7 v8 v9 v10 v11 v12 v13 v14 l',en=[some (ZD bs ts),some (Zp ds ps),some (.ref pt),some (.int r),some (.ref pc),some (.ref p),v6,v7,v8,v9,v10,v11,v12,v13,v14]∧Ext h g∧Pm g pc D c∧g p=some (.lst (l'.map rV))∧l'.length=i) ⟨_,_,_,_,_,_,_,_,_,[],rfl,x12,pm.ext x2,e2,rfl⟩ (fun _ _ g _ ⟨_,_,_,_,_,_,_,_,_,_,_,x,_⟩=>lsE (x.get et)) ?_ ?_
 ·rintro i v en g hv ⟨v6,v7,v8,v9,v10,v11,v12,v13,v14,l',rfl,x,pm,ep,hl'⟩ K hK;rw[qF]at hv;obtain⟨S,hs,rfl⟩:=qD.mp hv;have hi:=(qK.mp hs).1;have hb:=hh S (qY hs);rw[ev S];walk_at "py";refine ZY ?_;walk_at "py";refine NJ pm ?_;walk_at "py";cases hv1:D S.1 r with
  |none =>refine ifF rfl ?_;walk_at "py";refine Zw ep (by rw[qA];omega) ?_;walk_at "py";refine hK _ _ ⟨_,_,_,_,_,_,_,_,_,l'++[S],rfl,ZC x hp0,?_,by rw[qJ];exact upd_same,by rw[qU,hl'];rfl⟩;obtain⟨kvs,z1,z2⟩:=pm;exact⟨kvs,(upd_ne hpp).trans z1,z2⟩
  |some v =>
  refine ifT rfl ?_;walk_at "py";refine Za fun q g4 hq x4 e4=>?_;have hqp:q≠p:=by rintro rfl;rw[ep]at hq;cases hq
  have hqc:q≠pc:=by rintro rfl;obtain⟨kvs,z,_⟩:=pm;rw[z]at hq;cases hq
  have hq0:h q=none:=by
   cases z:h q with
   |none=>rfl
   |some o=>rw[x.get z]at hq;cases hq
  walk_at "py";refine Jv no.sixteen fun pu g5 hpu x5 eu=>?_;have e45:=x5.get e4;have hqu:pu≠q:=by rintro rfl;rw[e4]at hpu;cases hpu
  have e15:=x5.get (x4.get ep);have pm5:=(pm.ext x4).ext x5;have x05:=(x.trans x4).trans x5;walk_at "py";refine Zq (fun i en g=>∃ v9 v10 v11 v12 v13,en=[some (ZD bs ts),some (Zp ds ps),some (.ref pt),some (.int r),some (.ref pc),some (.ref p),some (rV S),some (.int S.1),some (.ref q),v9,v10,v11,v12,v13,v14]∧Ext h g∧Pm g pc D c∧g p=some (.lst (l'.map rV))∧g pu=some (.lst ((upl ds ps 0 ts).map q4V))∧g q=some (.lst ((((upl ds ps 0 ts).take i).filterMap (cd D r S.1)).map YA))) ⟨_,_,_,_,_,rfl,x05,pm5,e15,eu,e45⟩ (fun _ _ g _ ⟨_,_,_,_,_,_,_,_,_,e,_⟩=>lsE e) ?_ ?_
  ·rintro j v' en g hv ⟨v9,v10,v11,v12,v13,rfl,x,pm,ep,eu,eq⟩ K hK;rw[qF]at hv;obtain⟨⟨pl,o,t,cc⟩,hs,rfl⟩:=qD.mp hv;have hj:=(qK.mp hs).1;have tk2:((upl ds ps 0 ts).take (j+1)).filterMap (cd D r S.1)=((upl ds ps 0 ts).take j).filterMap (cd D r S.1)++(cd D r S.1 (pl,o,t,cc)).toList:=by
    rw[qW,hs,List.filterMap_append];congr 1
   have hln:(((upl ds ps 0 ts).take j).filterMap (cd D r S.1)).length≤16:=zH (List.length_filterMap_le _ _) (by rw[qV];omega);unfold q4V;walk_at "py";refine KZ (ns:=[o,t]) ?_;walk_at "py";by_cases hc:S.1=o∨S.1=t
   ·refine ifT (qQ (by simpa using hc)) ?_;have hcd:cd D r S.1 (pl,o,t,cc)=some [(D (o+t - S.1) r).getD 0+cc,o+t - S.1,pl]:=if_pos hc;have he:∃ e∈ups ts ds ps S.1,e.2.1=o+t - S.1:=by
     obtain⟨e,he,hx⟩:=(YR (D:=D) (r:=r) hb).mp (zM.mpr ⟨_,qY hs,hcd⟩);injection hx with _ hx;injection hx with hx _;exact⟨e,he,hx.symm⟩
    obtain⟨e,he,hfe⟩:=he;obtain⟨u,hu⟩:=fn.sam hb he hv1;rw[hfe]at hu;walk_at "py";refine ZY ?_;refine XB pm hu ?_;walk_at "py";refine Zw eq (by rw[qA];omega) ?_;walk_at "py";refine hK _ _ ⟨_,_,_,_,_,rfl,ZC x hq0,?_,?_,?_,?_⟩
    ·obtain⟨kvs,z1,z2⟩:=pm;exact⟨kvs,(upd_ne hqc.symm).trans z1,z2⟩
    ·exact(upd_ne hqp.symm).trans ep
    ·exact(upd_ne hqu).trans eu
    ·rw[tk2,hcd,hu,qJ];exact upd_same
   ·refine ifF (qP (by simpa using hc)) ?_;have hcd:cd D r S.1 (pl,o,t,cc)=none:=if_neg hc;walk_at "py";exact hK _ _ ⟨_,_,_,_,_,rfl,x,pm,ep,eu,by rw[tk2,hcd];simpa using eq⟩
  ·rintro en g ⟨v9,v10,v11,v12,v13,rfl,x,pm,ep,eu,eq⟩;rw[qA,zC]at eq;have fin:∀ (u:Option Int),K [some (ZD bs ts),some (Zp ds ps),some (.ref pt),some (.int r),some (.ref pc),some (.ref p),some (rV (S.1,r,v,u)),some (.int S.1),some (.ref q),v9,v10,v11,v12,v13,some (oU u)] (upd g p (.lst (l'.map rV++[rV (S.1,r,v,u)]))):=fun u=>by
    refine hK _ _ ⟨_,_,_,_,_,_,_,_,_,l'++[(S.1,r,v,u)],rfl,ZC x hp0,?_,by rw[qJ];exact upd_same,by rw[qU,hl'];rfl⟩;obtain⟨kvs,z1,z2⟩:=pm;exact⟨kvs,(upd_ne hpp).trans z1,z2⟩
   have la:(l'.map rV).length<lim:=by rw[qA];omega
   walk_at "py";by_cases hne:S.1=r
   ·refine ifF (by simp[hne]) ?_;walk_at "py";refine ZY ?_;refine XB pm hv1 ?_;walk_at "py";exact fin none
   ·refine ifT (by simp[hne]) ?_;obtain⟨y,ll,a0,c0,u,q1,q4⟩:=Eg fn hb hv1 hne;rw[q1]at eq;walk_at "py";refine mnR eq Jd (We _) ?_;rw[q4];walk_at "py";refine ZY ?_;refine XB pm hv1 ?_;walk_at "py";exact fin (some u)
 ·rintro en g ⟨v6,v7,v8,v9,v10,v11,v12,v13,v14,l',rfl,x,pm,ep,hl'⟩;rw[qA]at hl';walk_at "py";exact k _ g x (.rows ep (by omega))
end
theorem SP.it{g:Hs}{a:Ad}{xs:List Val}(e:g a=some (.lst xs))(hl:xs.length≤1000)(hx:∀ x∈xs,IT g x):SP g (.ref a):=.inl ⟨a,xs,rfl,e,hl,hx⟩
theorem GH{h:Hs}{m:Nat}(hm:m≤1000):biV h .listRange [.int m]=.new (.lst ((List.range m).map fun n=>.int (n:Nat))):=by have e:biV h .listRange [.int m]=rangeL (.int m):=rfl;rw[e];unfold rangeL;dsimp only;rw[if_pos ⟨by omega,by omega⟩,Int.toNat_natCast]
section
variable {pt:Ad}{l:List Rw}{bs ds ps:List Int}{ts:List Tie}
theorem E8{N B C:NQ}{X:EQ}{env:Env}(he:env=[some (.ref w),some (ZD bs ts),some (Zp ds ps),some (.ref pt),env.getD 4 none,none,none,none,none,none,none,none,none])(hw:Row h w)(nw:pt≠w)(et:h pt=some (.lst (l.map rV)))(hl:l.length≤10)(k:∀ v g,ExtB w h g→Row g w→SP g v→Q v g) :
  wSs (wF P (n+1)) (.cons (.set (.one 5) (.lst (.cons (.bi .tuple (.cons (.var 3) .nil)) (.cons (.cst .non) (.cons (.dct .nil) (.cons (.cst (.str "tree")) (.cons (.lst (.cons (.cst .non) .nil)) (.cons (.lst (.cons (.tup .nil) .nil)) (.cons (.lst (.cons (.tup (.cons (.cst (.int 0)) (.cons (.cst (.int 0)) (.cons (.cst (.int 0)) (.cons (.cst .non) .nil))))) .nil)) (.cons (.bin .add (.var 3) (.lst (.cons (.cst .non) .nil))) .nil))))))))))
  (.cons (.ret (.idx (.bin .add (.var 5) (.lst (.cons (.lst (.cons (.dct (.cons (.cst (.int 0)) (.cons (.cst (.int 4)) (.cons (.cst (.int 1)) (.cons (.cst (.int 4)) (.cons (.cst (.int 2)) (.cons (.cst (.int 0)) (.cons (.cst (.int 3)) (.cons (.cst .non) .nil))))))))) .nil)) .nil))) (.call "_law_take" (.cons (.var 0) (.cons (.cst (.int 9)) .nil)))))
  .nil)) env h N Q B C X:=by
 have hlim:(1000:Nat)≤lim:=by decide
 rw[he];walk_at "py";intro p1 hp1;have x1:=Ext.new (o:=.dct []) hp1;have e1:upd h p1 (.dct []) p1=some (.dct []):=upd_same;generalize upd h p1 (.dct [])=g1 at x1 e1 ⊢;walk_at "py";refine Za fun p2 g2 hp2 x2 e2=>?_;walk_at "py";refine Za fun p3 g3 hp3 x3 e3=>?_;walk_at "py";refine Za fun p4 g4 hp4 x4 e4=>?_;walk_at "py";refine Za fun p5 g5 hp5 x5 e5=>?_;have x15:=(((x1.trans x2).trans x3).trans x4).trans x5;refine ZN (x15.get et) e5 (by rw[qU,qA];simp;omega) ?_;refine Za fun p6 g6 hp6 x6 e6=>?_;walk_at "py";refine Za fun p7 g7 hp7 x7 e7=>?_;walk_at "py";refine Za fun p8 g8' hp8 x8' e8'=>?_;walk_at "py";refine go_of rfl ⟨e8',?_⟩;have x8:=ZC (o:=.dct (putAll [] [(.int 0,.int 4),(.int 1,.int 4),(.int 2,.int 0),(.int 3,.non)])) x8' hp8;have e8:upd g8' p8 (.dct (putAll [] [(.int 0,.int 4),(.int 1,.int 4),(.int 2,.int 0),(.int 3,.non)])) p8=some (.dct (putAll [] [(.int 0,.int 4),(.int 1,.int 4),(.int 2,.int 0),(.int 3,.non)])):=upd_same;generalize upd g8' p8 (.dct (putAll [] [(.int 0,.int 4),(.int 1,.int 4),(.int 2,.int 0),(.int 3,.non)]))=g8 at x8 e8 ⊢;walk_at "py";refine Za fun p9 g9 hp9 x9 e9=>?_;walk_at "py";refine Za fun p10 g10 hp10 x10 e10=>?_;refine ZN ((x8.trans (x9.trans x10)).get e7) e10 (by simp[lim]) ?_;refine Za fun p11 g11 hp11 x11 e11=>?_;have y6:=x15.trans x6;have y7:=y6.trans x7;have y11:=((y7.trans x8).trans (x9.trans x10)).trans x11;have w11:=hw.ext y11;have hp11':h p11=none:=by
  cases q:h p11 with
  |none=>rfl
  |some o=>rw[((y7.trans x8).trans (x9.trans x10)).get q]at hp11;cases hp11
 have n11:p11≠w:=fun z=>hw.ne hp11' z.symm;have nn:∀ {p:Ad}{g:Hs},Ext h g→g p=none→p≠w:=fun {p g} x e z=>(hw.ext x).ne e z.symm;have n1:=nn Ext.refl hp1;have n2:=nn x1 hp2;have n3:=nn (x1.trans x2) hp3;have n4:=nn ((x1.trans x2).trans x3) hp4;have n6:=nn x15 hp6;have n8:=nn y7 hp8;have n9:=nn (y7.trans x8) hp9;walk_at "py";refine Zf w11 (by decide) (by decide) fun r g a b x12 w12=>?_;obtain⟨v,ev,hv⟩:=ZH (xs:=[Val.tup (l.map rV),.non,.ref p1,.str "tree",.ref p2,.ref p3,.ref p4,.ref p6,.ref p9]) (r:=r) a b;refine Zm (x12.get n11 e11) ev (k v g ((ExtB.of y11).trans x12) w12 ?_);have z9:Ext g9 g11:=x10.trans x11;have z6:Ext g6 g11:=(x7.trans x8).trans (x9.trans z9);have z4:Ext g4 g11:=(x5.trans x6).trans z6;simp only[qE,List.not_mem_nil,or_false]at hv;rcases hv with rfl|rfl|rfl|rfl|rfl|rfl|rfl|rfl|rfl
 ·exact .inr (.inr (.inr (.inr ⟨l,rfl⟩)))
 ·exact .inr (.inr (.inl rfl))
 ·exact .inr (.inl ⟨p1,rfl,x12.get n1 ((((x2.trans x3).trans x4).trans z4).get e1)⟩)
 ·exact .inr (.inr (.inr (.inl ⟨_,rfl⟩)))
 ·exact .it (x12.get n2 (((x3.trans x4).trans z4).get e2)) (by decide) fun x hx=>by rw[zL.mp hx];exact OD.non.it fun _ z=>by cases z
 ·exact .it (x12.get n3 ((x4.trans z4).get e3)) (by decide) fun x hx=>by rw[zL.mp hx];exact .tup fun _ h=>nomatch h
 ·exact .rows (l:=[(0,0,0,none)]) (x12.get n4 (z4.get e4)) (by decide)
 ·refine .it (x12.get n6 (z6.get e6)) (by rw[qU,qA];simp;omega) fun x hx=>?_;rcases q9.mp hx with hx|hx
  ·obtain⟨R,_,rfl⟩:=q8.mp hx;exact .rV R
  ·rw[zL.mp hx];exact OD.non.it fun _ z=>by cases z
 ·refine .it (x12.get n9 (z9.get e9)) (by simp) fun x hx=>?_;rw[zL.mp hx];have e8g:=x12.get n8 ((x9.trans z9).get e8);exact⟨⟨⟨"dict",by unfold kindV;simp only[e8g]⟩,fun _ z=>by cases z⟩,rfl⟩
theorem Ye{g:Hs}{a:Ad}{l:List Rw}{xs:List Val}(hl:l.length≤10)(lo hi lo' hi':Option Int)(ea:g a=some (.lst ((cut (l.map rV) lo hi++xs)++cut (l.map rV) lo' hi')))(hx:∀ x∈xs,IT g x)(hxl:xs.length≤10):SP g (.ref a):=by
 have h1:=XN (l.map rV) lo hi;have h2:=XN (l.map rV) lo' hi';rw[qA]at h1 h2;refine .it ea (by rw[qU,qU];omega) fun x hx'=>?_;have row:∀ {lo hi:Option Int},x∈cut (l.map rV) lo hi→IT g x:=fun {lo hi} hm=>by rw[BN]at hm;obtain⟨R,_,rfl⟩:=q8.mp hm;exact .rV R
 rcases q9.mp hx' with h|h
 ·rcases q9.mp h with h|h
  ·exact row h
  ·exact hx x h
 ·exact row h
theorem N0 {t:Int→Rw}(no:NetOk bs ts) (tr:TR (fun b e=>e∈ups ts ds ps b) (·∈bup bs ds) t) (hw:Row h w) (nw:pt≠w) (et:h pt=some (.lst (((bup bs ds).map t).map rV))) (k:∀ v g,ExtB w h g→Row g w→SP g v→Q v g):wF P (n+4) "_law_spoilt" [.ref w,ZD bs ts,Zp ds ps,.ref pt] h Q X:=by
 have hlim:lim=1000000:=rfl;have ev:∀ R:Rw,rV R=.tup [.int R.1,.int R.2.1,.int R.2.2.1,oU R.2.2.2]:=fun _=>rfl;have h10:=no.ten;have h16:=no.sixteen;have hl:((bup bs ds).map t).length≤10:=by rw[qA];exact zH (List.length_filter_le _ _) h10
 have hh:∀ R∈(bup bs ds).map t,R.1∈bup bs ds:=fun R hR=>by obtain⟨b,hb,rfl⟩:=q8.mp hR;rw[tr.key b hb];exact hb
 generalize (bup bs ds).map t=l at et hl hh;refine JW ?_;walk_at "py";refine Zf hw (by decide) (by decide) fun kd g1 a1 b1 x1 w1=>?_;have et1:=x1.get nw et;walk_at "py";refine Za fun p2 g2 hp2 x2 e2=>?_;refine c_eqE (x2.get et1) e2 ?_;have et2:=x2.get et1;have w2:=w1.ext x2;have y2:ExtB w h g2:=x1.trans (.of x2);walk_at "py";have odd:=fun(N B C:NQ) (X:EQ)=>E8 (N:=N) (B:=B) (C:=C) (X:=X) (P:=P) (n:=n+2) (l:=l) (bs:=bs) (ds:=ds) (ps:=ps) (ts:=ts) (Q:=Q) (env:=[some (.ref w),some (ZD bs ts),some (Zp ds ps),some (.ref pt),some (.int kd),none,none,none,none,none,none,none,none]) rfl w2 nw et2 hl fun v g x w s=>k v g (y2.trans x) w s;cases hll:l with
 |nil =>refine ifT rfl ?_;refine ifT rfl ?_;exact odd _ _ _ _
 |cons l0 lr =>
 refine ifF rfl ?_;walk_at "py";by_cases hk0:kd=0
 ·refine ifT (qQ hk0) ?_;exact odd _ _ _ _
 refine ifF (qP hk0) ?_;have hl1:1≤l.length:=by rw[hll];simp
 clear odd;clear hll;have hlm:(l.map rV).length=l.length:=qA _;walk_at "py";refine Zf w2 (by omega) (by omega) fun aq g3 a3 b3 x3 w3=>?_;have et3:=x3.get nw et2;walk_at "py";refine Zf w3 (by omega) (by omega) fun to g4 a4 b4 x4 w4=>?_;have et4:=x4.get nw et3;have y4:ExtB w h g4:=y2.trans (x3.trans x4);clear x1 x2 x3 x4;rw[hlm]at b3 b4;obtain⟨R,hR,mR⟩:=Js (xs:=l) a3 b3;obtain⟨T,hT,mT⟩:=Js (xs:=l) a4 b4;have ha:atI (l.map rV) aq=some (rV R):=Yl a3 (by rw[qF,hR];rfl);have hto:atI (l.map rV) to=some (rV T):=Yl a4 (by rw[qF,hT];rfl);have sub:∀ lo hi,(cut (l.map rV) lo hi).length≤10:=fun lo hi=>by have:=XN (l.map rV) lo hi;omega
 have k:=fun v g x w s=>k v g (y4.trans x) w s;walk_at "py";refine Zm et4 ha ?_;rw[ev R];walk_at "py";by_cases k1:kd=1
 ·refine ifT (qQ k1) ?_;walk_at "py";refine Za fun p5 g5 hp5 x5 e5=>?_;walk_at "py";refine Za fun p6 g6 hp6 x6 e6=>?_;have s1:=sub none (some aq);have s2:=sub (some (aq+1)) none;refine ZN (x6.get e5) e6 (by rw[qU];omega) ?_;refine Za fun p7 g7 hp7 x7 e7=>?_;exact k _ g7 (.of ((x5.trans x6).trans x7)) (((w4.ext x5).ext x6).ext x7) (Ye (xs:=[]) hl none (some aq) (some (aq+1)) none (by rw[zF];exact e7) (fun _ h=>nomatch h) (by decide))
 refine ifF (qP k1) ?_;walk_at "py";by_cases k2:kd=2
 ·refine ifT (qQ k2) ?_;walk_at "py";refine Za fun p5 g5 hp5 x5 e5=>?_;walk_at "py";refine Zm (x5.get et4) ha ?_;walk_at "py";refine Za fun p6 g6 hp6 x6 e6=>?_;have s1:=sub none (some to);have s2:=sub (some to) none;refine ZN (x6.get e5) e6 (by rw[qU];simp;omega) ?_;refine Za fun p7 g7 hp7 x7 e7=>?_;have y7:=(x5.trans x6).trans x7;walk_at "py";refine Za fun p8 g8 hp8 x8 e8=>?_;refine ZN (x8.get e7) e8 (by rw[qU,qU];simp;omega) ?_;refine Za fun p9 g9 hp9 x9 e9=>?_;have y9:=y7.trans (x8.trans x9);exact k _ g9 (.of y9) (w4.ext y9) (Ye hl _ _ _ _ e9 (fun x hx=>by rw[zL.mp hx];exact .rV R) (by simp))
 refine ifF (qP k2) ?_;walk_at "py";by_cases k3:kd=3
 ·refine ifT (qQ k3) ?_;walk_at "py";refine Za fun p5 g5 hp5 x5 e5=>?_;walk_at "py";refine Za fun p6 g6 hp6 x6 e6=>?_;have w6:=(w4.ext x5).ext x6;have n6:p6≠w:=fun z=>(w4.ext x5).ne hp6 z.symm;have n5:p5≠w:=fun z=>w4.ne hp5 z.symm;walk_at "py";refine Zf w6 (by decide) (by decide) fun r7 g7 a7 b7 x7 w7=>?_;obtain⟨v7,ev7,hv7⟩:=ZH (xs:=[Val.int 1,.int (-1),.int 5]) (r:=r7) a7 b7;obtain⟨mo,rfl⟩:∃ i,v7=.int i:=by
   simp only[qE,List.not_mem_nil,or_false]at hv7;rcases hv7 with rfl|rfl|rfl<;>exact⟨_,rfl⟩
  refine Zm (x7.get n6 e6) ev7 ?_;have e57:=x7.get n5 (x6.get e5);have y7:ExtB w g4 g7:=(ExtB.of (x5.trans x6)).trans x7;have et7:=y7.get nw et4;walk_at "py";refine Za fun p8 g8 hp8 x8 e8=>?_;have s1:=sub none (some aq);have s2:=sub (some (aq+1)) none;refine ZN (x8.get e57) e8 (by rw[qU];simp;omega) ?_;refine Za fun p9 g9 hp9 x9 e9=>?_;have et9:=x9.get (x8.get et7);walk_at "py";refine Za fun p10 g10 hp10 x10 e10=>?_;refine ZN (x10.get e9) e10 (by rw[qU,qU];simp;omega) ?_;refine Za fun p11 g11 hp11 x11 e11=>?_;have z11:=(x8.trans x9).trans (x10.trans x11);exact k _ g11 (y7.trans (.of z11)) (w7.ext z11) (Ye hl _ _ _ _ e11 (fun x hx=>by rw[zL.mp hx];exact .rV (R.1,R.2.1,R.2.2.1+mo,R.2.2.2)) (by simp))
 refine ifF (qP k3) ?_;walk_at "py";by_cases k4:kd=4
 ·refine ifT (qQ k4) ?_;have en:ZD bs ts=.tup [.tup (bs.map .int),.tup (ts.map Zs)]:=rfl;rw[en];walk_at "py";refine Za fun p5 g5 hp5 x5 e5=>?_;walk_at "py";refine wp_new (GH (m:=(ts.map Zs).length) (by rw[qA];omega)) ?_;refine Za fun p6 g6 hp6 x6 e6=>?_;refine ZN (x6.get e5) e6 (by simp;omega) ?_;refine Za fun p7 g7 hp7 x7 e7=>?_;have hU:∀ x∈[Val.non,.int (-1),.int (ts.map Zs).length,oU R.2.2.2,.int 0]++(List.range (ts.map Zs).length).map (fun n=>Val.int (n:Nat)),∃ u,x=oU u:=fun x hx=>by
   rcases q9.mp hx with hx|hx
   ·simp only[qE,List.not_mem_nil,or_false]at hx;rcases hx with rfl|rfl|rfl|rfl|rfl
    ·exact⟨none,rfl⟩
    ·exact⟨some _,rfl⟩
    ·exact⟨some _,rfl⟩
    ·exact⟨_,rfl⟩
    ·exact⟨some _,rfl⟩
   ·obtain⟨m,_,rfl⟩:=q8.mp hx;exact⟨some _,rfl⟩
  have hUl:5≤([Val.non,.int (-1),.int (ts.map Zs).length,oU R.2.2.2,.int 0]++(List.range (ts.map Zs).length).map (fun n=>Val.int (n:Nat))).length∧([Val.non,.int (-1),.int (ts.map Zs).length,oU R.2.2.2,.int 0]++(List.range (ts.map Zs).length).map (fun n=>Val.int (n:Nat))).length≤21:=by simp;omega
  generalize [Val.non,.int (-1),.int (ts.map Zs).length,oU R.2.2.2,.int 0]++(List.range (ts.map Zs).length).map (fun n=>Val.int (n:Nat))=us at e7 hU hUl;have y7:=(x5.trans x6).trans x7;have w7:=w4.ext y7;have n7:p7≠w:=fun z=>(w4.ext (x5.trans x6)).ne hp7 z.symm;have et7:=y7.get et4;walk_at "py";refine Za fun p8 g8 hp8 x8 e8=>?_;have w8:=w7.ext x8;have n8:p8≠w:=fun z=>w7.ne hp8 z.symm;have e78:=x8.get e7;walk_at "py";refine Zf w8 (by omega) (by omega) fun r9 g9 a9 b9 x9 w9=>?_;obtain⟨v9,ev9,hv9⟩:=ZH (xs:=us) (r:=r9) a9 b9;obtain⟨u,rfl⟩:=hU v9 hv9;refine Zm (x9.get n7 e78) ev9 ?_;have e89:=x9.get n8 e8;have et9:=x9.get nw (x8.get et7);walk_at "py";refine Za fun p10 g10 hp10 x10 e10=>?_;have s1:=sub none (some aq);have s2:=sub (some (aq+1)) none;refine ZN (x10.get e89) e10 (by rw[qU];simp;omega) ?_;refine Za fun p11 g11 hp11 x11 e11=>?_;have et11:=x11.get (x10.get et9);walk_at "py";refine Za fun p12 g12 hp12 x12 e12=>?_;refine ZN (x12.get e11) e12 (by rw[qU,qU];simp;omega) ?_;refine Za fun p13 g13 hp13 x13 e13=>?_;have z13:=(x10.trans x11).trans (x12.trans x13);exact k _ g13 (((ExtB.of (y7.trans x8)).trans x9).trans (.of z13)) (w9.ext z13) (Ye hl _ _ _ _ e13 (fun x hx=>by rw[zL.mp hx];exact .rV (R.1,R.2.1,R.2.2.1,u)) (by simp))
 refine ifF (qP k4) ?_;walk_at "py";by_cases k5:kd=5
 ·refine ifT (qQ k5) ?_;walk_at "py";refine Za fun p5 g5 hp5 x5 e5=>?_;have w5:=w4.ext x5;have n5:p5≠w:=fun z=>w4.ne hp5 z.symm;have et5:=x5.get et4;walk_at "py";refine BU w5 nw et5 ha fun v g6 x6 w6 it=>?_;have e56:=x6.get n5 e5;have et6:=x6.get nw et5;walk_at "py";refine Za fun p7 g7 hp7 x7 e7=>?_;have s1:=sub none (some aq);have s2:=sub (some (aq+1)) none;refine ZN (x7.get e56) e7 (by rw[qU];simp;omega) ?_;refine Za fun p8 g8 hp8 x8 e8=>?_;have et8:=x8.get (x7.get et6);walk_at "py";refine Za fun p9 g9 hp9 x9 e9=>?_;refine ZN (x9.get e8) e9 (by rw[qU,qU];simp;omega) ?_;refine Za fun p10 g10 hp10 x10 e10=>?_;have z10:=(x7.trans x8).trans (x9.trans x10);exact k _ g10 (((ExtB.of x5).trans x6).trans (.of z10)) (w6.ext z10) (Ye hl _ _ _ _ e10 (fun x hx=>by rw[zL.mp hx];exact it.ext z10) (by simp))
 refine ifF (qP k5) ?_;walk_at "py";by_cases k6:kd=6
 ·refine ifT (qQ k6) ?_;walk_at "py";exact F0 w4 nw et4 hl ha k
 refine ifF (qP k6) ?_;walk_at "py";by_cases k7:kd=7
 ·refine ifT (qQ k7) ?_;walk_at "py";exact BE no w4 nw et4 hl k
 refine ifF (qP k7) ?_;walk_at "py";by_cases k8:kd=8
 ·refine ifT (qQ k8) ?_;walk_at "py";refine M5 w4 no.ten no.sixteen fun ds2 ps2 g5 sl lp x5 w5=>?_;walk_at "py";refine KH no fun pd f g6 hpd x6 tf ed=>?_;exact k _ g6 (x5.trans (.of x6)) (w5.ext x6) (.rows ed (by rw[qA];exact zH (List.length_filter_le _ _) (by omega)))
 refine ifF (qP k8) ?_;walk_at "py";by_cases k9:kd=9
 ·refine ifT (qQ k9) ?_;walk_at "py";refine Za fun p5 g5 hp5 x5 e5=>?_;have et5:=x5.get et4;walk_at "py";refine Za fun p6 g6 hp6 x6 e6=>?_;have s1:=sub none (some aq);have s2:=sub (some aq) none;refine ZN (x6.get e5) e6 (by rw[qU];omega) ?_;refine Za fun p7 g7 hp7 x7 e7=>?_;exact k _ g7 (.of ((x5.trans x6).trans x7)) (((w4.ext x5).ext x6).ext x7) (Ye (xs:=[]) hl _ _ _ _ (by rw[zF];exact e7) (fun _ h=>nomatch h) (by decide))
 refine ifF (qP k9) ?_;walk_at "py";by_cases k10:kd=10
 ·refine ifT (qQ k10) ?_;walk_at "py";exact NW no et4 hl hh fun v g x s=>k v g (.of x) (w4.ext x) s
 refine ifF (qP k10) ?_;walk_at "py";by_cases k11:kd=11
 ·refine ifT (qQ k11) ?_;walk_at "py";refine⟨by show(l.map rV).length<lim;omega,Z1 (fun i zs g=>∃ m:List Rw,zs=m.map rV∧m.length=i∧ExtB w g4 g∧Row g w) ⟨[],rfl,rfl,ExtB.refl,w4⟩ (fun _ _ g _ ⟨_,_,_,x,_⟩=>lsE (x.get nw et4)) (fun i v zs g hv hI K hK=>?_) (fun zs g hI=>?_)⟩
  ·obtain⟨m,rfl,hm,x,hr⟩:=hI;have etg:=x.get nw et4;walk_at "py";refine ifT rfl ?_;walk_at "py";refine Zf hr (by omega) (by omega) fun r5 g5 a5 b5 x5 w5=>?_;obtain⟨S,hS,_⟩:=Js (xs:=l) a5 (by omega);refine Zm (x5.get nw etg) (v:=rV S) (Yl a5 (by rw[qF,hS];rfl)) ?_;exact hK _ _ ⟨m++[S],by rw[qJ];rfl,by rw[qU,hm];rfl,x.trans x5,w5⟩
  ·obtain⟨m,rfl,hm,x,hr⟩:=hI;have hm:m.length=(l.map rV).length:=hm;refine Za fun p5 g5 hp5 x5 e5=>?_;exact k _ g5 (x.trans (.of x5)) (hr.ext x5) (.rows e5 (by omega))
 refine ifF (qP k11) ?_;walk_at "py";refine Za fun p5 g5 hp5 x5 e5=>?_;have et5:=x5.get et4;have n5:p5≠w:=fun z=>w4.ne hp5 z.symm;have w5:=w4.ext x5;have npt:pt≠p5:=fun z=>by rw[z]at et4;rw[et4]at hp5;cases hp5
 walk_at "py";refine Zm et5 ha ?_;walk_at "py";refine Jp e5 (K8 a4 (by omega)) ?_;have e6:upd g5 p5 (.lst ((l.map rV).set to.toNat (rV R))) p5=some (.lst ((l.set to.toNat R).map rV)):=upd_same.trans (by simp only[List.map_set]);have et6:upd g5 p5 (.lst ((l.map rV).set to.toNat (rV R))) pt=some (.lst (l.map rV)):=(upd_ne npt).trans et5;have x6:Ext g4 (upd g5 p5 (.lst ((l.map rV).set to.toNat (rV R)))):=ZC x5 hp5;generalize upd g5 p5 (.lst ((l.map rV).set to.toNat (rV R)))=g6 at e6 et6 x6 ⊢;walk_at "py";by_cases k12:kd=12
 ·refine ifT (qQ k12) ?_;walk_at "py";refine Zm et6 hto ?_;walk_at "py";refine Jp e6 (K8 a3 (by rw[qA,List.length_set];exact b3)) ?_;have e7:upd g6 p5 (.lst (((l.set to.toNat R).map rV).set aq.toNat (rV T))) p5=some (.lst (((l.set to.toNat R).set aq.toNat T).map rV)):=upd_same.trans (by simp only[List.map_set]);have x7:Ext g4 (upd g6 p5 (.lst (((l.set to.toNat R).map rV).set aq.toNat (rV T)))):=ZC x6 hp5;walk_at "py";exact k _ _ (.of x7) (w4.ext x7) (.rows e7 (by rw[List.length_set,List.length_set];omega))
 ·refine ifF (qP k12) ?_;walk_at "py";exact k _ _ (.of x6) (w4.ext x6) (.rows e6 (by rw[List.length_set];omega))
end
theorem FW{h:Hs}{l:List Rw}:eqV h (.tup (l.map rV)) (.tup (l.map rV))=some true:=by
 have d:dat h deep (.tup (l.map rV))=some (.tup (l.map rD)):=by unfold deep;rw[dat,MW];rfl
 unfold eqV;rw[d];show some (D.eqv (.tup _) (.tup _))=_;rw[D.eqv,M1];simp
noncomputable def fo (k:Int):Rw:=(4,4,0,none)
theorem Hi:NetOk [4] []:=⟨by decide,by decide,fun i hi=>by rw[zL.mp hi];decide,by simp,by decide,fun _ h=>nomatch h⟩
theorem tr4:TR (fun b e=>e∈ups [] [] [] b) (·∈bup [4] []) fo:=by have h4:∀ b,b∈bup [4] []→b=4:=fun b hb=>zL.mp (mem_bup.mp hb).1;refine⟨fun b hb e he=>?_,fun b hb=>(h4 b hb).symm,fun b hb=>.inl ⟨h4 b hb,rfl,rfl⟩⟩;obtain⟨i,t,h1,_⟩:=mem_ups.mp he;simp at h1
section
variable {bs ds ps:List Int}{ts:List Tie}
theorem law_ok {ns:List Int}(h63:ns.length≤63) (k:∀ g,Q (.bl true) g):wF P (n+6) "law" [.scr ns] h Q X:=by
 have hlim:(1000:Nat)≤lim:=by decide
 refine HL ?_;walk_at "py";refine Za fun p g1 hp x1 e1=>?_;walk_at "py";refine Za fun q g2 hq x2 e2=>?_;rw[UU]at e2;have hl:=XN ns none (some 20);refine ZN (x2.get e1) e2 (by simp[lim];omega) ?_;refine Za fun z g3 hz x3 e3=>?_;have ez:([Val.int 0]++(cut ns none (some 20)).map Val.int:List Val)=(0::cut ns none (some 20)).map Val.int:=rfl;rw[ez]at e3;generalize 0::cut ns none (some 20)=zs at e3;walk_at "py";refine Zq (fun i en g=>∃ v1 v2 v3 v4 v5 v6 v7 v8 v9,en=[some (.scr ns),v1,v2,v3,v4,v5,v6,v7,v8,v9]∧g z=some (.lst (zs.map Val.int))) ⟨_,_,_,_,_,_,_,_,_,rfl,e3⟩ (fun i en g _ ⟨_,_,_,_,_,_,_,_,_,_,e⟩=>lsE e) ?_ ?_
 ·rintro i v en g hv ⟨v1,v2,v3,v4,v5,v6,v7,v8,v9,rfl,ez⟩ K hK;rw[qF]at hv;obtain⟨c,_,rfl⟩:=qD.mp hv;walk_at "py";refine N6 fun w g2 w0 x2 w2=>?_;have hzw:z≠w:=Y2 ez w0;walk_at "py";refine En w2 fun bs ts g3 no x3 w3=>?_;have ez3:=x3.get hzw (x2.get ez);have h10:=no.ten;walk_at "py";refine M5 w3 no.ten no.sixteen fun ds ps g4 sl lp x4 w4=>?_;have hbl:((bup bs ds)).length≤10:=zH (List.length_filter_le _ _) h10;have ez4:=x4.get hzw ez3;walk_at "py";refine KH no fun pt t g5 hpt x5 tr et=>?_;have nw:pt≠w:=fun q=>w4.ne hpt q.symm;have w5:=w4.ext x5;have ez5:=x5.get ez4;have hl10:((bup bs ds).map t).length≤10:=by rw[qA];exact hbl
  walk_at "py";refine Za fun p6 g6 hp6 x6 e6=>?_;have s6:SP g6 (.ref p6):=.rows e6 (by omega);walk_at "py";refine Z2 no tr s6.ts fun g7 x7=>?_;rw[Yo e6,qQ rfl];walk_at "py";refine c_ntT ?_;walk_at "py";refine ifF rfl ?_;have et7:=x7.get (x6.get et);have ez7:=x7.get (x6.get ez5);have w7:=(w5.ext x6).ext x7;walk_at "py";refine⟨⟨by decide,by decide⟩,?_⟩;refine Zq (fun i en g=>∃ v6 v7 v8 v9,en=[some (.scr ns),some (.int c),some (.ref w),some (ZD bs ts),some (Zp ds ps),some (.ref pt),v6,v7,v8,v9]∧g z=some (.lst (zs.map Val.int))∧Row g w∧g pt=some (.lst (((bup bs ds).map t).map rV))) ⟨_,_,_,_,rfl,ez7,w7,et7⟩ (fun _ _ _ _ _=>trivial) ?_ ?_
  ·rintro j v en g hv ⟨v6,v7,v8,v9,rfl,ez,hw,et⟩ K hK;obtain⟨rfl,_⟩:=YD hv;walk_at "py";refine N0 no tr hw nw et fun v g8 x8 w8 sp=>?_;have et8:=x8.get nw et;have ez8:=x8.get hzw ez;have ts8:=sp.ts;walk_at "py";rcases sp with⟨a,xs,rfl,ea,hxl,hxs⟩|sp
   ·refine YH (ZP ea) ?_;walk_at "py";refine ifT rfl ?_;walk_at "py";refine Za fun p9 g9 hp9 x9 e9=>?_;have s9:SP g9 (.ref p9):=.it e9 hxl fun x hx=>(hxs x hx).ext x9;walk_at "py";refine Z2 no tr s9.ts fun g10 x10=>?_;rw[Yo e9];have y10:=x9.trans x10;walk_at "py";refine ifF (by simp) ?_;walk_at "py";refine JZ (ts8.ext y10) (y10.get et8) hl10 fun g11 x11=>?_;rw[Yo (y10.get ea)];refine YL (c:=true) (by cases decide (xs=((bup bs ds).map t).map rV)<;>rfl) ?_;walk_at "py";refine ifF rfl ?_;walk_at "py";have y11:=y10.trans x11;refine Uz ?_ ?_
    ·unfold sam0 asLst;simp only[(x10.trans x11).get e9,y11.get ea,ZX];rw[Xr fun x hx=>UQ 8 (hxs x hx).2];rfl
    walk_at "py";refine ifF rfl ?_;walk_at "py";exact hK _ _ ⟨_,_,_,_,rfl,y11.get ez8,w8.ext y11,y11.get et8⟩
   ·have nl:∃ t',kindV g8 v=some t'∧t'≠"list":=by
     rcases sp with⟨a,rfl,e⟩|rfl|⟨s,rfl⟩|⟨l,rfl⟩
     ·exact⟨"dict",by unfold kindV;simp only[e],by decide⟩
     ·exact⟨_,rfl,by decide⟩
     ·exact⟨_,rfl,by decide⟩
     ·exact⟨_,rfl,by decide⟩
    obtain⟨t',et',hne⟩:=nl;refine YH et' ?_;walk_at "py";refine ifF (by simp[hne]) ?_;walk_at "py";refine Z2 no tr ts8 fun g10 x10=>?_;walk_at "py";refine ifF (by simp) ?_;walk_at "py";refine JZ (ts8.ext x10) (x10.get et8) hl10 fun g11 x11=>?_;rw[CD ts8 x10];refine YL (c:=true) (by cases isT g8 v ((bup bs ds).map t)<;>rfl) ?_;walk_at "py";refine ifF rfl ?_;walk_at "py";have y11:=x10.trans x11;have fin:K [some (.scr ns),some (.int c),some (.ref w),some (ZD bs ts),some (Zp ds ps),some (.ref pt),some (.int j),some v,some v,some (.bl (isT g8 v ((bup bs ds).map t)))] g11:=hK _ _ ⟨_,_,_,_,rfl,y11.get ez8,w8.ext y11,y11.get et8⟩;have go1:∀ {KB:Bool→Prop},KB false→go (cmpV g11 .neX v v) KB:=fun {KB} hk=>by
     rcases sp with⟨a,rfl,e⟩|rfl|⟨s,rfl⟩|⟨l,rfl⟩
     ·refine Uz ?_ hk;unfold sam0;simp[y11.get e,noPairs]
     ·exact c_neX (c:=true) rfl rfl hk
     ·exact c_neX (c:=true) rfl (by simp[eqV,dat,deep,D.eqv]) hk
     ·exact c_neX (c:=true) rfl FW hk
    refine go1 ?_;walk_at "py";refine ifF rfl ?_;walk_at "py";exact fin
  ·rintro en g ⟨v6,v7,v8,v9,rfl,ez,hw,et⟩;walk_at "py";exact hK _ _ ⟨_,_,_,_,_,_,_,_,_,rfl,ez⟩
 ·rintro en g ⟨v1,v2,v3,v4,v5,v6,v7,v8,v9,rfl,ez⟩;walk_at "py";refine Za fun p2 g2 hp2 x2 e2=>?_;have e2:g2 p2=some (.lst ([fo 4].map rV)):=e2;walk_at "py";have s2:SP g2 (.ref p2):=.rows e2 (by decide);refine Z2 (ds:=[]) (ps:=[]) Hi tr4 s2.ts fun g3 x3=>?_;rw[Yo e2,qQ (show List.map rV [fo 4]=List.map rV (List.map fo (bup [4] [])) from rfl)];walk_at "py";refine ifT rfl ?_;walk_at "py";refine Za fun p4 g4 hp4 x4 e4=>?_;have e4:g4 p4=some (.lst (([]:List Rw).map rV)):=e4;have s4:SP g4 (.ref p4):=.rows e4 (by decide);walk_at "py";refine Z2 (ds:=[]) (ps:=[]) Hi tr4 s4.ts fun g5 x5=>?_;rw[Yo e4,qP (show ¬ List.map rV ([]:List Rw)=List.map rV (List.map fo (bup [4] [])) from fun z=>by cases z)];walk_at "py";exact k _
end
end Own
set_option maxRecDepth 1000000
set_option maxHeartbeats 0
namespace My
open PySem L2 Snd PySem.W
noncomputable def top (i:Nat):Stmt:=PySem.Challenge.pw_shutways_k09_lists_judged.main.body.getD i (.Pass ⟨0,0,0,0⟩)
noncomputable def x0:Ds:=⟨top 4,["thing"],["thing"],Own.PQ⟩
noncomputable def x1:Ds:=⟨top 5,["thing","least","greatest"],["thing","least","greatest"],Own.PR⟩
noncomputable def x2:Ds:=⟨top 11,["bridges","ties"],["bridges","ties"],Own.QC⟩
noncomputable def x3:Ds:=⟨top 12,["things"],["things"],Own.PZ⟩
noncomputable def x4:Ds:=⟨top 13,["thing","bridges"],["thing","bridges"],Own.PP⟩
noncomputable def x5:Ds:=⟨top 14,["tie"],["tie"],Own.QB⟩
noncomputable def x6:Ds:=⟨top 15,["net","bridge","found","place","tie"],["net","bridge"],Own.QD⟩
noncomputable def x7:Ds:=⟨top 16,["tie","bridge"],["tie","bridge"],Own.PM⟩
noncomputable def x8:Ds:=⟨top 18,["net","down"],["net","down"],Own.PX⟩
noncomputable def x9:Ds:=⟨top 19,["net","down","bridge"],["net","down","bridge"],Own.QE⟩
noncomputable def x10:Ds:=⟨top 20,["net","down","some","row","rows"],["net","down","some"],Own.PN⟩
noncomputable def x11:Ds:=⟨top 21,["thing"],["thing"],Own.PU⟩
noncomputable def x12:Ds:=⟨top 22,["net","down","bridge","rows","offers","place","neighbour","cost","best"],["net","down","bridge","rows"],Own.QU⟩
noncomputable def x13:Ds:=⟨top 23,["bridge","offers","better"],["bridge","offers"],Own.PY⟩
noncomputable def x14:Ds:=⟨top 25,["cell","low"],["cell"],Own.QX⟩
noncomputable def x15:Ds:=⟨top 26,["row","many","got"],["row","many"],Own.QW⟩
noncomputable def x16:Ds:=⟨top 27,["row","bridges","many","k","number"],["row"],Own.P1⟩
noncomputable def x17:Ds:=⟨top 28,["row"],["row"],Own.P2⟩
noncomputable def x18:Ds:=⟨top 29,["row","bridges","ties","k","at","to","tie"],["row","bridges"],Own.QK⟩
noncomputable def x19:Ds:=⟨top 30,["bridges","ties"],["bridges","ties"],Own.P5⟩
noncomputable def x20:Ds:=⟨top 31,["found","due"],["found","due"],Own.QZ⟩
noncomputable def x21:Ds:=⟨top 32,["row","net","share","bridges","places"],["row","net"],Own.P4⟩
noncomputable def x22:Ds:=⟨top 33,["row","bridges"],["row"],Own.P7⟩
noncomputable def x23:Ds:=⟨top 34,["net","down","ties","place","one","other","cost"],["net","down"],Own.QN⟩
noncomputable def x24:Ds:=⟨top 35,["net","down","costs","number","place","one","other","cost","least","middle"],["net","down"],Own.P3⟩
noncomputable def x25:Ds:=⟨top 36,["net","down","costs","tree","number","other","root","some","place","one","cost","beside","up"],["net","down"],Own.QM⟩
noncomputable def x26:Ds:=⟨top 37,["row","tree","at","spoilt","odd","forms"],["row","tree","at"],Own.P8⟩
noncomputable def x27:Ds:=⟨top 38,["row","tree","at","root","more","ghost","some","thing"],["row","tree","at"],Own.P0⟩
noncomputable def x28:Ds:=⟨top 39,["row","net","down","tree","ties","place","one","other","cost","ghost","least","some","thing"],["row","net","down","tree"],Own.P6⟩
noncomputable def x29:Ds:=⟨top 40,["net","down","tree","root","costs","some","thing","number","ways","place","one","other","cost","beside","up"],["net","down","tree","root"],Own.P9⟩
noncomputable def x30:Ds:=⟨top 41,["row","net","down","tree","kind","some","at","to","number","root","cost","up","ups"],["row","net","down","tree"],Own.QY⟩
noncomputable def x31:Ds:=⟨top 42,["script","cell","row","net","down","tree","k","some","handed","found"],["script"],Own.PV⟩
noncomputable def tb:Tb where
 fs:=[("is_whole",x0),("is_whole_between",x1),("make_net",x2),("are_bridges",x3),("is_tie",x4),("lesser_end_first",x5),("neighbours",x6),("far_end",x7),("bridges_up",x8),("ties_up",x9),("is_plain_tree",x10),("is_row",x11),("least_row",x12),("best_offer",x13),("_law_stream",x14),("_law_take",x15),("_law_bridges",x16),("_law_cost",x17),("_law_ties",x18),("_law_due",x19),("_law_same",x20),("_law_down",x21),("_law_net",x22),("_law_up",x23),("_law_costs",x24),("_law_tree",x25),("_law_part",x26),("_law_all",x27),("_law_leaning",x28),("_law_rooted",x29),("_law_spoilt",x30),("law",x31)]
 ms:=[]
 cs:=[("MOST_BRIDGES",(.int 10)),("MOST_TIES",(.int 16)),("GREATEST_NUMBER",(.int 999)),("GREATEST_COST",(.int 1000))]
 cl:=[]
 fl:=[]
 xs:=[]
noncomputable def pg:Own.Pg:=fun f=>(([("is_whole",Own.PQ),("is_whole_between",Own.PR),("make_net",Own.QC),("are_bridges",Own.PZ),("is_tie",Own.PP),("lesser_end_first",Own.QB),("neighbours",Own.QD),("far_end",Own.PM),("bridges_up",Own.PX),("ties_up",Own.QE),("is_plain_tree",Own.PN),("is_row",Own.PU),("least_row",Own.QU),("best_offer",Own.PY),("_law_stream",Own.QX),("_law_take",Own.QW),("_law_bridges",Own.P1),("_law_cost",Own.P2),("_law_ties",Own.QK),("_law_due",Own.P5),("_law_same",Own.QZ),("_law_down",Own.P4),("_law_net",Own.P7),("_law_up",Own.QN),("_law_costs",Own.P3),("_law_tree",Own.QM),("_law_part",Own.P8),("_law_all",Own.P0),("_law_leaning",Own.P6),("_law_rooted",Own.P9),("_law_spoilt",Own.QY),("law",Own.PV)]:List (String×Own.Fn)).lookup f)
instance:Own.Al pg:=⟨rfl,rfl,rfl,rfl,rfl,rfl,rfl,rfl,rfl,rfl,rfl,rfl,rfl,rfl,rfl,rfl,rfl,rfl,rfl,rfl,rfl,rfl,rfl,rfl,rfl,rfl,rfl,rfl,rfl,rfl,rfl,rfl⟩
theorem ok0:x0.Ok tb:=⟨by kernel_rfl,by kernel_rfl⟩
theorem ok1:x1.Ok tb:=⟨by kernel_rfl,by kernel_rfl⟩
theorem ok2:x2.Ok tb:=⟨by kernel_rfl,by kernel_rfl⟩
theorem ok3:x3.Ok tb:=⟨by kernel_rfl,by kernel_rfl⟩
theorem ok4:x4.Ok tb:=⟨by kernel_rfl,by kernel_rfl⟩
theorem ok5:x5.Ok tb:=⟨by kernel_rfl,by kernel_rfl⟩
theorem ok6:x6.Ok tb:=⟨by kernel_rfl,by kernel_rfl⟩
theorem ok7:x7.Ok tb:=⟨by kernel_rfl,by kernel_rfl⟩
theorem ok8:x8.Ok tb:=⟨by kernel_rfl,by kernel_rfl⟩
theorem ok9:x9.Ok tb:=⟨by kernel_rfl,by kernel_rfl⟩
theorem LO:x10.Ok tb:=⟨by kernel_rfl,by kernel_rfl⟩
theorem Lf:x11.Ok tb:=⟨by kernel_rfl,by kernel_rfl⟩
theorem LV:x12.Ok tb:=⟨by kernel_rfl,by kernel_rfl⟩
theorem L0:x13.Ok tb:=⟨by kernel_rfl,by kernel_rfl⟩
theorem IX:x14.Ok tb:=⟨by kernel_rfl,by kernel_rfl⟩
theorem Pe:x15.Ok tb:=⟨by kernel_rfl,by kernel_rfl⟩
theorem Le:x16.Ok tb:=⟨by kernel_rfl,by kernel_rfl⟩
theorem LZ:x17.Ok tb:=⟨by kernel_rfl,by kernel_rfl⟩
theorem Pl:x18.Ok tb:=⟨by kernel_rfl,by kernel_rfl⟩
theorem Pq:x19.Ok tb:=⟨by kernel_rfl,by kernel_rfl⟩
theorem LP:x20.Ok tb:=⟨by kernel_rfl,by kernel_rfl⟩
theorem IU:x21.Ok tb:=⟨by kernel_rfl,by kernel_rfl⟩
theorem L7:x22.Ok tb:=⟨by kernel_rfl,by kernel_rfl⟩
theorem IV:x23.Ok tb:=⟨by kernel_rfl,by kernel_rfl⟩
theorem Lj:x24.Ok tb:=⟨by kernel_rfl,by kernel_rfl⟩
theorem LE:x25.Ok tb:=⟨by kernel_rfl,by kernel_rfl⟩
theorem Pi:x26.Ok tb:=⟨by kernel_rfl,by kernel_rfl⟩
theorem LQ:x27.Ok tb:=⟨by kernel_rfl,by kernel_rfl⟩
theorem IR:x28.Ok tb:=⟨by kernel_rfl,by kernel_rfl⟩
theorem L4:x29.Ok tb:=⟨by kernel_rfl,by kernel_rfl⟩
theorem Lr:x30.Ok tb:=⟨by kernel_rfl,by kernel_rfl⟩
theorem LX:x31.Ok tb:=⟨by kernel_rfl,by kernel_rfl⟩
theorem tab_ok:∀ f x,(f,x)∈tb.fs→x.Ok tb:=by
 intro f x h;simp only[tb,qE,List.not_mem_nil,or_false,Prod.mk.injEq]at h;rcases h with⟨rfl,rfl⟩|⟨rfl,rfl⟩|⟨rfl,rfl⟩|⟨rfl,rfl⟩|⟨rfl,rfl⟩|⟨rfl,rfl⟩|⟨rfl,rfl⟩|⟨rfl,rfl⟩|⟨rfl,rfl⟩|⟨rfl,rfl⟩|⟨rfl,rfl⟩|⟨rfl,rfl⟩|⟨rfl,rfl⟩|⟨rfl,rfl⟩|⟨rfl,rfl⟩|⟨rfl,rfl⟩|⟨rfl,rfl⟩|⟨rfl,rfl⟩|⟨rfl,rfl⟩|⟨rfl,rfl⟩|⟨rfl,rfl⟩|⟨rfl,rfl⟩|⟨rfl,rfl⟩|⟨rfl,rfl⟩|⟨rfl,rfl⟩|⟨rfl,rfl⟩|⟨rfl,rfl⟩|⟨rfl,rfl⟩|⟨rfl,rfl⟩|⟨rfl,rfl⟩|⟨rfl,rfl⟩|⟨rfl,rfl⟩
 ·exact ok0
 ·exact ok1
 ·exact ok2
 ·exact ok3
 ·exact ok4
 ·exact ok5
 ·exact ok6
 ·exact ok7
 ·exact ok8
 ·exact ok9
 ·exact LO
 ·exact Lf
 ·exact LV
 ·exact L0
 ·exact IX
 ·exact Pe
 ·exact Le
 ·exact LZ
 ·exact Pl
 ·exact Pq
 ·exact LP
 ·exact IU
 ·exact L7
 ·exact IV
 ·exact Lj
 ·exact LE
 ·exact Pi
 ·exact LQ
 ·exact IR
 ·exact L4
 ·exact Lr
 ·exact LX
theorem tab_pg:∀ f x,(f,x)∈tb.fs→pg f=some x.d:=by intro f x h;simp only[tb,qE,List.not_mem_nil,or_false,Prod.mk.injEq]at h;rcases h with⟨rfl,rfl⟩|⟨rfl,rfl⟩|⟨rfl,rfl⟩|⟨rfl,rfl⟩|⟨rfl,rfl⟩|⟨rfl,rfl⟩|⟨rfl,rfl⟩|⟨rfl,rfl⟩|⟨rfl,rfl⟩|⟨rfl,rfl⟩|⟨rfl,rfl⟩|⟨rfl,rfl⟩|⟨rfl,rfl⟩|⟨rfl,rfl⟩|⟨rfl,rfl⟩|⟨rfl,rfl⟩|⟨rfl,rfl⟩|⟨rfl,rfl⟩|⟨rfl,rfl⟩|⟨rfl,rfl⟩|⟨rfl,rfl⟩|⟨rfl,rfl⟩|⟨rfl,rfl⟩|⟨rfl,rfl⟩|⟨rfl,rfl⟩|⟨rfl,rfl⟩|⟨rfl,rfl⟩|⟨rfl,rfl⟩|⟨rfl,rfl⟩|⟨rfl,rfl⟩|⟨rfl,rfl⟩|⟨rfl,rfl⟩<;>rfl
theorem ar1{α:Type}{us:List α}(h:us.length=1):∃ a0,us=[a0]:=match us,h with|[a0],_=>⟨a0,rfl⟩
theorem ar2{α:Type}{us:List α}(h:us.length=2):∃ a0 a1,us=[a0,a1]:=match us,h with|[a0,a1],_=>⟨a0,a1,rfl⟩
theorem ar3{α:Type}{us:List α}(h:us.length=3):∃ a0 a1 a2,us=[a0,a1,a2]:=match us,h with|[a0,a1,a2],_=>⟨a0,a1,a2,rfl⟩
theorem ar4{α:Type}{us:List α}(h:us.length=4):∃ a0 a1 a2 a3,us=[a0,a1,a2,a3]:=match us,h with|[a0,a1,a2,a3],_=>⟨a0,a1,a2,a3,rfl⟩
theorem tab_bd:∀ f x,(f,x)∈tb.fs→Hd.Bd (Str.ofString f) (Str.ofString f) x:=by
 intro f x h;simp only[tb,qE,List.not_mem_nil,or_false,Prod.mk.injEq]at h;rcases h with⟨rfl,rfl⟩|⟨rfl,rfl⟩|⟨rfl,rfl⟩|⟨rfl,rfl⟩|⟨rfl,rfl⟩|⟨rfl,rfl⟩|⟨rfl,rfl⟩|⟨rfl,rfl⟩|⟨rfl,rfl⟩|⟨rfl,rfl⟩|⟨rfl,rfl⟩|⟨rfl,rfl⟩|⟨rfl,rfl⟩|⟨rfl,rfl⟩|⟨rfl,rfl⟩|⟨rfl,rfl⟩|⟨rfl,rfl⟩|⟨rfl,rfl⟩|⟨rfl,rfl⟩|⟨rfl,rfl⟩|⟨rfl,rfl⟩|⟨rfl,rfl⟩|⟨rfl,rfl⟩|⟨rfl,rfl⟩|⟨rfl,rfl⟩|⟨rfl,rfl⟩|⟨rfl,rfl⟩|⟨rfl,rfl⟩|⟨rfl,rfl⟩|⟨rfl,rfl⟩|⟨rfl,rfl⟩|⟨rfl,rfl⟩
 ·intro _ _ _ _ _ _ us hl;obtain⟨_,rfl⟩:=ar1 hl;exact rfl
 ·intro _ _ _ _ _ _ us hl;obtain⟨_,_,_,rfl⟩:=ar3 hl;exact rfl
 ·intro _ _ _ _ _ _ us hl;obtain⟨_,_,rfl⟩:=ar2 hl;exact rfl
 ·intro _ _ _ _ _ _ us hl;obtain⟨_,rfl⟩:=ar1 hl;exact rfl
 ·intro _ _ _ _ _ _ us hl;obtain⟨_,_,rfl⟩:=ar2 hl;exact rfl
 ·intro _ _ _ _ _ _ us hl;obtain⟨_,rfl⟩:=ar1 hl;exact rfl
 ·intro _ _ _ _ _ _ us hl;obtain⟨_,_,rfl⟩:=ar2 hl;exact rfl
 ·intro _ _ _ _ _ _ us hl;obtain⟨_,_,rfl⟩:=ar2 hl;exact rfl
 ·intro _ _ _ _ _ _ us hl;obtain⟨_,_,rfl⟩:=ar2 hl;exact rfl
 ·intro _ _ _ _ _ _ us hl;obtain⟨_,_,_,rfl⟩:=ar3 hl;exact rfl
 ·intro _ _ _ _ _ _ us hl;obtain⟨_,_,_,rfl⟩:=ar3 hl;exact rfl
 ·intro _ _ _ _ _ _ us hl;obtain⟨_,rfl⟩:=ar1 hl;exact rfl
 ·intro _ _ _ _ _ _ us hl;obtain⟨_,_,_,_,rfl⟩:=ar4 hl;exact rfl
 ·intro _ _ _ _ _ _ us hl;obtain⟨_,_,rfl⟩:=ar2 hl;exact rfl
 ·intro _ _ _ _ _ _ us hl;obtain⟨_,rfl⟩:=ar1 hl;exact rfl
 ·intro _ _ _ _ _ _ us hl;obtain⟨_,_,rfl⟩:=ar2 hl;exact rfl
 ·intro _ _ _ _ _ _ us hl;obtain⟨_,rfl⟩:=ar1 hl;exact rfl
 ·intro _ _ _ _ _ _ us hl;obtain⟨_,rfl⟩:=ar1 hl;exact rfl
 ·intro _ _ _ _ _ _ us hl;obtain⟨_,_,rfl⟩:=ar2 hl;exact rfl
 ·intro _ _ _ _ _ _ us hl;obtain⟨_,_,rfl⟩:=ar2 hl;exact rfl
 ·intro _ _ _ _ _ _ us hl;obtain⟨_,_,rfl⟩:=ar2 hl;exact rfl
 ·intro _ _ _ _ _ _ us hl;obtain⟨_,_,rfl⟩:=ar2 hl;exact rfl
 ·intro _ _ _ _ _ _ us hl;obtain⟨_,rfl⟩:=ar1 hl;exact rfl
 ·intro _ _ _ _ _ _ us hl;obtain⟨_,_,rfl⟩:=ar2 hl;exact rfl
 ·intro _ _ _ _ _ _ us hl;obtain⟨_,_,rfl⟩:=ar2 hl;exact rfl
 ·intro _ _ _ _ _ _ us hl;obtain⟨_,_,rfl⟩:=ar2 hl;exact rfl
 ·intro _ _ _ _ _ _ us hl;obtain⟨_,_,_,rfl⟩:=ar3 hl;exact rfl
 ·intro _ _ _ _ _ _ us hl;obtain⟨_,_,_,rfl⟩:=ar3 hl;exact rfl
 ·intro _ _ _ _ _ _ us hl;obtain⟨_,_,_,_,rfl⟩:=ar4 hl;exact rfl
 ·intro _ _ _ _ _ _ us hl;obtain⟨_,_,_,_,rfl⟩:=ar4 hl;exact rfl
 ·intro _ _ _ _ _ _ us hl;obtain⟨_,_,_,_,rfl⟩:=ar4 hl;exact rfl
 ·intro _ _ _ _ _ _ us hl;obtain⟨_,rfl⟩:=ar1 hl;exact rfl
theorem tab_om:∀ y,y∈tb.ms→y.x.Ok tb:=fun _ h=>nomatch h
theorem tab_pm:∀ y,y∈tb.ms→pg (y.C ++ "." ++ y.m)=some y.x.d:=fun _ h=>nomatch h
theorem tab_bm:∀ y,y∈tb.ms→Hd.Bd (Str.ofString y.m) (Str.ofString y.qual) y.x:=fun _ h=>nomatch h
theorem law_in:("law",x31)∈tb.fs:=qY (i:=31) rfl
noncomputable abbrev pr:Program:=PySem.Challenge.rw_shutways_k09_lists_judged.row.prog
noncomputable abbrev vw:Program:=PySem.W.view pr [1,2,4,5,7,8,9,10,11,12,13,14,15,16,18,19,20,21,22,23,25,26,27,28,29,30,31,32,33,34,35,36,37,38,39,40,41,42]
noncomputable abbrev xt (s:Shared):Bool:=xlAt vw [] s&&recOk (RowW.records PySem.Challenge.rw_shutways_k09_lists_judged.row.toRowW) s
theorem said:PySem.Challenge.rw_shutways_k09_lists_judged.wellSaid=true:=by rw[Fast.te9446332074065402090];kernel_rfl
theorem left:LeftO pr vw [] xt (Hd.hook tb).obs (Hd.hook tb).val 12000:=Hd.left_of (by kernel_rfl) rfl (fun s=>by kernel_rfl) fun w os=>by kernel_rfl
end My
open PySem PySem.W PyProof.Rows
theorem PySem.Challenge.cw_shutways_k09_lists_judged_holds : PySem.Challenge.rw_shutways_k09_lists_judged.Holds := by
 refine holds_law My.said fun said=>?_;refine holds_open (q:=My.vw) (loose:=[]) (Xt:=My.xt) (XP:=XL My.vw []) (YP:=(Hd.hook My.tb).says) My.left (Hook.of _) (Hook.keeps _) (fun s e=>xl_of s (Bool.and_eq_true_iff.mp e).1) XL.keeps (by rfl) (by rfl) (by rfl) (fun s e=>recFacts_of (Bool.and_eq_true_iff.mp e).2) (by rfl) said (by decide +kernel) ⟨rfl,rfl,rfl,rfl,rfl,by decide +kernel⟩ ?hw ?hc
 case hw=>w_on;w_witness2
 case hc=>exact Hd.law_walk (k:=5) rfl rfl rfl ⟨rfl,by decide,by decide⟩ My.law_in rfl rfl My.tab_pg My.tab_pm My.tab_ok My.tab_om My.tab_bd My.tab_bm fun ns hl=>Own.law_ok (n:=0) hl fun _=>rfl
