import PyProof.Rows.All
import Wide.All
import OpenK.AllK
import Wide.FinOn
import PyProof.EqAt
import PyProof.EqKinds
import PyProof.TupleCall
import Lean
import PySem.Challenge.RW_shutways_k34_rank_papers_looked_at
set_option Elab.async false
set_option bootstrap.genMatcherCode false
set_option compiler.extract_closed false
set_option genSizeOf false
set_option linter.all false
set_option maxRecDepth 100000
theorem bAq(a b:Bool):((a&&b)=true)=(a=true∧b=true):=Bool.and_eq_true a b
abbrev qA:=@List.length_map
abbrev qB:=@List.length_cons
abbrev qC:=@List.size_toArray
abbrev qD:=@Option.map_eq_some_iff
abbrev qE:=@List.mem_cons
abbrev qF:=@List.getElem?_map
abbrev qG:=@List.map_cons
abbrev qH:=@List.getElem?_eq_getElem
abbrev qI:=@List.mem_cons_of_mem
abbrev qJ:=@List.map_append
abbrev qK:=@List.getElem?_eq_some_iff
abbrev qL:=@List.mem_append_right
abbrev qM:=@List.mem_append_left
abbrev qN:=@List.getD_eq_getElem?_getD
abbrev qO:=@List.lookup_cons
abbrev qP:=@decide_eq_false
abbrev qQ:=@decide_eq_true
abbrev qR:=@Nat.lt_of_lt_of_le
abbrev qS:=@Nat.lt_of_le_of_lt
abbrev qT:=@List.mem_cons_self
abbrev qU:=@List.length_append
abbrev qV:=@List.length_take
abbrev qW:=@List.take_add_one
abbrev qX:=@List.length_replicate
abbrev qY:=@List.mem_of_getElem?
abbrev qZ:=@List.mem_map
abbrev q8:=@List.mem_append
abbrev q9:=@Option.bind_eq_some_iff
abbrev zA:=@List.take_length
abbrev zB:=@List.append_nil
abbrev zC:=@Array.length_toList
abbrev zE:=@Nat.le_trans
abbrev zF:=@Nat.ne_of_lt
abbrev zG:=@Nat.le_refl
abbrev zH:=@List.mem_singleton
abbrev zI:=@List.mem_filterMap
abbrev zJ:=@List.filterMap_cons
abbrev zK:=@Nat.lt_irrefl
namespace L2
open PySem PySem.Spec PyProof.Rows
abbrev Key:=Sum Int Str
def X5:Key→Value→Bool
 |.inl k,v=>Value.isInt k v
 |.inr x,v=>Value.isStrOf x v
def Lu (w:World):Key→Int
 |.inl k=>hashInt k
 |.inr x=>hashStr w x
theorem Zp:∀ {k:Key}{v:Value},X5 k v=true→(∃ i t,k=Sum.inl i∧v=Value.int i t)∨(∃ x t,k=Sum.inr x∧v=Value.str x t)
 |.inl i,v,h=>by obtain⟨t,e⟩:=Value.isInt_shape (k:=i) (v:=v) h;exact .inl ⟨i,t,rfl,e⟩
 |.inr x,v,h=>by obtain⟨t,e⟩:=Value.isStrOf_shape (x:=x) (v:=v) h;exact .inr ⟨x,t,rfl,e⟩
theorem N1(i:Int)(t:Tok):X5 (.inl i) (.int i t)=true:=by simp[X5,Value.isInt]
theorem NH(x:Str)(t:Tok):X5 (.inr x) (.str x t)=true:=by simp[X5,Value.isStrOf]
theorem CQ(a b:Int):decide ((Sum.inl a:Key)=Sum.inl b)=(a==b):=by
 by_cases e:a=b
 ·subst e;simp
 ·have h:¬ (Sum.inl a:Key)=Sum.inl b:=fun q=>e (Sum.inl.inj q);rw[qP h];exact(beq_eq_false_iff_ne.mpr e).symm
theorem DX(a b:Str):decide ((Sum.inr a:Key)=Sum.inr b)=decide (a=b):=by
 by_cases e:a=b
 ·subst e;simp
 ·have h:¬ (Sum.inr a:Key)=Sum.inr b:=fun q=>e (Sum.inr.inj q);rw[qP h,qP e]
theorem C7(a:Int)(b:Str):decide ((Sum.inl a:Key)=Sum.inr b)=false:=qP (fun q=>nomatch q)
theorem Ex(a:Str)(b:Int):decide ((Sum.inr a:Key)=Sum.inl b)=false:=qP (fun q=>nomatch q)
def Zg (prog:Program) (w:World):PySem.KeyKind prog w Key where
 is:=X5
 hash:=Lu w
 inj:=fun v a b ha hb=>by
  rcases Zp ha with⟨i,t,rfl,rfl⟩|⟨x,t,rfl,rfl⟩
  ·rcases Zp hb with⟨j,u,rfl,e⟩|⟨y,u,rfl,e⟩
   ·injection e with e1 _;rw[e1]
   ·exact nomatch e
  ·rcases Zp hb with⟨j,u,rfl,e⟩|⟨y,u,rfl,e⟩
   ·exact nomatch e
   ·injection e with e1 _;rw[e1]
 byValue:=fun k v h=>by rcases Zp h with⟨i,t,rfl,rfl⟩|⟨x,t,rfl,rfl⟩<;>rfl
 pyHash:=fun hv h=>by
  rcases Zp hv with⟨i,t,rfl,rfl⟩|⟨x,t,rfl,rfl⟩
  ·exact wpAny_pyHash_int h
  ·exact wpAny_pyHash_str h
 eqBool:=fun hu hv h=>by
  rcases Zp hu with⟨i,t,rfl,rfl⟩|⟨x,t,rfl,rfl⟩
  ·rcases Zp hv with⟨j,u,rfl,rfl⟩|⟨y,u,rfl,rfl⟩
   ·rw[CQ]at h;exact wpAny_eqBool_int h
   ·rw[C7]at h;exact SeqAt.EqAt.int_str i t y u _ _ _ _ h
  ·rcases Zp hv with⟨j,u,rfl,rfl⟩|⟨y,u,rfl,rfl⟩
   ·rw[Ex]at h;exact SeqAt.EqAt.str_int x t j u _ _ _ _ h
   ·rw[DX]at h;exact wpAny_eqBool_str h
 «strs»:=fun k x t v h=>by
  rcases Zp h with⟨i,u,rfl,e⟩|⟨y,u,rfl,e⟩
  ·exact nomatch e
  ·injection e with e1 _;subst e1;cases v<;>rfl
theorem JJ(prog:Program)(w:World)(i:Int)(t:Tok):(Zg prog w).is (.inl i) (.int i t)=true:=N1 i t
theorem JH(prog:Program)(w:World)(x:Str)(t:Tok):(Zg prog w).is (.inr x) (.str x t)=true:=NH x t
inductive V where
 |non|bl (b:Bool)|int (i:Int)|str (x:Str)|byt (b:Array UInt8)|flt (b:UInt64)|ref (a:Addr)|ty (n:String)
 deriving DecidableEq
def RelV:V→Value→Prop
 |.non,u=>u=Value.none
 |.bl b,u=>u=Value.bool b
 |.int i,u=>∃ t,u=Value.int i t
 |.str x,u=>∃ t,u=Value.str x t
 |.byt b,u=>∃ t,u=Value.bytes b t
 |.flt b,u=>∃ t,u=Value.float b t
 |.ref a,u=>u=Value.ref a
 |.ty n,u=>u=Value.type n
abbrev Vals:List V→List Value→Prop:=Paired RelV
theorem Vals.length{xs:List V}{us:List Value}(r:Vals xs us):xs.length=us.length:=Paired.length r
theorem Vals.get:∀ {xs:List V}{us:List Value}{i:Nat}{x:V},Vals xs us→xs[i]?=some x→∃ u,us[i]?=some u∧RelV x u
 |_,_,_,_,.nil,e=>by simp at e
 |_,_,0,_,.cons r _,e=>by simp at e;subst e;exact⟨_,rfl,r⟩
 |_,_,i+1,x,.cons _ t,e=>by obtain⟨u,h1,h2⟩:=Vals.get (i:=i) (x:=x) t (by simpa using e);exact⟨u,by simpa using h1,h2⟩
theorem Vals.set{x:V}{u:Value}(r:RelV x u):∀ {xs:List V}{us:List Value}(i:Nat),Vals xs us→Vals (xs.set i x) (us.set i u)
 |_,_,_,.nil=>.nil
 |_,_,0,.cons _ t=>.cons r t
 |_,_,i+1,.cons q t=>.cons q (Vals.set r i t)
theorem Vals.append:∀ {xs ys:List V}{us ws:List Value},Vals xs us→Vals ys ws→Vals (xs++ys) (us++ws)
 |_,_,_,_,.nil,s=>s
 |_,_,_,_,.cons r t,s=>.cons r (Vals.append t s)
theorem Vals.take:∀ {xs:List V}{us:List Value}(n:Nat),Vals xs us→Vals (xs.take n) (us.take n)
 |_,_,0,_=>.nil
 |_,_,_+1,.nil=>.nil
 |_,_,n+1,.cons r t=>.cons r (Vals.take n t)
theorem Vals.drop:∀ {xs:List V}{us:List Value}(n:Nat),Vals xs us→Vals (xs.drop n) (us.drop n)
 |_,_,0,r=>r
 |_,_,_+1,.nil=>.nil
 |_,_,n+1,.cons _ t=>Vals.drop n t
def RelO:Option V→Option Value→Prop
 |some v,some u=>RelV v u
 |none,none=>True
 |_,_=>False
def KV {κ:Type}:List (κ×V)→List (κ×Value)→Prop:=Paired fun(p:κ×V) (q:κ×Value)=>p.1=q.1∧RelV p.2 q.2
def kV:Key→V
 |.inl i=>.int i
 |.inr x=>.str x
inductive HO where
 |lst (xs:List V)
 |tup (xs:List V)
 |dK (kvs:List (Key×V))|dT (kvs:List (List Key×V))
 |set (S:Int→Bool) (n:Nat)
 |ins (C dx:Addr) (fs:List (Str×V))
 |own (x:Addr)
 |xd (fs:List (Str×V))
 |met (f x:Addr)
 |rng (lo hi:Int)
 |frz (o:Obj) (u:HO)
 |tbl (ps:Array Value)
 |ext (φ:Heap→Prop)
abbrev Hp:=Addr→Option HO
def upd (H:Hp) (a:Addr) (o:HO):Hp:=fun b=>if b=a then some o else H b
theorem upd_same{H:Hp}{a:Addr}{o:HO}:upd H a o a=some o:=by unfold upd;rw[if_pos rfl]
theorem upd_ne{H:Hp}{a b:Addr}{o:HO}(h:b≠a):upd H a o b=H b:=by unfold upd;rw[if_neg h]
theorem upd_upd{H:Hp}{a:Addr}{o u:HO}:upd (upd H a o) a u=upd H a u:=by funext b;unfold upd;split<;>rfl
theorem O9{H:Hp}{a b:Addr}{o u:HO}(h:H a=some o)(h':H b=some u)(d:o≠u):a≠b:=by intro e;subst e;rw[h]at h';exact d (Option.some.inj h')
theorem Zj{H:Hp}{a b:Addr}{o:HO}(h:H a=some o)(h':H b=none):a≠b:=by intro e;subst e;rw[h]at h';cases h'
section
variable (P:Program) (w:World)
def ObjOk (H:Hp) (h:Heap) (a:Addr):HO→Prop
 |.lst xs=>xs.length≤sizeLine∧∃ (its:List Value) (n:Nat),Vals xs its∧h.get? a=some {cls:=.type "list",data:=.seq its.toArray n}
 |.tup xs=>xs.length≤sizeLine∧∃ its:List Value,Vals xs its∧IsTup h a its.toArray
 |.dK kvs=>kvs.length≤sizeLine∧(a==sysModules)=false∧∃ vs,KV kvs vs∧h.DictOf (Zg P w) a vs
 |.dT kvs=>kvs.length≤sizeLine∧(a==sysModules)=false∧∃ xs:List (List Key×Addr×Value),
   Paired (fun(p:List Key×V) (q:List Key×Addr×Value)=>p.1=q.1∧H q.2.1=some (.tup (p.1.map kV))∧RelV p.2 q.2.2) kvs xs∧
   ∃ o es ep,h.get? a=some o∧o.ExactDict∧o.data=.dict es ep∧es.toList=xs.map (entryOfKey (tupleKind (Zg P w)))∧(xs.map (·.1)).Nodup
 |.set S n=>h.SetOf (intKind P w) a S n
 |.ins C dx fs=>H dx=some (.own a)∧fs.length≤1000∧dx≠a∧h.get? a=some (PySem.W.instObj C dx)∧
   ∃ mA,h.Ns1 dx mA∧(∀ f,RelO (fs.lookup f) (mA f))∧PySem.Within mA (fs.map (·.1))
 |.own _=>∃ o,h.get? a=some o
 |.xd fs=>∃ mA,h.Ns1 a mA∧∀ f,RelO (fs.lookup f) (mA f)
 |.rng lo hi=>∃ t u v,h.get? a=some {cls:=.type "range",data:=.fields #[.int lo t,.int hi u,.int 1 v]}
 |.frz o u=>h.get? a=some o∧ObjOk H h a u
 |.tbl ps=>h.get? a=some {cls:=.none,data:=.fields ps}
 |.met f x=>h.get? a=some (PySem.W.methodObj (.ref f) (.ref x))
 |.ext φ=>φ h∧(∃ o,h.get? a=some o)∧∀ h1 h2:Heap,φ h1→(∀ o,h1.get? a=some o→h2.get? a=some o)→φ h2
def HOk (H:Hp) (h:Heap):Prop:=∀ a o,H a=some o→ObjOk P w H h a o
end
section
variable {P:Program}{w:World}{H H':Hp}{h h':Heap}{a:Addr}{o:HO}
theorem ObjOk.lt(x:ObjOk P w H h a o):a<h.objs.size:=by
 cases o with
 |lst xs=>obtain⟨_,_,_,_,e⟩:=x;exact Heap.lt_size e
 |tup xs=>obtain⟨_,_,_,p⟩:=x;exact p.lt
 |dK kvs=>obtain⟨_,_,_,_,o,_,_,e,_⟩:=x;exact Heap.lt_size e
 |dT kvs=>obtain⟨_,_,_,_,o,_,_,e,_⟩:=x;exact Heap.lt_size e
 |set S n=>obtain⟨o,_,_,_,e,_⟩:=x;exact Heap.lt_size e
 |ins C dx fs=>obtain⟨_,_,_,e,_⟩:=x;exact Heap.lt_size e
 |own y=>obtain⟨_,e⟩:=x;exact Heap.lt_size e
 |xd fs=>obtain⟨_,⟨_,_,_,e,_⟩,_⟩:=x;exact Heap.lt_size e
 |rng lo hi=>obtain⟨_,_,_,e⟩:=x;exact Heap.lt_size e
 |frz ob u=>obtain⟨e,_⟩:=x;exact Heap.lt_size e
 |tbl ps=>exact Heap.lt_size (show h.get? a=some _ from x)
 |met f y=>exact Heap.lt_size (show h.get? a=some _ from x)
 |ext φ=>obtain⟨_,⟨_,e⟩,_⟩:=x;exact Heap.lt_size e
theorem Paired.mapP{α β:Type}{F G:α→β→Prop}:∀ {l₁:List α}{l₂:List β},Paired F l₁ l₂→(∀ a b,F a b→G a b)→Paired G l₁ l₂
 |_,_,.nil,_=>.nil
 |_,_,.cons r t,f=>.cons (f _ _ r) (Paired.mapP t f)
theorem ObjOk.stay(x:ObjOk P w H h a o)(k:∀ b u,(b=a∨H b=some (.own a))→h.get? b=some u→h'.get? b=some u)
  (ho:∀ b,H b=some (.own a)→H' b=some (.own a)) (ht:∀ b xs,H b=some (.tup xs)→H' b=some (.tup xs)):ObjOk P w H' h' a o:=by
 induction o with
 |lst xs=>obtain⟨z,its,n,r,e⟩:=x;exact⟨z,its,n,r,k _ _ (.inl rfl) e⟩
 |tup xs=>obtain⟨z,its,r,ob,e,c⟩:=x;exact⟨z,its,r,ob,k _ _ (.inl rfl) e,c⟩
 |dK kvs=>obtain⟨z,y,vs,r,ob,es,ep,e,c⟩:=x;exact⟨z,y,vs,r,ob,es,ep,k _ _ (.inl rfl) e,c⟩
 |dT kvs =>obtain⟨z,y,xs,r,ob,es,ep,e,c⟩:=x;exact⟨z,y,xs,Paired.mapP r fun p q z=>⟨z.1,ht _ _ z.2.1,z.2.2⟩,ob,es,ep,k _ _ (.inl rfl) e,c⟩
 |set S n=>obtain⟨ob,es,ep,t,e,c⟩:=x;exact⟨ob,es,ep,t,k _ _ (.inl rfl) e,c⟩
 |ins C dx fs =>obtain⟨d,z,ne,e,mA,⟨od,es,ep,e2,c⟩,r⟩:=x;exact⟨ho _ d,z,ne,k _ _ (.inl rfl) e,mA,⟨od,es,ep,k _ _ (.inr d) e2,c⟩,r⟩
 |own y=>obtain⟨ob,e⟩:=x;exact⟨ob,k _ _ (.inl rfl) e⟩
 |xd fs=>obtain⟨mA,⟨od,es,ep,e,c⟩,r⟩:=x;exact⟨mA,⟨od,es,ep,k _ _ (.inl rfl) e,c⟩,r⟩
 |rng lo hi=>obtain⟨t,u,v,e⟩:=x;exact⟨t,u,v,k _ _ (.inl rfl) e⟩
 |frz ob u ih=>obtain⟨e,q⟩:=x;exact⟨k _ _ (.inl rfl) e,ih q⟩
 |tbl ps =>have e:h.get? a=some {cls:=.none,data:=.fields ps}:=x;show h'.get? a=some {cls:=.none,data:=.fields ps};exact k a _ (.inl rfl) e
 |met f y =>have e:h.get? a=some (PySem.W.methodObj (.ref f) (.ref y)):=x;show h'.get? a=some (PySem.W.methodObj (.ref f) (.ref y));exact k a _ (.inl rfl) e
 |ext φ=>obtain⟨p,⟨o,e⟩,st⟩:=x;exact⟨st _ _ p fun o q=>k _ _ (.inl rfl) q,⟨o,k _ _ (.inl rfl) e⟩,st⟩
theorem HOk.lt(x:HOk P w H h)(e:H a=some o):a<h.objs.size:=(x a o e).lt
theorem HOk.fresh(x:HOk P w H h)(e:h.objs.size≤a):H a=none:=by
 cases q:H a with
 |none=>rfl
 |some u=>exact absurd (qR (x.lt q) e) (zK _)
theorem HOk.kept(x:HOk P w H h)(k:∀ b u,h.get? b=some u→h'.get? b=some u):HOk P w H h':=fun a o e =>
 (x a o e).stay (fun b u _ q=>k b u q) (fun _ q=>q) fun _ _ q=>q
theorem HOk.laid(x:HOk P w H h)(k:∀ b u,h.get? b=some u→h'.get? b=some u)(hp:h.objs.size≤a)(new:ObjOk P w (upd H a o) h' a o):HOk P w (upd H a o) h':=fun b u e=>by
 have hn:=x.fresh hp;by_cases hb:b=a
 ·subst hb;rw[upd_same]at e;cases e;exact new
 ·rw[upd_ne hb]at e;exact(x b u e).stay (fun c v _ q=>k c v q) (fun c q=>by rw[upd_ne (Zj q hn)];exact q) fun c xs q=>by rw[upd_ne (Zj q hn)];exact q
end
def Rd (H:Hp) (a:Addr) (u:HO):Prop:=H a=some u∨∃ o,H a=some (.frz o u)
theorem Rd.of{H:Hp}{a:Addr}{u:HO}(h:H a=some u):Rd H a u:=.inl h
theorem Rd.ok{P:Program}{w:World}{H:Hp}{h:Heap}{a:Addr}{u:HO}(r:Rd H a u)(x:HOk P w H h):ObjOk P w H h a u:=by
 rcases r with r|⟨o,r⟩
 ·exact x a u r
 ·obtain⟨_,q⟩:=x a _ r;exact q
def Mut:Option HO→Prop
 |some (.lst _)=>True
 |some (.dK _)=>True
 |some (.dT _)=>True
 |some (.set _ _)=>True
 |some (.ins _ _ _)=>True
 |some (.ext _)=>True
 |_=>False
section
variable {P:Program}{w:World}{H:Hp}{h h':Heap}{x e:Addr}{o':HO}
theorem HOk.write(ok:HOk P w H h)(mu:Mut (H x))(he:e=x∨H e=some (.own x))(k:∀ b u,b≠e→h.get? b=some u→h'.get? b=some u)(heo:∃ u,h'.get? e=some u)
  (new:ObjOk P w (upd H x o') h' x o'):HOk P w (upd H x o') h':=fun b u q=>by
 have nown:∀ c y,H c=some (.own y)→c≠x:=fun c y r z=>by subst z;rw[r]at mu;exact mu
 have ntup:∀ c xs,H c=some (.tup xs)→c≠x:=fun c xs r z=>by subst z;rw[r]at mu;exact mu
 by_cases hb:b=x
 ·subst hb;rw[upd_same]at q;cases q;exact new
 ·rw[upd_ne hb]at q;by_cases hbe:b=e
  ·have q':H b=some (.own x):=by
    rcases he with z|z
    ·exact absurd (hbe.trans z) hb
    ·rw[hbe];exact z
   rw[q]at q';cases q';obtain⟨v,hv⟩:=heo;exact⟨v,by rw[hbe];exact hv⟩
  ·refine(ok b u q).stay (fun c v hc r=>k c v ?_ r) (fun c r=>by rw[upd_ne (nown c b r)];exact r) fun c xs r=>by rw[upd_ne (ntup c xs r)];exact r
   rcases hc with rfl|hc
   ·exact hbe
   ·rintro rfl;rcases he with z|z
    ·exact nown c b hc z
    ·rw[hc]at z;cases z;exact hb rfl
end
structure Un (fs ex:List Addr) (H H':Hp) (h h':Heap):Prop where
 keep:∀ b o,h.get? b=some o→H b=none→b∉fs→b∉ex→h'.get? b=some o
 slot:∀ b o,h.get? b=some o→H b=none→b∈fs→b∉ex→∃ sl,h'.get? b=some {o with slots:=sl}
 free:∀ b o,h.get? b=some o→H b=none→b∉ex→H' b=none
 there:∀ b o,h.get? b=some o→b∉ex→∃ o',h'.get? b=some o'
 tups:∀ b xs,H b=some (.tup xs)→H' b=some (.tup xs)
 frzs:∀ b o u,H b=some (.frz o u)→H' b=some (.frz o u)
 tbls:∀ b ps,H b=some (.tbl ps)→∃ more,H' b=some (.tbl (ps++more))
section
variable {fs fs' ex ex':List Addr}{H H1 H2:Hp}{h h1 h2 h':Heap}{a x e:Addr}{o:HO}
theorem Un.any(u:Un fs ex H H1 h h1){b:Addr}{ob:Obj}(q:h.get? b=some ob)(n:H b=none)(hx:b∉ex):∃ sl,h1.get? b=some {ob with slots:=sl}:=by
 by_cases hb:b∈fs
 ·exact u.slot b ob q n hb hx
 ·exact⟨ob.slots,u.keep b ob q n hb hx⟩
theorem Un.trans(a:Un fs ex H H1 h h1)(b:Un fs ex H1 H2 h1 h2):Un fs ex H H2 h h2 where
 keep:=fun c ob q n hc hx=>b.keep c ob (a.keep c ob q n hc hx) (a.free c ob q n hx) hc hx
 slot:=fun c ob q n hc hx=>by obtain⟨sl,e1⟩:=a.slot c ob q n hc hx;obtain⟨sl',e2⟩:=b.slot c _ e1 (a.free c ob q n hx) hc hx;exact⟨sl',e2⟩
 free:=fun c ob q n hx=>by obtain⟨o',e1⟩:=a.there c ob q hx;exact b.free c o' e1 (a.free c ob q n hx) hx
 there:=fun c ob q hx=>by obtain⟨o',e1⟩:=a.there c ob q hx;exact b.there c o' e1 hx
 tups:=fun c xs q=>b.tups c xs (a.tups c xs q)
 frzs:=fun c ob xs q=>b.frzs c ob xs (a.frzs c ob xs q)
 tbls:=fun c ps q=>by obtain⟨m1,e1⟩:=a.tbls c ps q;obtain⟨m2,e2⟩:=b.tbls c _ e1;exact⟨m1++m2,by rw[e2,Array.append_assoc]⟩
theorem Un.kept(k:∀ b u,h.get? b=some u→h'.get? b=some u):Un fs ex H H h h' :=
 ⟨fun b ob q _ _ _=>k b ob q,fun b ob q _ _ _=>⟨ob.slots,k b ob q⟩,fun _ _ _ n _=>n,fun b ob q _=>⟨ob,k b ob q⟩,fun _ _ q=>q,fun _ _ _ q=>q,fun _ ps q=>⟨#[],by rw[q];simp⟩⟩
theorem Un.refl:Un fs ex H H h h:=Un.kept fun _ _ q=>q
theorem Un.laid(k:∀ b u,h.get? b=some u→h'.get? b=some u)(hp:h.objs.size≤a)(hn:H a=none):Un fs ex H (upd H a o) h h' where
 keep:=fun b u q _ _ _=>k b u q
 slot:=fun b u q _ _ _=>⟨u.slots,k b u q⟩
 free:=fun b u q n _=>by rw[upd_ne (zF (qR (Heap.lt_size q) hp))];exact n
 there:=fun b u q _=>⟨u,k b u q⟩
 tups:=fun b xs q=>by rw[upd_ne (Zj q hn)];exact q
 frzs:=fun b u xs q=>by rw[upd_ne (Zj q hn)];exact q
 tbls:=fun b ps q=>⟨#[],by rw[upd_ne (Zj q hn),q];simp⟩
theorem Un.write(mu:Mut (H x))(he:e=x∨H e=some (.own x))(k:∀ b u,b≠e→h.get? b=some u→h'.get? b=some u)(heo:∃ u,h'.get? e=some u):Un fs ex H (upd H x o) h h':=by
 have hx:∀ b,H b=none→b≠x:=fun b n z=>by subst z;rw[n]at mu;exact mu
 have hb:∀ b,H b=none→b≠e:=fun b n z=>by
  subst z;rcases he with r|r
  ·exact hx b n r
  ·rw[n]at r;cases r
 have hm:∀ b u,H b=some u→¬ Mut (some u)→b≠x:=fun b u q nm z=>by subst z;rw[q]at mu;exact nm mu
 refine⟨fun b u q n _ _=>k b u (hb b n) q,fun b u q n _ _=>⟨u.slots,k b u (hb b n) q⟩,fun b u q n _=>by rw[upd_ne (hx b n)];exact n,fun b u q _=>?_,
   fun b xs q=>by rw[upd_ne (hm b _ q fun z=>z)];exact q,fun b u xs q=>by rw[upd_ne (hm b _ q fun z=>z)];exact q,fun b ps q=>⟨#[],by rw[upd_ne (hm b _ q fun z=>z),q];simp⟩⟩
 by_cases hbe:b=e
 ·subst hbe;exact heo
 ·exact⟨u,k b u hbe q⟩
theorem Un.mono(u:Un fs ex H H1 h h1)(hs:∀ b∈fs,b∈fs')(hx:∀ b∈ex,b∈ex'):Un fs' ex' H H1 h h1 :=
 ⟨fun b ob q n hb he=>u.keep b ob q n (fun z=>hb (hs b z)) fun z=>he (hx b z),fun _ _ q n _ he=>u.any q n fun z=>he (hx _ z),fun b ob q n he=>u.free b ob q n fun z=>he (hx b z),fun b ob q he=>u.there b ob q fun z=>he (hx b z),u.tups,u.frzs,u.tbls⟩
end
def trk (h:Heap) (H:Hp):List Addr:=(List.range h.objs.size).filter fun a=>(H a).isSome
def W7 (h:Heap) (H:Hp):Heap:=PySem.W.hideAll h (trk h H)
theorem N2(h:Heap)(H:Hp):(W7 h H).objs.size=h.objs.size:=PySem.W.hideAll_size _ _
theorem UC{h:Heap}{H:Hp}{b:Addr}{o:Obj}(e:h.get? b=some o)(n:H b=none):(W7 h H).get? b=some o :=
 PySem.W.hideAll_get _ e fun hm=>by have q:(H b).isSome=true:=(List.mem_filter.mp hm).2;rw[n]at q;simp at q
theorem Bt{h:Heap}{H:Hp}{b:Addr}{o:Obj}(e:(W7 h H).get? b=some o):h.get? b=some o∧H b=none:=by
 have e':h.get? b=some o:=PySem.W.of_hideAll (trk h H) e;refine⟨e',?_⟩;cases q:H b with
 |none=>rfl
 |some x =>have hm:b∈trk h H:=List.mem_filter.mpr ⟨List.mem_range.mpr (Heap.lt_size e'),by simp[q]⟩;have z:(W7 h H).get? b=none:=PySem.W.hideAll_none (trk h H) hm;rw[z]at e;cases e
def Ar (g h:Heap) (L:Addr):List (Addr×Obj):=(List.range h.objs.size).filterMap fun a=>if a=L∨(g.get? a).isSome=true then none else(h.get? a).map fun o=>(a,o)
def rest (g h:Heap) (L d:Addr):List (Addr×Obj):=(Ar g h L).filter fun p=>decide (p.1≠d)
structure Mod (K:PySem.W.Frag) (mg:Str→Option Value) (base:Heap):Prop where
 kin:K.In base
 glob:base.Ns mainGlobals mg
 blt:∃ mb,base.Ns builtinsNs mb∧∀ x:Str,x≠"__name__"→mb x=bootBuiltins x
 nolimit:base.NoLimit
structure Cx where
 prog:Program
 w:World
 K:PySem.W.Frag
 mg:Str→Option Value
 base:Heap
 A:Around
 N:List Str
 s₀:Shared
 H₀:Hp
 env:Env
 outer:List Env
 stack:List Env
 ex:List Addr
 fn:Str→Bool
 calm:Bool
 pn:List (Addr×Obj)
 xe:Value→Shared→Prop
def frs (l:List Env):List Addr:=l.filterMap (·.frame)
abbrev Cx.fs (X:Cx):List Addr:=frs X.outer
def Vis (sc:Scope) (x:Str):Prop:=sc.names.lookup x=some .local∨sc.names.lookup x=some .cell∨sc.names.lookup x=some .free
def Loc (sc:Scope) (x:Str):Prop:=sc.names.lookup x=some .local∨sc.names.lookup x=some .cell
def HR (env:Env) (h:Heap) (m:Str→Option Value) (x:Str) (u:Value):Prop :=
 (env.kindOf x=some .local∧m x=some u)∨((env.kindOf x=some .cell∨env.kindOf x=some .free)∧∃ c,env.cells.lookup x=some c∧h.IsCell c (some u))
structure Cx.Ok (X:Cx):Prop where
 mod:Mod X.K X.mg X.base
 kind:X.env.scope.kind=.function
 glob:X.env.globals=mainGlobals
 blt:X.env.builtins=builtinsNs
 above:X.s₀.heap.objs.size≤X.env.locals
 inj:∀ x y c,X.env.cells.lookup x=some c→X.env.cells.lookup y=some c→x=y
 has:∀ x,(X.env.kindOf x=some .cell∨X.env.kindOf x=some .free)→∃ c,X.env.cells.lookup x=some c
 cab:∀ x c,X.fn x=true→X.env.cells.lookup x=some c→X.s₀.heap.objs.size≤c
 hd:X.calm=true→X.A.handled=none
 frames:X.A.frames=some X.stack
 stk:X.stack=X.outer∨(X.stack=X.env::X.outer∧X.env.frame=some X.env.locals)
 exf:∀ b∈X.ex,b≠X.env.locals∧∀ x c,X.env.cells.lookup x=some c→c≠b
 bs:∀ b o,X.base.get? b=some o→X.s₀.heap.get? b=some o∧X.H₀ b=none
 bsz:X.base.objs.size≤X.s₀.heap.objs.size
 noex:∀ b o,X.base.get? b=some o→b∉X.ex
 exfs:∀ b∈X.ex,b∉X.fs
 funs:X.s₀.heap.FunFrames X.base X.outer
 frf:∀ b∈X.fs,X.H₀ b=none
structure Inv (X:Cx) (pins:List (Addr×Obj)) (σ:List (Option V)) (H:Hp) (s:Shared):Prop where
 ok:X.Ok
 os:s.os=X.s₀.os
 bare:AllBare s.gens
 base:Un X.fs X.ex X.H₀ H X.s₀.heap s.heap
 loc:∃ m,s.heap.Ns X.env.locals m∧∀ (i:Nat) (x:Str) (v:V),X.N[i]?=some x→σ[i]?=some (some v)→Vis X.env.scope x→∃ u,RelV v u∧HR X.env s.heap m x u
 cell:∀ x c,X.env.cells.lookup x=some c→∃ v,s.heap.IsCell c v
 free:H X.env.locals=none
 freeC:∀ x c,X.env.cells.lookup x=some c→H c=none
 pin:∀ p∈X.pn++pins,s.heap.get? p.1=some p.2∧H p.1=none∧p.1≠X.env.locals∧p.1∉X.fs∧∀ v,p.2.data≠.cell v
 hok:HOk X.prog X.w H s.heap
 len:σ.length=X.N.length
section
variable {X:Cx}{pins:List (Addr×Obj)}{σ:List (Option V)}{H H':Hp}{s:Shared}{h':Heap}
theorem Cx.Ok.nofr(ok:X.Ok){b:Addr}{o:Obj}(e:X.base.get? b=some o):b∉X.fs:=fun hb=>by have:=(ok.funs.mem hb).1;rw[e]at this;cases this
theorem Inv.bs(I:Inv X pins σ H s):∀ b o,X.base.get? b=some o→s.heap.get? b=some o∧H b=none:=fun b o e =>
 ⟨I.base.keep b o (I.ok.bs b o e).1 (I.ok.bs b o e).2 (I.ok.nofr e) (I.ok.noex b o e),I.base.free b o (I.ok.bs b o e).1 (I.ok.bs b o e).2 (I.ok.noex b o e)⟩
theorem Inv.bk(I:Inv X pins σ H s):∀ b o,X.base.get? b=some o→s.heap.get? b=some o:=fun b o e=>(I.bs b o e).1
theorem Inv.mod(I:Inv X pins σ H s):Mod X.K X.mg X.base:=I.ok.mod
theorem Inv.kIn(I:Inv X pins σ H s):X.K.In s.heap:=I.ok.mod.kin.keeps I.bk
theorem Inv.nolimit(I:Inv X pins σ H s):s.heap.NoLimit:=I.ok.mod.nolimit.keeps I.bk
theorem Inv.lt(I:Inv X pins σ H s):X.env.locals<s.heap.objs.size:=let ⟨_,hn,_⟩:=I.loc;hn.lt
theorem Inv.sz(I:Inv X pins σ H s):X.s₀.heap.objs.size≤s.heap.objs.size:=zE I.ok.above (Nat.le_of_lt I.lt)
theorem Inv.nofs(I:Inv X pins σ H s){a:Addr}(h:s.heap.objs.size≤a):a∉X.fs:=fun hb=>by obtain⟨_,o,ho,_⟩:=I.ok.funs.mem hb;exact absurd (qR (Heap.lt_size ho) (zE I.sz h)) (zK _)
theorem Inv.cne(I:Inv X pins σ H s):∀ x c,X.env.cells.lookup x=some c→c≠X.env.locals:=fun x c e z=>by obtain⟨v,o,ho,hd⟩:=I.cell x c e;obtain⟨m,⟨o',es,ep,ho',hd',_⟩,_⟩:=I.loc;rw[z,ho']at ho;cases ho;rw[hd']at hd;cases hd
theorem Inv.funs(I:Inv X pins σ H s):s.heap.FunFrames X.base X.outer:=by
 have all:∀ (l:List Env),(∀ b∈frs l,b∈X.fs)→X.s₀.heap.FunFrames X.base l→s.heap.FunFrames X.base l:=by
  intro l;induction l with
  |nil=>intro _ _;trivial
  |cons env r ih =>intro hs hl;obtain⟨hk,⟨L,o,hf,hn,ho,hd⟩,hr⟩:=hl;have hL:L∈X.fs:=hs L (by unfold frs;rw[zJ,hf];exact qT);obtain⟨sl,e⟩:=I.base.slot L o ho (I.ok.frf L hL) hL fun z=>I.ok.exfs L z hL;exact⟨hk,⟨L,_,hf,hn,e,hd⟩,ih (fun b hb=>hs b (by unfold frs;rw[zJ,hf];exact qI _ hb)) hr⟩
 exact all X.outer (fun _ hb=>hb) I.ok.funs
theorem Inv.stack(I:Inv X pins σ H s):s.heap.FunFrames X.base X.stack:=by
 rcases I.ok.stk with e|⟨e,hf⟩
 ·rw[e];exact I.funs
 ·rw[e];obtain⟨m,hn,_⟩:=I.loc;refine .cons (by rw[I.ok.kind];decide) hf hn ?_ I.funs;exact Heap.get?_none_of_le (zE I.ok.bsz I.ok.above)
theorem Inv.stkSub(I:Inv X pins σ H s):∀ b∈frs X.stack,b∈X.env.locals::X.fs:=fun b hb=>by
 rcases I.ok.stk with e|⟨e,hf⟩
 ·rw[e]at hb;exact qI _ hb
 ·rw[e]at hb;unfold frs at hb;rw[zJ,hf]at hb;exact hb
theorem Inv.stkFree(I:Inv X pins σ H s):∀ b∈frs X.stack,H b=none:=fun b hb=>by
 rcases qE.mp (I.stkSub b hb)with e|hb
 ·rw[e];exact I.free
 ·obtain⟨_,o,ho,_⟩:=I.ok.funs.mem hb;exact I.base.free b o ho (I.ok.frf b hb) fun z=>I.ok.exfs b z hb
theorem Inv.step{g':Array GenState}{t':Nat}{d':Drawn}{ch:List Addr}(I:Inv X pins σ H s)
  (hch:∀ b∈ch,(b∈X.ex∨X.s₀.heap.objs.size≤b)∧b≠X.env.locals∧(∀ x c,X.env.cells.lookup x=some c→c≠b)∧∀ p∈X.pn++pins,p.1≠b)
  (keep:∀ b o,b≠X.env.locals→b∉X.fs→b∉ch→s.heap.get? b=some o→H b=none→h'.get? b=some o)
  (slot:∀ b o,b≠X.env.locals→b∈X.fs→b∉ch→s.heap.get? b=some o→H b=none→∃ sl,h'.get? b=some {o with slots:=sl}) (free:∀ b o,b∉ch→s.heap.get? b=some o→H b=none→H' b=none)
  (there:∀ b o,b∉ch→s.heap.get? b=some o→∃ o',h'.get? b=some o')
  (tups:∀ b xs,H b=some (.tup xs)→H' b=some (.tup xs)) (frzs:∀ b o u,H b=some (.frz o u)→H' b=some (.frz o u)) (tbls:∀ b ps,H b=some (.tbl ps)→∃ more,H' b=some (.tbl (ps++more)))
  (ns:∀ m,s.heap.Ns X.env.locals m→h'.Ns X.env.locals m) (hok:HOk X.prog X.w H' h') (hg:AllBare g') :
  Inv X pins σ H' {s with heap:=h',gens:=g',drawn:=d',toks:=t'}:=by
 have neL:∀ b o,X.s₀.heap.get? b=some o→b≠X.env.locals:=fun b o e=>zF (qR (Heap.lt_size e) I.ok.above);have neC:∀ b o,X.s₀.heap.get? b=some o→b∉X.ex→b∉ch:=fun b o e hx hb=>by
  rcases (hch b hb).1 with z|z
  ·exact hx z
  ·exact absurd (qR (Heap.lt_size e) z) (zK _)
 have cellK:∀ x c,X.env.cells.lookup x=some c→∀ v,s.heap.IsCell c v→h'.IsCell c v:=fun x c e v ⟨o,ho,hd⟩=>by
  have nch:c∉ch:=fun z=>(hch c z).2.2.1 x c e rfl;by_cases hc:c∈X.fs
  ·obtain⟨sl,q⟩:=slot c o (I.cne x c e) hc nch ho (I.freeC x c e);exact⟨_,q,hd⟩
  ·exact⟨o,keep c o (I.cne x c e) hc nch ho (I.freeC x c e),hd⟩
 refine⟨I.ok,I.os,hg,⟨fun b o e n hb hx=>?_,fun b o e n hb hx=>?_,fun b o e n hx=>?_,fun b o e hx=>?_,fun b xs e=>tups b xs (I.base.tups b xs e),fun b o xs e=>frzs b o xs (I.base.frzs b o xs e),fun b ps e=>?_⟩,?_,fun x c e=>?_,?_,fun x c e=>?_,fun p hp=>?_,hok,I.len⟩
 ·exact keep b o (neL b o e) hb (neC b o e hx) (I.base.keep b o e n hb hx) (I.base.free b o e n hx)
 ·obtain⟨sl,e1⟩:=I.base.slot b o e n hb hx;obtain⟨sl',e2⟩:=slot b _ (neL b o e) hb (neC b o e hx) e1 (I.base.free b o e n hx);exact⟨sl',e2⟩
 ·obtain⟨o',e1⟩:=I.base.there b o e hx;exact free b o' (neC b o e hx) e1 (I.base.free b o e n hx)
 ·obtain⟨o',e1⟩:=I.base.there b o e hx;exact there b o' (neC b o e hx) e1
 ·obtain⟨m1,e1⟩:=I.base.tbls b ps e;obtain⟨m2,e2⟩:=tbls b _ e1;exact⟨m1++m2,by rw[e2,Array.append_assoc]⟩
 ·obtain⟨m,hn,hl⟩:=I.loc;refine⟨m,ns m hn,fun i x v e1 e2 e3=>?_⟩;obtain⟨u,r,l⟩:=hl i x v e1 e2 e3;refine⟨u,r,?_⟩;rcases l with l|⟨k,c,e,z⟩
  ·exact .inl l
  ·exact .inr ⟨k,c,e,cellK x c e _ z⟩
 ·obtain⟨v,z⟩:=I.cell x c e;exact⟨v,cellK x c e v z⟩
 ·obtain⟨m,⟨o,_,_,ho,_⟩,_⟩:=I.loc;exact free _ o (fun z=>(hch _ z).2.1 rfl) ho I.free
 ·obtain⟨v,o,ho,hd⟩:=I.cell x c e;exact free c o (fun z=>(hch c z).2.2.1 x c e rfl) ho (I.freeC x c e)
 ·obtain⟨e,n,ne,nf,d⟩:=I.pin p hp;have nch:p.1∉ch:=fun z=>(hch p.1 z).2.2.2 p hp rfl;exact⟨keep p.1 p.2 ne nf nch e n,free p.1 p.2 nch e n,ne,nf,d⟩
theorem Inv.un{t':Nat}(I:Inv X pins σ H s)(u:Un X.fs [] H H' s.heap h')(hok:HOk X.prog X.w H' h'):Inv X pins σ H' {s with heap:=h',toks:=t'}:=by
 obtain⟨m,⟨o,es,ep,ho,r⟩,_⟩:=id I.loc;obtain⟨sl,hL⟩:=u.any ho I.free (by simp);exact I.step (g':=s.gens) (d':=s.drawn) (ch:=[]) (fun _ z=>nomatch z) (fun b o _ hb _ e n=>u.keep b o e n hb (by simp)) (fun b o _ hb _ e n=>u.slot b o e n hb (by simp)) (fun b o _ e n=>u.free b o e n (by simp)) (fun b o _ e=>u.there b o e (by simp)) u.tups u.frzs u.tbls (fun m' hm=>by
   obtain⟨o',es',ep',ho',r'⟩:=hm
   rw[ho]at ho';cases ho'
   exact⟨_,es',ep',hL,r'⟩) hok I.bare
theorem Inv.call{g':Array GenState}{t':Nat}{d':Drawn}{ch:List Addr}(I:Inv X pins σ H s)(u:Un (frs X.stack) ch H H' s.heap h')(hok:HOk X.prog X.w H' h')(hg:AllBare g')
  (hch:∀ b∈ch,(b∈X.ex∨X.s₀.heap.objs.size≤b)∧b≠X.env.locals∧(∀ x c,X.env.cells.lookup x=some c→c≠b)∧∀ p∈X.pn++pins,p.1≠b) :
  Inv X pins σ H' {s with heap:=h',gens:=g',drawn:=d',toks:=t'}:=by
 obtain⟨m,⟨o,es,ep,ho,r⟩,_⟩:=id I.loc;obtain⟨sl,hL⟩:=u.any ho I.free fun z=>(hch _ z).2.1 rfl;exact I.step (ch:=ch) hch (fun b o hL hb hc e n=>u.keep b o e n (fun z=>(qE.mp (I.stkSub b z)).elim hL hb) hc) (fun b o _ _ hc e n=>u.any e n hc) (fun b o hc e n=>u.free b o e n hc) (fun b o hc e=>u.there b o e hc) u.tups u.frzs u.tbls (fun m' hm=>by
   obtain⟨o',es',ep',ho',r'⟩:=hm
   rw[ho]at ho';cases ho'
   exact⟨_,es',ep',hL,r'⟩) hok hg
theorem Inv.turned{t':Nat}{it:Addr}(I:Inv X pins σ H s)(k:∀ b o,b≠it→s.heap.get? b=some o→h'.get? b=some o)(hn:H it=none)(hL:it≠X.env.locals)
  (h1:it∈X.ex∨X.s₀.heap.objs.size≤it) (h2:∀ x c,X.env.cells.lookup x=some c→c≠it) (h3:∀ p∈X.pn++pins,p.1≠it):Inv X pins σ H {s with heap:=h',toks:=t'}:=by
 have nit:∀ b u,H b=some u→b≠it:=fun b u e z=>by rw[z,hn]at e;cases e
 refine I.step (g':=s.gens) (d':=s.drawn) (ch:=[it]) (fun b hb=>?_) (fun b o _ _ hc e _=>k b o (fun z=>hc (by simp[z])) e) (fun b o _ _ hc e _=>⟨o.slots,k b o (fun z=>hc (by simp[z])) e⟩) (fun _ _ _ _ n=>n)
  (fun b o hc e=>⟨o,k b o (fun z=>hc (by simp[z])) e⟩) (fun _ _ e=>e) (fun _ _ _ e=>e) (fun b ps e=>⟨#[],by rw[e];simp⟩) (fun m hm=>?_) (fun b u e=>?_) I.bare
 ·have e:b=it:=by simpa using hb
  subst e;exact⟨h1,hL,h2,h3⟩
 ·obtain⟨o,es,ep,ho,r⟩:=hm;exact⟨o,es,ep,k _ o (Ne.symm hL) ho,r⟩
 ·refine(I.hok b u e).stay (fun c v hc q=>k c v ?_ q) (fun _ q=>q) fun _ _ q=>q;rcases hc with z|z
  ·rw[z];exact nit b u e
  ·exact nit c _ z
theorem Inv.tok(I:Inv X pins σ H s)(t:Nat):Inv X pins σ H {s with toks:=t}:=I.un (h':=s.heap) (t':=t) Un.refl I.hok
theorem Inv.kept{t':Nat}(I:Inv X pins σ H s)(k:∀ b u,s.heap.get? b=some u→h'.get? b=some u):Inv X pins σ H {s with heap:=h',toks:=t'}:=I.un (Un.kept k) (I.hok.kept k)
theorem Inv.laid{a:Addr}{o:HO}{t':Nat}(I:Inv X pins σ H s)(k:∀ b u,s.heap.get? b=some u→h'.get? b=some u)(hp:s.heap.objs.size≤a)(new:ObjOk X.prog X.w (upd H a o) h' a o) :
  Inv X pins σ (upd H a o) {s with heap:=h',toks:=t'}:=I.un (Un.laid k hp (I.hok.fresh hp)) (I.hok.laid k hp new)
theorem Inv.write{x e:Addr}{o:HO}{t':Nat}(I:Inv X pins σ H s)(mu:Mut (H x))(he:e=x∨H e=some (.own x))(k:∀ b u,b≠e→s.heap.get? b=some u→h'.get? b=some u)(heo:∃ u,h'.get? e=some u)
  (new:ObjOk X.prog X.w (upd H x o) h' x o):Inv X pins σ (upd H x o) {s with heap:=h',toks:=t'}:=I.un (Un.write mu he k heo) (I.hok.write mu he k heo new)
theorem Inv.pins_of{pins':List (Addr×Obj)}(I:Inv X pins σ H s)(h:∀ p∈pins',s.heap.get? p.1=some p.2∧H p.1=none∧p.1≠X.env.locals∧p.1∉X.fs∧∀ v,p.2.data≠.cell v):Inv X pins' σ H s :=
 ⟨I.ok,I.os,I.bare,I.base,I.loc,I.cell,I.free,I.freeC,fun p hp=>(q8.mp hp).elim (fun z=>I.pin p (qM _ z)) (h p),I.hok,I.len⟩
theorem Kd{N:List Str}(hN:N.Nodup){i j:Nat}{x:Str}(a:N[i]?=some x)(b:N[j]?=some x):i=j:=by obtain⟨h1,e1⟩:=qK.mp a;obtain⟨h2,e2⟩:=qK.mp b;exact(List.getElem_inj hN).mp (e1.trans e2.symm)
theorem WH{M:Model}{A:Around}{E:Value→Shared→Prop}{i:Nat}{x:Str}{v:V}{u:Value}{Q:Unit→Shared→Prop}(I:Inv X pins σ H s)(hN:X.N.Nodup)(hi:X.N[i]?=some x)(hx:Loc X.env.scope x)(r:RelV v u)
  (h:∀ s',Inv X pins (σ.set i (some v)) H s'→(∃ a,Heap.SameBut a s.heap s'.heap∧(a=X.env.locals∨X.env.cells.lookup x=some a))→Q () s') (hf:X.fn x=true∨X.env.scope.names.lookup x=some .local:=by first|exact .inl rfl|exact .inr rfl|assumption):wpAny M A (storeName X.env x u) Q E s:=by
 obtain⟨m,hn,hl⟩:=id I.loc;have hcls:(X.env.scope.kind == .class||(X.env.scope.kind == .module&&X.env.locals != X.env.globals))=false:=by rw[I.ok.kind];rfl
 have hiσ:i<σ.length:=by rw[I.len];exact(qK.mp hi).1
 have cne:=I.cne;have tracked:∀ {a:Addr}{h':Heap},(∃ o,s.heap.get? a=some o∧H a=none)→Heap.SameBut a s.heap h'→HOk X.prog X.w H h':=fun {a h'} ha hs b ob e=>by
  obtain⟨_,_,hfree⟩:=ha;refine(I.hok b ob e).stay (fun c w' hc q=>(hs.2 c ?_).trans q) (fun _ q=>q) fun _ _ q=>q;rintro rfl;rcases hc with rfl|hc
  ·rw[hfree]at e;cases e
  ·rw[hfree]at hc;cases hc
 rcases hx with hk|hk
 ·refine wpAny_storeName_local hk hn (fun h' hn' hs=>?_) hcls;obtain⟨oL,_,_,hoL,_⟩:=id hn;refine h _ ⟨I.ok,I.os,I.bare,⟨fun b o e n hb hx=>?_,fun b o e n hb hx=>?_,I.base.free,fun b o e hx=>?_,I.base.tups,I.base.frzs,I.base.tbls⟩,⟨_,hn',fun j y v' e1 e2 e3=>?_⟩,fun y c e=>?_,I.free,I.freeC,fun p hp=>?_,tracked ⟨oL,hoL,I.free⟩ hs,by simpa using I.len⟩ ⟨_,hs,.inl rfl⟩
  ·exact(hs.2 b (zF (qR (Heap.lt_size e) I.ok.above))).trans (I.base.keep b o e n hb hx)
  ·obtain⟨sl,e1⟩:=I.base.slot b o e n hb hx;exact⟨sl,(hs.2 b (zF (qR (Heap.lt_size e) I.ok.above))).trans e1⟩
  ·obtain⟨o',e1⟩:=I.base.there b o e hx;exact⟨o',(hs.2 b (zF (qR (Heap.lt_size e) I.ok.above))).trans e1⟩
  ·by_cases hj:j=i
   ·subst hj;rw[hi]at e1;cases e1;rw[List.getElem?_set_self hiσ]at e2;cases e2;exact⟨u,r,.inl ⟨hk,by simp⟩⟩
   ·rw[List.getElem?_set_ne (Ne.symm hj)]at e2;obtain⟨u',r',q⟩:=hl j y v' e1 e2 e3;refine⟨u',r',?_⟩;rcases q with⟨k,e⟩|⟨k,c,e,z⟩
    ·refine .inl ⟨k,?_⟩;have:y≠x:=fun e=>hj (Kd hN e1 (e▸hi));simp[this,e]
    ·exact .inr ⟨k,c,e,z.sameBut hs (cne y c e)⟩
  ·obtain⟨w',z⟩:=I.cell y c e;exact⟨w',z.sameBut hs (cne y c e)⟩
  ·obtain⟨e,n,ne,nf,d⟩:=I.pin p hp;exact⟨(hs.2 p.1 ne).trans e,n,ne,nf,d⟩
 ·have hfn:X.fn x=true:=by
   rcases hf with z|z
   ·exact z
   ·rw[z]at hk;cases hk
  obtain⟨c,hc⟩:=I.ok.has x (.inl hk);obtain⟨w',z⟩:=I.cell x c hc;refine wpAny_storeName_cell I.ok.kind hk hc z (fun h' hc' hs=>?_);obtain⟨oc,hoc,hocd⟩:=id z;refine h {s with heap:=h'} ⟨I.ok,I.os,I.bare,⟨fun b o e n hb hx=>?_,fun b o e n hb hx=>?_,I.base.free,fun b o e hx=>?_,I.base.tups,I.base.frzs,I.base.tbls⟩,⟨m,hn.sameBut hs (Ne.symm (cne x c hc)),fun j y v' e1 e2 e3=>?_⟩,fun y c' e=>?_,I.free,I.freeC,fun p hp=>?_,tracked ⟨oc,hoc,I.freeC x c hc⟩ hs,by simpa using I.len⟩ ⟨c,hs,.inr hc⟩
  ·exact(hs.2 b (zF (qR (Heap.lt_size e) (I.ok.cab x c hfn hc)))).trans (I.base.keep b o e n hb hx)
  ·obtain⟨sl,e1⟩:=I.base.slot b o e n hb hx;exact⟨sl,(hs.2 b (zF (qR (Heap.lt_size e) (I.ok.cab x c hfn hc)))).trans e1⟩
  ·obtain⟨o',e1⟩:=I.base.there b o e hx;exact⟨o',(hs.2 b (zF (qR (Heap.lt_size e) (I.ok.cab x c hfn hc)))).trans e1⟩
  ·by_cases hj:j=i
   ·subst hj;rw[hi]at e1;cases e1;rw[List.getElem?_set_self hiσ]at e2;cases e2;exact⟨u,r,.inr ⟨.inl hk,c,hc,hc'⟩⟩
   ·rw[List.getElem?_set_ne (Ne.symm hj)]at e2;obtain⟨u',r',q⟩:=hl j y v' e1 e2 e3;refine⟨u',r',?_⟩;rcases q with q|⟨k,c',e,z'⟩
    ·exact .inl q
    ·refine .inr ⟨k,c',e,z'.sameBut hs ?_⟩;rintro rfl;exact hj (Kd hN e1 (I.ok.inj _ _ _ e hc▸hi))
  ·by_cases hcc:c'=c
   ·subst hcc;exact⟨_,hc'⟩
   ·obtain⟨w2,z2⟩:=I.cell y c' e;exact⟨w2,z2.sameBut hs hcc⟩
  ·obtain⟨e,n,ne,nf,d⟩:=I.pin p hp;refine⟨(hs.2 p.1 ?_).trans e,n,ne,nf,d⟩;intro q;rw[q,hoc]at e;have q':oc=p.2:=Option.some.inj e;exact d w' (by rw[←q'];exact hocd)
theorem Aj{M:Model}{A:Around}{E:Value→Shared→Prop}{i:Nat}{x:Str}{v:V}{u:Value}{Q:Unit→Shared→Prop}(I:Inv X pins σ H s)(hN:X.N.Nodup)(hi:X.N[i]?=some x)(hx:Loc X.env.scope x)(r:RelV v u)
  (h:∀ s',Inv X pins (σ.set i (some v)) H s'→Q () s') (hf:X.fn x=true∨X.env.scope.names.lookup x=some .local:=by first|exact .inl rfl|exact .inr rfl|assumption):wpAny M A (storeName X.env x u) Q E s :=
 WH I hN hi hx r (fun s' I' _=>h s' I') hf
theorem Inv.call'{s':Shared}{ch:List Addr}(I:Inv X pins σ H s)(ho:s'.os=s.os)(u:Un (frs X.stack) ch H H' s.heap s'.heap)(hok:HOk X.prog X.w H' s'.heap)(hg:AllBare s'.gens)
  (hch:∀ b∈ch,(b∈X.ex∨X.s₀.heap.objs.size≤b)∧b≠X.env.locals∧(∀ x c,X.env.cells.lookup x=some c→c≠b)∧∀ p∈X.pn++pins,p.1≠b):Inv X pins σ H' s':=by
 obtain⟨h',g',d',t',o'⟩:=s';have e:o'=s.os:=ho;subst e;exact I.call (g':=g') (t':=t') (d':=d') u hok hg hch
end
abbrev XK:=Value→Option Addr→Hp→Prop
abbrev St:=List (Option V)
abbrev VK:=V→Hp→Prop
abbrev TE:=St→Hp→VK→Prop
abbrev TT:=St→Hp→(Bool→Hp→Prop)→Prop
abbrev TA:=St→Hp→(List V→Hp→Prop)→Prop
structure Ends where
 nx:St→Hp→Prop
 rt:VK
 bk:St→Hp→Prop:=fun _ _=>False
 ct:St→Hp→Prop:=fun _ _=>False
abbrev TS:=Ends→St→Hp→Prop
def EP (X:Cx) (pins:List (Addr×Obj)) (σ:St) (Q:VK) (u:Value) (s':Shared):Prop:=∃ v H',Inv X pins σ H' s'∧RelV v u∧Q v H'
def TP (X:Cx) (pins:List (Addr×Obj)) (σ:St) (Q:Bool→Hp→Prop) (b:Bool) (s':Shared):Prop:=∃ H',Inv X pins σ H' s'∧Q b H'
def AP (X:Cx) (pins:List (Addr×Obj)) (σ:St) (Q:List V→Hp→Prop) (us:List Value) (s':Shared):Prop:=∃ vs H',Inv X pins σ H' s'∧Vals vs us∧Q vs H'
def SP (X:Cx) (pins:List (Addr×Obj)) (D:Ends) (f:Flow) (s':Shared):Prop :=
 match f with
 |.next=>∃ σ' H',Inv X pins σ' H' s'∧D.nx σ' H'
 |.brk=>∃ σ' H',Inv X pins σ' H' s'∧D.bk σ' H'
 |.cont=>∃ σ' H',Inv X pins σ' H' s'∧D.ct σ' H'
 |.ret u=>∃ v σ' H',Inv X pins σ' H' s'∧RelV v u∧D.rt v H'
def PE (X:Cx) (e:Expr) (t:TE):Prop :=
 ∀ (pins:List (Addr×Obj)) (s:Shared) (σ:St) (H:Hp) (Q:VK),Inv X pins σ H s→t σ H Q→wpAny (model X.prog X.w) X.A (eval e X.env) (EP X pins σ Q) X.xe s
def PT (X:Cx) (e:Expr) (t:TT):Prop :=
 ∀ (pins:List (Addr×Obj)) (s:Shared) (σ:St) (H:Hp) (Q:Bool→Hp→Prop),Inv X pins σ H s→t σ H Q→wpAny (model X.prog X.w) X.A (isTrue e X.env (eval e X.env)) (TP X pins σ Q) X.xe s
def PW (X:Cx) (e:Expr) (t:TT):Prop :=
 ∀ (whole:Sem Value) (pins:List (Addr×Obj)) (s:Shared) (σ:St) (H:Hp) (Q:Bool→Hp→Prop),Inv X pins σ H s→t σ H Q→wpAny (model X.prog X.w) X.A (isTrue e X.env whole) (TP X pins σ Q) X.xe s
theorem PW.pt{X:Cx}{e:Expr}{t:TT}(h:PW X e t):PT X e t:=h _
def PA (X:Cx) (es:List Expr) (t:TA):Prop :=
 ∀ (pos:Pos) (pins:List (Addr×Obj)) (s:Shared) (σ:St) (H:Hp) (Q:List V→Hp→Prop),Inv X pins σ H s→t σ H Q→wpAny (model X.prog X.w) X.A (spliced (backTo pos (starEach es X.env))) (AP X pins σ Q) X.xe s
def PS (X:Cx) (st:Stmt) (t:TS):Prop :=
 ∀ (pins:List (Addr×Obj)) (s:Shared) (σ:St) (H:Hp) (D:Ends),Inv X pins σ H s→t D σ H→wpAny (model X.prog X.w) X.A (exec st X.env) (SP X pins D) X.xe s
def PSs (X:Cx) (st:List Stmt) (t:TS):Prop :=
 ∀ (pins:List (Addr×Obj)) (s:Shared) (σ:St) (H:Hp) (D:Ends),Inv X pins σ H s→t D σ H→wpAny (model X.prog X.w) X.A (execs st X.env) (SP X pins D) X.xe s
theorem thn{α:Type}{t:Sem α}{Q Q':α→Shared→Prop}{M:Model}{A:Around}{E:Value→Shared→Prop}{s:Shared}(h:wpAny M A t Q E s)(hQ:∀ a s,Q a s→Q' a s):wpAny M A t Q' E s:=wpAny_mono h hQ fun _ _ x=>x
section
variable {X:Cx}
theorem bin{a b:Expr}{ta tb:TE}(ha:PE X a ta)(hb:PE X b tb){pins:List (Addr×Obj)}{s:Shared}{σ:St}{H:Hp}{R:V→V→Hp→Prop}(I:Inv X pins σ H s)(h:ta σ H fun x H1=>tb σ H1 fun y H2=>R x y H2)
  {α:Type}{Q:α→Shared→Prop}{f:Value→Value→Sem α}
  (hf:∀ v u s2 x y H2,Inv X pins σ H2 s2→RelV x v→RelV y u→R x y H2→wpAny (model X.prog X.w) X.A (f v u) Q X.xe s2) :
  wpAny (model X.prog X.w) X.A (eval a X.env) (fun v s₁=>wpAny (model X.prog X.w) X.A (eval b X.env) (fun u s₂=>wpAny (model X.prog X.w) X.A (f v u) Q X.xe s₂) X.xe s₁) X.xe s:=by
 refine thn (ha pins s σ H _ I h) fun v s1 ⟨x,H1,I1,r1,q1⟩=>?_;refine thn (hb pins s1 σ H1 _ I1 q1) fun u s2 ⟨y,H2,I2,r2,q2⟩=>?_;exact hf v u s2 x y H2 I2 r1 r2 q2
def Ii (i:Nat):TE:=fun σ H Q=>∃ v,σ[i]?=some (some v)∧Q v H
def tC (v:V):TE:=fun _ H Q=>Q v H
theorem D5 {i:Nat}{x:Str}{pos:Pos}(hN:X.N[i]?=some x) (hv:Vis X.env.scope x) (hd:(x==("__debug__" : Str))=false:=by decide) (hcd:(x==("__classdict__" : Str))=false:=by decide):PE X (.Name x pos) (Ii i):=by
 intro pins s σ H Q I h;obtain⟨v,e,h⟩:=h;obtain⟨m,hn,hl⟩:=I.loc;obtain⟨u,r,l⟩:=hl i x v hN e hv;have fin:EP X pins σ Q u s:=⟨v,H,I,r,h⟩
 rcases l with⟨hk,hm⟩|⟨hk,c,hc,hcell⟩
 ·exact wpAny_Name (wpAny_loadName_local I.ok.kind hk hn hm fin) hd
 ·rcases hk with hk|hk
  ·exact wpAny_Name (wpAny_loadName_cell I.ok.kind hk hc hcell fin) hd
  ·exact wpAny_Name (wpAny_loadName_free I.ok.kind hk hc hcell fin hcd) hd
theorem Ug{i j pos}:PE X (.Constant (.int i) j pos) (tC (.int i)):=fun _ _ _ H _ I h=>wpAny_Constant_int ⟨.int i,H,I.tok _,⟨_,rfl⟩,h⟩
theorem GE{b j pos}:PE X (.Constant (.bool b) j pos) (tC (.bl b)):=fun _ _ _ H _ I h=>Constant_bool ⟨.bl b,H,I,rfl,h⟩
theorem C4{j pos}:PE X (.Constant .none j pos) (tC .non):=fun _ _ _ H _ I h=>Constant_none ⟨.non,H,I,rfl,h⟩
theorem pe_str{x j pos}:PE X (.Constant (.str x) j pos) (tC (.str x)):=fun _ _ _ H _ I h=>Calls.Constant_str ⟨.str x,H,I.tok _,⟨_,rfl⟩,h⟩
def Gl (X:Cx) (x:Str):Prop:=X.env.kindOf x=some .globalImplicit
theorem Je{E:Value→Shared→Prop}{pins:List (Addr×Obj)}{s:Shared}{σ:St}{H:Hp}{x:Str}{u:Value}{pos:Pos}{Q:Value→Shared→Prop}(I:Inv X pins σ H s)(hg:Gl X x)(hm:X.mg x=some u)(h:Q u s)
  (hd:(x==("__debug__" : Str))=false:=by decide):wpAny (model X.prog X.w) X.A (eval (.Name x pos) X.env) Q E s :=
 Calls.Name_function_global I.ok.kind hg (Calls.loadGlobal_global (by rw[I.ok.glob];exact I.mod.glob.keeps I.bk) hm h) hd
theorem Yr{E:Value→Shared→Prop}{pins:List (Addr×Obj)}{s:Shared}{σ:St}{H:Hp}{x:Str}{u:Value}{pos:Pos}{Q:Value→Shared→Prop}(I:Inv X pins σ H s)(hg:Gl X x)(hm:X.mg x=none)(hv:bootBuiltins x=some u)(h:Q u s)
  (hn:x≠"__name__":=by decide) (hd:(x==("__debug__" : Str))=false:=by decide):wpAny (model X.prog X.w) X.A (eval (.Name x pos) X.env) Q E s:=by
 obtain⟨mb,h1,h2⟩:=I.mod.blt;exact Calls.Name_function_global I.ok.kind hg (Calls.loadGlobal_builtin (by rw[I.ok.glob];exact I.mod.glob.keeps I.bk) hm (by rw[I.ok.blt];exact h1.keeps I.bk) ((h2 x hn).trans hv) h) hd
theorem AO {x:Str}{v:V}{u:Value}{pos:Pos}(hg:Gl X x) (hm:X.mg x=some u) (r:RelV v u) (hd:(x==("__debug__" : Str))=false:=by decide):PE X (.Name x pos) (tC v) :=
 fun _ _ _ H _ I h=>Je I hg hm ⟨v,H,I,r,h⟩ hd
theorem AE {x:Str}{v:V}{u:Value}{pos:Pos}(hg:Gl X x) (hm:X.mg x=none) (hv:bootBuiltins x=some u) (r:RelV v u) (hn:x≠"__name__":=by decide) (hd:(x==("__debug__" : Str))=false:=by decide):PE X (.Name x pos) (tC v) :=
 fun _ _ _ H _ I h=>Yr I hg hm hv ⟨v,H,I,r,h⟩ hn hd
variable {a b:Expr}{ta tb:TE}{pos:Pos}
def PC (X:Cx) (op:CmpOp) (a b:Expr) (t:TE):Prop :=
 ∀ (pins:List (Addr×Obj)) (s:Shared) (σ:St) (H:Hp) (Q:VK),Inv X pins σ H s→t σ H Q→
  wpAny (model X.prog X.w) X.A (eval a X.env) (fun v s₁=>wpAny (model X.prog X.w) X.A (eval b X.env) (fun u s₂=>wpAny (model X.prog X.w) X.A (compareOp op v u) (EP X pins σ Q) X.xe s₂) X.xe s₁) X.xe s
theorem J7(b:Expr){op:CmpOp}(h:op≠.In)(h2:op≠.NotIn):behindInMarks op b=false:=by
 have e1:(op==CmpOp.In)=false:=by cases op<;>first|rfl|exact absurd rfl h
 have e2:(op==CmpOp.NotIn)=false:=by cases op<;>first|rfl|exact absurd rfl h2
 cases b<;>simp[behindInMarks,e1,e2]
def Ij (ta:TE):TE:=fun σ H Q=>ta σ H fun x H1=>Q (.bl (decide (x=.non))) H1
def GW (ta:TE):TE:=fun σ H Q=>ta σ H fun x H1=>Q (.bl (!decide (x=.non))) H1
theorem RelV.none_iff{x:V}{v:Value}(r:RelV x v):(v==Value.none)=decide (x=.non):=by
 cases x with
 |non=>cases r;rfl
 |bl _=>cases r;rfl
 |int _=>obtain⟨t,rfl⟩:=r;rfl
 |str _=>obtain⟨t,rfl⟩:=r;rfl
 |byt _=>obtain⟨t,rfl⟩:=r;rfl
 |flt _=>obtain⟨t,rfl⟩:=r;rfl
 |ref _=>cases r;rfl
 |ty _=>cases r;rfl
theorem O6{j pos'}(ha:PE X a ta):PC X .Is a (.Constant .none j pos') (Ij ta):=by intro pins s σ H Q I h;refine thn (ha pins s σ H _ I h) fun v s1 ⟨x,H1,I1,r1,q1⟩=>?_;exact Constant_none (is_none_gen ⟨.bl _,H1,I1,by rw[r1.none_iff];rfl,q1⟩)
theorem Na{j pos'}(ha:PE X a ta):PC X .IsNot a (.Constant .none j pos') (GW ta):=by intro pins s σ H Q I h;refine thn (ha pins s σ H _ I h) fun v s1 ⟨x,H1,I1,r1,q1⟩=>?_;exact Constant_none (isnot_none_gen ⟨.bl _,H1,I1,by rw[r1.none_iff];rfl,q1⟩)
def tB (t:TE):TT:=fun σ H Q=>t σ H fun x H1=>∃ c,x=.bl c∧Q c H1
theorem Ot{op:CmpOp}{t:TE}(h:PC X op a b t)(h1:behindInMarks op b=false:=by first|exact J7 _ (by decide) (by decide)|rfl):PE X (.Compare a [op] [b] pos) t:=fun pins s σ H Q I hw=>wpAny_Compare1 (h pins s σ H Q I hw) h1
theorem Am{op:CmpOp}{t:TE}(h:PC X op a b t)(h1:behindInMarks op b=false:=by first|exact J7 _ (by decide) (by decide)|rfl):PT X (.Compare a [op] [b] pos) (tB t):=by intro pins s σ H Q I hw;refine wpAny_isTrue_Compare1 (thn (h pins s σ H _ I hw) fun v s1 h1=>thn h1 fun u s2 h2=>thn h2 fun c s3 ⟨x,H1,I1,r1,q1⟩=>?_) h1;obtain⟨d,rfl,q⟩:=q1;cases r1;exact wpAny_truthy_bool ⟨H1,I1,q⟩
variable {tA tB':TT}{rest:List Expr}
def Lm (t u:TT):TT:=fun σ H Q=>t σ H fun c H1=>if c=true then u σ H1 Q else Q false H1
def tOr (t u:TT):TT:=fun σ H Q=>t σ H fun c H1=>if c=true then Q true H1 else u σ H1 Q
def IJ (t:TT):TT:=fun σ H Q=>t σ H fun c H1=>Q (!c) H1
theorem BJ(ha:PT X a tA):PW X (.BoolOp .And [a] pos) tA:=by
 intro wh pins s σ H Q I h;refine isTrue_and (thn (ha pins s σ H Q I h) fun c s1 e=>?_);cases c with
 |true=>exact isTrue_and_nil e
 |false=>exact e
theorem DW(ha:PT X a tA):PW X (.BoolOp .Or [a] pos) tA:=by
 intro wh pins s σ H Q I h;refine isTrue_or (thn (ha pins s σ H Q I h) fun c s1 e=>?_);cases c with
 |false=>exact isTrue_or_nil e
 |true=>exact e
theorem E5(ha:PT X a tA)(hb:PW X (.BoolOp .And (b::rest) pos) tB'):PW X (.BoolOp .And (a::b::rest) pos) (Lm tA tB'):=by
 intro wh pins s σ H Q I h;refine isTrue_and (thn (ha pins s σ H _ I h) fun c s1 ⟨H1,I1,q1⟩=>?_);cases c with
 |true=>exact hb wh pins s1 σ H1 Q I1 q1
 |false=>exact⟨H1,I1,q1⟩
theorem GT(ha:PT X a tA)(hb:PW X (.BoolOp .Or (b::rest) pos) tB'):PW X (.BoolOp .Or (a::b::rest) pos) (tOr tA tB'):=by
 intro wh pins s σ H Q I h;refine isTrue_or (thn (ha pins s σ H _ I h) fun c s1 ⟨H1,I1,q1⟩=>?_);cases c with
 |true=>exact⟨H1,I1,q1⟩
 |false=>exact hb wh pins s1 σ H1 Q I1 q1
theorem Ef(ha:PT X a tA):PT X (.UnaryOp .Not a pos) (IJ tA):=by intro pins s σ H Q I h;exact isTrue_not (ha pins s σ H (fun c H1=>Q (!c) H1) I h)
def Hj (ta tb:TE):TE:=fun σ H Q=>ta σ H fun x H1=>∃ c,x=.bl c∧if c=true then tb σ H1 Q else Q (.bl false) H1
def ID (ta tb:TE):TE:=fun σ H Q=>ta σ H fun x H1=>∃ c,x=.bl c∧if c=true then Q (.bl true) H1 else tb σ H1 Q
def Gj (ta:TE):TE:=fun σ H Q=>ta σ H fun x H1=>∃ c,x=.bl c∧Q (.bl (!c)) H1
theorem Us{op}{t:TE}(h:PE X a t):PE X (.BoolOp op [a] pos) t:=fun pins s σ H Q I hw=>BoolOp_one (h pins s σ H Q I hw)
theorem CZ(ha:PE X a ta)(hb:PE X (.BoolOp .And (b::rest) pos) tb):PE X (.BoolOp .And (a::b::rest) pos) (Hj ta tb):=by
 intro pins s σ H Q I h;refine BoolOp_and (thn (ha pins s σ H _ I h) fun v s1 ⟨x,H1,I1,r1,q1⟩=>?_);obtain⟨c,rfl,q1⟩:=q1;cases r1;refine wpAny_truthy_bool ?_;cases c with
 |true=>exact hb pins s1 σ H1 Q I1 q1
 |false=>exact⟨.bl false,H1,I1,rfl,q1⟩
theorem Ge(ha:PE X a ta)(hb:PE X (.BoolOp .Or (b::rest) pos) tb):PE X (.BoolOp .Or (a::b::rest) pos) (ID ta tb):=by
 intro pins s σ H Q I h;refine BoolOp_or (thn (ha pins s σ H _ I h) fun v s1 ⟨x,H1,I1,r1,q1⟩=>?_);obtain⟨c,rfl,q1⟩:=q1;cases r1;refine wpAny_truthy_bool ?_;cases c with
 |false=>exact hb pins s1 σ H1 Q I1 q1
 |true=>exact⟨.bl true,H1,I1,rfl,q1⟩
theorem D9(ha:PE X a ta):PE X (.UnaryOp .Not a pos) (Gj ta):=by intro pins s σ H Q I h;refine UnaryOp_ (thn (ha pins s σ H _ I h) fun v s1 ⟨x,H1,I1,r1,q1⟩=>?_);obtain⟨c,rfl,q1⟩:=q1;cases r1;exact not_of (wpAny_truthy_bool ⟨.bl (!c),H1,I1,rfl,q1⟩)
end
def SqL (K:PySem.W.Frag) (H:Hp) (a:Addr) (xs:List V):Prop :=
 Rd H a (.lst xs)∨
  ∃ (o:Obj) (its:Array Value) (n:Nat),K.lookup a=some o∧o.cls=.type "list"∧o.dict=none∧o.data=.seq its n∧its.size≤sizeLine∧Vals xs its.toList
def SqT (K:PySem.W.Frag) (H:Hp) (a:Addr) (xs:List V):Prop :=
 Rd H a (.tup xs)∨
  ∃ (o:Obj) (its:Array Value) (n:Nat),K.lookup a=some o∧o.cls=.type "tuple"∧o.data=.seq its n∧its.size≤sizeLine∧Vals xs its.toList
def absV:Value→Option V
 |.none=>some .non
 |.bool b=>some (.bl b)
 |.int i _=>some (.int i)
 |.str x _=>some (.str x)
 |.bytes b _=>some (.byt b)
 |.float b _=>some (.flt b)
 |.ref a=>some (.ref a)
 |.type n=>some (.ty n)
 |_=>none
theorem RelV.abs{x:V}{u:Value}(r:RelV x u):absV u=some x:=by
 cases x with
 |non=>cases r;rfl
 |bl _=>cases r;rfl
 |int _=>obtain⟨t,rfl⟩:=r;rfl
 |str _=>obtain⟨t,rfl⟩:=r;rfl
 |byt _=>obtain⟨t,rfl⟩:=r;rfl
 |flt _=>obtain⟨t,rfl⟩:=r;rfl
 |ref _=>cases r;rfl
 |ty _=>cases r;rfl
theorem RelV.inj{x y:V}{u:Value}(r:RelV x u)(q:RelV y u):x=y:=Option.some.inj (r.abs.symm.trans q.abs)
theorem Vals.inj:∀ {xs ys:List V}{us:List Value},Vals xs us→Vals ys us→xs=ys
 |_,_,_,.nil,.nil=>rfl
 |_,_,_,.cons r t,.cons r' t'=>by rw[r.inj r',Vals.inj t t']
section
variable {X:Cx}{pins:List (Addr×Obj)}{σ:St}{H:Hp}{s:Shared}{a:Addr}{xs ys:List V}
theorem SqL.of{K:PySem.W.Frag}(h:H a=some (.lst xs)):SqL K H a xs:=.inl (.inl h)
theorem SqT.of{K:PySem.W.Frag}(h:H a=some (.tup xs)):SqT K H a xs:=.inl (.inl h)
theorem Inv.list(I:Inv X pins σ H s)(h:SqL X.K H a xs):∃ its:List Value,Vals xs its∧PlainL s.heap a its.toArray∧xs.length≤sizeLine:=by
 rcases h with h|⟨o,its,n,hk,hc,hd,hs,hz,r⟩
 ·obtain⟨z,its,n,r,e⟩:=h.ok I.hok;exact⟨its,r,⟨_,n,e,rfl,rfl,rfl⟩,z⟩
 ·refine⟨its.toList,r,⟨o,n,I.kIn a o hk,hc,hd,by simpa using hs⟩,?_⟩;have e:=r.length;simp only[zC]at e;omega
theorem Inv.tuple(I:Inv X pins σ H s)(h:SqT X.K H a xs):∃ its:List Value,Vals xs its∧IsTup s.heap a its.toArray∧xs.length≤sizeLine:=by
 rcases h with h|⟨o,its,n,hk,hc,hs,hz,r⟩
 ·obtain⟨z,its,r,p⟩:=h.ok I.hok;exact⟨its,r,p,z⟩
 ·refine⟨its.toList,r,⟨o,I.kIn a o hk,hc,n,by simpa using hs⟩,?_⟩;have e:=r.length;simp only[zC]at e;omega
theorem Inv.list_inj(I:Inv X pins σ H s)(h:SqL X.K H a xs)(h':SqL X.K H a ys):xs=ys:=by
 obtain⟨its,r,⟨o,n,e,_,_,d⟩,_⟩:=I.list h;obtain⟨its',r',⟨o',n',e',_,_,d'⟩,_⟩:=I.list h';rw[e]at e';cases e';rw[d]at d';injection d' with d1 _;have:its=its':=by simpa using congrArg Array.toList d1
 subst this;exact r.inj r'
theorem Inv.tuple_inj(I:Inv X pins σ H s)(h:SqT X.K H a xs)(h':SqT X.K H a ys):xs=ys:=by
 obtain⟨its,r,⟨o,e,_,n,d⟩,_⟩:=I.tuple h;obtain⟨its',r',⟨o',e',_,n',d'⟩,_⟩:=I.tuple h';rw[e]at e';cases e';rw[d]at d';injection d' with d1 _;have:its=its':=by simpa using congrArg Array.toList d1
 subst this;exact r.inj r'
end
abbrev Cx.wish (X:Cx) (E:Value→Shared→Prop):Cx:={X with xe:=E}
abbrev Cx.nox (X:Cx):Cx:=X.wish fun _ _=>False
theorem Cx.Ok.wish{X:Cx}(ok:X.Ok)(E:Value→Shared→Prop):(X.wish E).Ok :=
 ⟨ok.mod,ok.kind,ok.glob,ok.blt,ok.above,ok.inj,ok.has,ok.cab,ok.hd,ok.frames,ok.stk,ok.exf,ok.bs,ok.bsz,ok.noex,ok.exfs,ok.funs,ok.frf⟩
theorem Cx.Ok.unwish{X:Cx}{E:Value→Shared→Prop}(ok:(X.wish E).Ok):X.Ok :=
 ⟨ok.mod,ok.kind,ok.glob,ok.blt,ok.above,ok.inj,ok.has,ok.cab,ok.hd,ok.frames,ok.stk,ok.exf,ok.bs,ok.bsz,ok.noex,ok.exfs,ok.funs,ok.frf⟩
section
variable {X:Cx}{pins:List (Addr×Obj)}{σ:St}{H:Hp}{s:Shared}{E:Value→Shared→Prop}
theorem Inv.wish(I:Inv X pins σ H s)(E:Value→Shared→Prop):Inv (X.wish E) pins σ H s:=⟨I.ok.wish E,I.os,I.bare,I.base,I.loc,I.cell,I.free,I.freeC,I.pin,I.hok,I.len⟩
theorem Inv.unwish(I:Inv (X.wish E) pins σ H s):Inv X pins σ H s:=⟨I.ok.unwish,I.os,I.bare,I.base,I.loc,I.cell,I.free,I.freeC,I.pin,I.hok,I.len⟩
theorem SP.unwish{D:Ends}{f:Flow}{s':Shared}(h:SP (X.wish E) pins D f s'):SP X pins D f s':=by
 cases f with
 |next=>obtain⟨σ',H',I,q⟩:=h;exact⟨σ',H',I.unwish,q⟩
 |brk=>obtain⟨σ',H',I,q⟩:=h;exact⟨σ',H',I.unwish,q⟩
 |cont=>obtain⟨σ',H',I,q⟩:=h;exact⟨σ',H',I.unwish,q⟩
 |ret u=>obtain⟨v,σ',H',I,r,q⟩:=h;exact⟨v,σ',H',I.unwish,r,q⟩
theorem PE.nox{e:Expr}{t:TE}(h:PE X.nox e t):PE X e t:=fun pins s σ H Q I hw =>
 wpAny_mono (h pins s σ H Q (I.wish _) hw) (fun _ _ ⟨v,H',I',r,q⟩=>⟨v,H',I'.unwish,r,q⟩) fun _ _ z=>False.elim z
theorem PT.nox{e:Expr}{t:TT}(h:PT X.nox e t):PT X e t:=fun pins s σ H Q I hw =>
 wpAny_mono (h pins s σ H Q (I.wish _) hw) (fun _ _ ⟨H',I',q⟩=>⟨H',I'.unwish,q⟩) fun _ _ z=>False.elim z
theorem PSs.nox{st:List Stmt}{t:TS}(h:PSs X.nox st t):PSs X st t:=fun pins s σ H D I hw =>
 wpAny_mono (h pins s σ H D (I.wish _) hw) (fun _ _ q=>q.unwish) fun _ _ z=>False.elim z
end
section
variable {X:Cx}{st:Stmt}{rest:List Stmt}{t u:TS}{e:Expr}{te:TE}{pos:Pos}
def HG:TS:=fun D σ H=>D.nx σ H
def Ik (t u:TS):TS:=fun D σ H=>t {D with nx:=u D} σ H
theorem pss_nil:PSs X [] HG:=fun _ _ σ H _ I h=>wpAny_execs_nil ⟨σ,H,I,h⟩
theorem OT(h1:PS X st t)(h2:PSs X rest u):PSs X (st::rest) (Ik t u):=by
 intro pins s σ H D I h;refine wpAny_execs_cons (thn (h1 pins s σ H {D with nx:=u D} I h) fun f s1 q=>?_);cases f with
 |next =>obtain⟨σ',H',I',q⟩:=q;exact h2 pins s1 σ' H' D I' q
 |ret v=>exact q
 |brk=>exact q
 |cont=>exact q
theorem Inv.quiet{pins:List (Addr×Obj)}{σ:St}{H:Hp}{s:Shared}(I:Inv X pins σ H s):interactive X.env=false:=by simp[interactive,I.ok.kind]
def GG (te:TE):TS:=fun D σ H=>te σ H fun _ H1=>D.nx σ H1
theorem AU(he:PE X e te)(hs:swapsWith e none pos.line X.env=pure false:=by rfl):PS X (.Expr e pos) (GG te):=by intro pins s σ H D I h;exact wpAny_Expr_any (thn (he pins s σ H _ I h) fun v s1 ⟨x,H1,I1,r1,q1⟩=>⟨σ,H1,I1,q1⟩) I.quiet hs
def Io (te:TE):TS:=fun D σ H=>te σ H D.rt
theorem D6(he:PE X e te):PS X (.Return (some e) pos) (Io te):=by intro pins s σ H D I h;exact wpAny_Return_some (thn (he pins s σ H _ I h) fun v s1 ⟨x,H1,I1,r1,q1⟩=>⟨x,σ,H1,I1,r1,q1⟩)
def IW (c:TT) (t u:TS):TS:=fun D σ H=>c σ H fun b H1=>if b=true then t D σ H1 else u D σ H1
theorem Gc{c:Expr}{a b:List Stmt}{tc:TT}(hc:PT X c tc)(ha:PSs X a t)(hb:PSs X b u):PS X (.If c a b pos) (IW tc t u):=by
 intro pins s σ H D I h;refine wpAny_If (thn (hc pins s σ H _ I h) fun d s1 ⟨H1,I1,q1⟩=>?_);cases d with
 |true=>exact ha pins s1 σ H1 D I1 q1
 |false=>exact hb pins s1 σ H1 D I1 q1
end
abbrev TG:=V→St→Hp→(St→Hp→Prop)→Prop
abbrev TGs:=List V→St→Hp→(St→Hp→Prop)→Prop
def PG (X:Cx) (target:Expr) (t:TG):Prop :=
 ∀ (pins:List (Addr×Obj)) (s:Shared) (σ:St) (H:Hp) (v:V) (u:Value) (Q:St→Hp→Prop),Inv X pins σ H s→RelV v u→t v σ H Q→
  wpAny (model X.prog X.w) X.A (assign target X.env u) (fun _ s'=>∃ σ' H',Inv X pins σ' H' s'∧Q σ' H') X.xe s
def PGs (X:Cx) (ts:List Expr) (t:TGs):Prop :=
 ∀ (pins:List (Addr×Obj)) (s:Shared) (σ:St) (H:Hp) (vs:List V) (us:List Value) (Q:St→Hp→Prop),Inv X pins σ H s→Vals vs us→t vs σ H Q→
  wpAny (model X.prog X.w) X.A (assignInOrder ((assignEach ts X.env).map (·.2)) us) (fun _ s'=>∃ σ' H',Inv X pins σ' H' s'∧Q σ' H') X.xe s
abbrev CW:=V→V→V→Hp→(Hp→Prop)→Prop
def PSet (X:Cx) (t:CW):Prop :=
 ∀ (pins:List (Addr×Obj)) (s:Shared) (σ:St) (H:Hp) (o i v:V) (ov iv u:Value) (Q:Hp→Prop),Inv X pins σ H s→RelV o ov→RelV i iv→RelV v u→t o i v H Q→
  wpAny (model X.prog X.w) X.A (setItem ov iv u) (fun _ s'=>∃ H',Inv X pins σ H' s'∧Q H') X.xe s
section
variable {X:Cx}{pos:Pos}
def Ca (i:Nat):TG:=fun v σ H Q=>Q (σ.set i (some v)) H
theorem MU{i:Nat}{x:Str}(hN:X.N.Nodup)(hi:X.N[i]?=some x)(hx:Loc X.env.scope x)(hf:X.fn x=true∨X.env.scope.names.lookup x=some .local:=by first|exact .inl rfl|exact .inr rfl|assumption):PG X (.Name x pos) (Ca i):=by intro pins s σ H v u Q I r h;exact wpAny_assign_Name (Aj I hN hi hx r (fun s' I'=>⟨_,H,I',h⟩) hf)
def IU:TGs:=fun vs σ H Q=>vs=[]∧Q σ H
def FG (t:TG) (u:TGs):TGs:=fun vs σ H Q=>∃ v r,vs=v::r∧t v σ H fun σ' H'=>u r σ' H' Q
theorem pgs_nil:PGs X [] IU:=by intro pins s σ H vs us Q I r h;obtain⟨e,h⟩:=h;subst e;cases r;exact assignInOrder_nil ⟨σ,H,I,h⟩
theorem XU{e:Expr}{es:List Expr}{t:TG}{u:TGs}(h1:PG X e t)(h2:PGs X es u)
  (hs:(assignEach (e::es) X.env).map (·.2)=assign e X.env::(assignEach es X.env).map (·.2):=by rfl):PGs X (e::es) (FG t u):=by
 intro pins s σ H vs us Q I r h;obtain⟨v,vr,e1,h⟩:=h;subst e1;cases r with
 |cons r rr =>rw[hs];refine assignInOrder_cons (thn (h1 pins s σ H _ _ _ I r h) fun _ s1 ⟨σ1,H1,I1,q1⟩=>?_);exact h2 pins s1 σ1 H1 _ _ Q I1 rr q1
def IQ (K:PySem.W.Frag) (n:Nat) (t:TGs):TG:=fun v σ H Q=>∃ a xs,v=.ref a∧SqT K H a xs∧xs.length=n∧t xs σ H Q
theorem Ur{es:List Expr}{k:Nat}{t:TGs}{n:Nat}(hc:X.calm=true)(h:PGs X es t)
  (hn:(assignEach es X.env).length=n:=by rfl) (hst:(assignEach es X.env).findIdx? (·.1)=none:=by rfl):PG X (.Tuple es k pos) (IQ X.K n t):=by
 intro pins s σ H v u Q I r hw;obtain⟨a,xs,e1,hq,hl,hw⟩:=hw;subst e1;cases r;obtain⟨its,rv,ht,hz⟩:=I.tuple hq;refine assign_Tuple_tuple (I.ok.hd hc) ht (by simp[hn,←hl,rv.length]) hst fun h' hx=>?_;have I1:Inv X pins σ H {s with heap:=h'}:=I.kept (t':=s.toks) fun b o e=>hx b o (zF (Heap.lt_size e)) e;exact h pins _ σ H xs _ Q I1 (by simpa using rv) hw
def HJ (to ti:TE) (t:CW):TG:=fun v σ H Q=>to σ H fun o H1=>ti σ H1 fun i H2=>t o i v H2 fun H3=>Q σ H3
theorem Fq{o i:Expr}{to ti:TE}{t:CW}(ho:PE X o to)(hi:PE X i ti)(hs:PSet X t)
  (ha:∀ v,assign (.Subscript o i pos) X.env v=(do
    let ov←holding [v] (eval o X.env)
    let iv←holding [v,ov] (eval i X.env)
    standAt pos
    holding [v,ov,iv] (setItem ov iv v)
    release [v,ov,iv] []):=by intro _;rfl):PG X (.Subscript o i pos) (HJ to ti t):=by
 intro pins s σ H v u Q I r h;rw[ha];refine wpAny_bind (wpAny_holding (thn (ho pins s σ H _ I h) fun ov s1 ⟨x,H1,I1,r1,q1⟩=>?_));refine wpAny_bind (wpAny_holding (thn (hi pins s1 σ H1 _ I1 q1) fun iv s2 ⟨y,H2,I2,r2,q2⟩=>?_));refine wpAny_bind (wpAny_standAt (wpAny_bind (wpAny_holding (thn (hs pins s2 σ H2 x y v ov iv u _ I2 r1 r2 r q2) fun _ s3 ⟨H3,I3,q3⟩=>?_))));exact wpAny_release ⟨σ,H3,I3,q3⟩
def FJ (te:TE) (g:TG):TS:=fun D σ H=>te σ H fun x H1=>g x σ H1 D.nx
theorem O8{tg e:Expr}{te:TE}{g:TG}(he:PE X e te)(hg:PG X tg g)(hs:swapsWithSole [tg] e pos.line X.env=pure false:=by rfl)(hw:swappedStores [tg] e X.env=pure none:=by rfl)
  (h1:(assignEach [tg] X.env).map (·.2)=[assign tg X.env]:=by rfl):PS X (.Assign [tg] e pos) (FJ te g):=by
 intro pins s σ H D I h;refine wpAny_Assign_stores (thn (he pins s σ H _ I h) fun v s1 ⟨x,H1,I1,r1,q1⟩=>?_) hs hw;rw[h1];exact thn (hg pins s1 σ H1 x v _ I1 r1 q1) fun _ s2 q=>q
def PGet (X:Cx) (t:V→V→Hp→VK→Prop):Prop :=
 ∀ (pins:List (Addr×Obj)) (s:Shared) (σ:St) (H:Hp) (o i:V) (ov iv:Value) (Q:VK),Inv X pins σ H s→RelV o ov→RelV i iv→t o i H Q→
  wpAny (model X.prog X.w) X.A (getItem ov iv) (EP X pins σ Q) X.xe s
end
structure It where
 go:Nat→Hp→Prop
 yld:Nat→Hp→V→Hp→Prop
 stop:Nat→Hp→Prop
def Xc (X:Cx) (pins:List (Addr×Obj)) (H:Hp) (b:Addr):Prop :=
 H b=none∧b≠X.env.locals∧b∉X.fs∧(b∈X.ex∨X.s₀.heap.objs.size≤b)∧(∀ x c,X.env.cells.lookup x=some c→c≠b)∧∀ p∈X.pn++pins,p.1≠b
theorem Inv.fpOk{X:Cx}{pins:List (Addr×Obj)}{σ:St}{H H':Hp}{s:Shared}{b:Addr}(I:Inv X pins σ H s)(hb:s.heap.objs.size≤b)(hn:H' b=none):Xc X pins H' b:=by
 refine⟨hn,Nat.ne_of_gt (qR I.lt hb),I.nofs hb,.inr (zE I.sz hb),fun x c e z=>?_,fun p hp z=>?_⟩
 ·obtain⟨v,q⟩:=I.cell x c e;exact absurd (qR q.lt (by rw[z];exact hb)) (zK _)
 ·exact absurd (qR (Heap.lt_size (I.pin p hp).1) (by rw[z];exact hb)) (zK _)
structure Turn (P:Program) (w:World) (K:PySem.W.Frag) (tg:Expr) (J:It) (fp:List Addr) (it:Addr) (tn:Nat→Heap→Prop):Prop where
 mem:it∈fp
 obj:∀ i h,tn i h→∀ b∈fp,∃ o,h.get? b=some o∧∀ v,o.data≠.cell v
 keep:∀ i h h',tn i h→(∀ b∈fp,∀ o,h.get? b=some o→h'.get? b=some o)→tn i h'
 item:∀ (X:Cx),X.prog=P→X.w=w→X.K=K→X.calm=true→∀ (i:Nat) (pins:List (Addr×Obj)) (s:Shared) (σ:St) (H:Hp) (E:Value→Shared→Prop),Inv X pins σ H s→(∀ b∈fp,Xc X pins H b)→tn i s.heap→J.go i H→
  wpAny (model P w) X.A (pyNext (.ref it)) (fun r s1=>∃ u,r=some u∧
    wpAny (model P w) X.A (letOwnedTupleGo tg (.ref it) u) (fun _ s2=>∃ x H',Inv X pins σ H' s2∧RelV x u∧J.yld i H x H'∧tn (i+1) s2.heap∧∀ b∈fp,H' b=none) E s1) E s
 done:∀ (X:Cx),X.prog=P→X.w=w→X.K=K→X.calm=true→∀ (i:Nat) (pins:List (Addr×Obj)) (s:Shared) (σ:St) (H:Hp) (E:Value→Shared→Prop),Inv X pins σ H s→(∀ b∈fp,Xc X pins H b)→tn i s.heap→J.stop i H→
  wpAny (model P w) X.A (pyNext (.ref it)) (fun r s1=>r=none∧Inv X pins σ H s1) E s
 self:∀ (A:Around) (i:Nat) (s:Shared) (Q:Value→Shared→Prop) (E:Value→Shared→Prop),tn i s.heap→Q (.ref it) s→wpAny (model P w) A (pyIter (.ref it)) Q E s
abbrev TI:=St→Hp→(It→Hp→Prop)→Prop
def PIE (X:Cx) (pins:List (Addr×Obj)) (σ:St) (tg:Expr) (R:It→Hp→Prop) (itv:Value) (s2:Shared):Prop :=
 ∃ (it:Addr) (fp:List Addr) (tn:Nat→Heap→Prop) (J:It) (H':Hp),itv=.ref it∧Inv X pins σ H' s2∧Turn X.prog X.w X.K tg J fp it tn∧tn 0 s2.heap∧(∀ b∈fp,Xc X pins H' b)∧R J H'
def PI (X:Cx) (tg iter:Expr) (wi:TI):Prop :=
 ∀ (pins:List (Addr×Obj)) (s:Shared) (σ:St) (H:Hp) (R:It→Hp→Prop),Inv X pins σ H s→wi σ H R→
  wpAny (model X.prog X.w) X.A (eval iter X.env) (fun v s1=>wpAny (model X.prog X.w) X.A (pyIter v) (PIE X pins σ tg R) X.xe s1) X.xe s
theorem go_of{M:Model}{A:Around}{E:Value→Shared→Prop}{s:Shared}{tg:Expr}{it:Addr}{u:Value}{o:Obj}{n:String}{vs:Array Value}{Q:Unit→Shared→Prop}(ho:s.heap.get? it=some o)(hc:o.cls=.type n)(hd:o.data=.fields vs)
  (hn:["enumerate","zip","dict_itemiterator","dict_reverseitemiterator","odict_iterator","itertools.zip_longest","itertools.pairwise"].contains n=false) (hQ:Q () s):wpAny M A (letOwnedTupleGo tg (.ref it) u) Q E s:=by
 unfold letOwnedTupleGo;cases tg<;>first
  |exact wpAny_pure hQ
  | (cases u<;>first
      |exact wpAny_pure hQ
      | (refine wpAny_bind (wpAny_load ho ?_)
         rw[hc,hd]
         show wpAny M A (if(["enumerate","zip","dict_itemiterator","dict_reverseitemiterator","odict_iterator","itertools.zip_longest","itertools.pairwise"].contains n&&vs[0]? == some (rawInt _))=true then _ else _) Q E s
         rw[if_neg (by intro h;rw[hn,Bool.false_and]at h;cases h)]
         exact wpAny_pure hQ))
def Itl (K:PySem.W.Frag) (a:Addr):It :=
 ⟨fun i H=>∃ xs x,SqL K H a xs∧xs[i]?=some x,fun i H x H'=>H'=H∧∀ xs,SqL K H a xs→xs[i]?=some x,fun i H=>∃ xs,SqL K H a xs∧xs.length≤i⟩
def Itt (K:PySem.W.Frag) (a:Addr):It :=
 ⟨fun i H=>∃ xs x,SqT K H a xs∧xs[i]?=some x,fun i H x H'=>H'=H∧∀ xs,SqT K H a xs→xs[i]?=some x,fun i H=>∃ xs,SqT K H a xs∧xs.length≤i⟩
def Itr (lo:Int) (n:Nat):It:=⟨fun i _=>i<n,fun i H x H'=>H'=H∧x=.int (lo+i),fun i _=>n≤i⟩
theorem NE{P:Program}{w:World}{K:PySem.W.Frag}{tg:Expr}(a it:Addr):Turn P w K tg (Itl K a) [it] it (fun i h=>h.IsListIter it a i) where
 mem:=by simp
 obj:=fun i h st b hb=>by
  have e:b=it:=by simpa using hb
  subst e;obtain⟨o,e,c,d⟩:=st;exact⟨o,e,fun v z=>by rw[d]at z;cases z⟩
 keep:=fun i h h' st k=>st.at fun o e=>k it (by simp) o e
 item:=by intro X hP hw hK hc i pins s σ H E I hf st hg;subst hP hw hK;obtain⟨xs,x,hq,hx⟩:=hg;obtain⟨its,rv,p,hz⟩:=I.list hq;obtain⟨u,hu,ru⟩:=rv.get hx;obtain⟨f0,f1,f2,f3,f4,f5⟩:=hf it (by simp);refine wpAny_pyNext_list_item st p.isList (x:=u) (by simpa using hu) fun h' st' sb=>?_;have I1:Inv X pins σ H {s with heap:=h'}:=I.turned (t':=s.toks) (fun b o hb e=>(sb.2 b hb).trans e) f0 f1 f3 f4 f5;obtain⟨o,e,c,d⟩:=id st';exact⟨u,rfl,go_of (s:={s with heap:=h'}) e c d (by decide) ⟨x,H,I1,ru,⟨rfl,fun ys hy=>by rw[I.list_inj hy hq];exact hx⟩,st',fun b hb=>(hf b hb).1⟩⟩
 done:=by intro X hP hw hK hc i pins s σ H E I hf st hg;subst hP hw hK;obtain⟨xs,hq,hx⟩:=hg;obtain⟨its,rv,p,hz⟩:=I.list hq;obtain⟨f0,f1,f2,f3,f4,f5⟩:=hf it (by simp);have hl:=rv.length;exact wpAny_pyNext_list_end (I.ok.hd hc) st p.isList (by simp;omega) fun h' eb=>⟨rfl,I.turned (t':=s.toks) (fun b o hb e=>eb b o hb e) f0 f1 f3 f4 f5⟩
 self:=fun _ _ _ _ _ st h=>wpAny_pyIter_listiter st h
theorem Kw{P:Program}{w:World}{K:PySem.W.Frag}{tg:Expr}(a it:Addr):Turn P w K tg (Itt K a) [it] it (fun i h=>h.IsTupleIter it a i) where
 mem:=by simp
 obj:=fun i h st b hb=>by
  have e:b=it:=by simpa using hb
  subst e;obtain⟨o,e,c,d⟩:=st;exact⟨o,e,fun v z=>by rw[d]at z;cases z⟩
 keep:=fun i h h' st k=>st.at fun o e=>k it (by simp) o e
 item:=by intro X hP hw hK hc i pins s σ H E I hf st hg;subst hP hw hK;obtain⟨xs,x,hq,hx⟩:=hg;obtain⟨its,rv,p,hz⟩:=I.tuple hq;obtain⟨u,hu,ru⟩:=rv.get hx;obtain⟨f0,f1,f2,f3,f4,f5⟩:=hf it (by simp);refine wpAny_pyNext_tuple_item st (show s.heap.IsTuple a its.toArray from p) (x:=u) (by simpa using hu) fun h' st' sb=>?_;have I1:Inv X pins σ H {s with heap:=h'}:=I.turned (t':=s.toks) (fun b o hb e=>(sb.2 b hb).trans e) f0 f1 f3 f4 f5;obtain⟨o,e,c,d⟩:=id st';exact⟨u,rfl,go_of (s:={s with heap:=h'}) e c d (by decide) ⟨x,H,I1,ru,⟨rfl,fun ys hy=>by rw[I.tuple_inj hy hq];exact hx⟩,st',fun b hb=>(hf b hb).1⟩⟩
 done:=by intro X hP hw hK hc i pins s σ H E I hf st hg;subst hP hw hK;obtain⟨xs,hq,hx⟩:=hg;obtain⟨its,rv,p,hz⟩:=I.tuple hq;obtain⟨f0,f1,f2,f3,f4,f5⟩:=hf it (by simp);have hl:=rv.length;exact wpAny_pyNext_tuple_end (I.ok.hd hc) st (show s.heap.IsTuple a its.toArray from p) (by simp;omega) fun h' eb=>⟨rfl,I.turned (t':=s.toks) (fun b o hb e=>eb b o hb e) f0 f1 f3 f4 f5⟩
 self:=fun _ _ _ _ _ st h=>wpAny_pyIter_tupleiter st h
theorem K2{P:Program}{w:World}{K:PySem.W.Frag}{tg:Expr}(it:Addr)(lo:Int)(n:Nat):Turn P w K tg (Itr lo n) [it] it (fun i h=>IsRangeIter h it (lo+(i:Nat)*1) ((n:Int) - (i:Nat)) 1) where
 mem:=by simp
 obj:=fun i h st b hb=>by
  have e:b=it:=by simpa using hb
  subst e;exact⟨_,st,fun v z=>by
    have z':Data.fields _=Data.cell v:=z
    cases z'⟩
 keep:=fun i h h' st k=>k it (by simp) _ st
 item:=by intro X hP hw hK hc i pins s σ H E I hf st hg;subst hP hw hK;obtain⟨f0,f1,f2,f3,f4,f5⟩:=hf it (by simp);have W:=Walks.range (prog:=X.prog) (w:=X.w) (I.ok.hd hc) it lo 1 n;refine W.item i s _ _ hg st fun v h' tk hv st' kk=>?_;obtain⟨t,rfl⟩:=hv;have I1:Inv X pins σ H {s with heap:=h',toks:=tk}:=I.turned (fun b o hb e=>kk b o (by simpa using hb) e) f0 f1 f3 f4 f5;refine⟨_,rfl,go_of (s:={s with heap:=h',toks:=tk}) (n:="range_iterator") st' rfl rfl (by decide) ⟨.int (lo+i),H,I1,⟨t,?_⟩,⟨rfl,rfl⟩,st',fun b hb=>(hf b hb).1⟩⟩;rw[Int.mul_one]
 done:=by intro X hP hw hK hc i pins s σ H E I hf st hg;subst hP hw hK;obtain⟨f0,f1,f2,f3,f4,f5⟩:=hf it (by simp);exact wpAny_pyNext_range_end (I.ok.hd hc) st (by have:n≤i:=hg;omega) fun h' eb=>⟨rfl,I.turned (t':=s.toks) (fun b o hb e=>eb b o hb e) f0 f1 f3 f4 f5⟩
 self:=fun _ _ _ _ _ st h=>wpAny_pyIter_rangeiter st h
section
variable {X:Cx}{tg:Expr}
theorem JN{pins:List (Addr×Obj)}{σ:St}{H:Hp}{s:Shared}{R:It→Hp→Prop}{E:Value→Shared→Prop}{lo hi:Int}{t u v:Tok}{tk:Nat}(I:Inv X pins σ H s)(h1:-(2 ^ 62)≤lo)(h2:lo<2 ^ 62)(h3:-(2 ^ 62)≤hi)(h4:hi<2 ^ 62)
  (q:R (Itr lo (hi - lo).toNat) H):wpAny (model X.prog X.w) X.A (pyIter (.ref s.heap.objs.size)) (PIE X pins σ tg R) E {s with heap:=s.heap.push {cls:=.type "range",data:=.fields #[.int lo t,.int hi u,.int 1 v]},toks:=tk}:=by
 refine wpAny_pyIter_range (IsRange.new ..) (small_one h1 h2 h3 h4) ?_;have I1:Inv X pins σ H { s with heap:=s.heap.push { cls:=.type "range",data:=.fields #[.int lo t,.int hi u,.int 1 v] },toks:=tk }:=I.kept fun b o e=>Heap.get?_push_of_some _ e;refine⟨(s.heap.push { cls:=.type "range",data:=.fields #[.int lo t,.int hi u,.int 1 v] }).objs.size,[(s.heap.push { cls:=.type "range",data:=.fields #[.int lo t,.int hi u,.int 1 v] }).objs.size],_,_,H,rfl,
   I1.kept (t':=tk) fun b o e=>Heap.get?_push_of_some _ e,K2 _ lo (hi - lo).toNat,?_,fun b hb=>?_,q⟩
 ·have e1:lo+((0:Nat):Int)*1=lo:=by simp
  have e2:(((hi - lo).toNat:Nat):Int) - ((0:Nat):Int)=Builtin.Range.rangeSize lo hi 1:=by rw[rangeSize_one];split<;>omega
  show IsRangeIter _ _ (lo+((0:Nat):Int)*1) ((((hi - lo).toNat:Nat):Int) - ((0:Nat):Int)) 1;rw[e1,e2];exact Heap.get?_push_size _ rfl
 ·have e:b=(s.heap.push {cls:=.type "range",data:=.fields #[.int lo t,.int hi u,.int 1 v]}).objs.size:=by simpa using hb
  subst e;exact I1.fpOk (zG _) (I1.hok.fresh (zG _))
def Gn (ta:TA):TI:=fun σ H R=>ta σ H fun vs H1=>∃ j:Int,vs=[.int j]∧-(2 ^ 62)≤j∧j<2 ^ 62∧R (Itr 0 j.toNat) H1
def Fz (ta:TA):TI:=fun σ H R=>ta σ H fun vs H1=>∃ i j:Int,vs=[.int i,.int j]∧(-(2 ^ 62)≤i∧i<2 ^ 62∧-(2 ^ 62)≤j∧j<2 ^ 62)∧R (Itr i (j - i).toNat) H1
theorem NP {a:Expr}{ta:TA}{p pos:Pos}(hg:Gl X "range") (hm:X.mg "range" = none) (ha:PA X [a] ta) (hs:starEach [a] X.env=[(false,eval a X.env)]:=by rfl):PI X tg (.Call (.Name "range" p) [a] [] pos) (Gn ta):=by
 intro pins s σ H R I h;refine Call_ (Yr I hg hm boot_range (PyProof.Rows.callWith_type1 (thn (ha pos pins s σ H _ I h) fun us s1 ⟨vs,H1,I1,r1,q1⟩=>?_) hs rfl));obtain⟨j,e,q1,q2,q⟩:=q1;subst e;cases r1 with
 |cons r rr =>cases rr;obtain⟨t,rfl⟩:=r;exact call_range_1 (JN I1 (by omega) (by omega) q1 q2 (by simpa using q))
theorem NO {a b:Expr}{ta:TA}{p pos:Pos}(hg:Gl X "range") (hm:X.mg "range" = none) (ha:PA X [a,b] ta) (hs:starEach [a,b] X.env=[(false,eval a X.env),(false,eval b X.env)]:=by rfl) (hs2:starEach [b] X.env=[(false,eval b X.env)]:=by rfl) :
  PI X tg (.Call (.Name "range" p) [a,b] [] pos) (Fz ta):=by
 intro pins s σ H R I h;refine Call_ (Yr I hg hm boot_range (PyProof.Rows.callWith_type1 (thn (ha pos pins s σ H _ I h) fun us s1 ⟨vs,H1,I1,r1,q1⟩=>?_) (by rw[hs,hs2]) (by rw[hs2];rfl)));obtain⟨i,j,e,⟨q1,q2,q3,q4⟩,q⟩:=q1;subst e;cases r1 with
 |cons r rr =>
  cases rr with
  |cons r' rr =>cases rr;obtain⟨t,rfl⟩:=r;obtain⟨t',rfl⟩:=r';exact call_range_2 (JN I1 q1 q2 q3 q4 q)
def Lq (wi:TI) (g:TG) (tb:TS):TS:=fun D σ H=>wi σ H fun J H1=>∃ W:Nat→Nat→St→Hp→Prop,(∃ m,W 0 m σ H1)∧∀ i m σ H,W i m σ H→
 (J.stop i H∧D.nx σ H)∨(J.go i H∧∃ N:St→Hp→Prop,(∀ σ' H',N σ' H'→∃ m',m'<m∧W (i+1) m' σ' H')∧∀ x H',J.yld i H x H'→g x σ H' fun σ2 H2=>tb {D with nx:=N,ct:=N,bk:=D.nx} σ2 H2)
def YL (fp:List Addr) (h:Heap):List (Addr×Obj):=fp.filterMap fun b=>(h.get? b).map fun o=>(b,o)
theorem ZS{fp:List Addr}{h:Heap}{b:Addr}{o:Obj}(hb:b∈fp)(e:h.get? b=some o):(b,o)∈YL fp h:=zI.mpr ⟨b,hb,by rw[e];rfl⟩
theorem Wl{fp:List Addr}{h:Heap}{p:Addr×Obj}(hp:p∈YL fp h):p.1∈fp∧h.get? p.1=some p.2:=by
 obtain⟨b,hb,e⟩:=zI.mp hp;cases q:h.get? b with
 |none=>rw[q]at e;cases e
 |some o =>rw[q]at e;have e':(b,o)=p:=Option.some.inj e;subst e';exact⟨hb,q⟩
theorem Inv.pinned{pins:List (Addr×Obj)}{σ:St}{H:Hp}{s:Shared}{fp:List Addr}(I:Inv X pins σ H s)(hf:∀ b∈fp,Xc X pins H b)(ho:∀ b∈fp,∃ o,s.heap.get? b=some o∧∀ v,o.data≠.cell v):Inv X (pins++YL fp s.heap) σ H s :=
 I.pins_of fun p hp=>(q8.mp hp).elim (fun z=>I.pin p (qL _ z)) fun z=>by obtain⟨hb,e⟩:=Wl z;obtain⟨f0,f1,f2,_⟩:=hf p.1 hb;obtain⟨o,e',d⟩:=ho p.1 hb;rw[e]at e';cases e';exact⟨e,f0,f1,f2,d⟩
theorem Inv.unpinned{pins pl:List (Addr×Obj)}{σ:St}{H:Hp}{s:Shared}(I:Inv X (pins++pl) σ H s):Inv X pins σ H s:=I.pins_of fun p hp=>I.pin p (qL _ (qM _ hp))
theorem Eb{iter:Expr}{body:List Stmt}{wi:TI}{g:TG}{tb:TS}{pos:Pos}(hp:PassesOwn (model X.prog X.w) X.A X.env X.xe)(hc:X.calm=true)(hi:PI X tg iter wi)(hg:PG X tg g)(hb:PSs X body tb)
  (hs:∀ x,foldedSetIterable iter X.env x=pure x:=by intro _;rfl):PS X (.For tg iter body [] pos) (Lq wi g tb):=by
 intro pins s σ H D I h;refine wpAny_For (thn (hi pins s σ H _ I h) fun v s1 h1=>thn h1 fun itv s2 h2=>?_) hs;obtain⟨it,fp,tn,J,H2,e,I2,T,st2,f2,W,⟨m0,w0⟩,turn⟩:=h2;subst e;have stat:∀ {H':Hp},(∀ b∈fp,H' b=none)→∀ b∈fp,Xc X pins H' b:=fun hn b hb=>⟨hn b hb,(f2 b hb).2⟩
 refine codeAny_forLoop_any (fun n s'=>∃ i σ' H',Inv X pins σ' H' s'∧tn i s'.heap∧(∀ b∈fp,H' b=none)∧W i n σ' H') ?_ m0 ⟨0,σ,H2,I2,st2,fun b hb=>(f2 b hb).1,w0⟩;rintro n s3 ⟨i,σ3,H3,I3,st3,fr3,w3⟩;rcases turn i n σ3 H3 w3 with⟨stop,qn⟩|⟨go,N,hN,step⟩
 ·refine wpAny_passesOwn hp (thn (T.done X rfl rfl rfl hc i pins s3 σ3 H3 X.xe I3 (stat fr3) st3 stop) fun r s4 ⟨hr,I4⟩=>?_);subst hr;exact wpAny_execs_nil ⟨σ3,H3,I4,qn⟩
 ·refine wpAny_passesOwn hp (thn (T.item X rfl rfl rfl hc i pins s3 σ3 H3 X.xe I3 (stat fr3) st3 go) fun r s4 ⟨u,hr,h4⟩=>?_);subst hr;refine wpAny_passesOwn hp (thn h4 fun _ s5 ⟨x,H5,I5,r5,y5,st5,fr5⟩=>?_);have I5':=I5.pinned (stat fr5) (T.obj _ _ st5);refine wpAny_passesOwn hp (thn (hg _ s5 σ3 H5 x u _ I5' r5 (step x H5 y5)) fun _ s6 ⟨σ6,H6,I6,q6⟩=>?_);refine wpAny_passesOwn hp (thn (hb _ s6 σ6 H6 _ I6 q6) fun f s7 q7=>?_);have again:∀ {σ7:St}{H7:Hp},Inv X (pins++YL fp s5.heap) σ7 H7 s7→N σ7 H7→∃ m,m<n∧∃ i σ' H',Inv X pins σ' H' s7∧tn i s7.heap∧(∀ b∈fp,H' b=none)∧W i m σ' H':=fun {σ7 H7} I7 n7=>by
   obtain⟨m',hm,w7⟩:=hN σ7 H7 n7;refine⟨m',hm,i+1,σ7,H7,I7.unpinned,T.keep _ _ _ st5 fun b hb o e=>(I7.pin (b,o) (qL _ (qL _ (ZS hb e)))).1,fun b hb=>?_,w7⟩;obtain⟨o,e,d⟩:=T.obj _ _ st5 b hb;exact(I7.pin (b,o) (qL _ (qL _ (ZS hb e)))).2.1
  cases f with
  |next=>obtain⟨σ7,H7,I7,n7⟩:=q7;exact again I7 n7
  |cont=>obtain⟨σ7,H7,I7,n7⟩:=q7;exact again I7 n7
  |brk=>obtain⟨σ7,H7,I7,q7⟩:=q7;exact⟨σ7,H7,I7.unpinned,q7⟩
  |ret v=>obtain⟨x7,σ7,H7,I7,r7,q7⟩:=q7;exact⟨x7,σ7,H7,I7.unpinned,r7,q7⟩
end
abbrev R2:=V→V→Hp→VK→Prop
def OpR (X:Cx) (f:Value→Value→Sem Value) (r:R2):Prop :=
 ∀ (pins:List (Addr×Obj)) (s:Shared) (σ:St) (H:Hp) (x y:V) (v u:Value) (Q:VK),Inv X pins σ H s→RelV x v→RelV y u→r x y H Q→
  wpAny (model X.prog X.w) X.A (f v u) (EP X pins σ Q) X.xe s
def UnR (X:Cx) (f:Value→Sem Value) (r:V→Hp→VK→Prop):Prop :=
 ∀ (pins:List (Addr×Obj)) (s:Shared) (σ:St) (H:Hp) (x:V) (v:Value) (Q:VK),Inv X pins σ H s→RelV x v→r x H Q→
  wpAny (model X.prog X.w) X.A (f v) (EP X pins σ Q) X.xe s
def CallR (X:Cx) (f:Value) (r:List V→Hp→VK→Prop):Prop :=
 ∀ (pins:List (Addr×Obj)) (s:Shared) (σ:St) (H:Hp) (xs:List V) (us:List Value) (Q:VK),Inv X pins σ H s→Vals xs us→r xs H Q→
  wpAny (model X.prog X.w) X.A (call f us) (EP X pins σ Q) X.xe s
def Ls (X:Cx) (r:V→Hp→(Bool→Hp→Prop)→Prop):Prop :=
 ∀ (pins:List (Addr×Obj)) (s:Shared) (σ:St) (H:Hp) (x:V) (v:Value) (Q:Bool→Hp→Prop),Inv X pins σ H s→RelV x v→r x H Q→
  wpAny (model X.prog X.w) X.A (truthy v) (TP X pins σ Q) X.xe s
def tOp (r:R2) (ta tb:TE):TE:=fun σ H Q=>ta σ H fun x H1=>tb σ H1 fun y H2=>r x y H2 Q
def tUn (r:V→Hp→VK→Prop) (ta:TE):TE:=fun σ H Q=>ta σ H fun x H1=>r x H1 Q
def rI (C:Int→Int→Prop) (g:Int→Int→V):R2:=fun x y H Q=>∃ i j,x=.int i∧y=.int j∧C i j∧Q (g i j) H
def rI0 (g:Int→Int→V):R2:=fun x y H Q=>∃ i j,x=.int i∧y=.int j∧Q (g i j) H
def rU (g:Int→V):V→Hp→VK→Prop:=fun x H Q=>∃ i,x=.int i∧Q (g i) H
section
variable {X:Cx}{a b c:Expr}{ta tb tc:TE}{pos:Pos}
theorem Eh(ha:PE X a ta)(hb:PE X b tb){pins:List (Addr×Obj)}{s:Shared}{σ:St}{H:Hp}{R:V→V→Hp→Prop}(I:Inv X pins σ H s)
  (h:ta σ H fun x H1=>tb σ H1 fun y H2=>R x y H2){Q:Value→Shared→Prop}{f:Value→Value→Sem Value}
  (hf:∀ v u s2 x y H2,Inv X pins σ H2 s2→RelV x v→RelV y u→R x y H2→wpAny (model X.prog X.w) X.A (f v u) Q X.xe s2) :
  wpAny (model X.prog X.w) X.A (eval a X.env) (fun v s₁=>wpAny (model X.prog X.w) X.A (eval b X.env) (fun u s₂=>wpAny (model X.prog X.w) X.A (f v u) Q X.xe s₂) X.xe s₁) X.xe s:=by
 refine thn (ha pins s σ H _ I h) fun v s1 ⟨x,H1,I1,r1,q1⟩=>?_;refine thn (hb pins s1 σ H1 _ I1 q1) fun u s2 ⟨y,H2,I2,r2,q2⟩=>?_;exact hf v u s2 x y H2 I2 r1 r2 q2
theorem Gg{op:Operator}{r:R2}(ho:OpR X (binaryOp op) r)(ha:PE X a ta)(hb:PE X b tb):PE X (.BinOp a op b pos) (tOp r ta tb):=by intro pins s σ H Q I h;exact wpAny_BinOp (Eh ha hb I h fun v u s2 x y H2 I2 rx ry q=>ho pins s2 σ H2 x y v u Q I2 rx ry q)
theorem Cr{op:UnaryOp}{r:V→Hp→VK→Prop}(ho:UnR X (unaryOp op) r)(ha:PE X a ta):PE X (.UnaryOp op a pos) (tUn r ta):=by intro pins s σ H Q I h;exact UnaryOp_ (thn (ha pins s σ H _ I h) fun v s1 ⟨x,H1,I1,r1,q1⟩=>ho pins s1 σ H1 x v Q I1 r1 q1)
theorem opI{f:Value→Value→Sem Value}{C:Int→Int→Prop}{g:Int→Int→Int}
  (rule:∀ (i j:Int) (t u:Tok) (s:Shared) (Q:Value→Shared→Prop) (E:Value→Shared→Prop),C i j→Q (.int (g i j) s.toks) {s with toks:=s.toks+1}→wpAny (model X.prog X.w) X.A (f (.int i t) (.int j u)) Q E s) :
  OpR X f (rI C fun i j=>.int (g i j)):=by
 intro pins s σ H x y v u Q I rx ry h;obtain⟨i,j,rfl,rfl,hc,q⟩:=h;obtain⟨t,rfl⟩:=rx;obtain⟨t',rfl⟩:=ry;exact rule i j t t' s _ _ hc ⟨.int (g i j),H,I.tok _,⟨_,rfl⟩,q⟩
theorem He{f:Value→Value→Sem Value}{g:Int→Int→Int}
  (rule:∀ (i j:Int) (t u:Tok) (s:Shared) (Q:Value→Shared→Prop) (E:Value→Shared→Prop),Q (.int (g i j) s.toks) {s with toks:=s.toks+1}→wpAny (model X.prog X.w) X.A (f (.int i t) (.int j u)) Q E s) :
  OpR X f (rI0 fun i j=>.int (g i j)):=by
 intro pins s σ H x y v u Q I rx ry h;obtain⟨i,j,rfl,rfl,q⟩:=h;obtain⟨t,rfl⟩:=rx;obtain⟨t',rfl⟩:=ry;exact rule i j t t' s _ _ ⟨.int (g i j),H,I.tok _,⟨_,rfl⟩,q⟩
theorem AW{f:Value→Value→Sem Value}{g:Int→Int→Bool}
  (rule:∀ (i j:Int) (t u:Tok) (s:Shared) (Q:Value→Shared→Prop) (E:Value→Shared→Prop),Q (.bool (g i j)) s→wpAny (model X.prog X.w) X.A (f (.int i t) (.int j u)) Q E s) :
  OpR X f (rI0 fun i j=>.bl (g i j)):=by
 intro pins s σ H x y v u Q I rx ry h;obtain⟨i,j,rfl,rfl,q⟩:=h;obtain⟨t,rfl⟩:=rx;obtain⟨t',rfl⟩:=ry;exact rule i j t t' s _ _ ⟨.bl (g i j),H,I,rfl,q⟩
def Fx (i j:Int):Prop:=0<j∧j<1073741824
def Hi (i j:Int):Prop:=0≤j∧j≤1000000∧i.natAbs<2 ^ 64
def CMul (i j:Int):Prop:=(-(2 ^ 64)<i∧i<2 ^ 64)∨(-(2 ^ 64)<j∧j<2 ^ 64)
theorem CMul.ok{i j:Int}(h:CMul i j):IntMulOk i j:=by
 rcases h with⟨h1,h2⟩|⟨h1,h2⟩
 ·exact .of_left (intBits_le_64 h1 h2)
 ·exact .of_right (intBits_le_64 h1 h2)
theorem op_add:OpR X (binaryOp .Add) (rI0 fun i j=>.int (i+j)):=He fun _ _ _ _ _ _ _ q=>add_int q
theorem Fa:OpR X (binaryOp .Sub) (rI0 fun i j=>.int (i - j)):=He fun _ _ _ _ _ _ _ q=>sub_int q
theorem AS:OpR X (binaryOp .FloorDiv) (rI Fx fun i j=>.int (i / j)):=opI fun i j _ _ _ _ _ hc q=>by have h1:(0:Int)<j:=hc.1;have h2:j<1073741824:=hc.2;exact floordiv_int (by omega) (by rw[Int.fdiv_eq_ediv_of_nonneg i (by omega)];exact q) (.inl (PyProof.noPylong_small (by omega)))
theorem De:OpR X (binaryOp .Mod) (rI (fun _ j=>0<j) fun i j=>.int (i % j)):=opI fun i j _ _ _ _ _ hc q=>by have h1:(0:Int)<j:=hc;exact mod_int' (by omega) (by rw[Int.fmod_eq_emod_of_nonneg i (by omega)];exact q)
theorem Fr:OpR X (binaryOp .Pow) (rI Hi fun i j=>.int (i ^ j.toNat)):=opI fun _ _ _ _ _ _ _ hc q=>pow_int_small hc.1 hc.2.1 hc.2.2 q
theorem unI{f:Value→Sem Value}{g:Int→Int}
  (rule:∀ (i:Int) (t:Tok) (s:Shared) (Q:Value→Shared→Prop) (E:Value→Shared→Prop),Q (.int (g i) s.toks) {s with toks:=s.toks+1}→wpAny (model X.prog X.w) X.A (f (.int i t)) Q E s) :
  UnR X f (rU fun i=>.int (g i)):=by
 intro pins s σ H x v Q I rx h;obtain⟨i,rfl,q⟩:=h;obtain⟨t,rfl⟩:=rx;exact rule i t s _ _ ⟨.int (g i),H,I.tok _,⟨_,rfl⟩,q⟩
theorem Uw:UnR X (unaryOp .USub) (rU fun i=>.int (-i)):=unI fun _ _ _ _ _ q=>neg_int q
end
section
variable {X:Cx}{a b c:Expr}{ta tb tc:TE}{pos:Pos}
theorem Dv{pins:List (Addr×Obj)}{σ:St}{H:Hp}{s:Shared}{Q:VK}{k k':Bool}(I:Inv X pins σ H s)(q:Q (.bl k) H)(e:k=k'):EP X pins σ Q (.bool k') s:=by subst e;exact⟨.bl k,H,I,rfl,q⟩
theorem op_lt:OpR X (compareOp .Lt) (rI0 fun i j=>.bl (decide (i<j))):=AW fun _ _ _ _ _ _ _ q=>lt_int q
theorem GA:OpR X (compareOp .LtE) (rI0 fun i j=>.bl (decide (i≤j))):=AW fun _ _ _ _ _ _ _ q=>le_int q
theorem op_gt:OpR X (compareOp .Gt) (rI0 fun i j=>.bl (decide (j<i))):=AW fun _ _ _ _ _ _ _ q=>gt_int q
theorem HE:OpR X (compareOp .GtE) (rI0 fun i j=>.bl (decide (j≤i))):=AW fun _ _ _ _ _ _ _ q=>ge_int q
theorem Nn:OpR X (compareOp .In) (fun x y H Q=>∃ i j,x=.str i∧y=.str j∧Q (.bl (!(Builtin.Str.occurrences j i 0 j.length 1).isEmpty)) H):=by intro pins s σ H x y v u Q I rx ry h;obtain⟨i,j,rfl,rfl,q⟩:=h;obtain⟨t,rfl⟩:=rx;obtain⟨t',rfl⟩:=ry;exact in_str (Dv I q rfl)
theorem OpR.or{f:Value→Value→Sem Value}{r r':R2}(h:OpR X f r)(h':OpR X f r'):OpR X f (fun x y H Q=>r x y H Q∨r' x y H Q):=by
 intro pins s σ H x y v u Q I rx ry q;rcases q with q|q
 ·exact h pins s σ H x y v u Q I rx ry q
 ·exact h' pins s σ H x y v u Q I rx ry q
theorem Ms{op:CmpOp}{r:R2}(ho:OpR X (compareOp op) r)(ha:PE X a ta)(hb:PE X b tb)(hm:behindInMarks op b=false):PE X (.Compare a [op] [b] pos) (tOp r ta tb):=by intro pins s σ H Q I h;exact wpAny_Compare1 (Eh ha hb I h fun v u s2 x y H2 I2 rx ry q=>ho pins s2 σ H2 x y v u Q I2 rx ry q) hm
def CC (t:TE):TT:=fun σ H Q=>t σ H fun x H'=>∃ k,x=.bl k∧Q k H'
theorem MZ{op:CmpOp}{r:R2}(ho:OpR X (compareOp op) r)(ha:PE X a ta)(hb:PE X b tb)(hm:behindInMarks op b=false):PT X (.Compare a [op] [b] pos) (CC (tOp r ta tb)):=by
 intro pins s σ H Q I h;refine wpAny_isTrue_Compare1 (thn (ha pins s σ H _ I h) fun v s1 ⟨x,H1,I1,r1,q1⟩=>thn (hb pins s1 σ H1 _ I1 q1) fun u s2 ⟨y,H2,I2,r2,q2⟩ =>
   thn (ho pins s2 σ H2 x y v u _ I2 r1 r2 q2) fun c s3 ⟨z,H3,I3,r3,k,e,q3⟩=>?_) hm
 subst e;cases r3;exact wpAny_truthy_bool ⟨H3,I3,q3⟩
def US (r r':R2) (ta tb tc:TE):TE:=fun σ H Q=>ta σ H fun x H1=>tb σ H1 fun y H2=>r x y H2 fun z H3=>∃ k,z=.bl k∧
 (if k=true then tc σ H3 fun w' H4=>r' y w' H4 Q else Q (.bl false) H3)
theorem OW{op op':CmpOp}{r r':R2}(ho:OpR X (compareOp op) r)(ho':OpR X (compareOp op') r')(ha:PE X a ta)(hb:PE X b tb)(hc:PE X c tc)
  (hm:lastMarks [op,op'] [b,c]=false:=by with_unfolding_all rfl):PE X (.Compare a [op,op'] [b,c] pos) (US r r' ta tb tc):=by
 intro pins s σ H Q I h;refine Compare_chain (thn (ha pins s σ H _ I h) fun v s1 ⟨x,H1,I1,r1,q1⟩=>chain_link (thn (hb pins s1 σ H1 _ I1 q1) fun u s2 ⟨y,H2,I2,r2,q2⟩ =>
   thn (ho pins s2 σ H2 x y v u _ I2 r1 r2 q2) fun d s3 ⟨z,H3,I3,r3,k,e,q3⟩=>?_)) hm
 subst e;cases r3;refine wpAny_truthy_bool ?_;cases k with
 |false=>exact ite_ff ⟨.bl false,H3,I3,rfl,q3⟩
 |true=>exact ite_tt (chain_last (thn (hc pins s3 σ H3 _ I3 q3) fun w' s4 ⟨z',H4,I4,r4,q4⟩=>ho' pins s4 σ H4 y z' u w' Q I4 r2 r4 q4))
theorem Oj{op op':CmpOp}{r r':R2}(ho:OpR X (compareOp op) r)(ho':OpR X (compareOp op') r')(ha:PE X a ta)(hb:PE X b tb)(hc:PE X c tc)
  (hm:lastMarks [op,op'] [b,c]=false:=by with_unfolding_all rfl):PT X (.Compare a [op,op'] [b,c] pos) (CC (US r r' ta tb tc)):=by
 intro pins s σ H Q I h;refine isTrue_chain (thn (ha pins s σ H _ I h) fun v s1 ⟨x,H1,I1,r1,q1⟩=>test_link (thn (hb pins s1 σ H1 _ I1 q1) fun u s2 ⟨y,H2,I2,r2,q2⟩ =>
   thn (ho pins s2 σ H2 x y v u _ I2 r1 r2 q2) fun d s3 ⟨z,H3,I3,r3,k,e,q3⟩=>?_)) hm
 subst e;cases r3;refine wpAny_truthy_bool ?_;cases k with
 |false =>obtain⟨k',e',q'⟩:=q3;cases e';exact ite_ff ⟨H3,I3,q'⟩
 |true =>refine ite_tt (test_last (thn (hc pins s3 σ H3 _ I3 q3) fun w' s4 ⟨z',H4,I4,r4,q4⟩=>thn (ho' pins s4 σ H4 y z' u w' _ I4 r2 r4 q4) fun d' s5 ⟨z2,H5,I5,r5,k2,e2,q5⟩=>?_));subst e2;cases r5;exact wpAny_truthy_bool ⟨H5,I5,q5⟩
def G8 (K:PySem.W.Frag) (x:V) (H:Hp) (k:Bool):Prop :=
 match x with
 |.non=>k=false
 |.bl b=>k=b
 |.int i=>k=(i != 0)
 |.str y=>y.length≤sizeLine∧k=((y.length:Int) != 0)
 |.byt y=>y.size≤sizeLine∧k=((y.size:Int) != 0)
 |.ref p=>(∃ xs,SqL K H p xs∧k=!xs.isEmpty)∨(∃ xs,SqT K H p xs∧k=!xs.isEmpty)∨∃ kvs,H p=some (.dK kvs)∧k=!kvs.isEmpty
 |_=>False
theorem K0{κ:Type}{kvs:List (κ×V)}{vs:List (κ×Value)}(r:KV kvs vs):(!vs.isEmpty)=!kvs.isEmpty:=by cases r<;>rfl
theorem XA{xs:List V}{its:List Value}(r:Vals xs its):(!its.toArray.isEmpty)=!xs.isEmpty:=by cases r<;>simp
theorem YF:(sizeLine:Nat)<2 ^ 63:=by rw[sizeLine_eq];decide
theorem Er:Ls X (fun x H Q=>∃ k,G8 X.K x H k∧Q k H):=by
 intro pins s σ H x v Q I rx h;obtain⟨k,e,q⟩:=h;have hl:=YF;have hs:sizeLine=16777216:=sizeLine_eq;cases x with
 |non =>cases rx;have e':k=false:=e;subst e';exact truthy_none ⟨H,I,q⟩
 |bl b =>cases rx;have e':k=b:=e;subst e';exact wpAny_truthy_bool ⟨H,I,q⟩
 |int i =>obtain⟨t,rfl⟩:=rx;have e':k=(i != 0):=e;subst e';exact PySem.P.truthy_int ⟨H,I,q⟩
 |str y =>obtain⟨t,rfl⟩:=rx;obtain⟨hy,e'⟩:y.length≤sizeLine∧k=((y.length:Int) != 0):=e;subst e';exact PySem.P.truthy_str (by omega) ⟨H,I.tok _,q⟩
 |byt y =>obtain⟨t,rfl⟩:=rx;obtain⟨hy,e'⟩:y.size≤sizeLine∧k=((y.size:Int) != 0):=e;subst e';exact PySem.W.truthy_bytes (by omega) ⟨H,I.tok _,q⟩
 |ref p =>
  cases rx;have e':(∃ xs,SqL X.K H p xs∧k=!xs.isEmpty)∨(∃ xs,SqT X.K H p xs∧k=!xs.isEmpty)∨∃ kvs,H p=some (.dK kvs)∧k=!kvs.isEmpty:=e;rcases e' with⟨xs,hx,e'⟩|⟨xs,hx,e'⟩|⟨kvs,hx,e'⟩
  ·subst e';obtain⟨its,r,pl,hz⟩:=I.list hx;have hlen:=r.length;exact wpAny_truthy_list pl.isList (by simp only[qC];omega) ⟨H,I.tok _,by rw[XA r];exact q⟩
  ·subst e';obtain⟨its,r,pl,hz⟩:=I.tuple hx;have hlen:=r.length;exact truthy_tuple pl (by simp only[qC];omega) ⟨H,I.tok _,by rw[XA r];exact q⟩
  ·subst e';obtain⟨hz,hS,vs,r,m⟩:kvs.length≤sizeLine∧(p==sysModules)=false∧∃ vs,KV kvs vs∧s.heap.DictOf (Zg X.prog X.w) p vs:=I.hok p _ hx;have hlen:kvs.length=vs.length:=Paired.length r;exact wpAny_truthy_dict hS m (by omega) ⟨H,I.tok _,by rw[K0 r];exact q⟩
 |_=>exact(show False from e).elim
theorem Oz(ha:PE X a ta)(he:∀ whole,isTrue a X.env whole=(do let v←whole;standAt a.pos;holding [v] (truthy v))) :
  PT X a (fun σ H Q=>ta σ H fun x H'=>∃ k,G8 X.K x H' k∧Q k H'):=by
 intro pins s σ H Q I h;exact isTrue_plain (thn (ha pins s σ H _ I h) fun v s1 ⟨x,H1,I1,r1,q1⟩=>Er pins s1 σ H1 x v Q I1 r1 q1) (he _)
theorem KA:OpR X (binaryOp .Add) (fun x y H Q=>∃ i j,x=.str i∧y=.str j∧i.length+j.length≤sizeLine∧Q (.str (i++j)) H):=by intro pins s σ H x y v u Q I rx ry h;obtain⟨i,j,rfl,rfl,hz,q⟩:=h;obtain⟨t,rfl⟩:=rx;obtain⟨t',rfl⟩:=ry;exact add_str (fun t' tk=>⟨.str (i++j),H,I.tok _,⟨_,rfl⟩,q⟩) hz
theorem ZN{x:V}{us:List Value}(r:Vals [x] us):∃ u,us=[u]∧RelV x u:=by
 cases r with
 |cons r1 r2=>cases r2;exact⟨_,rfl,r1⟩
theorem Mv{x y:V}{us:List Value}(r:Vals [x,y] us):∃ u w',us=[u,w']∧RelV x u∧RelV y w':=by
 cases r with
 |cons r1 r2 =>
  cases r2 with
  |cons r3 r4=>cases r4;exact⟨_,_,rfl,r1,r3⟩
theorem Nv (hc:X.calm=true):CallR X (.builtin "max") (fun xs H Q=>∃ i j,xs=[.int i,.int j]∧Q (.int (if j > i then j else i)) H):=by
 intro pins s σ H xs us Q I r h;obtain⟨i,j,rfl,q⟩:=h;obtain⟨u,w',rfl,⟨t,rfl⟩,⟨t',rfl⟩⟩:=Mv r;refine max_two_ints (I.ok.hd hc) fun h' tk k=>⟨_,H,I.kept k,?_,q⟩
 by_cases hj:j > i
 ·rw[if_pos hj,if_pos hj];exact⟨_,rfl⟩
 ·rw[if_neg hj,if_neg hj];exact⟨_,rfl⟩
theorem N4 (hc:X.calm=true):CallR X (.builtin "min") (fun xs H Q=>∃ i j,xs=[.int i,.int j]∧Q (.int (if j<i then j else i)) H):=by
 intro pins s σ H xs us Q I r h;obtain⟨i,j,rfl,q⟩:=h;obtain⟨u,w',rfl,⟨t,rfl⟩,⟨t',rfl⟩⟩:=Mv r;refine min_two_ints (I.ok.hd hc) fun h' tk k=>⟨_,H,I.kept k,?_,q⟩
 by_cases hj:j<i
 ·rw[if_pos hj,if_pos hj];exact⟨_,rfl⟩
 ·rw[if_neg hj,if_neg hj];exact⟨_,rfl⟩
theorem call_int1:CallR X (.type "int") (fun xs H Q=>(∃ i,xs=[.int i]∧Q (.int i) H)∨∃ k,xs=[.bl k]∧Q (.int (if k then 1 else 0)) H):=by
 intro pins s σ H xs us Q I r h;rcases h with⟨i,rfl,q⟩|⟨k,rfl,q⟩
 ·obtain⟨u,rfl,t,rfl⟩:=ZN r;exact call_int_int ⟨.int i,H,I,⟨_,rfl⟩,q⟩
 ·obtain⟨u,rfl,r1⟩:=ZN r;cases r1;exact call_int_bool ⟨.int (if k then 1 else 0),H,I.tok _,⟨_,rfl⟩,q⟩
theorem call_str_int:CallR X (.type "str") (fun xs H Q=>∃ i,xs=[.int i]∧i.natAbs.log2<1920∧Q (.str (toString i)) H):=by intro pins s σ H xs us Q I r h;obtain⟨i,rfl,hz,q⟩:=h;obtain⟨u,rfl,t,rfl⟩:=ZN r;exact PySem.P.str_of_int hz ⟨.str _,H,I.tok _,⟨_,rfl⟩,q⟩
end
structure ObjM (h:Heap) (x dx C:Addr) (mA:Str→Option Value):Prop where
 obj:h.get? x=some (PySem.W.instObj C dx)
 ns:h.Ns1 dx mA
 ne:dx≠x
theorem NZ{h:Heap}{dx:Addr}{mA:Str→Option Value}(n:h.Ns1 dx mA):∃ od,h.get? dx=some od∧∀ name,PySem.W.lookIn name od=some (mA name):=by
 obtain⟨o,es,ep,ho,hd,hk,_,hm⟩:=n;refine⟨o,ho,fun name=>?_⟩;have e:=hm name;unfold nsFind findBy at e;rw[←Array.find?_toList]at e;unfold PySem.W.lookIn;rw[hd];dsimp only;split
 ·rename_i y q;rw[q]at e;exact congrArg some e
 ·rename_i q;rw[q]at e;have a:es.toList.any (·.refKey)=false:=by
   rw[List.any_eq_false];intro y hy;obtain⟨z,t,hkey⟩:=hk y (Array.mem_toList_iff.mp hy);simp[DictEntry.refKey,hkey]
  have a':¬ es.toList.any (·.refKey)=true:=by rw[a];exact Bool.false_ne_true
  rw[if_neg a'];exact congrArg some e
theorem ObjM.look{h:Heap}{x dx C:Addr}{mA:Str→Option Value}(I:ObjM h x dx C mA):∃ od,PySem.W.InstAt h x (PySem.W.instObj C dx) C (some od)∧∀ name,PySem.W.lookIn name od=some (mA name) :=
 let ⟨od,ho,hl⟩:=NZ I.ns
 ⟨od,⟨I.obj,rfl,rfl,ho⟩,hl⟩
def putF (f:Str) (v:V):List (Str×V)→List (Str×V)
 |[]=>[(f,v)]
 |(g,x)::r=>if g=f then(g,v)::r else(g,x)::putF f v r
theorem RelO.some_of{v:V}{o:Option Value}(r:RelO (some v) o):∃ u,o=some u∧RelV v u:=by
 cases o with
 |none=>exact(show False from r).elim
 |some u=>exact⟨u,rfl,r⟩
section
variable {P:Program}{w:World}{H H':Hp}{h h':Heap}{a C dx:Addr}{fs fs':List (Str×V)}
theorem A6(hok:HOk P w H h)(e:H a=some (.ins C dx fs)):∃ mA,ObjM h a dx C mA∧(∀ f,RelO (fs.lookup f) (mA f))∧PySem.Within mA (fs.map (·.1))∧fs.length≤1000∧H dx=some (.own a):=by
 obtain⟨d,z,ne,ob,mA,n,r,q⟩:=(show ObjOk P w H h a (.ins C dx fs) from hok a _ e)
 exact⟨mA,⟨ob,n,ne⟩,r,q,z,d⟩
end
structure Cls (K:PySem.W.Frag) (C:Addr):Prop where
 pg:PySem.W.plainGet K C Str.empty=true
 hd:PySem.W.hasDictIn K C=true
 po:PySem.W.plainOver K C=true
 sa:PySem.W.findIn K (.ref C) "__setattr__" = some (some (.builtin "object.__setattr__"))
theorem Cls.get{K:PySem.W.Frag}{C:Addr}(c:Cls K C)(f:Str):PySem.W.plainGet K C f=true:=c.pg
def KW (K:PySem.W.Frag) (C:Addr) (f:Str):Prop:=PySem.W.findIn K (.ref C) f=some none
structure Meth (K:PySem.W.Frag) (C:Addr) (m:Str) (f:Addr):Prop where
 at_:PySem.W.findIn K (.ref C) m=some (some (.ref f))
 fn:PySem.W.isFn K (.ref f)=true
 kp:PySem.W.keepIn K (.ref f)=true
section
variable {X:Cx}{pins:List (Addr×Obj)}{σ:St}{H:Hp}{s:Shared}{a C dx:Addr}{fs:List (Str×V)}{f:Str}{v:V}{A:Around}{E:Value→Shared→Prop}
theorem Inv.made(I:Inv X pins σ H s):Inv X pins σ (upd (upd H s.heap.objs.size (.own (s.heap.objs.size+1))) (s.heap.objs.size+1) (.ins C s.heap.objs.size []))
  {s with heap:=(s.heap.push PySem.W.emptyDict).push (PySem.W.instObj C s.heap.objs.size)}:=by
 have e1:(s.heap.push PySem.W.emptyDict).get? s.heap.objs.size=some PySem.W.emptyDict:=Heap.get?_push_size s.heap rfl;have e2:((s.heap.push PySem.W.emptyDict).push (PySem.W.instObj C s.heap.objs.size)).get? (s.heap.objs.size+1)=some (PySem.W.instObj C s.heap.objs.size):=by
  have:=Heap.get?_push_size (s.heap.push PySem.W.emptyDict) (o:=PySem.W.instObj C s.heap.objs.size) rfl
  rwa [Heap.size_push]at this
 have e3:(s.heap.push PySem.W.emptyDict).Ns s.heap.objs.size (fun _=>none):=⟨PySem.W.emptyDict,#[],_,e1,rfl,(fun e he=>absurd he (by simp)),fun _=>rfl⟩
 have I1:=I.laid (a:=s.heap.objs.size) (o:=.own (s.heap.objs.size+1)) (h':=s.heap.push PySem.W.emptyDict) (t':=s.toks) (fun b u q=>Heap.get?_push_of_some _ q) (zG _) ⟨_,e1⟩;refine I1.laid (a:=s.heap.objs.size+1) (o:=.ins C s.heap.objs.size []) (t':=s.toks) (fun b u q=>Heap.get?_push_of_some _ q) (Nat.le_of_eq (Heap.size_push _ _)) ?_;have ne:s.heap.objs.size≠s.heap.objs.size+1:=zF (Nat.lt_succ_self _);refine⟨by rw[upd_ne ne,upd_same],Nat.zero_le _,ne,e2,fun _=>none,(Heap.Ns1.of_empty e3).at fun o q=>Heap.get?_push_of_some _ q,fun _=>True.intro,fun y hy=>absurd rfl hy⟩
end
section
variable {X:Cx}{pins:List (Addr×Obj)}{σ:St}{H:Hp}{s:Shared}{A:Around}{E:Value→Shared→Prop}{Q:Value→Shared→Prop}{c:Value}{b:Bool}
inductive TyOf (K:PySem.W.Frag) (H:Hp):V→Value→Prop where
 |non:TyOf K H .non (.type "NoneType")
 |bl (x:Bool):TyOf K H (.bl x) (.type "bool")
 |int (i:Int):TyOf K H (.int i) (.type "int")
 |str (x:Str):TyOf K H (.str x) (.type "str")
 |flt (x:UInt64):TyOf K H (.flt x) (.type "float")
 |lst {a:Addr}{xs:List V}(e:H a=some (.lst xs)):TyOf K H (.ref a) (.type "list")
 |frz {a:Addr}{o:Obj}{xs:List V}(e:H a=some (.frz o (.lst xs))):TyOf K H (.ref a) (.type "list")
 |tup {a:Addr}{xs:List V}(e:H a=some (.tup xs)):TyOf K H (.ref a) (.type "tuple")
 |dK {a:Addr}{kvs:List (Key×V)}(e:H a=some (.dK kvs)):TyOf K H (.ref a) (.type "dict")
 |dT {a:Addr}{kvs:List (List Key×V)}(e:H a=some (.dT kvs)):TyOf K H (.ref a) (.type "dict")
 |ins {a C dx:Addr}{fs:List (Str×V)}(e:H a=some (.ins C dx fs)) (cl:Cls K C) (ha:PySem.W.findIn K (.ref C) "__class__" = some (some (.builtin "object.__class__")))
   (hn:PySem.W.specialIn K (.builtin "object.__class__") "__get__" = some (some (.builtin "getset_descriptor.__get__"))) (htk:PySem.W.takesIn K (.builtin "object.__class__")=some true)
   (hm:PySem.W.mroIn K C (.type "object")=some true):TyOf K H (.ref a) (.ref C)
theorem Nu{x:V}{u t:Value}(I:Inv X pins σ H s)(rx:RelV x u)(ty:TyOf X.K H x t)(e:PySem.W.kitOne X.K t c=some b)(h:∀ tk,Q (.bool b) {s with toks:=tk}) :
  wpAny (model X.prog X.w) A (call (.builtin "isinstance") [u,c]) Q E s:=by
 cases ty with
 |non=>cases (show u=Value.none from rx);exact PySem.W.kia_one PySem.W.kitx_none I.kIn True.intro e (fun z=>nomatch z) h
 |bl y=>cases (show u=Value.bool y from rx);exact PySem.W.kia_one PySem.W.kitx_bool I.kIn True.intro e (fun z=>nomatch z) h
 |int i=>obtain⟨t,q⟩:=(show ∃ t,u=Value.int i t from rx);cases q;exact PySem.W.kia_one PySem.W.kitx_int I.kIn True.intro e (fun z=>nomatch z) h
 |str y=>obtain⟨t,q⟩:=(show ∃ t,u=Value.str y t from rx);cases q;exact PySem.W.kia_one PySem.W.kitx_str I.kIn True.intro e (fun z=>nomatch z) h
 |flt y=>obtain⟨t,q⟩:=(show ∃ t,u=Value.float y t from rx);cases q;exact PySem.W.kia_one PySem.W.kitx_float I.kIn True.intro e (fun z=>nomatch z) h
 |@lst a xs ea =>
  cases (show u=Value.ref a from rx);obtain⟨_,_,n,_,h1⟩:=(show ObjOk X.prog X.w H s.heap a (.lst xs) from I.hok a _ ea)
  exact PySem.W.kia_one PySem.W.kitx_list I.kIn ⟨_,h1,rfl⟩ e (fun z=>nomatch z) h
 |@frz a ob xs ea =>
  cases (show u=Value.ref a from rx);obtain⟨_,_,_,n,_,h1⟩:=(show ObjOk X.prog X.w H s.heap a (.frz ob (.lst xs)) from I.hok a _ ea)
  exact PySem.W.kia_one PySem.W.kitx_list I.kIn ⟨_,h1,rfl⟩ e (fun z=>nomatch z) h
 |@tup a xs ea =>
  cases (show u=Value.ref a from rx);obtain⟨_,_,_,p⟩:=(show ObjOk X.prog X.w H s.heap a (.tup xs) from I.hok a _ ea)
  obtain⟨o,h1,h2,_⟩:=p;exact PySem.W.kia_one PySem.W.kitx_tuple I.kIn ⟨o,h1,h2⟩ e (fun z=>nomatch z) h
 |@dK a kvs ea =>
  cases (show u=Value.ref a from rx);obtain⟨_,_,vs,_,p⟩:=(show ObjOk X.prog X.w H s.heap a (.dK kvs) from I.hok a _ ea)
  obtain⟨o,es,ep,h1,h2,_⟩:=p;exact PySem.W.kia_one PySem.W.kitx_dict I.kIn ⟨o,h1,h2.1⟩ e (fun z=>nomatch z) h
 |@dT a kvs ea =>
  cases (show u=Value.ref a from rx);obtain⟨_,_,xs,_,o,es,ep,h1,h2,_⟩:=(show ObjOk X.prog X.w H s.heap a (.dT kvs) from I.hok a _ ea)
  exact PySem.W.kia_one PySem.W.kitx_dict I.kIn ⟨o,h1,h2.1⟩ e (fun z=>nomatch z) h
 |@ins a C dx fs ea cl ha hn htk hm =>cases (show u=Value.ref a from rx);obtain⟨mA,O,_⟩:=A6 I.hok ea;obtain⟨od,J,_⟩:=O.look;exact PySem.W.kia_one (PySem.W.kitx_own (cl.get _) cl.hd ha hn htk hm) I.kIn J e (fun z=>nomatch z) h
end
structure Room (k:Nat) (A:Around):Prop where
 hd:A.handled=none
 dp:A.depth+3*k+5<recursionLimit
 un:A.units+16*k+200<cLine
theorem Room.mono{j k:Nat}{A:Around}(r:Room k A)(h:j≤k):Room j A:=⟨r.hd,by have:=r.dp;omega,by have:=r.un;omega⟩
theorem Room.deeper{k:Nat}{A:Around}(r:Room (k+1) A)(env:Env):Room k (A.deeper env) :=
 ⟨r.hd,by have:=r.dp;show A.depth+1+3*k+5<_;omega,by have:=r.un;show A.units+3+16*k+200<_;omega⟩
theorem Room.in1{k:Nat}{A:Around}(r:Room (k+1) A):Room k A.in1 :=
 ⟨r.hd,by have:=r.dp;show A.depth+3*k+5<_;omega,by have:=r.un;show A.units+1+16*k+200<_;omega⟩
theorem Ma {A:Around}{C:Addr}{us:List Value}{kw:List (Str×Value)}:(A.under (.builtin "type.__call__" ⟨.ref C::us,kw⟩)).depth=A.depth+1:=by
 first|rfl|simp[Around.under,Code.weight,Code.isCreation,Code.isGuard,Code.isCaller,Code.frames,Code.isFrame,guardIds]
theorem Ky {A:Around}{C:Addr}{us:List Value}{kw:List (Str×Value)}:(A.under (.builtin "type.__call__" ⟨.ref C::us,kw⟩)).units=A.units+1:=by
 first|rfl|simp[Around.under,Code.cUnits,Code.frames,Code.isFrame]
theorem Room.make {k:Nat}{A:Around}(r:Room (k+1) A) (C:Addr) (us:List Value) (kw:List (Str×Value)):Room k (A.under (.builtin "type.__call__" ⟨.ref C::us,kw⟩)) :=
 ⟨r.hd,by have:=r.dp;rw[Ma];omega,by have:=r.un;rw[Ky];omega⟩
theorem Room.depth{k:Nat}{A:Around}(r:Room k A):A.depth<recursionLimit:=by have:=r.dp;omega
theorem Room.units{k:Nat}{A:Around}(r:Room k A):A.units+64<cLine:=by have:=r.un;omega
def DE:TA:=fun _ H Q=>Q [] H
def CG (ta:TE) (tr:TA):TA:=fun σ H Q=>ta σ H fun x H1=>tr σ H1 fun xs H2=>Q (x::xs) H2
section
variable {X:Cx}{e:Expr}{es:List Expr}{te:TE}{t:TA}{pos:Pos}
theorem pa_nil:PA X [] DE:=fun _ _ _ _ H Q I h=>Calls.spliced_nil ⟨[],H,I,.nil,h⟩
theorem ZV(ha:PE X e te)(hr:PA X es t)(hs:starEach (e::es) X.env=(false,eval e X.env)::starEach es X.env:=by rfl):PA X (e::es) (CG te t):=by intro pos pins s σ H Q I h;rw[hs];show wpAny _ _ (spliced ((false,eval e X.env)::backTo pos (starEach es X.env))) _ _ s;refine Calls.spliced_cons (thn (ha pins s σ H _ I h) fun u s1 ⟨x,H1,I1,r1,q1⟩=>?_);exact thn (hr pos pins s1 σ H1 _ I1 q1) fun us s2 ⟨xs,H2,I2,r2,q2⟩=>⟨x::xs,H2,I2,.cons r1 r2,q2⟩
def Ih (t:TA):TE:=fun σ H Q=>t σ H fun xs H1=>xs.length≤sizeLine∧∀ p,H1 p=none→Q (.ref p) (upd H1 p (.tup xs))
def Il (t:TA):TE:=fun σ H Q=>t σ H fun xs H1=>xs.length≤sizeLine∧∀ p,H1 p=none→Q (.ref p) (upd H1 p (.lst xs))
theorem D4{x1}(h:PA X es t):PE X (.Tuple es x1 pos) (Ih t):=by intro pins s σ H Q I hq;refine wpAny_Tuple_spliced (thn (h pos pins s σ H _ I hq) fun us s1 ⟨xs,H1,I1,r,z,q⟩=>⟨by rw[←r.length];exact z,?_⟩);have hf:H1 s1.heap.objs.size=none:=I1.hok.fresh (zG _);refine⟨.ref s1.heap.objs.size,upd H1 s1.heap.objs.size (.tup xs),I1.laid (t':=s1.toks) (fun b u e=>Heap.get?_push_of_some _ e) (zG _) ?_,rfl,q _ hf⟩;exact⟨z,us,r,⟨_,Heap.get?_push_size _ rfl,rfl,_,rfl⟩⟩
theorem D0(h:PA X es t):PE X (.List es pos) (Il t):=by intro pins s σ H Q I hq;refine wpAny_List_spliced (thn (h pos pins s σ H _ I hq) fun us s1 ⟨xs,H1,I1,r,z,q⟩=>⟨by rw[←r.length];exact z,?_⟩);have hf:H1 s1.heap.objs.size=none:=I1.hok.fresh (zG _);refine⟨.ref s1.heap.objs.size,upd H1 s1.heap.objs.size (.lst xs),I1.laid (t':=s1.toks) (fun b u e=>Heap.get?_push_of_some _ e) (zG _) ?_,rfl,q _ hf⟩;exact⟨z,us,0,r,Heap.get?_push_size _ rfl⟩
end
abbrev Sp:=List V→Hp→VK→XK→Prop
abbrev CXT:=List Env→Hp→Shared→XK→Value→Shared→Prop
structure Env0 (P:Program) (w:World) (K:PySem.W.Frag) (mg:Str→Option Value) (base:Heap) (A:Around) (outer:List Env) (s:Shared) (H:Hp):Prop where
 frames:A.frames=some outer
 mod:Mod K mg base
 bs:∀ b o,base.get? b=some o→s.heap.get? b=some o∧H b=none
 bsz:base.objs.size≤s.heap.objs.size
 funs:s.heap.FunFrames base outer
 frf:∀ b∈frs outer,H b=none
 hok:HOk P w H s.heap
 bare:AllBare s.gens
def CE (outer:List Env) (P:Program) (w:World) (H:Hp) (s:Shared) (Q:VK) (u:Value) (s':Shared):Prop :=
 ∃ v H',s'.os=s.os∧AllBare s'.gens∧Un (frs outer) [] H H' s.heap s'.heap∧HOk P w H' s'.heap∧RelV v u∧Q v H'
def CR (CX:CXT) (outer:List Env) (P:Program) (w:World) (H:Hp) (s:Shared) (Q:VK) (E:XK) (r:Result) (s':Shared):Prop :=
 match r with
 |.ok (.ret u)=>CE outer P w H s Q u s'
 |.ok _=>False
 |.error e=>CX outer H s E e s'
structure FnOk (P:Program) (w:World) (K:PySem.W.Frag) (mg:Str→Option Value) (base:Heap) (CX:CXT) (k:Nat) (f:Addr) (fd:FuncData) (ps:List Str) (sp:Sp):Prop where
 len:∀ vs H Q E,sp vs H Q E→vs.length=ps.length
 run:∀ (A:Around) (outer:List Env) (s:Shared) (H:Hp) (args:Args) (us:List Value) (vs:List V) (Q:VK) (E:XK),Room k A→Env0 P w K mg base A outer s H→BindsTo s fd args (ps.zip us)→Vals vs us→sp vs H Q E→
  codeAny (model P w) A (.call (.ref f) args) (CR CX outer P w H s Q E) s
theorem FnOk.mono{P:Program}{w:World}{K:PySem.W.Frag}{mg:Str→Option Value}{base:Heap}{CX:CXT}{j k:Nat}{f:Addr}{fd:FuncData}{ps:List Str}{sp:Sp}(F:FnOk P w K mg base CX j f fd ps sp)(h:j≤k) :
  FnOk P w K mg base CX k f fd ps sp:=⟨F.len,fun A outer s H args us vs Q E hr=>F.run A outer s H args us vs Q E (hr.mono h)⟩
theorem FnOk.imp{P:Program}{w:World}{K:PySem.W.Frag}{mg:Str→Option Value}{base:Heap}{CX:CXT}{k:Nat}{f:Addr}{fd:FuncData}{ps:List Str}{sp sp':Sp}(F:FnOk P w K mg base CX k f fd ps sp)
  (h:∀ vs H Q E,sp' vs H Q E→sp vs H Q E):FnOk P w K mg base CX k f fd ps sp' :=
 ⟨fun vs H Q E q=>F.len vs H Q E (h _ _ _ _ q),fun A outer s H args us vs Q E hr he hb hv hs=>F.run A outer s H args us vs Q E hr he hb hv (h _ _ _ _ hs)⟩
theorem Env0.make{P:Program}{w:World}{K:PySem.W.Frag}{mg:Str→Option Value}{base:Heap}{A:Around}{outer:List Env}{s:Shared}{H:Hp}(e:Env0 P w K mg base A outer s H)(C:Addr)(us:List Value)(kw:List (Str×Value)) :
  Env0 P w K mg base (A.under (.builtin "type.__call__" ⟨.ref C::us,kw⟩)) outer s H:=⟨by first|exact e.frames|(simpa[Around.under,Code.envs,Code.isFrame,pushEnvs]using e.frames),e.mod,e.bs,e.bsz,e.funs,e.frf,e.hok,e.bare⟩
theorem Env0.in1{P:Program}{w:World}{K:PySem.W.Frag}{mg:Str→Option Value}{base:Heap}{A:Around}{outer:List Env}{s:Shared}{H:Hp}(e:Env0 P w K mg base A outer s H) :
  Env0 P w K mg base A.in1 outer s H:=⟨e.frames,e.mod,e.bs,e.bsz,e.funs,e.frf,e.hok,e.bare⟩
section
variable {X:Cx}{pins:List (Addr×Obj)}{σ:St}{H:Hp}{s s':Shared}
theorem Inv.env0(I:Inv X pins σ H s):Env0 X.prog X.w X.K X.mg X.base X.A X.stack s H :=
 ⟨I.ok.frames,I.ok.mod,I.bs,zE I.ok.bsz I.sz,I.stack,I.stkFree,I.hok,I.bare⟩
theorem Inv.after{Q:VK}{u:Value}(I:Inv X pins σ H s)(h:CE X.stack X.prog X.w H s Q u s'):EP X pins σ Q u s':=by obtain⟨v,H',os,bare,un,hok,r,q⟩:=h;obtain⟨hh,g,d,t,os'⟩:=s';obtain rfl:os'=s.os:=os;exact⟨v,H',I.call (h':=hh) (g':=g) (d':=d) (t':=t) (ch:=[]) un hok bare (fun b z=>absurd z (by simp)),r,q⟩
end
def Cl (sp:Sp) (dvs:List V) (E:XK) (t:TA):TE:=fun σ H Q=>t σ H fun vs H1=>sp (vs++dvs) H1 Q E
def Binds (K:PySem.W.Frag) (fd:FuncData) (ps:List Str) (ds:List Value):Prop :=
 ∀ (s:Shared) (us:List Value),K.In s.heap→(us++ds).length=ps.length→BindsTo s fd ⟨us,[]⟩ (ps.zip (us++ds))
theorem Binds.all{K:PySem.W.Frag}{fd:FuncData}{ps:List Str}(h:∀ us:List Value,us.length=ps.length→bindArgs fd ⟨us,[]⟩=pure (ps.zip us)):Binds K fd ps []:=fun s us _ hl=>by rw[zB]at hl ⊢;exact .of_eq (h us hl)
def W0 (CX:CXT) (X:Cx) (E:XK):Prop:=∀ (pins:List (Addr×Obj)) (σ:St) (H:Hp) (s:Shared) (e:Value) (s':Shared),Inv X pins σ H s→CX X.stack H s E e s'→X.xe e s'
section
variable {X:Cx}{CX:CXT}{k:Nat}{f C:Addr}{fd:FuncData}{ps:List Str}{sp:Sp}{dvs:List V}{ds:List Value}{E:XK}{x m:Str}{p pos apos:Pos}{e o:Expr}{es:List Expr}{ta:TE}{t:TA}
theorem Ui{pins:List (Addr×Obj)}{σ:St}{H:Hp}{s:Shared}{Q:VK}{us:List Value}{vs:List V}(F:FnOk X.prog X.w X.K X.mg X.base CX k f fd ps sp)(hr:Room k X.A)(hb:Binds X.K fd ps ds)(hd:Vals dvs ds)(hx:W0 CX X E)
  (I:Inv X pins σ H s) (r:Vals vs us) (h:sp (vs++dvs) H Q E):wpAny (model X.prog X.w) X.A (call (.ref f) us) (EP X pins σ Q) X.xe s:=by
 have r2:Vals (vs++dvs) (us++ds):=r.append hd;have hl:(us++ds).length=ps.length:=by rw[←r2.length];exact F.len _ _ _ _ h
 refine wpAny_call (codeAny_mono (F.run X.A X.stack s H ⟨us,[]⟩ (us++ds) (vs++dvs) Q E hr I.env0 (hb s us I.kIn hl) r2 h) fun r s' hq=>?_);cases r with
 |error e=>exact hx pins σ H s e s' I hq
 |ok fl =>
  cases fl with
  |ret u=>exact I.after hq
  |next=>exact False.elim hq
  |brk=>exact False.elim hq
  |cont=>exact False.elim hq
theorem Be(F:FnOk X.prog X.w X.K X.mg X.base CX k f fd ps sp)(hr:Room k X.A)(hg:Gl X x)(hm:X.mg x=some (.ref f))(hk:PySem.W.keepIn X.K (.ref f)=true)(hb:Binds X.K fd ps ds)(hd:Vals dvs ds)(hx:W0 CX X E)
  (ha:PA X (e::es) t) (hdb:(x==("__debug__" : Str))=false:=by decide) (he:starEach (e::es) X.env=(false,eval e X.env)::starEach es X.env:=by rfl) (hpl:(backTo pos (starEach es X.env)).any (·.1)=false:=by rfl) :
  PE X (.Call (.Name x p) (e::es) [] pos) (Cl sp dvs E t):=by
 intro pins s σ H Q I h;refine wpAny_Call_Name_kw (Je I hg hm ?_ hdb);refine PySem.W.callWith_K (h₀:=X.base) I.ok.mod.kin hk (thn (ha pos pins s σ H _ I h) fun us s1 ⟨vs,H1,I1,r,q⟩=>⟨I1.kIn,?_⟩) he hpl;exact Ui F hr hb hd hx I1 r q
theorem UK(F:FnOk X.prog X.w X.K X.mg X.base CX k f fd ps sp)(hr:Room k X.A)(hg:Gl X x)(hm:X.mg x=some (.ref f))(hk:PySem.W.keepIn X.K (.ref f)=true)(hb:Binds X.K fd ps ds)(hd:Vals dvs ds)(hx:W0 CX X E)
  (hdb:(x==("__debug__" : Str))=false:=by decide):PE X (.Call (.Name x p) [] [] pos) (Cl sp dvs E DE):=by
 intro pins s σ H Q I h;refine wpAny_Call_Name_kw (Je I hg hm ?_ hdb);exact PySem.W.callWith_K0 I.kIn hk (Ui (us:=[]) F hr hb hd hx I .nil h)
structure Mk (K:PySem.W.Frag) (C f:Addr):Prop where
 makes:PySem.W.makesIn K C=true
 init:PySem.W.findIn K (.ref C) "__init__" = some (some (.ref f))
 fn:PySem.W.isFn K (.ref f)=true
 kp:PySem.W.keepIn K (.ref C)=true
end
structure FnScope (N P:List Str) (sc:Scope):Prop where
 kind:sc.kind=.function
 co:sc.isCoroutine=false
 gen:sc.isGenerator=false
 nd:N.Nodup
 pre:N.take P.length=P
 par:∀ x∈P,sc.names.lookup x=some .local∨sc.names.lookup x=some .cell
 nofree:∀ y∈sc.names,y.2≠.free
theorem Ww{kindOf:Str→Option NameKind}{x:Str}:∀ {binds:List (Str×Value)}{m:Str→Option Value},(∀ v,(x,v)∉binds)→bindL kindOf binds m x=m x
 |[],_,_=>rfl
 |(n,v)::r,m,h=>by
  unfold bindL;rw[Ww fun w hw=>h w (qI _ hw)];split
  ·have:x≠n:=by rintro rfl;exact h v qT
   simp[this]
  ·rfl
theorem Wt{kindOf:Str→Option NameKind}{x:Str}:∀ {binds:List (Str×Value)}{m:Str→Option Value},(∀ v,(x,v)∉binds)→bindC kindOf binds m x=m x
 |[],_,_=>rfl
 |(n,v)::r,m,h=>by
  unfold bindC;rw[Wt fun w hw=>h w (qI _ hw)];split
  ·rfl
  ·have:x≠n:=by rintro rfl;exact h v qT
   simp[this]
theorem WF{kindOf:Str→Option NameKind}{x:Str}{v:Value}:∀ {P:List Str}{vs:List Value}{i:Nat}{m:Str→Option Value},P.Nodup→P[i]?=some x→vs[i]?=some v→kindOf x=some .local→
  bindL kindOf (P.zip vs) m x=some v
 |[],_,_,_,_,h,_,_=>by simp at h
 |_::_,[],_,_,_,_,h,_=>by simp at h
 |p::P,w::vs,0,m,nd,h1,h2,hk=>by simp at h1 h2;subst h1;subst h2;show bindL kindOf ((p,w)::P.zip vs) m p=_;unfold bindL;rw[Ww fun v hv=>(List.nodup_cons.mp nd).1 (List.of_mem_zip hv).1,if_pos hk];simp
 |p::P,w::vs,i+1,m,nd,h1,h2,hk=>by show bindL kindOf ((p,w)::P.zip vs) m x=_;unfold bindL;exact WF (i:=i) (List.nodup_cons.mp nd).2 (by simpa using h1) (by simpa using h2) hk
theorem WB{kindOf:Str→Option NameKind}{x:Str}{v:Value}:∀ {P:List Str}{vs:List Value}{i:Nat}{m:Str→Option Value},P.Nodup→P[i]?=some x→vs[i]?=some v→kindOf x≠some .local→
  bindC kindOf (P.zip vs) m x=some v
 |[],_,_,_,_,h,_,_=>by simp at h
 |_::_,[],_,_,_,_,h,_=>by simp at h
 |p::P,w::vs,0,m,nd,h1,h2,hk=>by simp at h1 h2;subst h1;subst h2;show bindC kindOf ((p,w)::P.zip vs) m p=_;unfold bindC;rw[Wt fun v hv=>(List.nodup_cons.mp nd).1 (List.of_mem_zip hv).1,if_neg hk];simp
 |p::P,w::vs,i+1,m,nd,h1,h2,hk=>by show bindC kindOf ((p,w)::P.zip vs) m x=_;unfold bindC;exact WB (i:=i) (List.nodup_cons.mp nd).2 (by simpa using h1) (by simpa using h2) hk
def start (N:List Str) (vs:List V):St:=vs.map some++List.replicate (N.length - vs.length) none
def We (CX:CXT) (P:Program) (w:World) (K:PySem.W.Frag) (mg:Str→Option Value) (base:Heap) (N:List Str) (qual:Str) (scope:Scope) (f:Addr) (cd:Value) (A:Around) (outer:List Env) (s:Shared) (H:Hp) (E:XK):Cx where
 prog:=P
 w:=w
 K:=K
 mg:=mg
 base:=base
 A:=A.deeper (envOfC qual scope s.heap.objs.size f cd)
 N:=N
 s₀:=s
 H₀:=H
 env:=envOfC qual scope s.heap.objs.size f cd
 outer:=outer
 stack:=envOfC qual scope s.heap.objs.size f cd::outer
 ex:=[]
 calm:=true
 fn:=fun _=>true
 pn:=[]
 xe:=fun e s'=>wpAny (model P w) (A.deeper (envOfC qual scope s.heap.objs.size f cd)) (leaving (envOfC qual scope s.heap.objs.size f cd) e) (fun _ s''=>CX outer H s E e s'') (fun e' s''=>CX outer H s E e' s'') s'
theorem JQ{sc:Scope}{n:Nat}{x:Str}(h:sc.names.lookup x=some .cell):∃ c,(cellsFrom n sc.names []).lookup x=some c:=by have q:=PySem.W.cellsFrom_some sc.names n [] (.inl h);exact Option.isSome_iff_exists.mp q
theorem NK{CX:CXT}{P:Program}{w:World}{K:PySem.W.Frag}{mg:Str→Option Value}{base:Heap}{N ps:List Str}{qual:Str}{scope:Scope}{f:Addr}{cd:Value}{A:Around}{outer:List Env}{s s1:Shared}{H:Hp}{E:XK}{us:List Value}{vs:List V}
  (S:FnScope N ps scope) (hd:A.handled=none) (e0:Env0 P w K mg base A outer s H) (hl:vs.length=ps.length) (r:Vals vs us)
  (x:InCallC s s.heap.objs.size (bindL (envOfC qual scope s.heap.objs.size f cd).kindOf (ps.zip us) fun _=>none) (cellsFrom (s.heap.objs.size+1) scope.names []) (bindC (envOfC qual scope s.heap.objs.size f cd).kindOf (ps.zip us) fun _=>none) s1) :
  Inv (We CX P w K mg base N qual scope f cd A outer s H E) [] (start N vs) H s1:=by
 have hpl:ps.length≤N.length:=by have:=congrArg List.length S.pre;rw[qV]at this;omega
 obtain⟨h1,tk,rfl,hk⟩:=x.done;have noA:∀ b:Addr,b∉(We CX P w K mg base N qual scope f cd A outer s H E).ex:=fun b z=>absurd (show b∈([]:List Addr) from z) (by simp);refine⟨⟨e0.mod,S.kind,rfl,rfl,zG _,fun y z c h1 h2=>?_,fun y hy=>?_,fun y c _ h=>?_,fun _=>hd,Around.frames_deeper e0.frames,.inr ⟨rfl,rfl⟩,fun b z=>absurd z (noA b),e0.bs,e0.bsz,fun b _ _=>noA b,fun b z=>absurd z (noA b),e0.funs,e0.frf⟩,
   rfl,e0.bare,Un.kept hk,⟨_,x.toInCall.ns,fun i y v h1 h2 h3=>?_⟩,fun y c h=>⟨_,x.cell y c h⟩,e0.hok.fresh (zG _),fun y c h=>?_,fun p hp=>absurd (show p∈([]:List (Addr×Obj)) from hp) (by simp),e0.hok.kept hk,?_⟩
 ·exact name_of_addr x.apart (PySem.mem_of_lookup h1) (PySem.mem_of_lookup h2)
 ·have hy:scope.names.lookup y=some .cell∨scope.names.lookup y=some .free:=hy;rcases hy with hy|hy
  ·exact JQ hy
  ·exact absurd rfl (S.nofree _ (PySem.mem_of_lookup hy))
 ·exact Nat.le_of_lt (x.above y c (PySem.mem_of_lookup h))
 ·have hi:i<vs.length:=by
   unfold start at h2;by_cases hi:i<vs.length
   ·exact hi
   ·rw[List.getElem?_append_right (by simpa using hi)]at h2;rw[List.getElem?_replicate]at h2;split at h2<;>cases h2
  have ha:vs[i]?=some v:=by
   unfold start at h2;rw[List.getElem?_append_left (by simpa using hi),qF]at h2;cases e:vs[i]? with
   |none=>rw[e]at h2;cases h2
   |some a=>rw[e]at h2;cases h2;rfl
  obtain⟨u,hu,rv⟩:=r.get ha;have hp:ps[i]?=some y:=by rw[←S.pre,List.getElem?_take_of_lt (by omega)];exact h1
  have ndP:ps.Nodup:=by rw[←S.pre];exact S.nd.sublist (List.take_sublist _ _)
  refine⟨u,rv,?_⟩;rcases S.par y (qY hp)with k|k
  ·exact .inl ⟨k,WF ndP hp hu k⟩
  ·obtain⟨c,e⟩:=JQ (n:=s.heap.objs.size+1) k;refine .inr ⟨.inl k,c,e,?_⟩;have q:=x.cell y c e;rw[WB ndP hp hu (by show scope.names.lookup y≠_;rw[k];decide)]at q;exact q
 ·exact e0.hok.fresh (Nat.le_of_lt (x.above y c (PySem.mem_of_lookup h)))
 ·unfold start;show _=N.length;rw[qU,qA,qX];omega
theorem B8{CX:CXT}{P:Program}{w:World}{K:PySem.W.Frag}{mg:Str→Option Value}{base:Heap}{k:Nat}{f:Addr}{name qual:Str}{params:Arguments}{body:List Stmt}{scope:Scope}{dV kV doc pm cdv ct oc:Value}{an od:Option Addr}
  {osl:Array (Option Value)}{N ps:List Str}{sp:Sp}(lk:K.lookup f=some ⟨oc,od,.func (PySem.W.fnOf name qual params body scope dV kV doc pm an cdv ct),osl⟩) (hcd:PySem.W.codeIn K cdv qual=true) (S:FnScope N ps scope)
  (len:∀ vs H Q E,sp vs H Q E→vs.length=ps.length)
  (hbody:∀ (A:Around) (outer:List Env) (s:Shared) (H:Hp) (vs:List V) (Q:VK) (E:XK),Room k (A.deeper (envOfC qual scope s.heap.objs.size f cdv))→sp vs H Q E→
    ∃ t,PSs (We CX P w K mg base N qual scope f cdv A outer s H E) body t∧t { nx:=fun _ H'=>Q .non H',rt:=Q } (start N vs) H) :
  FnOk P w K mg base CX (k+1) f (PySem.W.fnOf name qual params body scope dV kV doc pm an cdv ct) ps sp:=by
 refine⟨len,fun A outer s H args us vs Q E hr e0 hb r hsp=>?_⟩;have hl:=len _ _ _ _ hsp;have KX:K.In s.heap:=e0.mod.kin.keeps fun b o e=>(e0.bs b o e).1;have lim:s.heap.NoLimit:=e0.mod.nolimit.keeps fun b o e=>(e0.bs b o e).1;have hkind:∀ y∈ps.zip us,scope.names.lookup y.1=some .local∨(scope.names.lookup y.1=some .cell∧((cellsFrom (s.heap.objs.size+1) scope.names []).lookup y.1).isSome=true):=fun⟨n,v⟩ hy=>by
  rcases S.par n (List.of_mem_zip hy).1 with q|q
  ·exact .inl q
  ·exact .inr ⟨q,PySem.W.cellsFrom_some _ _ _ (.inl q)⟩
 refine codeAny_call_function hr.depth (KX _ _ lk) rfl S.co S.gen rfl (PySem.W.codeRec_of KX hcd) (hb _ _ _ _ ?_);refine wpAny_newFunctionEnv_cells S.kind hkind fun env he s1 x=>?_;subst he;refine⟨lim.keeps x.toInCall.keep,codeAny_func ?_⟩;obtain⟨t,ht,hq⟩:=hbody A outer s H vs Q E (hr.deeper _) hsp;have I:Inv (We CX P w K mg base N qual scope f cdv A outer s H E) [] (start N vs) H s1:=NK S hr.hd e0 hl r x;refine wpAny_mono (ht [] s1 (start N vs) H _ I hq) (fun fl s' hs=>?_) fun e s' hs=>hs;have fin:∀ {σ':St}{H':Hp}{v:V}{u:Value},Inv (We CX P w K mg base N qual scope f cdv A outer s H E) [] σ' H' s'→RelV v u→Q v H'→CE outer P w H s Q u s' :=
  fun {σ' H' v u} J rv q=>⟨v,H',J.os,J.bare,J.base,J.hok,rv,q⟩
 cases fl with
 |ret u =>obtain⟨v,σ',H',J,rv,q⟩:=hs;exact fin J rv q
 |next =>obtain⟨σ',H',J,q⟩:=hs;exact fin (v:=V.non) (u:=Value.none) J rfl q
 |brk =>obtain⟨_,_,_,q⟩:=hs;exact False.elim q
 |cont =>obtain⟨_,_,_,q⟩:=hs;exact False.elim q
section
variable {X:Cx}{x:Str}{p pos:Pos}{e:Expr}{es:List Expr}{t:TA}{id T:String}{r:List V→Hp→VK→Prop}
def tCB (r:List V→Hp→VK→Prop) (t:TA):TE:=fun σ H Q=>t σ H fun vs H1=>r vs H1 Q
theorem Z3 (hc:CallR X (.builtin id) r) (hg:Gl X x) (hm:X.mg x=none) (hv:bootBuiltins x=some (.builtin id)) (ha:PA X (e::es) t) (hn:x≠"__name__":=by decide) (hdb:(x==("__debug__" : Str))=false:=by decide)
  (he:starEach (e::es) X.env=(false,eval e X.env)::starEach es X.env:=by rfl) (hpl:(backTo pos (starEach es X.env)).any (·.1)=false:=by rfl):PE X (.Call (.Name x p) (e::es) [] pos) (tCB r t):=by
 intro pins s σ H Q I h;refine wpAny_Call_Name_kw (Yr I hg hm hv ?_ hn hdb);exact PyProof.Rows.callWith_builtin1 (thn (ha pos pins s σ H _ I h) fun us s1 ⟨vs,H1,I1,r1,q1⟩=>hc pins s1 σ H1 vs us Q I1 r1 q1) he hpl
theorem Z0 (hc:CallR X (.type T) r) (hg:Gl X x) (hm:X.mg x=none) (hv:bootBuiltins x=some (.type T)) (ha:PA X (e::es) t) (hn:x≠"__name__":=by decide) (hdb:(x==("__debug__" : Str))=false:=by decide)
  (he:starEach (e::es) X.env=(false,eval e X.env)::starEach es X.env:=by rfl) (hpl:(backTo pos (starEach es X.env)).any (·.1)=false:=by rfl):PE X (.Call (.Name x p) (e::es) [] pos) (tCB r t):=by
 intro pins s σ H Q I h;refine wpAny_Call_Name_kw (Yr I hg hm hv ?_ hn hdb);exact PyProof.Rows.callWith_type1 (thn (ha pos pins s σ H _ I h) fun us s1 ⟨vs,H1,I1,r1,q1⟩=>hc pins s1 σ H1 vs us Q I1 r1 q1) he hpl
end
end L2
namespace HT
open PySem PyProof.Rows
def lexLt:List Int→List Int→Bool
 |[],[]=>false
 |[],_::_=>true
 |_::_,[]=>false
 |x::xs,y::ys=>if x=y then lexLt xs ys else decide (x<y)
theorem lexLt_cons(x y:Int)(xs ys:List Int):lexLt (x::xs) (y::ys)=if x=y then lexLt xs ys else decide (x<y):=rfl
theorem Wh:lexLt [] []=false:=rfl
theorem XJ(y:Int)(ys:List Int):lexLt [] (y::ys)=true:=rfl
theorem Wa(x:Int)(xs:List Int):lexLt (x::xs) []=false:=rfl
theorem eqAt_int(A:Around)(s:Shared)(a:Int)(t:Tok)(c:Int)(u:Tok):∃ e,SeqAt.EqAt A s (.int a t) (.int c u) e∧(e=true↔a=c) :=
 ⟨(a==c),SeqAt.EqAt.int_int a t c u,by simp⟩
theorem UP(A:Around)(s:Shared)(a:Int)(t:Tok)(c:Int)(u:Tok)(prog:Program)(w:World)(E:Value→Shared→Prop)(Q:Value→Shared→Prop)(h:Q (.bool (decide (a<c))) s) :
  wpAny (model prog w) A (richCompare .Lt (.int a t) (.int c u)) Q E s :=
 (PyProof.Rows.lt_int h:wpAny (model prog w) A (compareOp .Lt (.int a t) (.int c u)) Q E s)
section
open PySem.SeqAt
open PySem.AutoSeq1 (wpAny_loadPart')
open PySem.MeetsSeq PySem.MeetsSeq2 PySem.MeetsSeq3
theorem Wj(l b:Addr)(items items2:Array Value)(n n2:Nat)(dd dd2:Option Addr)(sl sl2:Array (Option Value))(ns ms:List Int)(hi:IntsAre items.toList ns)(hj:IntsAre items2.toList ms) :
  Meets (Builtin.«tuple.__lt__» ⟨[.ref l,.ref b],[]⟩)
   (fun _ R s=>s.heap.get? l=some { cls:=.type "tuple",dict:=dd,data:=.seq items n,slots:=sl }∧s.heap.get? b=some { cls:=.type "tuple",dict:=dd2,data:=.seq items2 n2,slots:=sl2 }∧
     R (.ok (.ret (.bool (lexLt ns ms)))) s) :=
 .of_wp fun prog w A R s h=>by
  obtain⟨hp,g,d,tk,os⟩:=s;obtain⟨hl,hb,h⟩:=h;have f2:=AutoSeq1.sub_tuple_tuple;have z1:items.size=ns.length:=by rw[←hi.length];simp
  have z2:items2.size=ms.length:=by rw[←hj.length];simp
  wp_walk using wpAny_loadPart' hl,wpAny_loadPart' hb,wpAny_forIn_list _ (fun rest b s'=>b.1=none∧s'=⟨hp,g,d,tk,os⟩∧∃ (vs ws:List Value) (ns' ms':List Int),rest=vs.zip ws∧
    IntsAre vs ns'∧IntsAre ws ms'∧ns'.length+items2.size=ms'.length+items.size∧R (.ok (.ret (.bool (lexLt ns' ms')))) ⟨hp,g,d,tk,os⟩) _
  case turn =>
   rintro⟨y,x⟩ rest b s' ⟨hb',rfl,vs,ws,ns',ms',hz,hvi,hwi,hlen,hR⟩;cases hvi with
   |nil=>rw[List.zip_nil_left]at hz;cases hz
   |cons a t hvi' =>
    cases hwi with
    |nil=>rw[List.zip_nil_right]at hz;cases hz
    |cons c u hwi' =>
     rw[List.zip_cons_cons]at hz;injection hz with hyx hrest;injection hyx with hy hx;subst hy hx;rw[lexLt_cons]at hR;simp only[qB]at hlen;obtain⟨e,he,hiff⟩:=eqAt_int A.in1 ⟨hp,g,d,tk,os⟩ a t c u;refine wpAny_bind (he prog w _ _ ?_);cases e with
     |true =>
      rw[if_pos (hiff.mp rfl)]at hR
      wp_walk
      exact⟨rfl,rfl,_,_,_,_,hrest,hvi',hwi',by omega,hR⟩
     |false =>
      rw[if_neg (fun q=>absurd (hiff.mpr q) Bool.false_ne_true)]at hR;have hri:=UP A.in1 ⟨hp,g,d,tk,os⟩ a t c u prog w
      wp_walk using hri
      exact⟨_,rfl,by simpa using hR⟩
  case fin =>
   rintro⟨b1,b2⟩ s' ⟨hb',rfl,vs,ws,ns',ms',hz,hvi,hwi,hlen,hR⟩;simp only at hb';subst hb';have hv:lexLt ns' ms'=decide (items.size<items2.size):=by
    cases hvi with
    |nil =>
     cases hwi with
     |nil =>simp only[List.length_nil]at hlen;rw[Wh];exact(qP (by omega)).symm
     |cons c u hw =>simp only[List.length_nil,qB]at hlen;rw[XJ];exact(qQ (by omega)).symm
    |cons a t hv =>
     cases hwi with
     |nil =>simp only[List.length_nil,qB]at hlen;rw[Wa];exact(qP (by omega)).symm
     |cons c u hw =>rw[List.zip_cons_cons]at hz;cases hz
   rw[hv]at hR
   wp_walk
   exact⟨_,rfl,by simpa[Builtin.Tuple.tupleCompareSizes]using hR⟩
  case h =>exact⟨rfl,rfl,items.toList,items2.toList,ns,ms,rfl,hi,hj,by omega,h⟩
end
section
variable {prog:Program}{w:World}{A:Around}{E:Value→Shared→Prop}{s:Shared}
theorem lt_tupInts{l b:Addr}{items items2:Array Value}{ns ms:List Int}{Q:Value→Shared→Prop}(hl:IsTup s.heap l items)(hb:IsTup s.heap b items2)(hi:IntsAre items.toList ns)(hj:IntsAre items2.toList ms)
  (hu:A.units<cLine) (h:Q (.bool (lexLt ns ms)) s):wpAny (model prog w) A (compareOp .Lt (.ref l) (.ref b)) Q E s:=by
 obtain⟨⟨cls,dd,data,sl⟩,ho,hc,n,hd⟩:=id hl;obtain⟨⟨cls2,dd2,data2,sl2⟩,ho2,hc2,n2,hd2⟩:=id hb;simp only at hc hd hc2 hd2;subst hc hd hc2 hd2;exact richCompare_meets_room (op:=.Lt) ⟨_,ho,rfl⟩ ⟨_,ho2,rfl⟩ PySem.F.slot_tuple_lt PySem.F.entry_tuple_lt (PySem.F.args_tuple_lt_2 _ _) (Wj l b items items2 n n2 dd dd2 sl sl2 ns ms hi hj)
  ⟨ho,ho2,show Value.bool (lexLt ns ms)≠Value.notImplemented∧Q (.bool (lexLt ns ms)) s from ⟨(fun x=>nomatch x),h⟩⟩ hu
theorem cat_tup{t b:Addr}{vs ws:List Value}{Q:Value→Shared→Prop}(ht:IsTup s.heap t vs.toArray)(hb:IsTup s.heap b ws.toArray)(hv:vs≠[])
  (h1:ws=[]→Q (.ref t) s) (h2:ws≠[]→Q (.ref s.heap.objs.size) {s with heap:=s.heap.push {cls:=.type "tuple",data:=.seq (vs++ws).toArray}})
  (hsz:vs.length+ws.length≤sizeLine):wpAny (model prog w) A (binaryOp .Add (.ref t) (.ref b)) Q E s:=by
 obtain⟨⟨cls,dd,data,sl⟩,ho,hc,n,hd⟩:=id ht;obtain⟨⟨cls2,dd2,data2,sl2⟩,ho2,hc2,n2,hd2⟩:=id hb;simp only at hc hd hc2 hd2;subst hc hd hc2 hd2;have e:vs.toArray++ws.toArray=(vs++ws).toArray:=by simp
 by_cases hw:ws=[]
 ·exact concat_meets ⟨_,ho,rfl⟩ ⟨_,ho2,rfl⟩ noFill_tuple_add seq_tuple_add PySem.F.slot_tuple_add PySem.F.entry_tuple_add (PySem.F.args_tuple_add_2 _ _)
   (tuple_addW1 t b vs.toArray ws.toArray n n2 dd dd2 sl sl2 (by simpa using hv) (by simp[hw])) ⟨ho,ho2,h1 hw⟩
 ·refine concat_meets ⟨_,ho,rfl⟩ ⟨_,ho2,rfl⟩ noFill_tuple_add seq_tuple_add PySem.F.slot_tuple_add PySem.F.entry_tuple_add (PySem.F.args_tuple_add_2 _ _)
   (tuple_addW2 t b vs.toArray ws.toArray n n2 dd dd2 sl sl2 (by simpa using hv) (by simpa using hw) (by rw[qC,qC];exact hsz)) ⟨ho,ho2,?_⟩
  rw[e];exact h2 hw
def sIx (n d:Nat):Option Int→Nat
 |none=>d
 |some v=>if v<0 then(v+(n:Int)).toNat else min v.toNat n
theorem Ew(n d:Nat)(hd:d≤n)(o:Option Int):sIx n d o≤n:=by
 cases o with
 |none=>exact hd
 |some v =>
  show(if v<0 then(v+(n:Int)).toNat else min v.toNat n)≤n;by_cases hv:v<0
  ·rw[if_pos hv];omega
  ·rw[if_neg hv];exact Nat.min_le_right _ _
theorem clip_eq(v:Int)(n d:Nat):(if v<0 then max (v+(n:Int)) 0 else min v (n:Int))=((sIx n d (some v):Nat):Int):=by
 show(if v<0 then max (v+(n:Int)) 0 else min v (n:Int))=(((if v<0 then(v+(n:Int)).toNat else min v.toNat n):Nat):Int)
 by_cases hv:v<0
 ·simp only[if_pos hv];omega
 ·simp only[if_neg hv];omega
theorem KY(lo hi:Option Int)(n:Nat):Builtin.Slice.sliceAdjust lo hi 1 (n:Int)=(((sIx n 0 lo:Nat):Int),((sIx n n hi:Nat):Int)):=by
 have h1:¬ ((1:Int)<0):=by omega
 unfold Builtin.Slice.sliceAdjust;simp only[h1,if_false];refine Prod.ext ?_ ?_
 ·cases lo with
  |none=>rfl
  |some v=>exact clip_eq v n 0
 ·cases hi with
  |none=>rfl
  |some v=>exact clip_eq v n n
theorem K7(i j:Nat):Builtin.Slice.slicePlaces (i:Int) (j:Int) 1=j - i:=by
 unfold Builtin.Slice.slicePlaces;have h1:(1:Int) > 0:=by omega
 simp only[h1,if_true,Int.ediv_one];split<;>omega
theorem XR{v:Value}{o:Option Int}{Q:Option Int→Shared→Prop}(p:IsPart v o)(h:Q o s):wpAny (model prog w) A (Builtin.Slice.slicePartIndex v) Q E s:=by
 cases p with
 |none=>exact slicePart_none h
 |int i t=>exact slicePart_int h
theorem Y8{sl:Addr}{vl vu:Value}{lo hi:Option Int}{n:Nat}{Q:Int×Int×Nat→Shared→Prop}(hs:s.heap.IsSliceOf sl vl vu .none)(pl:IsPart vl lo)(pu:IsPart vu hi)
  (h:Q (((sIx n 0 lo:Nat):Int),1,sIx n n hi - sIx n 0 lo) s):wpAny (model prog w) A (Builtin.Slice.sliceApplied (.ref sl) (pure (n:Int))) Q E s:=by
 obtain⟨os,hos,hcs,hds⟩:=id hs;unfold Builtin.Slice.sliceApplied Builtin.Slice.sliceFields;refine wpAny_bind (wpAny_bind (wpAny_field hos hds (x:=vl) rfl (wpAny_bind (wpAny_field hos hds (x:=vu) rfl (wpAny_bind (wpAny_field hos hds (x:=.none) rfl (wpAny_pure ?_)))))));refine wpAny_bind (slicePart_none ?_);show wpAny _ _ (if((1:Int)==0)=true then _ else _) _ _ s;rw[if_neg (by decide)];refine wpAny_bind (XR pl (wpAny_bind (XR pu (wpAny_bind (wpAny_pure ?_)))));show wpAny _ _ (match Builtin.Slice.sliceAdjust lo hi 1 (n:Int)with|(lo,hi)=>pure (lo,(1:Int),Builtin.Slice.slicePlaces lo hi 1)) _ _ s;rw[KY lo hi n];show wpAny _ _ (pure (((sIx n 0 lo:Nat):Int),(1:Int),Builtin.Slice.slicePlaces ((sIx n 0 lo:Nat):Int) ((sIx n n hi:Nat):Int) 1)) _ _ s;rw[K7];exact wpAny_pure h
theorem OB(xs:Array Value)(i k:Nat):((List.range k).filterMap fun(m:Nat)=>xs[((i:Int)+(m:Int)*1).toNat]?).toArray=((xs.toList.drop i).take k).toArray:=by
 have e:(fun(m:Nat)=>xs[((i:Int)+(m:Int)*1).toNat]?)=fun m=>xs[i+m]?:=by
  funext m;have:((i:Int)+(m:Int)*1).toNat=i+m:=by omega
  rw[this]
 rw[e];have:=pick_run xs i k;rw[List.filterMap_map]at this;have e2:((fun x=>xs[x]?) ∘ fun x=>i+x)=fun m=>xs[i+m]?:=rfl;rw[e2]at this;rw[this]
theorem getItem_tuple_cut{t sl:Addr}{items:Array Value}{vl vu:Value}{lo hi:Option Int}{Q:Value→Shared→Prop}(ht:IsTup s.heap t items)(hs:s.heap.IsSliceOf sl vl vu .none)(pl:IsPart vl lo)(pu:IsPart vu hi)
  (hw:¬ (sIx items.size 0 lo=0∧sIx items.size items.size hi=items.size))
  (h:Q (.ref s.heap.objs.size) {s with heap:=s.heap.push {cls:=.type "tuple",data:=.seq ((items.toList.drop (sIx items.size 0 lo)).take (sIx items.size items.size hi - sIx items.size 0 lo)).toArray}})
  (hsz:items.size≤sizeLine):wpAny (model prog w) A (getItem (.ref t) (.ref sl)) Q E s:=by
 have htake:sizeOk (.seq ((items.toList.drop (sIx items.size 0 lo)).take (sIx items.size items.size hi - sIx items.size 0 lo)).toArray):=by show((items.toList.drop (sIx items.size 0 lo)).take (sIx items.size items.size hi - sIx items.size 0 lo)).toArray.size≤sizeLine;rw[qC,qV,List.length_drop,zC];omega
 have hj:sIx items.size items.size hi≤items.size:=Ew _ _ (zG _) hi;obtain⟨os,hos,hcs,hds⟩:=id hs;have hTs:s.TypeIs (.ref sl) "slice":=⟨os,hos,hcs⟩
 unfold getItem
 try with_reducible refine wpAny_holding ?_
 first|refine wpAny_bind (wpAny_pure ?_)|skip
 refine wpAny_bind (wpAny_sequenceKey ht.typeIs (by decide) ?_);refine wpAny_bind (wpAny_callSpecial?_slot (name:=Str.ofString "__getitem__") ht.typeIs PyProof.Rows.slot_tuple_getitem
   (wpAny_call_entry PyProof.Rows.slot_tuple_getitem ht.typeIs entry_tuple_getitem ?_ (args_tuple_getitem _ _)))
 show wpAny _ _ (Builtin.Tuple.tupleItemsOf (.ref t) >>= _) _ _ s;refine wpAny_bind (tupleItemsOf_ ht ?_);refine wpAny_bind (wpAny_typeOf hTs ?_);rw[if_pos (by decide)];refine wpAny_bind (Y8 hs pl pu ?_);have hno:¬ ((((sIx items.size 0 lo:Nat):Int)==0&&(1:Int)==1&&(sIx items.size items.size hi - sIx items.size 0 lo)==items.size)=true):=by intro q;rw[bAq,bAq]at q;have q1:((sIx items.size 0 lo:Nat):Int)=0:=eq_of_beq q.1.1;have q2:sIx items.size items.size hi - sIx items.size 0 lo=items.size:=eq_of_beq q.2;exact hw ⟨by omega,by omega⟩
 show wpAny _ _ (if(((sIx items.size 0 lo:Nat):Int)==0&&(1:Int)==1&&(sIx items.size items.size hi - sIx items.size 0 lo)==items.size)=true then _ else _) _ _ s;rw[if_neg hno,OB]
 first
  |exact wpAny_bind (m:=Builtin.Tuple.tupleExact _) (wpAny_newObj_type (wpAny_pure ⟨_,rfl,wpAny_pure h⟩) htake)
  |exact wpAny_bind (m:=Builtin.Tuple.tupleExact _) (wpAny_newObj_type (wpAny_bind (wpAny_pure (wpAny_pure ⟨_,rfl,wpAny_pure h⟩))) htake)
  |exact wpAny_bind (wpAny_bind (m:=Builtin.Tuple.tupleExact _) (wpAny_newObj_type (wpAny_pure (wpAny_pure ⟨_,rfl,wpAny_pure h⟩)) htake))
  |exact wpAny_bind (wpAny_bind (m:=Builtin.Tuple.tupleExact _) (wpAny_newObj_type (wpAny_pure ⟨_,rfl,wpAny_pure h⟩) htake))
end
end HT
namespace L2
open PySem PySem.Spec PyProof.Rows
abbrev TO:=St→Hp→(Option Int→Hp→Prop)→Prop
def PO (X:Cx) (e:Option Expr) (t:TO):Prop :=
 ∀ (pins:List (Addr×Obj)) (s:Shared) (σ:St) (H:Hp) (Q:Option Int→Hp→Prop),Inv X pins σ H s→t σ H Q→
  wpAny (model X.prog X.w) X.A (evalPart e X.env) (fun u s'=>∃ o H',Inv X pins σ H' s'∧IsPart u o∧Q o H') X.xe s
def A0:TO:=fun _ H Q=>Q none H
def Fw (t:TE):TO:=fun σ H Q=>t σ H fun x H1=>∃ i,x=.int i∧Q (some i) H1
theorem Zz{ns:List Int}:∀ {us:List Value},Vals (ns.map V.int) us→IntsAre us ns:=by
 induction ns with
 |nil=>intro us r;rw[List.map_nil]at r;cases r;exact .nil
 |cons n ns ih =>
  intro us r;rw[qG]at r;cases r with
  |cons r1 r2 =>obtain⟨t,e⟩:=r1;subst e;exact .cons n t (ih r2)
section
variable {X:Cx}{e:Expr}{te:TE}{lo hi:Option Expr}{tl th:TO}{pos p2:Pos}
theorem po_none:PO X none A0:=by intro pins s σ H Q I h;rw[evalPart_none];exact wpAny_pure ⟨none,H,I,.none,h⟩
theorem BX(h:PE X e te):PO X (some e) (Fw te):=by intro pins s σ H Q I hw;rw[evalPart_some];refine thn (h pins s σ H _ I hw) fun u s1 ⟨x,H1,I1,r1,q1⟩=>?_;obtain⟨i,rfl,q⟩:=q1;obtain⟨t,rfl⟩:=r1;exact⟨some i,H1,I1,.int i t,q⟩
def SlR (X:Cx) (r:V→Option Int→Option Int→Hp→VK→Prop):Prop :=
 ∀ (pins:List (Addr×Obj)) (s:Shared) (σ:St) (H:Hp) (x:V) (v vl vu:Value) (lo hi:Option Int) (sl:Addr) (Q:VK),Inv X pins σ H s→RelV x v→s.heap.IsSliceOf sl vl vu .none→IsPart vl lo→IsPart vu hi→r x lo hi H Q→
  ∃ T id,typeLookup (.type T) "__getitem__" = pure (some (.builtin id))∧s.TypeIs v T∧wpAny (model X.prog X.w) X.A (getItem v (.ref sl)) (EP X pins σ Q) X.xe s
theorem SlR.or{r r':V→Option Int→Option Int→Hp→VK→Prop}(h:SlR X r)(h':SlR X r'):SlR X (fun x lo hi H Q=>r x lo hi H Q∨r' x lo hi H Q):=by
 intro pins s σ H x v vl vu lo hi sl Q I rx hs pl pu q;rcases q with q|q
 ·exact h pins s σ H x v vl vu lo hi sl Q I rx hs pl pu q
 ·exact h' pins s σ H x v vl vu lo hi sl Q I rx hs pl pu q
def tSl (r:V→Option Int→Option Int→Hp→VK→Prop) (te:TE) (tl th:TO):TE:=fun σ H Q=>te σ H fun x H1=>tl σ H1 fun l H2=>th σ H2 fun u H3=>r x l u H3 Q
theorem Oq {r:V→Option Int→Option Int→Hp→VK→Prop}(hr:SlR X r) (he:PE X e te) (hl:PO X lo tl) (hu:PO X hi th):PE X (.Subscript e (.Slice lo hi none p2) pos) (tSl r te tl th):=by intro pins s σ H Q I h;refine Subscript_ (thn (he pins s σ H _ I h) fun v s1 ⟨x,H1,I1,r1,q1⟩=>?_);refine wpAny_Slice (thn (hl pins s1 σ H1 _ I1 q1) fun vl s2 ⟨l,H2,I2,pl,q2⟩=>thn (hu pins s2 σ H2 _ I2 q2) fun vu s3 ⟨u,H3,I3,pu,q3⟩=>?_);rw[evalPart_none];refine wpAny_pure ?_;have I4:Inv X pins σ H3 {s3 with heap:=s3.heap.push {cls:=.type "slice",data:=.fields #[vl,vu,.none]}}:=I3.kept (t':=s3.toks) fun b ob q=>Heap.get?_push_of_some _ q;obtain⟨T,id,hT,ht,hg⟩:=hr pins {s3 with heap:=s3.heap.push {cls:=.type "slice",data:=.fields #[vl,vu,.none]}} σ H3 x v vl vu l u s3.heap.objs.size Q I4 r1 (Heap.IsSliceOf.new ..) pl pu q3;show wpAny (model X.prog X.w) X.A (subscriptTail e (.Slice lo hi none p2) v (.ref s3.heap.objs.size)) (EP X pins σ Q) X.xe {s3 with heap:=s3.heap.push {cls:=.type "slice",data:=.fields #[vl,vu,.none]}};exact tail_any (ops:=[.ref s3.heap.objs.size,v]) ht hT hg (by with_unfolding_all rfl)
def WT (xs:List V) (lo hi:Option Int):List V:=(xs.drop (HT.sIx xs.length 0 lo)).take (HT.sIx xs.length xs.length hi - HT.sIx xs.length 0 lo)
theorem Xj(xs:List V)(lo hi:Option Int):(WT xs lo hi).length≤xs.length:=by unfold WT;rw[qV,List.length_drop];omega
def Hh (K:PySem.W.Frag):V→Option Int→Option Int→Hp→VK→Prop:=fun x lo hi H Q=>∃ a xs,x=.ref a∧SqT K H a xs∧
 ¬ (HT.sIx xs.length 0 lo=0∧HT.sIx xs.length xs.length hi=xs.length)∧∀ p,H p=none→Q (.ref p) (upd H p (.tup (WT xs lo hi)))
theorem sl_tup:SlR X (Hh X.K):=by
 intro pins s σ H x v vl vu lo hi sl Q I rx hs pl pu h;obtain⟨a,xs,rfl,hx,hw,q⟩:=h;cases rx;obtain⟨its,r,ht,hz⟩:=I.tuple hx;have hlen:its.toArray.size=xs.length:=by rw[qC];exact r.length.symm
 refine⟨"tuple",_,PyProof.Rows.slot_tuple_getitem.lookup,ht.typeIs,?_⟩;refine HT.getItem_tuple_cut ht hs pl pu (by rw[hlen];exact hw) ?_ (by rw[hlen];exact hz);rw[hlen];refine⟨.ref s.heap.objs.size,_,I.laid (t':=s.toks) (o:=.tup (WT xs lo hi)) (fun b ob q=>Heap.get?_push_of_some _ q) (zG _) ?_,rfl,q _ (I.hok.fresh (zG _))⟩;exact⟨zE (Xj xs lo hi) hz,_,(r.drop (HT.sIx xs.length 0 lo)).take (HT.sIx xs.length xs.length hi - HT.sIx xs.length 0 lo),IsTup.new _ _⟩
def Fy (K:PySem.W.Frag):R2:=fun x y H Q=>∃ a b ns ms,x=.ref a∧y=.ref b∧SqT K H a (ns.map V.int)∧SqT K H b (ms.map V.int)∧Q (.bl (HT.lexLt ns ms)) H
theorem DO(hu:X.A.units<cLine):OpR X (compareOp .Lt) (Fy X.K):=by intro pins s σ H x y v u Q I rx ry h;obtain⟨a,b,ns,ms,rfl,rfl,ha,hb,q⟩:=h;cases rx;cases ry;obtain⟨its,r1,p1,_⟩:=I.tuple ha;obtain⟨its2,r2,p2,_⟩:=I.tuple hb;have i1:IntsAre its.toArray.toList ns:=Zz r1;have i2:IntsAre its2.toArray.toList ms:=Zz r2;exact HT.lt_tupInts p1 p2 i1 i2 hu ⟨.bl (HT.lexLt ns ms),H,I,rfl,q⟩
def CK (K:PySem.W.Frag):R2:=fun x y H Q=>∃ a b xs ys,x=.ref a∧y=.ref b∧SqT K H a xs∧SqT K H b ys∧xs≠[]∧xs.length+ys.length≤sizeLine∧
 (ys=[]→Q (.ref a) H)∧(ys≠[]→∀ p,H p=none→Q (.ref p) (upd H p (.tup (xs++ys))))
theorem Vals.nil_iff{xs:List V}{us:List Value}(r:Vals xs us):us=[]↔xs=[]:=by
 cases r with
 |nil=>simp
 |cons _ _=>simp
theorem BC:OpR X (binaryOp .Add) (CK X.K):=by intro pins s σ H x y v u Q I rx ry h;obtain⟨a,b,xs,ys,rfl,rfl,ha,hb,hx,hz,q1,q2⟩:=h;cases rx;cases ry;obtain⟨its,r1,p1,_⟩:=I.tuple ha;obtain⟨its2,r2,p2,_⟩:=I.tuple hb;refine HT.cat_tup p1 p2 (fun z=>hx (r1.nil_iff.mp z)) (fun z=>⟨.ref a,H,I,rfl,q1 (r2.nil_iff.mp z)⟩) (fun z=>?_) (by rw[←r1.length,←r2.length];exact hz);refine⟨.ref s.heap.objs.size,_,I.laid (t':=s.toks) (o:=.tup (xs++ys)) (fun b ob q=>Heap.get?_push_of_some _ q) (zG _) ?_,rfl,q2 (fun w=>z (r2.nil_iff.mpr w)) _ (I.hok.fresh (zG _))⟩;exact⟨by rw[qU];exact hz,_,r1.append r2,IsTup.new _ _⟩
end
def ixN (n:Nat) (i:Int):Option Nat:=if 0≤i then(if i<n then some i.toNat else none)else if -(n:Int)≤i then some (i+n).toNat else none
def atI {α:Type}(xs:List α) (i:Int):Option α:=(ixN xs.length i).bind fun j=>xs[j]?
theorem MF{n:Nat}{i:Int}{j:Nat}(h:ixN n i=some j):seqIndex? i n=some j∧j<n∧-(n:Int)≤i∧i<n:=by
 unfold ixN at h;by_cases h0:0≤i
 ·rw[if_pos h0]at h;by_cases h1:i<n
  ·rw[if_pos h1]at h;have e:i.toNat=j:=Option.some.inj h;exact⟨by rw[seqIndex_of h0 h1,e],by omega,by omega,h1⟩
  ·rw[if_neg h1]at h;cases h
 ·rw[if_neg h0]at h;by_cases h1:-(n:Int)≤i
  ·rw[if_pos h1]at h;have e:(i+n).toNat=j:=Option.some.inj h;exact⟨by rw[seqIndex_neg (by omega) h1,e],by omega,h1,by omega⟩
  ·rw[if_neg h1]at h;cases h
theorem Jr{α:Type}{xs:List α}{i:Int}{v:α}(h:atI xs i=some v):∃ j,seqIndex? i xs.length=some j∧xs[j]?=some v∧j<xs.length∧-(xs.length:Int)≤i∧i<xs.length:=by
 unfold atI at h;cases e:ixN xs.length i with
 |none=>rw[e]at h;cases h
 |some j =>rw[e]at h;obtain⟨h1,h2,h3,h4⟩:=MF e;exact⟨j,h1,h,h2,h3,h4⟩
def W8 (b:Expr):Prop:=∀ o i,subscripted b false o i=operate [o,i] (getItem o i)
def IxR (X:Cx) (r:R2):Prop :=
 ∀ (value slice:Expr) (pins:List (Addr×Obj)) (s:Shared) (σ:St) (H:Hp) (x y:V) (v u:Value) (Q:VK),Inv X pins σ H s→RelV x v→RelV y u→r x y H Q→
  subscripted slice false v u=operate [v,u] (getItem v u)→wpAny (model X.prog X.w) X.A (subscriptTail value slice v u) (EP X pins σ Q) X.xe s
def MtR (X:Cx) (id:String) (r:V→List V→Hp→VK→Prop):Prop :=
 ∀ (pins:List (Addr×Obj)) (s:Shared) (σ:St) (H:Hp) (x:V) (xs:List V) (v:Value) (us:List Value) (Q:VK),Inv X pins σ H s→RelV x v→Vals xs us→r x xs H Q→
  wpAny (model X.prog X.w) X.A (call (.builtin id) (v::us)) (EP X pins σ Q) X.xe s
section
variable {X:Cx}{a b:Expr}{ta tb:TE}{pos:Pos}
theorem IxR.or{r r':R2}(h:IxR X r)(h':IxR X r'):IxR X (fun x y H Q=>r x y H Q∨r' x y H Q):=by
 intro value slice pins s σ H x y v u Q I rx ry q hs;rcases q with q|q
 ·exact h value slice pins s σ H x y v u Q I rx ry q hs
 ·exact h' value slice pins s σ H x y v u Q I rx ry q hs
theorem MtR.or{id:String}{r r':V→List V→Hp→VK→Prop}(h:MtR X id r)(h':MtR X id r'):MtR X id (fun x xs H Q=>r x xs H Q∨r' x xs H Q):=by
 intro pins s σ H x xs v us Q I rx rs q;rcases q with q|q
 ·exact h pins s σ H x xs v us Q I rx rs q
 ·exact h' pins s σ H x xs v us Q I rx rs q
theorem GN{r:R2}(hr:IxR X r)(ha:PE X a ta)(hb:PE X b tb)(hs:W8 b):PE X (.Subscript a b pos) (tOp r ta tb):=by intro pins s σ H Q I h;exact Subscript_ (Eh ha hb I h fun v u s2 x y H2 I2 rx ry q=>hr a b pins s2 σ H2 x y v u Q I2 rx ry q (hs _ _))
def Gm (K:PySem.W.Frag):R2:=fun x y H Q=>∃ p xs i v,x=.ref p∧y=.int i∧SqL K H p xs∧atI xs i=some v∧Q v H
def Hf (K:PySem.W.Frag):R2:=fun x y H Q=>∃ p xs i v,x=.ref p∧y=.int i∧SqT K H p xs∧atI xs i=some v∧Q v H
def FC:R2:=fun x y H Q=>∃ z i c,x=.str z∧y=.int i∧z.length≤sizeLine∧atI z.cps.toList i=some c∧Q (.str ⟨#[c]⟩) H
theorem ix_list:IxR X (Gm X.K):=by
 intro value slice pins s σ H x y v u Q I rx ry h hs;obtain⟨p,xs,i,z,rfl,rfl,hq,he,q⟩:=h;cases rx;obtain⟨t,rfl⟩:=ry;obtain⟨its,r,pl,hz⟩:=I.list hq;obtain⟨j,h1,h2,h3,h4,h5⟩:=Jr he;obtain⟨w,ew,rw'⟩:=r.get h2;have hl:=r.length;have hn:=YF;have fin:EP X pins σ Q w s:=⟨z,H,I,rw',q⟩
 by_cases h0:0≤i
 ·have hj:i.toNat=j:=by
   rw[seqIndex_of h0 h5]at h1;exact Option.some.inj h1
  exact item_listR pl.isList h0 (by omega) (by rw[hj];simpa using ew) fin hs
 ·have hj:(i+(its.toArray.size:Int)).toNat=j:=by
   rw[seqIndex_neg (by omega) h4]at h1;rw[qC,←hl];exact Option.some.inj h1
  exact subscriptTail_builtinR (x:=w) pl.isList.typeIs slot_list_getitem.lookup
   (wpAny_getItem_list_neg (Q:=fun r s'=>r=w∧EP X pins σ Q r s') pl.isList (by omega) (by rw[qC]<;>omega) (by omega) (by rw[hj];simpa using ew) ⟨rfl,fin⟩) hs
theorem ix_tup:IxR X (Hf X.K):=by
 intro value slice pins s σ H x y v u Q I rx ry h hs;obtain⟨p,xs,i,z,rfl,rfl,hq,he,q⟩:=h;cases rx;obtain⟨t,rfl⟩:=ry;obtain⟨its,r,pl,hz⟩:=I.tuple hq;obtain⟨j,h1,h2,h3,h4,h5⟩:=Jr he;obtain⟨w,ew,rw'⟩:=r.get h2;have hl:=r.length;have hn:=YF;have fin:EP X pins σ Q w s:=⟨z,H,I,rw',q⟩
 exact subscriptTail_builtinR (x:=w) pl.typeIs slot_tuple_getitem.lookup
  (getItem_tuple (j:=j) (Q:=fun r s'=>r=w∧EP X pins σ Q r s') pl (by omega) (by omega) (by rw[qC,←hl];exact h1) (by simpa using ew) ⟨rfl,fin⟩) hs
theorem EA:IxR X FC:=by
 intro value slice pins s σ H x y v u Q I rx ry h hs;obtain⟨z,i,c,rfl,rfl,hz,he,q⟩:=h;obtain⟨t,rfl⟩:=rx;obtain⟨t',rfl⟩:=ry;obtain⟨j,h1,h2,h3,h4,h5⟩:=Jr he;have hl:z.cps.toList.length=z.length:=by simp[Str.length]
 rw[hl]at h1 h4 h5;have hn:=YF;exact tail_any (typeIs_str s z t) slot_str_getitem.lookup (getItem_str (c:=c) (by
   have e1:decide (i < -(2 ^ 63:Int))=false:=qP (by omega)
   have e2:decide (i≥2 ^ 63)=false:=qP (by omega)
   rw[e1,e2,Bool.or_false]) (by rw[h1];simpa using h2) ⟨.str ⟨#[c]⟩,H,I.tok _,⟨_,rfl⟩,q⟩) hs
def rIx (K:PySem.W.Frag):R2:=fun x y H Q=>Gm K x y H Q∨Hf K x y H Q∨FC x y H Q
theorem ix_seq:IxR X (rIx X.K):=ix_list.or (ix_tup.or EA)
theorem KD (its:List Value) (n j:Nat) (u:Value):Obj.mapSeq (·.setIfInBounds j u) {cls:=.type "list",data:=.seq its.toArray n}={cls:=.type "list",data:=.seq (its.set j u).toArray n}:=by simp[Obj.mapSeq]
theorem Inv.lst{pins:List (Addr×Obj)}{σ:St}{H:Hp}{s:Shared}{p:Addr}{xs:List V}(I:Inv X pins σ H s)(h:H p=some (.lst xs)) :
  ∃ (its:List Value) (n:Nat),Vals xs its∧s.heap.get? p=some {cls:=.type "list",data:=.seq its.toArray n}∧xs.length≤sizeLine:=by
 obtain⟨z,its,n,r,e⟩:=I.hok p _ h;exact⟨its,n,r,e,z⟩
theorem Inv.lstUpd{pins:List (Addr×Obj)}{σ:St}{H:Hp}{s:Shared}{p:Addr}{xs ys:List V}{its its':List Value}{n n':Nat}{f:Obj→Obj}(I:Inv X pins σ H s)(h:H p=some (.lst xs))
  (ho:s.heap.get? p=some {cls:=.type "list",data:=.seq its.toArray n}) (hf:f {cls:=.type "list",data:=.seq its.toArray n}={cls:=.type "list",data:=.seq its'.toArray n'}) (r:Vals ys its') (hz:ys.length≤sizeLine) (t:Nat) :
  Inv X pins σ (upd H p (.lst ys)) {s with heap:=s.heap.update p f,toks:=t}:=by
 have e:(s.heap.update p f).get? p=some {cls:=.type "list",data:=.seq its'.toArray n'}:=by rw[Heap.get?_update_self f ho (by rw[hf]<;>rfl),hf]
 refine I.write (x:=p) (e:=p) (by rw[h];trivial) (.inl rfl) (fun b u hb q=>(Heap.get?_update_other _ _ (Ne.symm hb)).trans q) ⟨_,e⟩ ?_;exact⟨hz,its',n',r,e⟩
def Ce:V→V→V→Hp→(Hp→Prop)→Prop:=fun o i v H Q=>∃ p xs k j,o=.ref p∧i=.int k∧H p=some (.lst xs)∧ixN xs.length k=some j∧Q (upd H p (.lst (xs.set j v)))
theorem OS:PSet X Ce:=by
 intro pins s σ H o i v ov iv u Q I ro ri rv h;obtain⟨p,xs,k,j,rfl,rfl,hp,hj,q⟩:=h;cases ro;obtain⟨t,rfl⟩:=ri;obtain⟨its,n,r,ho,hz⟩:=I.lst hp;obtain⟨h1,h2,h3,h4⟩:=MF hj;have hl:=r.length;have hn:=YF;have I':Inv X pins σ (upd H p (.lst (xs.set j v))) {s with heap:=s.heap.update p (Obj.mapSeq (·.setIfInBounds j u))} :=
  I.lstUpd hp ho (KD its n j u) (r.set rv j) (by rw[List.length_set];exact hz) s.toks
 by_cases h0:0≤k
 ·have hk:k.toNat=j:=by
   rw[seqIndex_of h0 h4]at h1;exact Option.some.inj h1
  exact PySem.W.ki_setAt ho h0 (by omega) (by rw[qC,←hl];exact h4) (by rw[hk];exact⟨_,I',q⟩)
 ·have hk:(k+(its.toArray.size:Int)).toNat=j:=by
   rw[seqIndex_neg (by omega) h3]at h1;rw[qC,←hl];exact Option.some.inj h1
  exact PySem.W.ki_setBack ho (by omega) (by rw[qC,←hl];exact h3) (by omega) (by rw[hk];exact⟨_,I',q⟩)
theorem Jp(lo hi:Option Int)(n:Nat):(sliceBounds lo hi none n).1=((HT.sIx n 0 lo:Nat):Int)∧(sliceBounds lo hi none n).2.1=((HT.sIx n n hi:Nat):Int)∧(sliceBounds lo hi none n).2.2=1:=by
 refine⟨?_,?_,rfl⟩
 ·cases lo with
  |none=>simp[sliceBounds,HT.sIx]
  |some i =>
   simp only[sliceBounds,HT.sIx,Option.getD_none,show(1:Int) > 0 by decide,if_true];by_cases h:i<0
   ·simp only[h,if_true]<;>omega
   ·simp only[h,if_false]<;>omega
 ·cases hi with
  |none=>simp[sliceBounds,HT.sIx]
  |some i =>
   simp only[sliceBounds,HT.sIx,Option.getD_none,show(1:Int) > 0 by decide,if_true];by_cases h:i<0
   ·simp only[h,if_true]<;>omega
   ·simp only[h,if_false]<;>omega
theorem Wi(its:List Value)(lo hi:Option Int):slicePick its.toArray lo hi none=((its.drop (HT.sIx its.length 0 lo)).take (HT.sIx its.length its.length hi - HT.sIx its.length 0 lo)).toArray:=by obtain⟨h1,h2,h3⟩:=Jp lo hi its.toArray.size;unfold slicePick;rw[h1,h2,h3];simp only[sliceRange_one,pick_run,qC]<;>rfl
def F6 (K:PySem.W.Frag):V→Option Int→Option Int→Hp→VK→Prop:=fun x lo hi H Q=>∃ a xs,x=.ref a∧SqL K H a xs∧∀ p,H p=none→Q (.ref p) (upd H p (.lst (WT xs lo hi)))
theorem sl_list:SlR X (F6 X.K):=by intro pins s σ H x v vl vu lo hi sl Q I rx hs pl pu h;obtain⟨a,xs,rfl,hx,q⟩:=h;cases rx;obtain⟨its,r,ht,hz⟩:=I.list hx;have hlen:=r.length;refine⟨"list",_,slot_list_getitem.lookup,ht.isList.typeIs,?_⟩;refine wpAny_getItem_list_slice ht.isList hs pl pu .none (by simp) ?_ (by rw[qC]<;>omega);rw[Wi,←hlen];refine⟨.ref s.heap.objs.size,_,I.laid (t':=s.toks) (o:=.lst (WT xs lo hi)) (fun b ob q=>Heap.get?_push_of_some _ q) (zG _) ?_,rfl,q _ (I.hok.fresh (zG _))⟩;exact⟨zE (Xj xs lo hi) hz,_,0,(r.drop (HT.sIx xs.length 0 lo)).take (HT.sIx xs.length xs.length hi - HT.sIx xs.length 0 lo),Heap.get?_push_size _ rfl⟩
def eqV:V→V→Bool
 |.non,.non=>true
 |.bl a,.bl b=>a==b
 |.bl a,.int b=>(if a then 1 else 0)==b
 |.int a,.bl b=>a==(if b then 1 else 0)
 |.int a,.int b=>a==b
 |.str a,.str b=>a==b
 |_,_=>false
def inV (x:V) (xs:List V):Bool:=xs.any fun y=>eqV y x
theorem WV:OpR X (compareOp .NotIn) (fun x y H Q=>∃ i j,x=.str i∧y=.str j∧Q (.bl (!(!(Builtin.Str.occurrences j i 0 j.length 1).isEmpty))) H):=by intro pins s σ H x y v u Q I rx ry h;obtain⟨i,j,rfl,rfl,q⟩:=h;obtain⟨t,rfl⟩:=rx;obtain⟨t',rfl⟩:=ry;exact notIn_str ⟨.bl _,H,I,rfl,q⟩
theorem call_len_seq:CallR X (.builtin "len") (fun xs H Q=>∃ p ys,xs=[.ref p]∧(SqL X.K H p ys∨SqT X.K H p ys)∧Q (.int ys.length) H):=by
 intro pins s σ H xs us Q I r h;obtain⟨p,ys,rfl,hq,q⟩:=h;obtain⟨u,rfl,rx⟩:=ZN r;cases rx;have hn:=YF;rcases hq with hq|hq
 ·obtain⟨its,r',pl,hz⟩:=I.list hq;have hlen:=r'.length;exact Calls.call_len_list pl.isList (by simp only[qC]<;>omega) ⟨.int ys.length,H,I.tok _,⟨s.toks+1,by rw[qC,hlen]⟩,q⟩
 ·obtain⟨its,r',pl,hz⟩:=I.tuple hq;have hlen:=r'.length;exact len_tuple pl (by simp only[qC]<;>omega) ⟨.int ys.length,H,I.tok _,⟨s.toks+1,by rw[qC,hlen]⟩,q⟩
theorem WN:CallR X (.builtin "len") (fun xs H Q=>∃ z,xs=[.str z]∧z.length≤sizeLine∧Q (.int z.length) H):=by intro pins s σ H xs us Q I r h;obtain⟨z,rfl,hz,q⟩:=h;obtain⟨u,rfl,t,rfl⟩:=ZN r;have hn:=YF;exact len_str (by omega) ⟨.int z.length,H,I.tok _,⟨_,rfl⟩,q⟩
theorem CallR.or{f:Value}{r r':List V→Hp→VK→Prop}(h:CallR X f r)(h':CallR X f r'):CallR X f (fun xs H Q=>r xs H Q∨r' xs H Q):=by
 intro pins s σ H xs us Q I rs q;rcases q with q|q
 ·exact h pins s σ H xs us Q I rs q
 ·exact h' pins s σ H xs us Q I rs q
theorem Ji:CallR X (.type "list") (fun xs H Q=>∃ p ys,xs=[.ref p]∧(SqL X.K H p ys∨SqT X.K H p ys)∧∀ l,H l=none→Q (.ref l) (upd H l (.lst ys))):=by
 intro pins s σ H xs us Q I r h;obtain⟨p,ys,rfl,hq,q⟩:=h;obtain⟨u,rfl,rx⟩:=ZN r;cases rx;have fin:∀ (its:List Value),Vals ys its→ys.length≤sizeLine→∀ (h':Heap) (c':Nat),(∀ b o',s.heap.get? b=some o'→h'.get? b=some o')→
   h'.get? s.heap.objs.size=some {cls:=.type "list",dict:=none,data:=.seq its.toArray c',slots:=#[]}→EP X pins σ Q (.ref s.heap.objs.size) {s with heap:=h'}:=fun its r' hz h' c' kp e =>
  ⟨.ref s.heap.objs.size,_,I.laid (t':=s.toks) kp (zG _) (show ObjOk X.prog X.w _ h' _ (.lst ys) from ⟨hz,its,c',r',e⟩),rfl,q _ (I.hok.fresh (zG _))⟩
 rcases hq with hq|hq
 ·obtain⟨its,r',pl,hz⟩:=I.list hq;have hlen:=r'.length;obtain⟨o,ho,hc,n,hd⟩:=pl.isList;exact call_list_seq p (.inl rfl) ho hc hd (fun h' c' kp e=>fin its r' hz h' c' kp e) (by simp only[qC]<;>omega)
 ·obtain⟨its,r',pl,hz⟩:=I.tuple hq;have hlen:=r'.length;obtain⟨o,ho,hc,n,hd⟩:=pl;exact call_list_seq p (.inr rfl) ho hc hd (fun h' c' kp e=>fin its r' hz h' c' kp e) (by simp only[qC]<;>omega)
theorem Wf:CallR X (.type "tuple") (fun xs H Q=>∃ p ys,xs=[.ref p]∧((SqL X.K H p ys∧∀ l,H l=none→Q (.ref l) (upd H l (.tup ys)))∨(SqT X.K H p ys∧Q (.ref p) H))):=by
 intro pins s σ H xs us Q I r h;obtain⟨p,ys,rfl,h⟩:=h;obtain⟨u,rfl,rx⟩:=ZN r;cases rx;rcases h with⟨hq,q⟩|⟨hq,q⟩
 ·obtain⟨its,r',pl,hz⟩:=I.list hq;have hlen:=r'.length;refine call_tuple_list pl.isList (fun h' kp=>?_) (by simp only[qC]<;>omega);have I1:Inv X pins σ H {s with heap:=h'}:=I.kept (t':=s.toks) kp;have I2:Inv X pins σ (upd H h'.objs.size (.tup ys)) {s with heap:=h'.push {cls:=.type "tuple",data:=.seq its.toArray}} :=
   I1.laid (t':=s.toks) (fun b o e=>Heap.get?_push_of_some _ e) (zG _) (show ObjOk X.prog X.w _ _ _ (.tup ys) from ⟨hz,its,r',IsTup.new _ _⟩)
  exact⟨.ref h'.objs.size,_,I2,rfl,q _ (I1.hok.fresh (zG _))⟩
 ·obtain⟨its,r',pl,hz⟩:=I.tuple hq;exact call_tuple_same pl ⟨.ref p,H,I,rfl,q⟩
def tyV (K:PySem.W.Frag) (T:String) (x:V) (H:Hp):Prop:=match x with
 |.str _=>T = "str"
 |.int _=>T = "int"
 |.ref p=>(T = "list"∧∃ xs,SqL K H p xs)∨(T = "tuple"∧∃ o,K.lookup p=some o∧o.cls=.type "tuple"∧o.dict=none)∨
   (T = "dict"∧((∃ kvs,H p=some (.dK kvs))∨∃ kvs,H p=some (.dT kvs)))∨(T = "set"∧∃ S n,H p=some (.set S n))
 |_=>False
theorem EB{pins:List (Addr×Obj)}{σ:St}{H:Hp}{s:Shared}{T:String}{x:V}{v:Value}(I:Inv X pins σ H s)(r:RelV x v)(ty:tyV X.K T x H) :
  s.TypeIs v T∧∀ a,v=.ref a→∃ ob,s.heap.get? a=some ob∧ob.dict=none:=by
 cases x with
 |str z =>obtain⟨t,rfl⟩:=r;cases (show T = "str" from ty);exact⟨typeIs_str s z t,fun _ e=>nomatch e⟩
 |int i =>obtain⟨t,rfl⟩:=r;cases (show T = "int" from ty);exact⟨typeIs_int s i t,fun _ e=>nomatch e⟩
 |ref p =>
  cases r;rcases ty with⟨rfl,xs,hq⟩|⟨rfl,o,hk,hc,hd⟩|⟨rfl,hk⟩|⟨rfl,S,n,hk⟩
  ·obtain⟨its,_,pl,_⟩:=I.list hq;refine⟨pl.isList.typeIs,fun a e=>?_⟩;cases e;obtain⟨o,n,e,c,hd,_⟩:=pl;exact⟨o,e,hd⟩
  ·refine⟨⟨o,I.kIn p o hk,hc⟩,fun a e=>?_⟩;cases e;exact⟨o,I.kIn _ o hk,hd⟩
  ·have z:∃ o,s.heap.get? p=some o∧o.ExactDict:=by
    rcases hk with⟨kvs,hk⟩|⟨kvs,hk⟩
    ·obtain⟨_,_,_,_,o,_,_,e,ex,_⟩:=I.hok p _ hk;exact⟨o,e,ex⟩
    ·obtain⟨_,_,_,_,o,_,_,e,ex,_⟩:=I.hok p _ hk;exact⟨o,e,ex⟩
   obtain⟨o,e,ex⟩:=z;refine⟨⟨o,e,ex.1⟩,fun a e2=>?_⟩;cases e2;exact⟨o,e,ex.2.1⟩
  ·obtain⟨o,_,_,_,e,ex,_⟩:=I.hok p _ hk;refine⟨⟨o,e,ex.1⟩,fun a e2=>?_⟩;cases e2;exact⟨o,e,ex.2.1⟩
 |_=>exact False.elim ty
def tBM (K:PySem.W.Frag) (T:String) (r:V→List V→Hp→VK→Prop) (to:TE) (t:TA):TE:=fun σ H Q=>to σ H fun x H1=>tyV K T x H1∧t σ H1 fun xs H2=>r x xs H2 Q
variable {o e:Expr}{es:List Expr}{to:TE}{t:TA}{name:Str}{apos cpos:Pos}{T id:String}{r:V→List V→Hp→VK→Prop}
theorem Gu (pa:PlainAttrs T) (slot:Slot T name id) (hty:typeOf (.builtin id)=pure (.type "method_descriptor")) (hm:MtR X id r) (ho:PE X o to) (ha:PA X (e::es) t)
  (hbase:attributeBase o name X.env (eval o X.env)=eval o X.env:=by rfl)
  (hfew:((backTo cpos (starEach (e::es) X.env)).all (fun x=>!x.1)&&(backToKw cpos (keywordEach [] X.env)).all (fun x=>x.1.isSome)
    && decide ((e::es).length+([]:List Keyword).length+(if([]:List Keyword).isEmpty then 0 else 1)<30))=true:=by rfl)
  (hline:(apos.endLine==cpos.line)=true:=by rfl) (hs:starEach (e::es) X.env=(false,eval e X.env)::starEach es X.env:=by rfl) (hplain:(backTo cpos (starEach es X.env)).any (·.1)=false:=by rfl) :
  PE X (.Call (.Attribute o name apos) (e::es) [] cpos) (tBM X.K T r to t):=by
 intro pins s σ H Q I h;refine wpAny_Call_method_late hbase hfew hline rfl (thn (ho pins s σ H _ I h) fun v s1 ⟨x,H1,I1,r1,ty,q1⟩=>?_);obtain⟨h1,h2⟩:=EB I1 r1 ty;refine⟨T,id,pa,slot,hty,h1,h2,?_⟩;have hA:=ha cpos pins s1 σ H1 _ I1 q1;rw[hs]at hA ⊢;refine Calls.callWith_builtin (by show(false||(backTo cpos (starEach es X.env)).any (·.1))=false;rw[hplain]<;>rfl) (Calls.evalArgs_plain ?_);exact thn hA fun us s2 ⟨vs,H2,I2,r2,q2⟩=>hm pins s2 σ H2 x vs v us Q I2 r1 r2 q2
/- xs.append(e),list.index on a module's tuple .. are MtR facts of 06m -/
end
def MtM (X:Cx) (id:String) (r:V→List V→Hp→VK→Prop):Prop :=
 ∀ (pins:List (Addr×Obj)) (s:Shared) (σ:St) (H:Hp) (x:V) (xs:List V) (v:Value) (us:List Value) (Q:VK),Inv X pins σ H s→RelV x v→Vals xs us→r x xs H Q→
  wpAny (model X.prog X.w) X.A (call (.builtin id) (v::us)) (EP X pins σ Q) X.xe s
theorem Vals.one:∀ {x:V}{us:List Value},Vals [x] us→∃ u,us=[u]∧RelV x u
 |_,_,.cons r .nil=>⟨_,rfl,r⟩
theorem Vals.two:∀ {x y:V}{us:List Value},Vals [x,y] us→∃ u v,us=[u,v]∧RelV x u∧RelV y v
 |_,_,_,.cons r (.cons q .nil)=>⟨_,_,rfl,r,q⟩
theorem Vals.zero:∀ {us:List Value},Vals [] us→us=[]
 |_,.nil=>rfl
theorem Vals.dropLast{xs:List V}{us:List Value}(h:Vals xs us):Vals xs.dropLast us.dropLast:=by
 induction h with
 |nil=>exact .nil
 |cons r t ih =>
  cases t with
  |nil=>exact .nil
  |cons q t'=>exact .cons r ih
theorem Vals.eraseIdx:∀ {xs:List V}{us:List Value}(i:Nat),Vals xs us→Vals (xs.eraseIdx i) (us.eraseIdx i)
 |_,_,_,.nil=>.nil
 |_,_,0,.cons _ t=>t
 |_,_,i+1,.cons r t=>.cons r (Vals.eraseIdx i t)
theorem Vals.reverse{xs:List V}{us:List Value}(h:Vals xs us):Vals xs.reverse us.reverse:=by
 induction h with
 |nil=>exact .nil
 |cons r t ih=>rw[List.reverse_cons,List.reverse_cons];exact Vals.append ih (.cons r .nil)
theorem Vals.rep{xs:List V}{us:List Value}(h:Vals xs us):∀ k:Nat,Vals (List.replicate k xs).flatten (List.replicate k us).flatten
 |0=>.nil
 |k+1=>by rw[List.replicate_succ,List.replicate_succ,List.flatten_cons,List.flatten_cons];exact Vals.append h (Vals.rep h k)
theorem WI(its:List Value):∀ (k:Nat) (acc:List Value),
  List.foldl (fun x1 x2=>x1++x2) acc.toArray (List.replicate k its.toArray)=(acc++(List.replicate k its).flatten).toArray
 |0,acc=>by simp
 |k+1,acc=>by
  have e:acc.toArray++its.toArray=(acc++its).toArray:=by simp
  have e2:(acc++its)++(List.replicate k its).flatten=acc++(List.replicate (k+1) its).flatten:=by rw[List.replicate_succ,List.flatten_cons,List.append_assoc]
  rw[←e2,←WI its k (acc++its),←e,List.replicate_succ,List.foldl_cons]
section
variable {X:Cx}{pins:List (Addr×Obj)}{σ:St}{H:Hp}{s:Shared}{l b:Addr}{xs ys zs:List V}
theorem Inv.lset{its its':List Value}{n:Nat}{f:Array Value→Array Value}{t':Nat}(I:Inv X pins σ H s)(hH:H l=some (.lst xs))
  (e:s.heap.get? l=some {cls:=.type "list",data:=.seq its.toArray n}) (hf:f its.toArray=its'.toArray) (hv:Vals ys its') (hz:ys.length≤sizeLine) :
  Inv X pins σ (upd H l (.lst ys)) {s with heap:=s.heap.update l (Obj.mapSeq f),toks:=t'}:=by
 have q:=PySem.IsL.update e f;rw[hf]at q;refine I.write (x:=l) (e:=l) (by rw[hH];exact trivial) (.inl rfl) (fun b' u hb hu=>(Heap.get?_update_other s.heap (Obj.mapSeq f) (Ne.symm hb)).trans hu) ⟨_,q⟩ ?_;exact⟨hz,its',_,hv,q⟩
theorem Inv.lnew{its:List Value}{t':Nat}(I:Inv X pins σ H s)(hv:Vals ys its)(hz:ys.length≤sizeLine) :
  Inv X pins σ (upd H s.heap.objs.size (.lst ys)) {s with heap:=s.heap.push {cls:=.type "list",data:=.seq its.toArray},toks:=t'} :=
 I.laid (fun _ _ q=>Heap.get?_push_of_some _ q) (zG _) ⟨hz,its,0,hv,Heap.get?_push_size _ rfl⟩
theorem Inv.fresh(I:Inv X pins σ H s):H s.heap.objs.size=none:=I.hok.fresh (zG _)
theorem Inv.lstM (I:Inv X pins σ H s) (hH:H l=some (.lst xs)):xs.length≤sizeLine∧∃ (its:List Value) (n:Nat),Vals xs its∧xs.length=its.length∧s.heap.get? l=some {cls:=.type "list",data:=.seq its.toArray n}:=by obtain⟨z,its,n,r,e⟩:=I.hok l _ hH;exact⟨z,its,n,r,r.length,e⟩
theorem U1{n:Nat}(h:n≤sizeLine):Builtin.List.listTooLong n=false:=by unfold Builtin.List.listTooLong;exact qP (by omega)
end
section
variable {X:Cx}
def Mq:V→List V→Hp→VK→Prop:=fun x vs H Q=>∃ l xs y,x=.ref l∧vs=[y]∧H l=some (.lst xs)∧xs.length<sizeLine∧Q .non (upd H l (.lst (xs++[y])))
theorem Nl:MtM X "list.append" Mq:=by intro pins s σ H x vs v us Q I rx rv h;obtain⟨l,xs,y,rfl,rfl,hH,hz,q⟩:=h;cases rx;obtain⟨u,rfl,ru⟩:=rv.one;obtain⟨z,its,n,r,hl,e⟩:=I.lstM hH;refine call_meets F.slot_list_append ⟨_,e,rfl⟩ F.entry_list_append (F.args_list_append_2 _ _) (PySem.list_append l its.toArray n u (by rw[qC];omega)) ⟨e,?_⟩;refine⟨.non,_,I.lset (its':=its++[u]) hH e (by simp) (r.append (.cons ru .nil)) ?_,rfl,q⟩;rw[qU,List.length_singleton];omega
def GO:R2:=fun x y H Q=>∃ l b xs zs,x=.ref l∧y=.ref b∧H l=some (.lst xs)∧H b=some (.lst zs)∧xs.length+zs.length≤sizeLine∧∀ p,H p=none→Q (.ref p) (upd H p (.lst (xs++zs)))
theorem Ee:OpR X (binaryOp .Add) GO:=by
 intro pins s σ H x y v u Q I rx ry h;obtain⟨l,b,xs,zs,rfl,rfl,hH,hB,hz,q⟩:=h;cases rx;cases ry;obtain⟨z,its,n,r,hl,e⟩:=I.lstM hH;obtain⟨z2,its2,n2,r2,hl2,e2⟩:=I.lstM hB;refine PySem.P.add_list e e2 ?_ (by rw[qC,qC];omega);have ea:its.toArray++its2.toArray=(its++its2).toArray:=by simp
 rw[ea];exact⟨.ref _,_,I.lnew (t':=s.toks) (r.append r2) (by rw[qU];omega),rfl,q _ I.fresh⟩
def Gr:R2:=fun x y H Q=>∃ l k xs,x=.ref l∧y=.int k∧H l=some (.lst xs)∧-(2 ^ 63)≤k∧k<2 ^ 63∧xs.length*k.toNat≤sizeLine∧
 ∀ p,H p=none→Q (.ref p) (upd H p (.lst (List.replicate k.toNat xs).flatten))
theorem BM{α:Type}(xs:List α)(k:Nat):(List.replicate k xs).flatten.length=k*xs.length:=by
 induction k with
 |zero=>simp
 |succ k ih=>rw[List.replicate_succ,List.flatten_cons,qU,ih,Nat.succ_mul,Nat.add_comm]
theorem op_rep:OpR X (binaryOp .Mult) Gr:=by
 intro pins s σ H x y v u Q I rx ry h;obtain⟨l,k,xs,rfl,rfl,hH,h1,h2,hz,q⟩:=h;cases rx;obtain⟨t,rfl⟩:=ry;obtain⟨z,its,n,r,hl,e⟩:=I.lstM hH;have hlen:its.toArray.size*k.toNat≤sizeLine:=by rw[qC,←hl];exact hz
 have hcap:¬ its.toArray.size*k.toNat > (2 ^ 63 - 1) / 8:=by
  have:(sizeLine:Nat)≤(2 ^ 63 - 1) / 8:=by decide
  omega
 have hfit:¬ (!Builtin.List.listFitsIndex k)=true:=by rw[fitsIndex_both h1 h2];exact Bool.false_ne_true
 have hlong:¬ Builtin.List.listTooLong (its.toArray.size*k.toNat)=true:=by rw[U1 hlen];exact Bool.false_ne_true
 have hnew:List.foldl (fun x1 x2=>x1++x2) #[] (List.replicate (if its.toArray.isEmpty=true then 0 else k.toNat) its.toArray)=(List.replicate k.toNat its).flatten.toArray:=by
  have f0:∀ m:Nat,List.foldl (fun x1 x2=>x1++x2) #[] (List.replicate m its.toArray)=(List.replicate m its).flatten.toArray:=fun m=>by have:=WI its m [];rw[List.nil_append]at this;exact this
  rw[f0];cases its with
  |nil=>simp
  |cons a r'=>rw[if_neg (by simp)]
 refine wpAny_binaryOp_repeat_ref (T:="list") (U:="int") (by decide) ⟨_,e,rfl⟩ (fun s'=>typeIs_int s' k t) noFill_list_mul F.fills_int_mul F.slot_int_rmul repeat_list F.slot_int_index.lookup
  (call_meets F.slot_int_rmul (typeIs_int s k t) F.entry_int_rmul (F.args_int_rmul_2 _ _) (int___rmul___int_list k t l its.toArray n)
    ⟨e,rfl,⟨_,e,rfl⟩,call_meets F.slot_list_mul ⟨_,e,rfl⟩ F.entry_list_mul (F.args_list_mul_2 _ _) (AutoListH.list___mul___list_int_3 l its.toArray n k t hfit hcap hlong) ⟨e,?_⟩⟩)
 rw[hnew];exact⟨.ref _,_,I.lnew (t':=s.toks) (r.rep k.toNat) (by rw[BM,Nat.mul_comm];exact hz),rfl,q _ I.fresh⟩
end
end L2
namespace Att
open PySem PySem.W PySem.Calls PyProof.Rows
theorem Xn{P:Params}{h:Heap}:∀ (ns:List Int) (vs:List Value),WellAll P h vs (ns.map WData.int)→IntsAre vs ns:=by
 intro ns;induction ns with
 |nil =>intro vs w;rw[List.map_nil]at w;cases w;exact .nil
 |cons n ns ih =>
  intro vs w;rw[qG]at w;cases w with
  |cons a b =>cases a;exact .cons _ _ (ih _ b)
theorem N3{l:OpenLaw}{n:Nat}(hn:l.most=some n){P:Params}{h:Heap}{args:List WData}{vals:List Value}
  (hpre:l.row.toRowW.claim.pre args=true) (hwl:WellAll P h vals args) :
  ∃ a vs ns,vals=[Value.ref a]∧args=[WData.list (ns.map WData.int)]∧h.get? a=some {cls:=.type "list",data:=.seq vs.toArray}∧IntsAre vs ns∧ns.length≤n:=by
 have hsh:WShape.hasAll [] args [.list .int]=true:=(pre_splitW hpre).1;have hc:l.pre.holds [] {args:=args}=true:=(pre_splitW hpre).2;obtain⟨d,r,rfl,h1,h2⟩:=hasAllW_cons hsh;obtain rfl:=hasAllW_nil h2;obtain⟨xs,rfl,h3⟩:=hasW_list h1;obtain⟨ns,rfl⟩:=items_int h3;have hlen:ns.length≤n:=by
  unfold OpenLaw.pre at hc;have h4:(WTm.not (.lt (.lit (.int (n:Int))) (.len (.arg 0)))).holds [] {args:=[.list (ns.map .int)]}=true:=by have h4:=(holds_andW hc).1;rw[hn]at h4;exact h4
  have h5:=condW_of h4 (w_not (w_lt w_lit (w_len_list (w_arg rfl))));rw[qA]at h5;refine Nat.le_of_not_lt fun q=>?_;have q':(n:Int)<((ns.length:Nat):Int):=by omega
  first
   |(rw[qQ q']at h5;exact absurd h5 (by decide))
   |(simp at h5;omega)
 cases hwl with
 |cons w1 w2 =>
  cases w2;cases w1 with
  |list ho hall=>exact⟨_,_,ns,rfl,rfl,ho,Xn ns _ hall,hlen⟩
theorem NW(l:OpenLaw)(args:List WData):l.row.toRowW.claim.post args (.bool true) args=true :=
 postW_of (r:=l.row.toRowW) (X:=(true==true))
  (show WShape.has [] (.bool true) .bool=true by first|rfl|decide|simp[WShape.has,WShape.arms,WShape.armsAll])
  (show(WTm.eq .res (.lit (.bool true))).value [] {args:=args,res:=some (.bool true),after:=args}=some (.bool (true==true)) from w_eq_bool (w_res rfl) w_lit) rfl
theorem attach_call{l:OpenLaw}{n:Nat}{q:Program}{loose:List Str}{XP:(Str→Option Value)→Heap→Prop}{YP:World→Heap→Prop}{d:DefRec}
  (hn:l.most=some n) (hdf:d.params.defaults=[])
  (call:∀ (w:World) (s₀ s₁:Shared) (mg mb:Str→Option Value) (fa:Addr) (o:Obj) (pm cd doc:Value) (a:Addr) (vs:List Value) (ns:List Int),
    Ground q loose [] XP w s₀ mg mb s₁.heap→YP w s₁.heap→
    s₁.heap.get? fa=some o→o.data=.func (docDef d.name d.params d.body d.scope pm cd doc)→s₁.heap.CodeRec cd d.name→mg d.name=some (.ref fa)→
    s₁.heap.get? a=some {cls:=.type "list",data:=.seq vs.toArray}→IntsAre vs ns→ns.length≤n→s₁.gens=#[]→
    codeAny (model l.prog w) callerA (.call (.ref fa) ⟨[.ref a],[]⟩) (fun r s'=>r=.ok (.ret (.bool true))∧OldK s₁.heap s'.heap∧s'.os=s₁.os∧AllBare s'.gens) s₁) :
  WalkO q loose XP YP l.row.toRowW d [] (fun f vs=>PySem.call f vs):=by
 intro w s₀ s₁ mg mb G Y fa o pm cd doc dV kV ho hd hcd hD hmg hg args vals as hpre hlay hrd hwl hlo;obtain rfl:dV=.none:=Dflts.none hD hdf;obtain rfl:kV=.none:=Dflts.noKw hD;obtain⟨a,vs,ns,rfl,rfl,hobj,hints,hlen⟩:=N3 hn hpre hwl;refine enter_call (codeAny_mono (call w s₀ s₁ mg mb fa o pm cd doc a vs ns G Y ho (fd_plain hd) hcd hmg hobj hints hlen hg) fun r s' hq=>?_);obtain⟨rfl,h2,h3,h4⟩:=hq;exact⟨.inl ⟨.bool true,.bool true,[],rfl,fun _=>rfl,.bool true,NW l _,fun _=>⟨List.Pairwise.nil,fun _ hm=>(nomatch hm)⟩⟩,h2,h3,h4⟩
end Att
namespace L2
open PySem PySem.Spec PyProof.Rows
theorem Y9:∀ {vs:List Value}{ns:List Int},IntsAre vs ns→Vals (ns.map V.int) vs
 |_,_,.nil=>.nil
 |_,_,.cons n t h=>.cons ⟨t,rfl⟩ (Y9 h)
def C9 (H:Hp):Prop:=∀ b,H b=none∨∃ o xs,H b=some (.frz o (.lst xs))
theorem OE{P:Program}{w:World}{K:PySem.W.Frag}{mg mb:Str→Option Value}{CX:CXT}{k:Nat}{fa a:Addr}{fd:FuncData}{x:Str}{sp:Sp}{s₁:Shared}{vs:List Value}{ns:List Int}
  (KX:K.In s₁.heap) (hns:s₁.heap.Ns mainGlobals mg) (hb:s₁.heap.Ns builtinsNs mb) (hbb:∀ x:Str,x≠"__name__"→mb x=bootBuiltins x) (hlim:s₁.heap.NoLimit) (hg:s₁.gens=#[])
  (ha:s₁.heap.get? a=some {cls:=.type "list",data:=.seq vs.toArray}) (hi:IntsAre vs ns) (hl:ns.length≤sizeLine) (hr:Room k callerA)
  (F:∀ base:Heap,K.In base→base.Ns mainGlobals mg→FnOk P w K mg base CX k fa fd [x] sp) (hbind:∀ (s:Shared) (u:Value),BindsTo s fd ⟨[u],[]⟩ [(x,u)])
  (hsp:∀ H:Hp,C9 H→SqL K H a (ns.map V.int)→sp [.ref a] H (fun v _=>v=.bl true) fun _ _ _=>False)
  (hCX:∀ H e s',CX [] H s₁ (fun _ _ _=>False) e s'→False) :
  codeAny (model P w) callerA (.call (.ref fa) ⟨[.ref a],[]⟩) (fun r s'=>r=.ok (.ret (.bool true))∧OldK s₁.heap s'.heap∧s'.os=s₁.os∧AllBare s'.gens) s₁:=by
 have rv:=Y9 hi;have lenV:=hi.length;have core:∀ H:Hp,C9 H→SqL K H a (ns.map V.int)→HOk P w H s₁.heap→(∀ b,H b≠none→b=a)→(H a≠none→K.lookup a=none)→
   codeAny (model P w) callerA (.call (.ref fa) ⟨[.ref a],[]⟩) (fun r s'=>r=.ok (.ret (.bool true))∧OldK s₁.heap s'.heap∧s'.os=s₁.os∧AllBare s'.gens) s₁:=by
  intro H hO hS hok hA hK;have base_of:∀ {b:Addr}{o:Obj},s₁.heap.get? b=some o→H b=none→(W7 s₁.heap H).get? b=some o:=fun e n=>UC e n;have noA:∀ {b:Addr}{o:Obj}{es:Array DictEntry}{ep:Nat},s₁.heap.get? b=some o→o.data=.dict es ep→H b=none:=fun {b o es ep} e d=>by
   cases q:H b with
   |none=>rfl
   |some u =>have e':b=a:=hA b (by rw[q];simp);subst e';rw[ha]at e;cases e;have d':Data.seq vs.toArray _=Data.dict es ep:=d;cases d'
  have nsK:∀ {b:Addr}{m:Str→Option Value},s₁.heap.Ns b m→(W7 s₁.heap H).Ns b m:=fun {b m} ⟨o,es,ep,e,d,r⟩=>⟨o,es,ep,base_of e (noA e d),d,r⟩
  have hKb:K.In (W7 s₁.heap H):=fun b o e=>base_of (KX b o e) (by
    cases q:H b with
    |none=>rfl
    |some u =>
      have e':b=a:=hA b (by rw[q];simp)
      subst e'
      rw[hK (by rw[q];simp)]at e;cases e)
  have hM:Mod K mg (W7 s₁.heap H):=⟨hKb,nsK hns,⟨mb,nsK hb,hbb⟩,let ⟨mc,h1,h2⟩:=hlim;⟨mc,nsK h1,h2⟩⟩
  have e0:Env0 P w K mg (W7 s₁.heap H) callerA [] s₁ H:=⟨rfl,hM,fun b o e=>Bt e,Nat.le_of_eq (N2 _ _),trivial,fun b hb=>absurd (show b∈([]:List Addr) from hb) (by simp),hok,.of_eq hg⟩
  refine codeAny_mono ((F _ hKb (nsK hns)).run callerA [] s₁ H ⟨[.ref a],[]⟩ [.ref a] [.ref a] _ _ hr e0 (hbind s₁ (.ref a)) (.cons rfl .nil) (hsp H hO hS)) fun r s' h=>?_;cases r with
  |error e=>exact(hCX H e s' h).elim
  |ok fl =>
   cases fl with
   |next=>exact False.elim h
   |brk=>exact False.elim h
   |cont=>exact False.elim h
   |ret u =>
    obtain⟨v,H',os,bare,un,hok',r',q⟩:=h;have q':v=.bl true:=q;subst q';obtain rfl:u=Value.bool true:=r';refine⟨rfl,OldK.of_keep fun b o e=>?_,os,bare⟩;cases q:H b with
    |none=>exact un.keep b o e q (by intro z;exact absurd (show b∈([]:List Addr) from z) (by simp)) (by simp)
    |some u =>
     rcases hO b with z|⟨ob,xs,z⟩
     ·rw[q]at z;cases z
     ·have z2:=un.frzs b ob _ z;obtain⟨e1,_⟩:=hok b _ z;obtain⟨e2,_⟩:=hok' b _ z2;rw[e]at e1;cases e1;exact e2
 cases hk:K.lookup a with
 |some o =>have e:=KX a o hk;rw[ha]at e;cases e;refine core (fun _=>none) (fun _=>.inl rfl) (.inr ⟨_,vs.toArray,_,hk,rfl,rfl,rfl,by rw[qC,lenV];exact hl,by simpa using rv⟩) (fun b u z=>by have z':(none:Option HO)=some u:=z;cases z') (fun b z=>absurd rfl z) fun z=>absurd rfl z
 |none =>
  refine core (fun b=>if b=a then some (.frz {cls:=.type "list",data:=.seq vs.toArray} (.lst (ns.map V.int)))else none) (fun b=>?_) (.inl (.inr ⟨{cls:=.type "list",data:=.seq vs.toArray},if_pos rfl⟩)) (fun b u z=>?_) (fun b z=>?_) fun _=>hk
  ·by_cases hb:b=a
   ·exact .inr ⟨_,_,if_pos hb⟩
   ·exact .inl (if_neg hb)
  ·by_cases hb:b=a
   ·have z':=(if_pos hb).symm.trans z;cases z';subst hb;exact⟨ha,by rw[qA];exact hl,vs,_,rv,ha⟩
   ·have z':=(if_neg hb).symm.trans z;cases z'
  ·by_cases hb:b=a
   ·exact hb
   ·exact absurd (if_neg hb) z
def Yg (s:Stmt):Arguments:=match s with
 |.FunctionDef _ a _ _ _ _ _ _ _ _=>a
 |_=>{posonlyargs:=[],args:=[],vararg:=none,kwonlyargs:=[],kw_defaults:=[],kwarg:=none,defaults:=[]}
def ZH (s:Stmt):List Stmt:=match s with
 |.FunctionDef _ _ b _ _ _ _ _ _ _=>b
 |_=>[]
def Zn (s:Stmt):Scope:=match s with
 |.FunctionDef _ _ _ _ _ _ sc _ _ _=>sc
 |_=>{kind:=.function,names:=[],isGenerator:=false,isCoroutine:=false}
abbrev CX0:CXT:=fun _ _ _ _ _ _=>False
structure Fun (K:PySem.W.Frag) (x qual:Str) (st:Stmt) (f:Addr) (fd:FuncData):Prop where
 ex:∃ (oc:Value) (od:Option Addr) (kV doc pm:Value) (an:Option Addr) (cdv ct:Value) (osl:Array (Option Value)),
  fd=PySem.W.fnOf x qual (Yg st) (ZH st) (Zn st) .none kV doc pm an cdv ct∧K.lookup f=some ⟨oc,od,.func fd,osl⟩∧PySem.W.codeIn K cdv qual=true
 kp:PySem.W.keepIn K (.ref f)=true
section
variable {P:Program}{w:World}{K:PySem.W.Frag}{mg:Str→Option Value}{base:Heap}
theorem Fun.ok{x qual:Str}{st:Stmt}{f:Addr}{fd:FuncData}{N ps:List Str}{k:Nat}{sp:Sp}(F:Fun K x qual st f fd)(S:FnScope N ps (Zn st))(len:∀ vs H Q E,sp vs H Q E→vs.length=ps.length)
  (hbody:∀ (cdv:Value) (A:Around) (outer:List Env) (s:Shared) (H:Hp) (vs:List V) (Q:VK) (E:XK),Room k (A.deeper (envOfC qual (Zn st) s.heap.objs.size f cdv))→sp vs H Q E→
    ∃ t,PSs (We CX0 P w K mg base N qual (Zn st) f cdv A outer s H E).nox (ZH st) t∧t { nx:=fun _ H'=>Q .non H',rt:=Q } (start N vs) H):FnOk P w K mg base CX0 (k+1) f fd ps sp:=by
 obtain⟨oc,od,kV,doc,pm,an,cdv,ct,osl,rfl,lk,hcd⟩:=F.ex;refine B8 lk hcd S len fun A outer s H vs Q E hr hsp=>?_;obtain⟨t,h,q⟩:=hbody cdv A outer s H vs Q E hr hsp;exact⟨t,h.nox,q⟩
theorem Fun.binds{x qual:Str}{st:Stmt}{f:Addr}{fd:FuncData}{ps:List Str}(F:Fun K x qual st f fd)
  (h:∀ (kV doc pm:Value) (an:Option Addr) (cdv ct:Value) (us:List Value),us.length=ps.length→bindArgs (PySem.W.fnOf x qual (Yg st) (ZH st) (Zn st) .none kV doc pm an cdv ct) ⟨us,[]⟩=pure (ps.zip us)):Binds K fd ps []:=by
 obtain⟨oc,od,kV,doc,pm,an,cdv,ct,osl,rfl,lk,hcd⟩:=F.ex;exact .all (h kV doc pm an cdv ct)
theorem Af{x qual:Str}{st:Stmt}{f:Addr}{oc:Value}{od an:Option Addr}{osl:Array (Option Value)}{kV doc pm cdv ct:Value}(l:K.lookup f=some ⟨oc,od,.func (PySem.W.fnOf x qual (Yg st) (ZH st) (Zn st) .none kV doc pm an cdv ct),osl⟩)
  (c:PySem.W.codeIn K cdv qual=true) (k:PySem.W.keepIn K (.ref f)=true):Fun K x qual st f (PySem.W.fnOf x qual (Yg st) (ZH st) (Zn st) .none kV doc pm an cdv ct):=⟨⟨oc,od,kV,doc,pm,an,cdv,ct,osl,rfl,l,c⟩,k⟩
end
def Same (H H':Hp):Prop:=∀ b o,H b=some o→H' b=some o
theorem Same.refl(H:Hp):Same H H:=fun _ _ h=>h
theorem Same.trans{H H1 H2:Hp}(a:Same H H1)(b:Same H1 H2):Same H H2:=fun c o h=>b c o (a c o h)
theorem Same.free{H H':Hp}(e:Same H H'){l:Addr}(h:H' l=Option.none):H l=Option.none:=by
 cases q:H l with
 |none=>rfl
 |some o =>rw[e l o q]at h;cases h
theorem Same.seq{K:PySem.W.Frag}{H H':Hp}{a:Addr}{xs:List V}(e:Same H H')(h:SqL K H a xs):SqL K H' a xs:=by
 rcases h with(h|⟨o,h⟩)|h
 ·exact .inl (.inl (e _ _ h))
 ·exact .inl (.inr ⟨o,e _ _ h⟩)
 ·exact .inr h
end L2
set_option maxHeartbeats 4000000
namespace L2
open PySem PySem.Spec PyProof.Rows
theorem HOk.track{P:Program}{w:World}{H:Hp}{h:Heap}{a:Addr}{o:HO}(x:HOk P w H h)(hn:H a=none)(new:ObjOk P w (upd H a o) h a o):HOk P w (upd H a o) h:=fun b u e=>by
 by_cases hb:b=a
 ·subst hb;rw[upd_same]at e;cases e;exact new
 ·rw[upd_ne hb]at e;exact(x b u e).stay (fun c v _ q=>q) (fun c q=>by rw[upd_ne (Zj q hn)];exact q) fun c xs q=>by rw[upd_ne (Zj q hn)];exact q
theorem HOk.same{P:Program}{w:World}{H:Hp}{h h':Heap}{C:Addr}(x:HOk P w H h)(hn:H C=none)(hs:Heap.SameBut C h h'):HOk P w H h':=fun b u e=>by
 refine(x b u e).stay (fun c v hc q=>hs.extBut c v ?_ q) (fun _ q=>q) fun _ _ q=>q;rcases hc with z|z
 ·rw[z];exact Zj e hn
 ·exact Zj z hn
def Zr (X:Cx) (scope:Scope) (N':List Str) (cl:List (Str×Addr)) (C:Addr) (s:Shared) (H:Hp) (ex:List Addr):Cx where
 prog:=X.prog
 w:=X.w
 K:=X.K
 mg:=X.mg
 base:=X.base
 A:=X.A
 N:=N'
 s₀:=s
 H₀:=H
 env:=compEnvC scope cl C X.env
 outer:=X.stack
 stack:=X.stack
 ex:=ex
 fn:=fun _=>false
 calm:=X.calm
 pn:=[]
 xe:=fun _ _=>False
def ZZ (X:Cx) (x:List Str) (caps:List Nat):List Str:=x++caps.map fun j=>X.N.getD j Str.empty
def KC (σ:St) (caps:List Nat):St:=caps.map fun j=>(σ[j]?).getD none
structure BlkOk (X:Cx) (scope:Scope) (x:List Str) (caps:List Nat):Prop where
 kind:scope.kind=.function
 nocell:∀ y∈scope.names,y.2≠.cell
 locs:∀ y∈scope.names,y.2=.local→scope.names.lookup y.1=some .local
 own:∀ y∈x,scope.names.lookup y=some .local
 frees:∀ y∈scope.names,y.2=.free→X.env.kindOf y.1=some .cell
 cap:∀ j∈caps,(X.N[j]?).isSome=true∧X.env.kindOf (X.N.getD j Str.empty)=some .cell∧scope.names.lookup (X.N.getD j Str.empty)=some .free
 nd:(ZZ X x caps).Nodup
theorem Ye{env:Env}:∀ (names:List (Str×NameKind)) (acc:List (Str×Addr)),(∀ y∈names,y.2=.free→∃ c,env.cells.lookup y.1=some c)→(∀ x c,acc.lookup x=some c→env.cells.lookup x=some c)→
  ∃ cl,(forIn names acc fun(p:Str×NameKind) (r:List (Str×Addr))=>(do
    if(p.2 == NameKind.free)=true then do let a←cellOf env p.1;pure (ForInStep.yield ((p.1,a)::r))else pure (ForInStep.yield r):Sem _))=pure cl∧
   (∀ x c,cl.lookup x=some c→env.cells.lookup x=some c)∧(∀ x c,acc.lookup x=some c→∃ c',cl.lookup x=some c')∧∀ x,(x,NameKind.free)∈names→∃ c,cl.lookup x=some c
 |[],acc,_,ha=>⟨acc,rfl,ha,fun x c h=>⟨c,h⟩,fun x h=>nomatch h⟩
 |(n,k)::r,acc,hn,ha=>by
  by_cases hk:k=.free
  ·subst hk;obtain⟨c,hc⟩:=hn (n,.free) qT rfl;have ha':∀ x d,(((n,c)::acc:List (Str×Addr))).lookup x=some d→env.cells.lookup x=some d:=fun x d h=>by
    rw[qO]at h;cases e:x==n with
    |true =>
     rw[e]at h;have:x=n:=by simpa using e
     subst this;cases h;exact hc
    |false=>rw[e]at h;exact ha x d h
   obtain⟨cl,h1,h2,h3,h4⟩:=Ye r ((n,c)::acc) (fun y hy=>hn y (qI _ hy)) ha';refine⟨cl,?_,h2,fun x d h=>?_,fun x hx=>?_⟩
   ·rw[List.forIn_cons];have e:cellOf env n=pure c:=by unfold cellOf;rw[hc]
    simp only[beq_self_eq_true,if_true,e];exact h1
   ·by_cases hx:x=n
    ·subst hx;exact h3 x c (by rw[qO];simp)
    ·exact h3 x d (by rw[qO,beq_false_of_ne hx];exact h)
   ·rcases qE.mp hx with e|hx
    ·cases e;exact h3 _ c (by rw[qO];simp)
    ·exact h4 x hx
  ·have hb:(k==NameKind.free)=false:=by simpa using hk
   obtain⟨cl,h1,h2,h3,h4⟩:=Ye r acc (fun y hy=>hn y (qI _ hy)) ha;refine⟨cl,?_,h2,h3,fun x hx=>?_⟩
   ·rw[List.forIn_cons];simp only[hb,Bool.false_eq_true,if_false];exact h1
   ·rcases qE.mp hx with e|hx
    ·cases e;exact absurd rfl hk
    ·exact h4 x hx
theorem ZW{env:Env}:∀ {names:List (Str×NameKind)}{x:Str}{k:NameKind},(names.map fun(n,k)=>if(k==NameKind.free&&env.scope.kind == .function&&env.kindOf n==some .cell)then(n,NameKind.cell)else(n,k)).lookup x=some k→
  (∃ k0,(x,k0)∈names∧names.lookup x=some k0∧(k0=k∨(k0=.free∧k=.cell)))
 |[],_,_,h=>by simp at h
 |(n,k0)::r,x,k,h=>by
  rw[qG,qO]at h;cases hx:x==n with
  |true =>
   have e:x=n:=by simpa using hx
   subst e;refine⟨k0,qT,by rw[qO];simp,?_⟩;by_cases hc:(k0==NameKind.free&&env.scope.kind == .function&&env.kindOf x==some .cell)=true
   ·rw[if_pos hc]at h;simp at h;have:k0=.free:=by
     simp only[bAq]at hc;simpa using hc.1.1
    exact .inr ⟨this,h.symm⟩
   ·rw[if_neg hc]at h;simp at h;exact .inl h
  |false =>
   have h':(r.map fun(n,k)=>if(k==NameKind.free&&env.scope.kind == .function&&env.kindOf n==some .cell)then(n,NameKind.cell)else(n,k)).lookup x=some k:=by
    by_cases hc:(k0==NameKind.free&&env.scope.kind == .function&&env.kindOf n==some .cell)=true
    ·rw[if_pos hc]at h;simpa[hx]using h
    ·rw[if_neg hc]at h;simpa[hx]using h
   obtain⟨k1,a,b,c⟩:=ZW h';exact⟨k1,qI _ a,by rw[qO,hx];exact b,c⟩
def PIfs (X:Cx) (ifs:List Expr) (t:TT):Prop :=
 ∀ (pins:List (Addr×Obj)) (s:Shared) (σ:St) (H:Hp) (Q:Bool→Hp→Prop),Inv X pins σ H s→t σ H Q→
  wpAny (model X.prog X.w) X.A (forIn ifs true fun c r=>if r=true then do let ok←isTrue c X.env (eval c X.env);pure (ForInStep.yield ok)else pure (ForInStep.yield r)) (TP X pins σ Q) X.xe s
def H9:TT:=fun _ H Q=>Q true H
theorem pifs_nil{X:Cx}:PIfs X [] H9:=fun _ _ _ H _ I h=>wpAny_tests_nil ⟨H,I,h⟩
theorem Y1{X:Cx}{c:Expr}{t:TT}(h:PT X c t):PIfs X [c] t:=fun pins s σ H Q I hq=>wpAny_tests_one (h pins s σ H Q I hq)
def CL (J:It) (tg:TG) (tc:TT) (te:TE) (Fin:List V→Hp→Prop) (W:Nat→Nat→List V→St→Hp→Prop):Prop :=
 ∀ i m ys τ H,W i m ys τ H→ys.length<sizeLine∧((J.stop i H∧Fin ys H)∨(J.go i H∧∃ N:List V→St→Hp→Prop,(∀ ys' τ' H',N ys' τ' H'→∃ m',m'<m∧W (i+1) m' ys' τ' H')∧∀ x H',J.yld i H x H'→
   tg x τ H' fun τ' H1=>tc τ' H1 fun b H2=>if b=true then te τ' H2 fun y H3=>N (ys++[y]) τ' H3 else N ys τ' H2))
def Ab (wi:TI) (k:Nat) (caps:List Nat) (tg:TG) (tc:TT) (te:TE):TE:=fun σ H Q=>wi σ H fun J H1=>∃ W:Nat→Nat→List V→St→Hp→Prop,(∃ m,W 0 m [] (List.replicate k none++KC σ caps) H1)∧
 CL J tg tc te (fun ys H=>∀ p,H p=none→Q (.ref p) (upd H p (.lst ys))) W
section
variable {X:Cx}{pins:List (Addr×Obj)}{σ:St}{H2:Hp}{s2:Shared}
theorem Nq{scope:Scope}{x:List Str}{caps:List Nat}{cl:List (Str×Addr)}{fp:List Addr}{s3:Shared}{D:Addr}{h1:Heap}{tk:Nat}{m:Str→Option Value}(B:BlkOk X scope x caps)(I2:Inv X pins σ H2 s2)(f2:∀ b∈fp,Xc X pins H2 b)
  (c1:∀ x c,cl.lookup x=some c→X.env.cells.lookup x=some c) (c2:∀ x,(x,NameKind.free)∈scope.names→∃ c,cl.lookup x=some c)
  (I3:Inv X pins σ H2 s3) (hD:D=s2.heap.objs.size) (h3:s3.heap.objs.size=D+1) (old:∀ b o,s3.heap.get? b=some o→h1.get? b=some o) (hfp:∀ b∈fp,b<s2.heap.objs.size)
  (hn:h1.Ns s3.heap.objs.size m) :
  Inv (Zr X scope (ZZ X x caps) cl s3.heap.objs.size s3 H2 (D::fp)) [] (List.replicate x.length none++KC σ caps) H2 {s3 with heap:=h1,toks:=tk}:=by
 have neD:∀ b o,s2.heap.get? b=some o→b≠D:=fun b o e=>by rw[hD];exact zF (Heap.lt_size e)
 have exlt:∀ b∈D::fp,b<s3.heap.objs.size:=fun b hb=>by
  rw[h3];rcases qE.mp hb with e|hb
  ·rw[e];exact Nat.lt_succ_self _
  ·exact Nat.lt_succ_of_lt (by rw[hD];exact hfp b hb)
 have keeps:=I3.hok.kept (h':=h1) old;refine⟨⟨I2.mod,B.kind,I2.ok.glob,I2.ok.blt,zG _,fun y z c e1 e2=>?_,fun y hy=>?_,fun y c e _=>(by cases e),fun hc=>I2.ok.hd hc,I2.ok.frames,.inl rfl,fun b hb=>?_,fun b o e=>?_,?_,fun b o e hb=>?_,fun b hb hf=>?_,I3.stack,fun b hb=>I2.stkFree b hb⟩,
   rfl,I3.bare,Un.kept old,⟨m,hn,fun i y v e1 e2 e3=>?_⟩,fun y c e=>?_,I3.hok.fresh (zG _),fun y c e=>I3.freeC y c (c1 y c e),fun p hp=>(nomatch hp),keeps,?_⟩
 ·exact I2.ok.inj y z c (c1 y c e1) (c1 z c e2)
 ·have hy:(relabel scope X.env).names.lookup y=some .cell∨(relabel scope X.env).names.lookup y=some .free:=hy;rcases hy with hy|hy
  ·obtain⟨k0,a,b,c⟩:=ZW hy;rcases c with c|⟨c,_⟩
   ·subst c;exact absurd rfl (B.nocell _ a)
   ·subst c;exact c2 y a
  ·obtain⟨k0,a,b,c⟩:=ZW hy;rcases c with c|⟨_,c⟩
   ·subst c;exact c2 y a
   ·cases c
 ·refine⟨zF (exlt b hb),fun y c e z=>?_⟩;have e':=c1 y c e;rcases qE.mp hb with q|q
  ·obtain⟨v,o,ho,_⟩:=I2.cell y c e';exact neD c o ho (z.trans q)
  ·exact(f2 b q).2.2.2.2.1 y c e' z
 ·exact I3.bs b o e
 ·exact zE I2.ok.bsz (zE I2.sz (show s2.heap.objs.size≤s3.heap.objs.size by rw[h3,hD];exact Nat.le_succ _))
 ·rcases qE.mp hb with q|q
  ·exact neD b o (I2.bk b o e) q
  ·rcases (f2 b q).2.2.2.1 with z|z
   ·exact I2.ok.noex b o e z
   ·exact absurd (qR (Heap.lt_size (I2.ok.bs b o e).1) z) (zK _)
 ·have hf:b∈frs X.stack:=hf;rcases qE.mp (I2.stkSub b hf)with z|z
  ·rcases qE.mp hb with q|q
   ·exact absurd I2.lt (by rw[←z,q,hD];exact zK _)
   ·exact(f2 b q).2.1 z
  ·rcases qE.mp hb with q|q
   ·exact I2.nofs (a:=b) (by rw[q,hD];exact zG _) z
   ·exact(f2 b q).2.2.1 z
 ·by_cases hik:i<x.length
  ·rw[List.getElem?_append_left (by rw[qX];exact hik),List.getElem?_replicate,if_pos hik]at e2;cases e2
  ·have e1:(x++caps.map fun j=>X.N.getD j Str.empty)[i]?=some y:=e1;rw[List.getElem?_append_right (by omega)]at e1;rw[List.getElem?_append_right (by rw[qX];omega),qX]at e2;generalize i - x.length=j at e1 e2;have e2:(caps.map fun j=>(σ[j]?).getD none)[j]?=some (some v):=e2;rw[qF]at e1 e2;cases hj:caps[j]? with
   |none=>rw[hj]at e1;cases e1
   |some q =>
    rw[hj]at e1 e2;have e1':X.N.getD q Str.empty=y:=Option.some.inj e1;have e2':(σ[q]?).getD none=some v:=Option.some.inj e2;obtain⟨hs,hk,hsc⟩:=B.cap q (qY hj);obtain⟨y',hy'⟩:=Option.isSome_iff_exists.mp hs;have ey:y'=y:=by rw[←e1',qN,hy'];rfl
    subst ey;have es:σ[q]?=some (some v):=by
     cases hq:σ[q]? with
     |none=>rw[hq]at e2';cases e2'
     |some o=>rw[hq]at e2';exact congrArg some e2'
    rw[e1']at hk hsc;obtain⟨m2,_,hl⟩:=I3.loc;have hk':X.env.scope.names.lookup y'=some .cell:=hk;obtain⟨u,r,l⟩:=hl q y' v hy' es (.inr (.inl hk'));refine⟨u,r,.inr ⟨?_,?_⟩⟩
    ·rcases e3 with e3|e3|e3
     ·obtain⟨k0,a,b,c⟩:=ZW (show(relabel scope X.env).names.lookup y'=some .local from e3);rw[hsc]at b;cases b;rcases c with c|⟨_,c⟩<;>cases c
     ·exact .inl e3
     ·exact .inr e3
    ·rcases l with⟨l,_⟩|⟨_,c,hc,z⟩
     ·rw[hk]at l;cases l
     ·obtain⟨c',hc'⟩:=c2 y' (PySem.mem_of_lookup hsc);have ec:c'=c:=Option.some.inj ((c1 y' c' hc').symm.trans hc);subst ec;obtain⟨o,ho,hd⟩:=z;exact⟨c',hc',o,old c' o ho,hd⟩
 ·obtain⟨v,o,ho,hd⟩:=I3.cell y c (c1 y c e);exact⟨v,o,old c o ho,hd⟩
 ·show _=(ZZ X x caps).length;unfold ZZ KC;rw[qU,qU,qA,qA,qX]
theorem Yx{scope:Scope}{env:Env}(h:∀ y∈scope.names,y.2=.free→∃ c,env.cells.lookup y.1=some c) :
  ∃ cl,closureFor scope env=pure cl∧(∀ x c,cl.lookup x=some c→env.cells.lookup x=some c)∧∀ x,(x,NameKind.free)∈scope.names→∃ c,cl.lookup x=some c:=by
 obtain⟨cl,h1,h2,_,h4⟩:=Ye (env:=env) scope.names [] h (fun x c e=>nomatch e);refine⟨cl,?_,h2,h4⟩;simp only[closureFor];have e:(forIn scope.names ([]:List (Str×Addr)) fun x r =>
     (match x with
     | (name,kind)=>if(kind == NameKind.free)=true then do let a←cellOf env name;pure (ForInStep.yield ((name,a)::r))else pure (ForInStep.yield r):Sem (ForInStep (List (Str×Addr)))))=pure cl:=h1
 first
  |(rw[e];rfl)
  |(refine Eq.trans (congrArg (· >>= pure) ?_) (rfl:(pure cl >>= pure:Sem _)=pure cl);exact e)
theorem J4{prog:Program}{w:World}{A:Around}{R:Result→Shared→Prop}{s:Shared}{elt target iter:Expr}{ifs:List Expr}{scope:Scope}{pos:Pos}{it acc:Value}{env:Env}(I:Nat→Shared→Prop)
  (turn:∀ n s,I n s→wpAny (model prog w) A (pyNext it) (fun r s₁=>match r with
    |none=>R (.ok .next) s₁
    | some v=>wpAny (model prog w) A (letOwnedTupleGo target it v) (fun _ s₁=>wpAny (model prog w) A (assign target env v) (fun _ s₂ =>
        wpAny (model prog w) A (forIn ifs true fun c r=>if r=true then do let ok←isTrue c env (eval c env);pure (ForInStep.yield ok)else pure (ForInStep.yield r)) (fun ok s₃ =>
          if ok=true then wpAny (model prog w) A (eval elt env) (fun x s₄ =>
            wpAny (model prog w) A (call (.builtin "list.append") [acc,x]) (fun _ s₅=>∃ m,m<n∧I m s₅) (fun _ _=>False) s₄) (fun _ _=>False) s₃
          else ∃ m,m<n∧I m s₃) (fun _ _=>False) s₂) (fun _ _=>False) s₁) (fun _ _=>False) s₁) (fun _ _=>False) s)
  (n:Nat) (h:I n s) :
  codeAny (model prog w) A (.compLoop (.ListComp elt [⟨target,iter,ifs,0⟩] scope pos) 0 it acc env) R s:=by
 refine codeAny_loop rfl I (fun n s hI=>?_) n h;show wpAny _ A ((compTurn (.ListComp elt [⟨target,iter,ifs,0⟩] scope pos) 0 it acc env).onRaise (fun x=>do noteFrame x env;theTreesLotGoes x)) _ _ s;refine wpAny_noted ?_;rw[compTurn_list];refine wpAny_bind (wpAny_standAt (wpAny_bind (wpAny_mono (turn n s hI) (fun r s₁ h₁=>?_) fun _ _ h'=>h'.elim)));cases r with
 |none=>exact wpAny_pure h₁
 |some v =>
  refine wpAny_bind (wpAny_mono h₁ (fun _ s₁ h₁=>?_) fun _ _ h'=>h'.elim);refine wpAny_bind (wpAny_mono h₁ (fun _ s₂ h₂=>wpAny_bind (wpAny_mono h₂ (fun ok s₃ h₃=>?_) fun _ _ h'=>h'.elim)) fun _ _ h'=>h'.elim);cases ok with
  |false=>exact wpAny_pure ⟨rfl,h₃⟩
  |true =>exact wpAny_bind (wpAny_bind (wpAny_mono h₃ (fun x s₄ h₄=>wpAny_bind (wpAny_mono h₄ (fun _ s₅ h₅=>wpAny_pure (wpAny_pure ⟨rfl,h₅⟩)) fun _ _ h'=>h'.elim)) fun _ _ h'=>h'.elim))
theorem Wp{scope:Scope}{x:List Str}{tgt:Expr}{tg:TG}{caps:List Nat}{elt iter:Expr}{ifs:List Expr}{pos:Pos}{cl:List (Str×Addr)}{fp:List Addr}{it:Addr}{tn:Nat→Heap→Prop}{J:It}{tc:TT}{te:TE}{Fin:List V→Hp→Prop}{W:Nat→Nat→List V→St→Hp→Prop}{E:Value→Shared→Prop}
  {RR:Value→Addr→Result→Shared→Prop}{m0:Nat}(hc:X.calm=true) (B:BlkOk X scope x caps) (I2:Inv X pins σ H2 s2) (T:Turn X.prog X.w X.K tgt J fp it tn) (st2:tn 0 s2.heap) (f2:∀ b∈fp,Xc X pins H2 b)
  (c1:∀ x c,cl.lookup x=some c→X.env.cells.lookup x=some c) (c2:∀ x,(x,NameKind.free)∈scope.names→∃ c,cl.lookup x=some c)
  (hI:∀ cl C s H ex,PIfs (Zr X scope (ZZ X x caps) cl C s H ex) ifs tc) (hE:∀ cl C s H ex,PE (Zr X scope (ZZ X x caps) cl C s H ex) elt te)
  (hG:∀ cl C s H ex,PG (Zr X scope (ZZ X x caps) cl C s H ex) tgt tg) (w0:W 0 m0 [] (List.replicate x.length none++KC σ caps) H2) (cw:CL J tg tc te Fin W)
  (hRR:∀ D C s' H' ys m,H' D=none→s'.heap.Ns C m→Xc X pins (upd H' D (.lst ys)) C→Inv X pins σ (upd H' D (.lst ys)) s'→Fin ys H'→RR (.ref D) C (.ok .next) s') :
  wpAny (model X.prog X.w) X.A (newList []) (fun acc s₃=>wpAny (model X.prog X.w) X.A (newFunctionEnv scope X.env.globals cl [] X.env.qual none .none (some X.env)) (fun cenv s₄ =>
    codeAny (model X.prog X.w) X.A (.compStart (.ListComp elt [⟨tgt,iter,ifs,0⟩] scope pos) 0 (.ref it) acc { cenv with scope:=relabel scope X.env }) (RR acc cenv.locals) s₄) E s₃) E s2:=by
 refine wpAny_newObj_type (wpAny_newFunctionEnv B.nocell (by intro y hy;simp at hy) (fun h₁ hns₁ hsb₁=>?_) B.kind);dsimp only at hns₁ hsb₁ ⊢;have hfp:∀ b∈fp,b<s2.heap.objs.size:=fun b hb=>by obtain⟨o,e,_⟩:=T.obj _ _ st2 b hb;exact Heap.lt_size e
 have I3:Inv X pins σ H2 {s2 with heap:=s2.heap.push {cls:=.type "list",dict:=none,data:=.seq ([]:List Value).toArray}}:=I2.kept (t':=s2.toks) fun b o e=>Heap.get?_push_of_some _ e;have h3:(s2.heap.push {cls:=.type "list",dict:=none,data:=.seq ([]:List Value).toArray}).objs.size=s2.heap.objs.size+1:=Heap.size_push ..;have hobj:(s2.heap.push {cls:=.type "list",dict:=none,data:=.seq ([]:List Value).toArray}).get? s2.heap.objs.size=some {cls:=.type "list",dict:=none,data:=.seq ([]:List Value).toArray}:=Heap.get?_push_size _ rfl;have old3:∀ b o,s2.heap.get? b=some o→(s2.heap.push {cls:=.type "list",dict:=none,data:=.seq ([]:List Value).toArray}).get? b=some o:=fun b o e=>Heap.get?_push_of_some _ e;generalize hH3:s2.heap.push {cls:=.type "list",dict:=none,data:=.seq ([]:List Value).toArray}=h3' at hns₁ hsb₁ I3 h3 hobj old3 ⊢;have old:∀ b o,h3'.get? b=some o→h₁.get? b=some o:=fun b o e=>hsb₁.extBut b o (zF (Heap.lt_size e)) (Heap.get?_push_of_some _ e);have hDC:s2.heap.objs.size≠h3'.objs.size:=by rw[h3];exact zF (Nat.lt_succ_self _)
 have IB:=Nq (cl:=cl) (fp:=fp) (s3:={s2 with heap:=h3'}) (D:=s2.heap.objs.size) (h1:=h₁) (tk:=s2.toks+([]:List (Str×Value)).length) B I2 f2 c1 c2 I3 rfl h3 old hfp hns₁;generalize hY:Zr X scope (ZZ X x caps) cl h3'.objs.size {s2 with heap:=h3'} H2 (s2.heap.objs.size::fp)=Y at IB;have yP:Y.prog=X.prog:=by rw[←hY];rfl
 have yw:Y.w=X.w:=by rw[←hY];rfl
 have yK:Y.K=X.K:=by rw[←hY];rfl
 have yA:Y.A=X.A:=by rw[←hY];rfl
 have yc:Y.calm=true:=by rw[←hY];exact hc
 have yenv:Y.env=compEnvC scope cl h3'.objs.size X.env:=by rw[←hY];rfl
 have hIY:PIfs Y ifs tc:=by rw[←hY];exact hI _ _ _ _ _
 have hEY:PE Y elt te:=by rw[←hY];exact hE _ _ _ _ _
 have yxe:Y.xe=fun _ _=>False:=by rw[←hY];rfl
 have ypn:Y.pn=[]:=by rw[←hY];rfl
 have hgN:PG Y tgt tg:=by rw[←hY];exact hG _ _ _ _ _
 have fD:∀ {H':Hp},H' s2.heap.objs.size=none→Xc Y [] H' s2.heap.objs.size:=fun {H'} hn=>by
  refine⟨hn,?_,?_,?_,?_,fun p hp=>?_⟩
  ·rw[yenv];exact hDC
  ·exact IB.ok.exfs _ (by rw[←hY];exact qT)
  ·exact .inl (by rw[←hY];exact qT)
  ·exact fun y c e=>(IB.ok.exf _ (by rw[←hY];exact qT)).2 y c e
  ·rw[ypn]at hp;exact nomatch hp
 have fF:∀ {H':Hp},(∀ b∈fp,H' b=none)→∀ b∈fp,Xc Y [] H' b:=fun {H'} hn b hb=>by
  have hm:b∈Y.ex:=by rw[←hY];exact qI _ hb
  refine⟨hn b hb,?_,IB.ok.exfs b hm,.inl hm,fun y c e=>(IB.ok.exf b hm).2 y c e,fun p hp=>?_⟩
  ·exact(IB.ok.exf b hm).1
  ·rw[ypn]at hp;exact nomatch hp
 have acc0:h₁.PlainList s2.heap.objs.size ([]:List Value).toArray:=⟨0,by exact old _ _ hobj⟩
 have loop:∀ s₃:Shared,s₃={s2 with heap:=h₁,toks:=s2.toks+([]:List (Str×Value)).length}→
   codeAny (model X.prog X.w) X.A (.compLoop (.ListComp elt [⟨tgt,iter,ifs,0⟩] scope pos) 0 (.ref it) (.ref s2.heap.objs.size) (compEnvC scope cl h3'.objs.size X.env)) (RR (.ref s2.heap.objs.size) h3'.objs.size) s₃:=by
  rintro s₃ rfl;refine J4 (fun n s'=>∃ i ys its τ H',Inv Y [] τ H' s'∧tn i s'.heap∧(∀ b∈fp,H' b=none)∧H' s2.heap.objs.size=none∧Vals ys its∧s'.heap.PlainList s2.heap.objs.size its.toArray∧W i n ys τ H') ?_ m0
   ⟨0,[],[],_,H2,IB,T.keep _ _ _ st2 (fun b hb o e=>old _ _ (old3 _ _ e)),fun b hb=>(f2 b hb).1,I2.fresh,.nil,acc0,w0⟩
  rintro n s3 ⟨i,ys,its,τ,H3,I3',st3,fr3,frD,rv,pl,w3⟩;have cv:∀ {α:Type}{f:Sem α}{Q Q':α→Shared→Prop}{s:Shared},wpAny (model Y.prog Y.w) Y.A f Q Y.xe s→(∀ a s',Q a s'→Q' a s')→wpAny (model X.prog X.w) X.A f Q' (fun _ _=>False) s:=fun {α f Q Q' s} h hq=>by rw[yP,yw,yA,yxe]at h;exact wpAny_mono h hq fun _ _ e=>e
  have cvX:∀ {α:Type}{f:Sem α}{Q Q':α→Shared→Prop}{s:Shared},wpAny (model X.prog X.w) Y.A f Q (fun _ _=>False) s→(∀ a s',Q a s'→Q' a s')→wpAny (model X.prog X.w) X.A f Q' (fun _ _=>False) s:=fun {α f Q Q' s} h hq=>by rw[yA]at h;exact wpAny_mono h hq fun _ _ e=>e
  obtain⟨nD,hD3⟩:=id pl;have plD:∀ b∈[s2.heap.objs.size],∃ o,s3.heap.get? b=some o∧∀ v,o.data≠.cell v:=fun b hb=>by
   have e:b=s2.heap.objs.size:=by simpa using hb
   subst e;exact⟨_,hD3,fun v z=>by cases z⟩
  have IP:=I3'.pinned (fp:=[s2.heap.objs.size]) (fun b hb=>by
    have e:b=s2.heap.objs.size:=by simpa using hb
    subst e
    exact fD frD) plD
  have memD:=ZS (fp:=[s2.heap.objs.size]) (zH.mpr rfl) hD3;have fF':∀ b∈fp,Xc Y ([]++YL [s2.heap.objs.size] s3.heap) H3 b:=fun b hb=>by
   obtain⟨q1,q2,q3,q4,q5,q6⟩:=fF fr3 b hb;refine⟨q1,q2,q3,q4,q5,fun p hp=>?_⟩;rw[ypn]at hp;obtain⟨hp1,_⟩:=Wl (show p∈YL [s2.heap.objs.size] s3.heap by simpa using hp);have e:p.1=s2.heap.objs.size:=by simpa using hp1
   rw[e];exact(zF (hfp b hb)).symm
  obtain⟨hys,h|⟨go,N,hN,step⟩⟩:=cw i n ys τ H3 w3
  ·obtain⟨stop,fin⟩:=h;refine cvX (T.done Y yP yw yK yc i _ s3 _ H3 _ IP fF' st3 stop) fun r s4 ⟨hr,I4⟩=>?_;subst hr;obtain⟨m4,hm4,_⟩:=I4.loc;rw[yenv]at hm4;have base4:Un (frs X.stack) (s2.heap.objs.size::fp) H2 H3 h3' s4.heap:=by
    have:=I4.base;rw[←hY]at this;exact this
   have hok4:HOk X.prog X.w H3 s4.heap:=by have:=I4.hok;rw[yP,yw]at this;exact this
   have pl4:=(I4.pin _ (qL _ (qL _ memD))).1;have nC:H3 h3'.objs.size=none:=by have:=I4.free;rw[yenv]at this;exact this
   have hlen:ys.length≤sizeLine:=Nat.le_of_lt hys;have osEq:s4.os=s2.os:=by have:=I4.os;rw[←hY]at this;exact this
   have neD:∀ b o,s2.heap.get? b=some o→b≠s2.heap.objs.size:=fun b o e=>zF (Heap.lt_size e);have nin:∀ b o,s2.heap.get? b=some o→b∉fp→b∉s2.heap.objs.size::fp:=fun b o e hb z=>(qE.mp z).elim (neD b o e) hb;have hokN:HOk X.prog X.w (upd H3 s2.heap.objs.size (.lst ys)) s4.heap:=hok4.track frD ⟨hlen,its,nD,rv,pl4⟩;have U:Un (frs X.stack) fp H2 (upd H3 s2.heap.objs.size (.lst ys)) s2.heap s4.heap:=by
    refine⟨fun b o e hn hf hx=>base4.keep b o (old3 b o e) hn hf (nin b o e hx),fun b o e hn hf hx=>base4.slot b o (old3 b o e) hn hf (nin b o e hx),fun b o e hn hx=>?_,fun b o e hx=>base4.there b o (old3 b o e) (nin b o e hx),fun b xs e=>?_,fun b o xs e=>?_,fun b ps e=>?_⟩
    ·rw[upd_ne (neD b o e)];exact base4.free b o (old3 b o e) hn (nin b o e hx)
    ·have q:=base4.tups b xs e;rw[upd_ne (Zj q frD)];exact q
    ·have q:=base4.frzs b o xs e;rw[upd_ne (Zj q frD)];exact q
    ·obtain⟨more,q⟩:=base4.tbls b ps e;exact⟨more,by rw[upd_ne (Zj q frD)];exact q⟩
   have I5:Inv X pins σ (upd H3 s2.heap.objs.size (.lst ys)) s4:=I2.call' (ch:=fp) osEq U hokN I4.bare fun b hb=>by obtain⟨_,q2,_,q4,q5,q6⟩:=f2 b hb;exact⟨q4,q2,q5,q6⟩
   exact hRR _ _ _ _ _ m4 frD hm4 (I2.fpOk (Nat.le_of_lt (by rw[h3];exact Nat.lt_succ_self _)) (by rw[upd_ne hDC.symm];exact nC)) I5 fin
  ·refine cvX (T.item Y yP yw yK yc i _ s3 _ H3 _ IP fF' st3 go) fun r s4 ⟨u,hr,h4⟩=>?_;subst hr;refine cvX h4 fun _ s5 ⟨y,H5,I5,r5,y5,st5,fr5⟩=>?_;have frD5:H5 s2.heap.objs.size=none:=(I5.pin _ (qL _ (qL _ memD))).2.1;have hD5:=(I5.pin _ (qL _ (qL _ memD))).1;have I5p:=I5.unpinned.pinned (fp:=s2.heap.objs.size::fp) (fun b hb=>by
     rcases qE.mp hb with e|hb
     · subst e;exact fD frD5
     · exact fF fr5 b hb) (fun b hb=>by
     rcases qE.mp hb with e|hb
     · subst e;exact⟨_,hD5,fun v z=>by cases z⟩
     · exact T.obj _ _ st5 b hb)
   have memD5:=ZS (fp:=s2.heap.objs.size::fp) qT hD5;rw[←yenv];refine cv (hgN _ s5 _ H5 y u _ I5p r5 (step y H5 y5)) fun _ s6 ⟨σ6,H6,I6,q6⟩=>?_;have back:∀ {m':Nat}{σ7:St}{H7:Hp}{s7:Shared}{ys':List V}{its':List Value},Inv Y [] σ7 H7 s7→tn (i+1) s7.heap→(∀ b∈fp,H7 b=none)→H7 s2.heap.objs.size=none→Vals ys' its'→s7.heap.PlainList s2.heap.objs.size its'.toArray→m'<n∧W (i+1) m' ys' σ7 H7→
     ∃ m,m<n∧∃ i ys its τ H',Inv Y [] τ H' s7∧tn i s7.heap∧(∀ b∈fp,H' b=none)∧H' s2.heap.objs.size=none∧Vals ys its∧s7.heap.PlainList s2.heap.objs.size its.toArray∧W i m ys τ H' :=
    fun {m' σ7 H7 s7 ys' its'} J1 st7 fr7 fd7 rv7 pl7 wm=>⟨m',wm.1,i+1,ys',its',σ7,H7,J1,st7,fr7,fd7,rv7,pl7,wm.2⟩
   have stay:∀ {σ7:St}{H7:Hp}{s7:Shared},Inv Y ([]++YL (s2.heap.objs.size::fp) s5.heap) σ7 H7 s7→tn (i+1) s7.heap∧(∀ b∈fp,H7 b=none)∧H7 s2.heap.objs.size=none∧s7.heap.get? s2.heap.objs.size=some {cls:=.type "list",data:=.seq its.toArray nD}:=by intro σ7 H7 s7 J1;refine⟨T.keep _ _ _ st5 fun b hb o e=>(J1.pin (b,o) (qL _ (qL _ (ZS (qI _ hb) e)))).1,fun b hb=>?_,(J1.pin _ (qL _ (qL _ memD5))).2.1,(J1.pin _ (qL _ (qL _ memD5))).1⟩;obtain⟨o,e,d⟩:=T.obj _ _ st5 b hb;exact(J1.pin (b,o) (qL _ (qL _ (ZS (qI _ hb) e)))).2.1
   refine cv (hIY _ s6 _ H6 _ I6 q6) fun ok s7 ⟨H7,I7,q7⟩=>?_;cases ok with
   |false =>rw[if_neg (by decide)]at q7;rw[if_neg (by decide)];obtain⟨m',wm⟩:=hN _ _ _ q7;obtain⟨a1,a2,a3,a4⟩:=stay I7;exact back I7.unpinned a1 a2 a3 rv ⟨nD,a4⟩ wm
   |true =>
    rw[if_pos rfl]at q7;rw[if_pos rfl];refine cv (hEY _ s7 _ H7 _ I7 q7) fun z s8 ⟨vz,H8,I8,rz,wm⟩=>?_;obtain⟨m',wm⟩:=hN _ _ _ wm;obtain⟨a1,a2,a3,a4⟩:=stay I8;have hlen:=rv.length;refine wpAny_list_append_plain (hsz:=by rw[qC];omega) (⟨nD,a4⟩:s8.heap.PlainList _ its.toArray) fun h9 hl9 hs9=>?_;obtain⟨q1,q2,q3,q4,q5,q6⟩:=fD a3;have I9:Inv Y [] _ H8 {s8 with heap:=h9}:=I8.unpinned.turned (t':=s8.toks) (fun b o hb e=>hs9.extBut b o hb e) q1 q2 q4 q5 q6;refine back I9 (T.keep _ _ _ a1 fun b hb o e=>hs9.extBut b o (zF (hfp b hb)) e) a2 a3 (its':=its++[z]) (rv.append (.cons rz .nil)) ?_ wm;have e:its.toArray.push z=(its++[z]).toArray:=by simp
    rw[e]at hl9;exact hl9
 exact codeAny_compStart_list (loop _ rfl) (T.self _ 0 _ _ _ (T.keep _ _ _ st2 (fun b hb o e=>old _ _ (old3 _ _ e))) (loop _ rfl))
theorem UN{scope:Scope}{x:List Str}{tgt:Expr}{tg:TG}{caps:List Nat}{elt iter:Expr}{ifs:List Expr}{pos:Pos}{wi:TI}{tc:TT}{te:TE}(hc:X.calm=true)(B:BlkOk X scope x caps)(hi:PI X tgt iter wi)(hG:∀ cl C s H ex,PG (Zr X scope (ZZ X x caps) cl C s H ex) tgt tg)
  (hI:∀ cl C s H ex,PIfs (Zr X scope (ZZ X x caps) cl C s H ex) ifs tc) (hE:∀ cl C s H ex,PE (Zr X scope (ZZ X x caps) cl C s H ex) elt te)
  (hs:∀ x,foldedSetIterable iter X.env x=pure x:=by intro _;rfl):PE X (.ListComp elt [⟨tgt,iter,ifs,0⟩] scope pos) (Ab wi x.length caps tg tc te):=by
 intro pins s σ H Q I h;obtain⟨cl,hcl,c1,c2⟩:=Yx (scope:=scope) (env:=X.env) fun y hy e=>I.ok.has y.1 (.inl (B.frees y hy e));rw[eval_ListComp];refine wpAny_comprehension_free (use:=none) rfl hs hcl B.kind B.locs (thn (hi pins s σ H _ I h) fun v s1 h1=>thn h1 fun itv s2 h2=>?_);obtain⟨it,fp,tn,J,H2,e,I2,T,st2,f2,W,⟨m0,w0⟩,cw⟩:=h2;subst e;refine Wp (RR:=fun acc C=>compPost (model X.prog X.w) X.A X.xe none (EP X pins σ Q) acc C) hc B I2 T st2 f2 c1 c2 hI hE hG w0 cw ?_;intro D C s' H' ys m hD hn fC I' fin;obtain⟨q1,q2,q3,q4,q5,q6⟩:=fC;exact⟨m,hn,fun h' hs'=>⟨.ref D,_,I'.turned (t':=s'.toks) (fun b o hb e=>hs'.extBut b o hb e) q1 q2 q4 q5 q6,rfl,fin D hD⟩⟩
theorem Ox{scope:Scope}{x:List Str}{y:Str}{tgt:Expr}{tg:TG}{py:Pos}{i:Nat}{caps:List Nat}{elt iter:Expr}{ifs:List Expr}{pos spos:Pos}{wi:TI}{tc:TT}{te:TE}(hN:X.N.Nodup)(hi':X.N[i]?=some y)(hy:Loc X.env.scope y)(hc:X.calm=true)(B:BlkOk X scope x caps)(hi:PI X tgt iter wi)(hG:∀ cl C s H ex,PG (Zr X scope (ZZ X x caps) cl C s H ex) tgt tg)
  (hI:∀ cl C s H ex,PIfs (Zr X scope (ZZ X x caps) cl C s H ex) ifs tc) (hE:∀ cl C s H ex,PE (Zr X scope (ZZ X x caps) cl C s H ex) elt te)
  (hs:∀ x,foldedSetIterable iter X.env x=pure x:=by intro _;rfl)
  (hsw:swapsWith (.ListComp elt [⟨tgt,iter,ifs,0⟩] scope pos) (some (.Name y py)) spos.line X.env=pure true:=by rfl)
  (hf:X.fn y=true∨X.env.scope.names.lookup y=some .local:=by first|exact .inl rfl|exact .inr rfl|assumption) :
  PS X (.Assign [.Name y py] (.ListComp elt [⟨tgt,iter,ifs,0⟩] scope pos) spos) (FJ (Ab wi x.length caps tg tc te) (Ca i)):=by
 intro pins s σ H D I h;obtain⟨cl,hcl,c1,c2⟩:=Yx (scope:=scope) (env:=X.env) fun y hy e=>I.ok.has y.1 (.inl (B.frees y hy e));rw[exec_Assign_Name_used _ _ _ _ hsw];refine wpAny_bind (wpAny_standAt (wpAny_bind ?_));show wpAny _ X.A (do let _←comprehension (.ListComp elt [⟨tgt,iter,ifs,0⟩] scope pos) scope X.env _ (newList []) false (eval iter X.env) (some (assign (.Name y py) X.env))) _ _ s;refine wpAny_bind (wpAny_mono (wpAny_comprehension_free (use:=some (assign (.Name y py) X.env)) (Q:=fun _ s'=>SP X pins D .next s') rfl hs hcl B.kind B.locs
   (thn (hi pins s σ H _ I h) fun v s1 h1=>thn h1 fun itv s2 h2=>?_)) (fun _ s' hq=>wpAny_pure (wpAny_pure hq)) fun _ _ e=>e)
 obtain⟨it,fp,tn,J,H2,e,I2,T,st2,f2,W,⟨m0,w0⟩,cw⟩:=h2;subst e;refine Wp (RR:=fun acc C=>compPost (model X.prog X.w) X.A X.xe (some (assign (.Name y py) X.env)) (fun _ s'=>SP X pins D .next s') acc C) hc B I2 T st2 f2 c1 c2 hI hE hG w0 cw ?_;intro Dd C s' H' ys m hD hn fC I' fin;obtain⟨q1,q2,q3,q4,q5,q6⟩:=fC;show wpAny _ _ (assign (.Name y py) X.env (.ref Dd)) _ _ _;refine wpAny_assign_Name (WH I' hN hi' hy (v:=.ref Dd) rfl (fun s2 I2 ⟨a,hs2,ha⟩=>?_) hf);have ne:C≠a:=by
  rcases ha with z|z
  ·rw[z];exact q2
  ·exact(q5 y a z).symm
 refine⟨m,hn.sameBut hs2 ne,fun h' hs'=>?_⟩;exact⟨_,_,I2.turned (t':=s2.toks) (fun b o hb e=>hs'.extBut b o hb e) q1 q2 q4 q5 q6,fin Dd hD⟩
end
mutual
inductive IsD (K:PySem.W.Frag) (H:Hp):V→PyData→Prop
 |non:IsD K H .non .none
 |bl (b:Bool):IsD K H (.bl b) (.bool b)
 |int (i:Int):IsD K H (.int i) (.int i)
 |str (x:Str):IsD K H (.str x) (.str x)
 |lst {a:Addr}{xs:List V}{ds:List PyData}:SqL K H a xs→IsDs K H xs ds→IsD K H (.ref a) (.list ds)
 |tup {a:Addr}{xs:List V}{ds:List PyData}:SqT K H a xs→IsDs K H xs ds→IsD K H (.ref a) (.tuple ds)
inductive IsDs (K:PySem.W.Frag) (H:Hp):List V→List PyData→Prop
 |nil:IsDs K H [] []
 |cons {x:V}{xs:List V}{d:PyData}{ds:List PyData}:IsD K H x d→IsDs K H xs ds→IsDs K H (x::xs) (d::ds)
end
section
variable {X:Cx}{pins:List (Addr×Obj)}{σ:St}{H:Hp}{s:Shared}
mutual
theorem IsD.reads(I:Inv X pins σ H s):∀ {v:V}{d:PyData}{u:Value},IsD X.K H v d→RelV v u→∃ as,Reads s.heap u d as
 |_,_,_,.non,r=>by cases r;exact⟨_,.none⟩
 |_,_,_,.bl b,r=>by cases r;exact⟨_,.bool b⟩
 |_,_,_,.int i,r=>by obtain⟨t,rfl⟩:=r;exact⟨_,.int i t⟩
 |_,_,_,.str x,r=>by obtain⟨t,rfl⟩:=r;exact⟨_,.str x t⟩
 |_,_,_,.lst q qs,r=>by cases r;obtain⟨its,rv,⟨o,n,e,c,_,d⟩,_⟩:=I.list q;obtain⟨as,ra⟩:=IsDs.reads I qs rv;exact⟨_,.list e c d (by simpa using ra)⟩
 |_,_,_,.tup q qs,r=>by cases r;obtain⟨its,rv,⟨o,e,c,n,d⟩,_⟩:=I.tuple q;obtain⟨as,ra⟩:=IsDs.reads I qs rv;exact⟨_,.tuple e c d (by simpa using ra)⟩
theorem IsDs.reads(I:Inv X pins σ H s):∀ {vs:List V}{ds:List PyData}{us:List Value},IsDs X.K H vs ds→Vals vs us→∃ as,ReadsAll s.heap us ds as
 |_,_,_,.nil,.nil=>⟨_,.nil⟩
 |_,_,_,.cons q qs,.cons r rs=>by obtain⟨as,ra⟩:=IsD.reads I q r;obtain⟨bs,rb⟩:=IsDs.reads I qs rs;exact⟨_,.cons ra rb⟩
end
end
theorem Same.sqT{K:PySem.W.Frag}{H H':Hp}{a:Addr}{xs:List V}(e:Same H H')(h:SqT K H a xs):SqT K H' a xs:=by
 rcases h with(h|⟨o,h⟩)|h
 ·exact .inl (.inl (e _ _ h))
 ·exact .inl (.inr ⟨o,e _ _ h⟩)
 ·exact .inr h
mutual
theorem IsD.same{K:PySem.W.Frag}{H H':Hp}(e:Same H H'):∀ {v:V}{d:PyData},IsD K H v d→IsD K H' v d
 |_,_,.non=>.non
 |_,_,.bl b=>.bl b
 |_,_,.int i=>.int i
 |_,_,.str x=>.str x
 |_,_,.lst q qs=>.lst (e.seq q) (IsDs.same e qs)
 |_,_,.tup q qs=>.tup (e.sqT q) (IsDs.same e qs)
theorem IsDs.same{K:PySem.W.Frag}{H H':Hp}(e:Same H H'):∀ {vs:List V}{ds:List PyData},IsDs K H vs ds→IsDs K H' vs ds
 |_,_,.nil=>.nil
 |_,_,.cons q qs=>.cons (IsD.same e q) (IsDs.same e qs)
end
theorem IsDs.ints{K:PySem.W.Frag}{H:Hp}:∀ ns:List Int,IsDs K H (ns.map V.int) (ns.map PyData.int)
 |[]=>.nil
 |n::ns=>.cons (.int n) (IsDs.ints ns)
theorem IsDs.length{K:PySem.W.Frag}{H:Hp}:∀ {vs:List V}{ds:List PyData},IsDs K H vs ds→vs.length=ds.length
 |_,_,.nil=>rfl
 |_,_,.cons _ t=>by rw[qB,qB,IsDs.length t]
theorem IsDs.get{K:PySem.W.Frag}{H:Hp}:∀ {vs:List V}{ds:List PyData}{i:Nat}{v:V},IsDs K H vs ds→vs[i]?=some v→∃ d,ds[i]?=some d∧IsD K H v d
 |_,_,_,_,.nil,e=>by simp at e
 |_,_,0,_,.cons q _,e=>by simp at e;subst e;exact⟨_,rfl,q⟩
 |_,_,i+1,v,.cons _ t,e=>by obtain⟨d,h1,h2⟩:=IsDs.get (i:=i) (v:=v) t (by simpa using e);exact⟨d,by simpa using h1,h2⟩
theorem IsDs.append{K:PySem.W.Frag}{H:Hp}:∀ {xs ys:List V}{ds es:List PyData},IsDs K H xs ds→IsDs K H ys es→IsDs K H (xs++ys) (ds++es)
 |_,_,_,_,.nil,h=>h
 |_,_,_,_,.cons q t,h=>.cons q (IsDs.append t h)
section
variable {X:Cx}
def F4 (K:PySem.W.Frag):R2:=fun x y H Q=>∃ d e,IsD K H x d∧IsD K H y e∧SeqAt.shaped d=true∧SeqAt.shaped e=true∧Q (.bl (PyData.eqv d e)) H
def Dr (K:PySem.W.Frag):R2:=fun x y H Q=>∃ d e,IsD K H x d∧IsD K H y e∧SeqAt.shaped d=true∧SeqAt.shaped e=true∧Q (.bl (!PyData.eqv d e)) H
theorem Dg(hu:X.A.units+64<cLine):OpR X (compareOp .Eq) (F4 X.K):=by intro pins s σ H x y v u Q I rx ry h;obtain⟨d,e,hd,he,sd,se,q⟩:=h;obtain⟨as,ra⟩:=hd.reads I rx;obtain⟨bs,rb⟩:=he.reads I ry;exact SeqAt.compareEq_shaped ra rb sd se hu ⟨.bl _,H,I,rfl,q⟩
theorem Ua(hu:X.A.units+64<cLine):OpR X (compareOp .NotEq) (Dr X.K):=by intro pins s σ H x y v u Q I rx ry h;obtain⟨d,e,hd,he,sd,se,q⟩:=h;obtain⟨as,ra⟩:=hd.reads I rx;obtain⟨bs,rb⟩:=he.reads I ry;exact SeqAt.compareNe_shaped ra rb sd se hu ⟨.bl _,H,I,rfl,q⟩
inductive TyV (K:PySem.W.Frag) (H:Hp):V→Value→Prop
 |of {x:V}{t:Value}:TyOf K H x t→TyV K H x t
 |tup {a:Addr}{xs:List V}:SqT K H a xs→TyV K H (.ref a) (.type "tuple")
 |lst {a:Addr}{xs:List V}:SqL K H a xs→TyV K H (.ref a) (.type "list")
theorem TyV.int {K:PySem.W.Frag}{H:Hp}(i:Int):TyV K H (.int i) (.type "int"):=.of (.int i)
theorem UX:CallR X (.builtin "isinstance") (fun xs H Q=>∃ x T t b,xs=[x,.ty T]∧TyV X.K H x t∧PySem.W.kitOne X.K t (.type T)=some b∧Q (.bl b) H):=by
 intro pins s σ H xs us Q I r h;obtain⟨x,T,t,b,rfl,ty,e,q⟩:=h;obtain⟨u,v,rfl,ru,rv⟩:=Mv r;cases rv;cases ty with
 |of ty=>exact Nu I ru ty e fun tk=>⟨.bl b,H,I.tok tk,rfl,q⟩
 |tup hq =>cases ru;obtain⟨its,_,⟨o,h1,h2,_⟩,_⟩:=I.tuple hq;exact PySem.W.kia_one PySem.W.kitx_tuple I.kIn ⟨o,h1,h2⟩ e (fun z=>nomatch z) fun tk=>⟨.bl b,H,I.tok tk,rfl,q⟩
 |lst hq =>cases ru;obtain⟨its,_,⟨o,n,h1,h2,_⟩,_⟩:=I.list hq;exact PySem.W.kia_one PySem.W.kitx_list I.kIn ⟨o,h1,h2⟩ e (fun z=>nomatch z) fun tk=>⟨.bl b,H,I.tok tk,rfl,q⟩
theorem UU (hc:X.calm=true):CallR X (.builtin "all") (fun xs H Q=>∃ p,∃ bs:List Bool,xs=[.ref p]∧SqL X.K H p (bs.map V.bl)∧Q (.bl (bs.all id)) H):=by
 intro pins s σ H xs us Q I r h;obtain⟨p,bs,rfl,hq,q⟩:=h;obtain⟨u,rfl,rx⟩:=ZN r;cases rx;obtain⟨its,rv,pl,hz⟩:=I.list hq;have hlen:=rv.length;rw[qA]at hlen;have hlt:p<s.heap.objs.size:=by obtain⟨o,n,e,_⟩:=pl;exact Heap.lt_size e
 refine call_all_walk (wpAny_pyIter_list pl.isList ?_);refine⟨s.heap.objs.size,_,_,its.toArray.size,_,_,fun i=>bs.getD i true,rfl,Walks.list (A:=X.A.in1) (I.ok.hd hc) s.heap.objs.size p (zF hlt) its.toArray,⟨⟨_,Heap.get?_push_size _ rfl,rfl,rfl⟩,pl.isList.push _⟩,?_,fun h' tk hk=>?_⟩
 ·intro i v s' Q' E' hP hQ;have hP:its[i]?=some v:=by simpa using hP
  have hb:(bs.map V.bl)[i]?=some (.bl (bs.getD i true)):=by
   have hi:i<bs.length:=by have:=(qK.mp hP).1;omega
   rw[qF,qN];simp[hi]
  obtain⟨u,hu,ru⟩:=rv.get hb;rw[hP]at hu;cases hu;cases ru;exact wpAny_truthy_bool hQ
 ·have e:(List.range its.toArray.size).all (fun i=>bs.getD i true)=bs.all id:=by
   rw[qC,←hlen,Bool.eq_iff_iff,List.all_eq_true,List.all_eq_true];constructor
   ·intro h b hb;obtain⟨i,hi,rfl⟩:=List.mem_iff_getElem.mp hb;have:=h i (List.mem_range.mpr hi);rw[qN,qH hi]at this;exact this
   ·intro h i hi;have hi:=List.mem_range.mp hi;rw[qN,qH hi];exact h _ (List.getElem_mem hi)
  rw[e];refine⟨.bl _,H,I.kept (t':=tk) (fun b o e=>hk b o (fun hm=>?_) (Heap.get?_push_of_some _ e)),rfl,q⟩;have:b=s.heap.objs.size:=by simpa using hm
  exact absurd (this▸Heap.lt_size e) (zK _)
def sortI (ns:List Int):List Int:=ns.mergeSort fun a b=>decide (a≤b)
theorem YD(ns:List Int):(sortI ns).Perm ns:=List.mergeSort_perm ns _
theorem JO(ns:List Int):(sortI ns).Pairwise (·≤·):=by have h:=List.pairwise_mergeSort (le:=fun a b:Int=>decide (a≤b)) (fun a b c h1 h2=>by simp at *;omega) (fun a b=>by simp;omega) ns;exact h.imp fun h=>by simpa using h
theorem Yj{ns ms:List Int}(hp:ms.Perm ns)(hs:ms.Pairwise (·≤·)):ms=sortI ns:=PySem.W.ksm_same (hp.trans (YD ns).symm) hs (JO ns)
theorem Wg{ns ms:List Int}(hp:ms.Perm ns):sortI ms=sortI ns:=Yj ((YD ms).trans hp) (JO ms)
theorem Yd(ns:List Int):(sortI ns).length=ns.length:=(YD ns).length_eq
theorem Yk:∀ {vs:List Value}{ns:List Int},IntsAre vs ns→Vals (ns.map V.int) vs:=Y9
theorem call_sorted:CallR X (.builtin "sorted") (fun xs H Q=>∃ p,∃ ns:List Int,xs=[.ref p]∧SqL X.K H p (ns.map V.int)∧ns.length<64∧∀ l,H l=none→Q (.ref l) (upd H l (.lst ((sortI ns).map V.int)))):=by intro pins s σ H xs us Q I r h;obtain⟨p,ns,rfl,hq,h64,q⟩:=h;obtain⟨u,rfl,rx⟩:=ZN r;cases rx;obtain⟨its,rv,pl,hz⟩:=I.list hq;have hlen:=rv.length;rw[qA]at hlen;refine sorted_ints pl.isList (Zz rv) (by omega) fun out ns' a1 a2 a3=>?_;have e:=Yj a2 a3;subst e;obtain⟨n,he⟩:=sortedAll_at s.heap its out;refine⟨.ref (s.heap.objs.size+1),_,I.laid (a:=s.heap.objs.size+1) (o:=.lst ((sortI ns).map V.int)) (t':=s.toks) (fun b o e=>sortedAll_old e) (Nat.le_succ _) ?_,rfl,q _ (I.hok.fresh (Nat.le_succ _))⟩;exact⟨by rw[qA,Yd];rw[qA]at hz;exact hz,out.toList,n,Yk a1,by simpa[seqObj]using he⟩
theorem UL:CallR X (.type "set") (fun xs H Q=>∃ p,∃ ns:List Int,xs=[.ref p]∧SqL X.K H p (ns.map V.int)∧ns.length<4000∧X.calm=true∧
    ∀ l S n,H l=none→n=(firstMet (fun i=>ns.getD i 0) ns.length).length→Q (.ref l) (upd H l (.set S n))):=by
 intro pins s σ H xs us Q I r h;obtain⟨p,ns,rfl,hq,h4,hc,q⟩:=h;obtain⟨u,rfl,rx⟩:=ZN r;cases rx;obtain⟨its,rv,pl,hz⟩:=I.list hq;have hlen:=rv.length;rw[qA]at hlen;refine call_set_list (I.ok.hd hc) pl.isList (by simpa using Zz rv) (by rw[qC];show its.length+1<4096;omega) fun h' tk hS hk=>?_;refine⟨.ref s.heap.objs.size,_,I.laid (a:=s.heap.objs.size) (o:=.set _ _) (t':=tk) (fun b o e=>hk b o (Heap.lt_size e) e) (zG _) hS,rfl,q _ _ _ (I.hok.fresh (zG _)) ?_⟩;rw[qC,hlen]
theorem NM:CallR X (.builtin "len") (fun xs H Q=>∃ p S n,xs=[.ref p]∧H p=some (.set S n)∧Q (.int n) H):=by
 intro pins s σ H xs us Q I r h;obtain⟨p,S,n,rfl,hq,q⟩:=h;obtain⟨u,rfl,rx⟩:=ZN r;cases rx;obtain⟨o,es,ep,t,e,hex,hd,_,_,hb,hf,hn⟩:=(show ObjOk X.prog X.w H s.heap p (.set S n) from I.hok p _ hq)
 subst hn;exact call_len_set e hex hd hf (by have:es.size<4096:=hb;omega) ⟨.int _,H,I.tok _,⟨_,rfl⟩,q⟩
def Ly (K:PySem.W.Frag) (te:TE):TE:=fun σ H Q=>te σ H fun x H1=>∃ a xs,x=.ref a∧SqL K H1 a xs∧∀ p,H1 p=none→Q (.ref p) (upd H1 p (.lst xs.reverse))
theorem CP {e:Expr}{te:TE}{k:Nat}{p0 p1 p2 pos:Pos}(he:PE X e te):PE X (.Subscript e (.Slice none none (some (.UnaryOp .USub (.Constant (.int 1) k p0) p1)) p2) pos) (Ly X.K te):=by intro pins s σ H Q I h;refine Subscript_ (thn (he pins s σ H _ I h) fun v s1 ⟨x,H1,I1,r1,q1⟩=>?_);obtain⟨a,xs,rfl,hx,q⟩:=q1;cases r1;refine wpAny_Slice ?_;rw[evalPart_none];refine wpAny_pure (wpAny_pure ?_);rw[evalPart_some];refine thn ((Cr (X:=X) (pos:=p1) Uw (Ug (i:=1) (j:=k) (pos:=p0))) pins s1 σ H1 (fun y H2=>y=.int (-1)∧H2=H1) I1 ⟨1,rfl,rfl,rfl⟩) fun vk s3 ⟨y,H3,I3,r3,e3,e3'⟩=>?_;subst e3 e3';obtain⟨tk,rfl⟩:=r3;have I4:Inv X pins σ H3 {s3 with heap:=s3.heap.push {cls:=.type "slice",data:=.fields #[.none,.none,.int (-1) tk]}}:=I3.kept (t':=s3.toks) fun b ob q=>Heap.get?_push_of_some _ q;obtain⟨its,r,ht,hz⟩:=I4.list hx;have hlen:=r.length;show wpAny (model X.prog X.w) X.A (subscriptTail e (.Slice none none (some (.UnaryOp .USub (.Constant (.int 1) k p0) p1)) p2) (.ref a) (.ref s3.heap.objs.size)) (EP X pins σ Q) X.xe {s3 with heap:=s3.heap.push {cls:=.type "slice",data:=.fields #[.none,.none,.int (-1) tk]}};refine tail_any (ops:=[.ref a,.ref s3.heap.objs.size]) ht.isList.typeIs slot_list_getitem.lookup ?_ (by with_unfolding_all rfl);refine wpAny_getItem_list_slice ht.isList (Heap.IsSliceOf.new ..) .none .none (.int (-1) tk) (by decide) ?_ (by rw[qC]<;>omega);rw[PySem.W.krv_pick];refine⟨.ref _,_,I4.laid (a:=_) (t':=s3.toks) (o:=.lst xs.reverse) (fun b ob q=>Heap.get?_push_of_some _ q) (zG _) ?_,rfl,q _ (I4.hok.fresh (zG _))⟩;exact⟨by rw[List.length_reverse];exact hz,its.reverse,0,r.reverse,Heap.get?_push_size _ rfl⟩
end
section
variable {X:Cx}{x:Str}{p pos:Pos}{e:Expr}{es:List Expr}{t:TA}
theorem F5 {T:String}(hg:Gl X x) (hm:X.mg x=none) (hv:bootBuiltins x=some (.type T)) (hn:x≠"__name__":=by decide) (hd:(x==("__debug__" : Str))=false:=by decide):PE X (.Name x pos) (tC (.ty T)):=AE hg hm hv rfl hn hd
end
def Z7 (scope sc:Scope) (N:List Str) (x:List Str) (caps:List Nat):Bool :=
 scope.names.all (fun y=>y.2 != .cell)&&scope.names.all (fun y=>y.2 != .local||scope.names.lookup y.1==some .local)&&x.all (fun y=>scope.names.lookup y==some .local) &&
 scope.names.all (fun y=>y.2 != .free||sc.names.lookup y.1==some .cell) &&
 caps.all (fun j=>decide (j<N.length)&&sc.names.lookup (N.getD j Str.empty)==some .cell&&scope.names.lookup (N.getD j Str.empty)==some .free)&&decide (x++caps.map fun j=>N.getD j Str.empty).Nodup
theorem K9{X:Cx}{scope sc:Scope}{x:List Str}{caps:List Nat}{N:List Str}(hsc:X.env.scope=sc)(hN:X.N=N)(hk:scope.kind=.function)(h:Z7 scope sc N x caps=true):BlkOk X scope x caps:=by
 unfold Z7 at h;simp only[bAq]at h;obtain⟨⟨⟨⟨⟨h1,h2⟩,h3⟩,h4⟩,h5⟩,h6⟩:=h;rw[List.all_eq_true]at h1 h2 h4 h5;refine⟨hk,fun y hy=>by simpa using h1 y hy,fun y hy e=>?_,fun y hy=>by simpa using List.all_eq_true.mp h3 y hy,fun y hy e=>?_,fun j hj=>?_,?_⟩
 ·have:=h2 y hy;rw[e]at this;simpa using this
 ·have:=h4 y hy;rw[e]at this;show X.env.scope.names.lookup y.1=_;rw[hsc];simpa using this
 ·have:=h5 j hj;simp only[bAq,decide_eq_true_eq,beq_iff_eq]at this;obtain⟨⟨a,b⟩,c⟩:=this;refine⟨?_,?_,?_⟩
  ·rw[hN,qH a];rfl
  ·show X.env.scope.names.lookup _=_;rw[hsc,hN];exact b
  ·rw[hN];exact c
 ·unfold ZZ;rw[hN];exact of_decide_eq_true h6
def Keep (r:Addr) (H H':Hp):Prop:=∀ b o,H b=some o→b≠r→H' b=some o
theorem Same.keep{H H':Hp}(e:Same H H')(r:Addr):Keep r H H':=fun b o h _=>e b o h
theorem Keep.refl(r:Addr)(H:Hp):Keep r H H:=fun _ _ h _=>h
theorem Keep.trans{r:Addr}{H H1 H2:Hp}(a:Keep r H H1)(b:Keep r H1 H2):Keep r H H2:=fun c o h n=>b c o (a c o h n) n
theorem Keep.upd{r:Addr}{H:Hp}{o:HO}:Keep r H (L2.upd H r o):=fun b u h n=>by rw[upd_ne n];exact h
theorem Keep.free{r:Addr}{H H':Hp}(e:Keep r H H'){l:Addr}(hr:∃ o,H' r=some o)(h:H' l=Option.none):H l=Option.none:=by
 cases q:H l with
 |none=>rfl
 |some o =>
  by_cases hl:l=r
  ·subst hl;obtain⟨o',z⟩:=hr;rw[h]at z;cases z
  ·rw[e l o q hl]at h;cases h
mutual
def K4:PyData→Bool
 |.list _=>false
 |.tuple xs=>noLists xs
 |.dict _=>false
 |_=>true
def noLists:List PyData→Bool
 |[]=>true
 |x::xs=>K4 x&&noLists xs
end
theorem SqT.keep{K:PySem.W.Frag}{r a:Addr}{H H':Hp}{zs xs:List V}(k:Keep r H H')(hr:H r=some (.lst zs))(h:SqT K H a xs):SqT K H' a xs:=by
 rcases h with(h|⟨o,h⟩)|h
 ·exact .inl (.inl (k _ _ h (O9 h hr (by intro z;cases z))))
 ·exact .inl (.inr ⟨o,k _ _ h (O9 h hr (by intro z;cases z))⟩)
 ·exact .inr h
theorem SqL.keep{K:PySem.W.Frag}{r a:Addr}{H H':Hp}{xs:List V}(k:Keep r H H')(hr:a≠r)(h:SqL K H a xs):SqL K H' a xs:=by
 rcases h with(h|⟨o,h⟩)|h
 ·exact .inl (.inl (k _ _ h hr))
 ·exact .inl (.inr ⟨o,k _ _ h hr⟩)
 ·exact .inr h
mutual
theorem IsD.keep{K:PySem.W.Frag}{r:Addr}{H H':Hp}{zs:List V}(k:Keep r H H')(hr:H r=some (.lst zs)):∀ {v:V}{d:PyData},IsD K H v d→K4 d=true→IsD K H' v d
 |_,_,.non,_=>.non
 |_,_,.bl b,_=>.bl b
 |_,_,.int i,_=>.int i
 |_,_,.str x,_=>.str x
 |_,_,.lst q qs,h=>by cases h
 |_,_,.tup q qs,h=>.tup (q.keep k hr) (IsDs.keep k hr qs h)
theorem IsDs.keep{K:PySem.W.Frag}{r:Addr}{H H':Hp}{zs:List V}(k:Keep r H H')(hr:H r=some (.lst zs)):∀ {vs:List V}{ds:List PyData},IsDs K H vs ds→noLists ds=true→IsDs K H' vs ds
 |_,_,.nil,_=>.nil
 |_,_,.cons q qs,h=>by have h':=Bool.and_eq_true_iff.mp (show(K4 _&&noLists _)=true from h);exact .cons (IsD.keep k hr q h'.1) (IsDs.keep k hr qs h'.2)
end
abbrev Tie:=Int×Int×Int
def LB (t:Tie):PyData:=.tuple [.int t.1,.int t.2.1,.int t.2.2]
theorem IsD.tie{K:PySem.W.Frag}{H:Hp}{a:Addr}{x y c:Int}(h:SqT K H a [.int x,.int y,.int c]):IsD K H (.ref a) (LB (x,y,c)):=.tup h (.cons (.int x) (.cons (.int y) (.cons (.int c) .nil)))
theorem ifT{c:Bool}{A B:Prop}(e:c=true)(h:A):if c=true then A else B:=by rw[if_pos e];exact h
theorem ifF{c:Bool}{A B:Prop}(e:c=false)(h:B):if c=true then A else B:=by rw[e,if_neg Bool.false_ne_true];exact h
structure BrOk (ns:List Int):Prop where
 one:1≤ns.length
 ten:ns.length≤10
 rng:∀ n∈ns,0≤n∧n≤999
 nd:ns.Nodup
structure TieOk (ns:List Int) (t:Tie):Prop where
 a:t.1∈ns
 b:t.2.1∈ns
 ne:t.1≠t.2.1
 lo:1≤t.2.2
 hi:t.2.2≤1000
structure TsOk (ns:List Int) (ts:List Tie):Prop where
 few:ts.length≤16
 each:∀ t∈ts,TieOk ns t
def mn (x y:Int):Int:=if y<x then y else x
def mx (x y:Int):Int:=if y > x then y else x
def loT (t:Tie):Tie:=(mn t.1 t.2.1,mx t.1 t.2.1,t.2.2)
theorem BrOk.perm{ns ms:List Int}(h:BrOk ns)(p:ms.Perm ns):BrOk ms:=⟨by rw[p.length_eq];exact h.one,by rw[p.length_eq];exact h.ten,fun n hn=>h.rng n (p.mem_iff.mp hn),p.nodup_iff.mpr h.nd⟩
theorem TsOk.perm{ns ms:List Int}{ts:List Tie}(h:TsOk ns ts)(p:ms.Perm ns):TsOk ms ts:=⟨h.few,fun t ht=>let ⟨a,b,c,d,e⟩:=h.each t ht;⟨p.mem_iff.mpr a,p.mem_iff.mpr b,c,d,e⟩⟩
section
variable {X:Cx}(K:PySem.W.Frag) (h:X.K=K)
include h
end
section
variable {prog:Program}{w:World}{A:Around}{E:Value→Shared→Prop}{s:Shared}
theorem K8{it t:Addr}{i:Nat}{items:Array Value}{x:Value}{Q:Value→Shared→Prop}(hit:s.heap.IsTupleIter it t i)(ht:s.heap.IsTuple t items)(hx:items[i]?=some x)
  (hQ:∀ h',h'.IsTupleIter it t (i+1)→Heap.SameBut it s.heap h'→Q x {s with heap:=h'}):wpAny (model prog w) A (Builtin.SmallTypes.nextOf (.ref it)) Q E s:=by
 obtain⟨o,ho,hc,hd⟩:=id hit;obtain⟨ot,hot,_,nt,hdt⟩:=ht;unfold Builtin.SmallTypes.nextOf;refine wpAny_bind (wpAny_callSpecial?_slot (name:=Str.ofString "__next__") hit.typeIs F.slot_tuple_iterator_next (wpAny_call_entry F.slot_tuple_iterator_next hit.typeIs F.entry_tuple_iterator_next ?_ (F.args_tuple_iterator_next_1 _)));show wpAny _ _ (field (.ref it) 0 >>= _) _ _ s;refine wpAny_bind (wpAny_field ho hd (x:=.ref t) rfl ?_);show wpAny _ _ (if(Value.ref t==Value.none)=true then _ else _) _ _ s;rw[if_neg (show ¬ ((Value.ref t==Value.none)=true) from Bool.false_ne_true)];show wpAny _ _ (field (.ref it) 1 >>= _) _ _ s;refine wpAny_bind (wpAny_field ho hd (x:=.int i 0) rfl ?_);show wpAny _ _ (seqItems? (.ref t) >>= _) _ _ s;refine wpAny_bind (wpAny_seqItems hot hdt ?_);simp only[Int.toNat_natCast,hx];refine wpAny_bind (wpAny_setField ho hd (by simp) (wpAny_pure ⟨x,rfl,wpAny_pure (hQ _ ⟨_,Heap.get?_update_self _ ho (Obj.isFreed_of_fields (Obj.data_mapFields hd _)),(Obj.cls_mapFields ..).trans hc,?_⟩ (Heap.SameBut.update ..))⟩));rw[Obj.data_mapFields hd];simp[rawInt]
theorem Wn{it t:Addr}{i:Nat}{items:Array Value}{Q:Value→Shared→Prop}(hh:A.handled=none)(hit:s.heap.IsTupleIter it t i)(ht:s.heap.IsTuple t items)(hx:items[i]?=none)
  (hE:∀ h' e,Heap.ExtBut it s.heap h'→(∃ o,h'.get? e=some o∧o.cls=.type "StopIteration")→E (.ref e) {s with heap:=h'}):wpAny (model prog w) A (Builtin.SmallTypes.nextOf (.ref it)) Q E s:=by
 obtain⟨o,ho,hc,hd⟩:=id hit;obtain⟨ot,hot,_,nt,hdt⟩:=ht;unfold Builtin.SmallTypes.nextOf;refine wpAny_bind (wpAny_callSpecial?_slot (name:=Str.ofString "__next__") hit.typeIs F.slot_tuple_iterator_next (wpAny_call_entry F.slot_tuple_iterator_next hit.typeIs F.entry_tuple_iterator_next ?_ (F.args_tuple_iterator_next_1 _)));show wpAny _ _ (field (.ref it) 0 >>= _) _ _ s;refine wpAny_bind (wpAny_field ho hd (x:=.ref t) rfl ?_);show wpAny _ _ (if(Value.ref t==Value.none)=true then _ else _) _ _ s;rw[if_neg (show ¬ ((Value.ref t==Value.none)=true) from Bool.false_ne_true)];show wpAny _ _ (field (.ref it) 1 >>= _) _ _ s;refine wpAny_bind (wpAny_field ho hd (x:=.int i 0) rfl ?_);show wpAny _ _ (seqItems? (.ref t) >>= _) _ _ s;refine wpAny_bind (wpAny_seqItems hot hdt ?_);simp only[Int.toNat_natCast,hx];refine wpAny_bind (wpAny_rule (wpAny_bind (wpAny_setField ho hd (by simp) ?_)));show wpAny _ _ (newExc (.type "StopIteration") [] >>= _) _ _ _;refine wpAny_bind ?_;simp only[newExc,newTuple];refine wpAny_bind (wpAny_newObj_type (wpAny_bind (m:=firstArgMember _ _) (wpAny_of_eq (a:=Value.none) (by first|rfl|(simp only[firstArgMember];rfl)) (wpAny_newObj_type ?_ (by size_fits)))) (by size_fits));simp only[raiseNew];refine wpAny_bind (wpAny_handled ?_)
 first
 |rw[show A.in1.handled=none from hh]
 |rw[hh]
 exact wpAny_bind (wpAny_pure (wpAny_throw (hE _ _ (((Heap.SameBut.update ..).extBut.push _).push _) ⟨_,Heap.get?_push_size _ rfl,rfl⟩)))
end
theorem DL{prog:Program}{w:World}{A:Around}(hh:A.handled=none)(it t:Addr)(hne:t≠it)(items:Array Value) :
  Draws prog w A it [it,t] items.size (fun i v=>items[i]?=some v) (fun i h=>h.IsTupleIter it t i∧h.IsTuple t items) where
 live:=fun _ _ st=>let ⟨o,ho,_⟩:=st.1;⟨o,ho⟩
 frame:=fun _ _ _ st hk=>⟨st.1.at fun o e=>hk it (by simp) o e,st.2.at fun o e=>hk t (by simp) o e⟩
 item:=fun i s Q E hi st hQ=>K8 st.1 st.2 (x:=items[i]) (by simp[hi]) fun h' hit' hs'=>hQ _ h' s.toks (by simp[hi]) ⟨hit',st.2.extBut hs'.extBut hne⟩ hs'
 done:=fun s Q E st hE=>Wn hh st.1 st.2 (by simp) hE
open AutoSeq1 (wpAny_loadPart') in
theorem EN(l:Addr)(items:Array Value)(n:Nat)(dct:Option Addr)(sl:Array (Option Value)) :
  Meets (Builtin.«enumerate.__new__» ⟨[.type "enumerate",.ref l],[]⟩) (fun _ R s=>s.heap.get? l=some { cls:=.type "tuple",dict:=dct,data:=.seq items n,slots:=sl }∧
    R (.ok (.ret (.ref (s.heap.push {cls:=.type "tuple_iterator",data:=.fields #[.ref l,.int 0 0]}).objs.size)))
      { s with heap:=(s.heap.push { cls:=.type "tuple_iterator",data:=.fields #[.ref l,.int 0 0] }).push { cls:=.type "enumerate",data:=.fields #[.none,.bool false,.ref s.heap.objs.size,rawInt 0,.none,.none] } }) :=
 .of_wp fun prog w A R s h=>by
  obtain⟨hp,g,d,tk,os⟩:=s;obtain⟨hl,h⟩:=h;have hsub:=sub_enumerate;have hL:Heap.IsTuple (Shared.heap ⟨hp,g,d,tk,os⟩) l items:=⟨_,hl,rfl,n,rfl⟩
  wp_walk using wpAny_loadPart' hl
  refine wpAny_stack_any fun st=>wpAny_pure ?_;split
  ·rename_i c _ _ _ _ _;cases (c==Value.type "enumerate")<;>(wp_walk using wpAny_loadPart' hl,wpAny_pyIter_tuple hL;exact⟨_,rfl,h⟩)
  ·wp_walk using wpAny_loadPart' hl,wpAny_pyIter_tuple hL;exact⟨_,rfl,h⟩
theorem KS{prog:Program}{w:World}{A:Around}{E:Value→Shared→Prop}{s:Shared}{l:Addr}{items:Array Value}{Q:Value→Shared→Prop}(hL:s.heap.IsTuple l items)
  (h:∀ h',IsEnum h' (s.heap.objs.size+1) s.heap.objs.size 0 .none→h'.IsTupleIter s.heap.objs.size l 0→(∀ b o,s.heap.get? b=some o→h'.get? b=some o)→Q (.ref (s.heap.objs.size+1)) {s with heap:=h'}) :
  wpAny (model prog w) A (call (.type "enumerate") [.ref l]) Q E s:=by
 obtain⟨⟨c,dct,dt,sl⟩,hl,hc,n,hd⟩:=hL;simp only at hc hd;subst hc hd;refine callType_new F.called_enumerate (by decide) (F.typeCall_enumerate_1 _) (F.newCall_enumerate_1 _) (fun obj=>F.args_object_init_2 obj _) F.entry_enumerate_new (EN l items n dct sl) ⟨hl,?_⟩;have hz:(s.heap.push {cls:=.type "tuple_iterator",data:=.fields #[.ref l,.int 0 0]}).objs.size=s.heap.objs.size+1:=Heap.size_push ..;have hg:=Heap.get?_push_size (s.heap.push {cls:=.type "tuple_iterator",data:=.fields #[.ref l,.int 0 0]}) (o:={cls:=.type "enumerate",data:=.fields #[.none,.bool false,.ref s.heap.objs.size,rawInt 0,.none,.none]}) rfl;rw[hz]at hg;show _∧_;rw[hz];exact⟨⟨_,hg,rfl⟩,h _ hg ⟨_,Heap.get?_push_of_some _ (Heap.get?_push_size _ rfl),rfl,rfl⟩ fun b o x=>Heap.get?_push_of_some _ (Heap.get?_push_of_some _ x)⟩
section
variable {X:Cx}{pins:List (Addr×Obj)}{σ:St}{H:Hp}{s:Shared}{h':Heap}
theorem Inv.turnedL{t':Nat}{ch:List Addr}(I:Inv X pins σ H s)(k:∀ b o,b∉ch→s.heap.get? b=some o→h'.get? b=some o)(hc:∀ b∈ch,Xc X pins H b):Inv X pins σ H {s with heap:=h',toks:=t'}:=by
 have nit:∀ b u,H b=some u→b∉ch:=fun b u e z=>by rw[(hc b z).1]at e;cases e
 refine I.step (g':=s.gens) (d':=s.drawn) (ch:=ch) (fun b hb=>?_) (fun b o _ _ hcb e _=>k b o hcb e) (fun b o _ _ hcb e _=>⟨o.slots,k b o hcb e⟩) (fun _ _ _ _ n=>n)
  (fun b o hcb e=>⟨o,k b o hcb e⟩) (fun _ _ e=>e) (fun _ _ _ e=>e) (fun b ps e=>⟨#[],by rw[e];simp⟩) (fun m hm=>?_) (fun b u e=>?_) I.bare
 ·obtain⟨_,q2,_,q4,q5,q6⟩:=hc b hb;exact⟨q4,q2,q5,q6⟩
 ·obtain⟨o,es,ep,ho,r⟩:=hm;exact⟨o,es,ep,k _ o (fun z=>(hc _ z).2.1 rfl) ho,r⟩
 ·refine(I.hok b u e).stay (fun c v hcc q=>k c v ?_ q) (fun _ q=>q) fun _ _ q=>q;rcases hcc with z|z
  ·rw[z];exact nit b u e
  ·exact nit c _ z
theorem Inv.track{T:Addr}{o:HO}(I:Inv X pins σ H s)(hT:H T=none)(h0:X.s₀.heap.objs.size≤T)(hL:T≠X.env.locals)(hcl:∀ x c,X.env.cells.lookup x=some c→c≠T)(hp:∀ p∈X.pn++pins,p.1≠T)
  (new:ObjOk X.prog X.w (upd H T o) s.heap T o):Inv X pins σ (upd H T o) s:=by
 have neT:∀ b ob,X.s₀.heap.get? b=some ob→b≠T:=fun b ob e=>zF (qR (Heap.lt_size e) h0);refine⟨I.ok,I.os,I.bare,⟨I.base.keep,I.base.slot,fun b ob e n hx=>?_,I.base.there,fun b xs e=>?_,fun b ob xs e=>?_,fun b ps e=>?_⟩,I.loc,I.cell,?_,fun x c e=>?_,fun p hpp=>?_,I.hok.track hT new,I.len⟩
 ·rw[upd_ne (neT b ob e)];exact I.base.free b ob e n hx
 ·have q:=I.base.tups b xs e;rw[upd_ne (Zj q hT)];exact q
 ·have q:=I.base.frzs b ob xs e;rw[upd_ne (Zj q hT)];exact q
 ·obtain⟨m,q⟩:=I.base.tbls b ps e;exact⟨m,by rw[upd_ne (Zj q hT)];exact q⟩
 ·rw[upd_ne hL.symm];exact I.free
 ·rw[upd_ne (hcl x c e)];exact I.freeC x c e
 ·obtain⟨a,b,c,d,e⟩:=I.pin p hpp;exact⟨a,by rw[upd_ne (hp p hpp)];exact b,c,d,e⟩
end
def Ite (K:PySem.W.Frag) (a:Addr):It :=
 ⟨fun i H=>∃ xs x,SqT K H a xs∧xs[i]?=some x,fun i H v H'=>∃ p,v=.ref p∧H p=none∧∀ xs x,SqT K H a xs→xs[i]?=some x→H'=upd H p (.tup [.int i,x]),fun i H=>∃ xs,SqT K H a xs∧xs.length≤i⟩
theorem Ks{P:Program}{w:World}{K:PySem.W.Frag}{es:List Expr}{kk:Nat}{tp:Pos}(a it e:Addr)(hne:e≠it) :
  Turn P w K (.Tuple es kk tp) (Ite K a) [e,it] e (fun i h=>(∃ old,IsEnum h e it i old)∧h.IsTupleIter it a i) where
 mem:=by simp
 obj:=fun i h st b hb=>by
  obtain⟨⟨old,h1⟩,o2,e2,_,d2⟩:=st;rcases qE.mp hb with q|q
  ·subst q;exact⟨_,h1,fun v z=>by cases z⟩
  ·have q:b=it:=by simpa using q
   subst q;exact⟨o2,e2,fun v z=>by rw[d2]at z;cases z⟩
 keep:=fun i h h' st k=>⟨let ⟨old,h1⟩:=st.1;⟨old,k e (by simp) _ h1⟩,st.2.at fun o q=>k it (by simp) o q⟩
 item:=by
  intro X hP hw hK hc i pins s σ H E I hf st hg;subst hP hw hK;obtain⟨xs,x,hq,hx⟩:=hg;obtain⟨its,rv,pl,hz⟩:=I.tuple hq;obtain⟨u,hu,ru⟩:=rv.get hx;have hsz:=rv.length;have hi:i<its.toArray.size:=by rw[qC];exact(qK.mp hu).1
  obtain⟨⟨old,h1⟩,h2⟩:=st;have hfi:=hf it (by simp);have hai:a≠it:=fun z=>by obtain⟨o,ho,hcl,_⟩:=h2;obtain⟨o',ho',hcl',_⟩:=pl;rw[z,ho]at ho';cases ho';rw[hcl]at hcl';exact absurd (Value.type.inj hcl') (by decide)
  have hae:e∉[it,a]:=fun z=>by
   rcases qE.mp z with z|z
   ·exact hne z
   ·have z:e=a:=by simpa using z
    obtain⟨o',ho',hcl',_⟩:=pl;rw[←z,h1]at ho';cases ho';exact absurd (Value.type.inj hcl') (by decide)
  refine wpAny_pyNext_enum_itemD (DL (A:=X.A.in1) (I.ok.hd hc) it a hai its.toArray) h1 ⟨h2,pl⟩ hi hne hae fun v h3 tk hv hout hst3 hT _ hk=>?_;have ev:v=u:=by
   have hv:its[i]?=some v:=by simpa using hv
   rw[hu]at hv;exact(Option.some.inj hv).symm
  subst ev;have nT:∀ b∈[e,it],s.heap.objs.size≠b:=fun b hb z=>by
   rcases qE.mp hb with q|q
   ·exact absurd (Heap.lt_size h1) (by rw[←q,←z];exact zK _)
   ·have q:b=it:=by simpa using q
    obtain⟨o,ho,_⟩:=h2;exact absurd (Heap.lt_size ho) (by rw[←q,←z];exact zK _)
  have hfr:=I.fpOk (H':=H) (zG s.heap.objs.size) I.fresh;refine⟨.ref s.heap.objs.size,rfl,wpAny_letOwnedTupleGo_enum hout fun h4 he4 hs4=>?_⟩;have I4:Inv X pins σ H {s with heap:=h4,toks:=tk+1}:=I.turnedL (t':=tk+1) (ch:=[e,it]) (fun b o hb q=>hs4.extBut b o (fun z=>hb (by simp[z])) (hk b o (fun z=>hb (by simp[z])) (fun z=>hb (by simp[z])) q)) hf;have hT4:h4.get? s.heap.objs.size=some {cls:=.type "tuple",data:=.seq #[.int i tk,v]}:=hs4.extBut _ _ (nT e (by simp)) hT;obtain⟨f0,f1,f2,f3,f4,f5⟩:=hfr;have I5:Inv X pins σ (upd H s.heap.objs.size (.tup [.int i,x])) {s with heap:=h4,toks:=tk+1}:=I4.track f0 I.sz f1 f4 f5 ⟨by show 2≤sizeLine;decide,[.int i tk,v],.cons ⟨tk,rfl⟩ (.cons ru .nil),_,hT4,rfl,_,rfl⟩;refine⟨.ref s.heap.objs.size,_,I5,rfl,⟨s.heap.objs.size,rfl,f0,fun ys y hy hyi=>?_⟩,⟨⟨v,by simpa using he4⟩,hst3.1.at fun o q=>hs4.extBut it o (Ne.symm hne) q⟩,fun b hb=>?_⟩
  ·have ey:ys=xs:=I.tuple_inj hy hq;rw[ey,hx]at hyi;rw[Option.some.inj hyi]
  ·rw[upd_ne (nT b hb).symm];exact(hf b hb).1
 done:=by
  intro X hP hw hK hc i pins s σ H E I hf st hg;subst hP hw hK;obtain⟨xs,hq,hx⟩:=hg;obtain⟨its,rv,pl,hz⟩:=I.tuple hq;have hl:=rv.length;obtain⟨⟨old,h1⟩,h2⟩:=st;have hai:a≠it:=fun z=>by obtain⟨o,ho,hcl,_⟩:=h2;obtain⟨o',ho',hcl',_⟩:=pl;rw[z,ho]at ho';cases ho';rw[hcl]at hcl';exact absurd (Value.type.inj hcl') (by decide)
  have hT:s.TypeIs (.ref e) "enumerate":=⟨_,h1,rfl⟩
  unfold pyNext;refine wpAny_bind (wpAny_attempt (wpAny_callSpecial?_slot (name:=Str.ofString "__next__") hT F.slot_enumerate_next (wpAny_call_entry F.slot_enumerate_next hT F.entry_enumerate_next ?_ (F.args_enumerate_next_1 _))));show wpAny _ _ (field (.ref e) 2 >>= _) _ _ _;refine wpAny_bind (wpAny_field h1 rfl (x:=.ref it) rfl ?_);refine wpAny_bind (Wn (A:=X.A.in1) (I.ok.hd hc) h2 pl (by simp;omega) fun h' x he' hx'=>?_);obtain⟨o,ho,hcl⟩:=hx';refine wpAny_bind (wpAny_isInstance (T:="StopIteration") (b:=true) ⟨o,ho,hcl⟩ isSubtype_stop (wpAny_pure ⟨rfl,?_⟩));exact I.turnedL (t':=s.toks) (ch:=[it]) (fun b ob hb q=>he' b ob (fun z=>hb (by simp[z])) q) fun b hb=>hf b (qI _ hb)
 self:=fun A i s Q E st h=>by obtain⟨⟨old,h1⟩,_⟩:=st;exact wpAny_pyIter_enum h1 h
section
variable {X:Cx}
def C8 (K:PySem.W.Frag) (ta:TA):TI:=fun σ H R=>ta σ H fun vs H1=>∃ a,vs=[.ref a]∧(∃ xs,SqT K H1 a xs)∧R (Ite K a) H1
theorem OH {es:List Expr}{kk:Nat}{tp p pos:Pos}{e:Expr}{ta:TA}(hg:Gl X "enumerate") (hm:X.mg "enumerate" = none) (ha:PA X [e] ta) (hs:starEach [e] X.env=[(false,eval e X.env)]:=by rfl) :
  PI X (.Tuple es kk tp) (.Call (.Name "enumerate" p) [e] [] pos) (C8 X.K ta):=by
 intro pins s σ H R I h;refine Call_ (Yr (u:=.type "enumerate") I hg hm (by kernel_rfl) (PyProof.Rows.callWith_type1 (T:="enumerate") (thn (ha pos pins s σ H _ I h) fun us s1 ⟨vs,H1,I1,r1,q1⟩=>?_) hs rfl));obtain⟨a,e1,⟨xs,hq⟩,q⟩:=q1;subst e1;obtain⟨u,rfl,ru⟩:=ZN r1;cases ru;obtain⟨its,rv,pl,hz⟩:=I1.tuple hq;refine KS pl fun h2 he2 hi2 hk2=>?_;have I2:Inv X pins σ H1 {s1 with heap:=h2}:=I1.kept (t':=s1.toks) hk2;refine wpAny_pyIter_enum he2 ⟨s1.heap.objs.size+1,[s1.heap.objs.size+1,s1.heap.objs.size],_,_,H1,rfl,I2,Ks a s1.heap.objs.size (s1.heap.objs.size+1) (Nat.ne_of_gt (Nat.lt_succ_self _)),⟨⟨_,he2⟩,hi2⟩,fun b hb=>?_,q⟩;have hb':s1.heap.objs.size≤b:=by
  rcases qE.mp hb with z|z
  ·rw[z];exact Nat.le_succ _
  ·have z:b=s1.heap.objs.size:=by simpa using z
   rw[z];exact zG _
 exact I1.fpOk hb' (I1.hok.fresh hb')
end
end L2
namespace L2
open PySem PySem.Spec PyProof.Rows
open PySem.Builtin PySem.Builtin.Str
abbrev TJ:=St→Hp→Str→(Str→Hp→Prop)→Prop
def PJ (X:Cx) (vs:List Expr) (t:TJ):Prop :=
 ∀ (pins:List (Addr×Obj)) (s:Shared) (σ:St) (H:Hp) (acc:Str) (Q:Str→Hp→Prop),Inv X pins σ H s→t σ H acc Q→
  Joins (model X.prog X.w) X.A X.xe (evalEach vs X.env) acc (fun out s1=>∃ H1,Inv X pins σ H1 s1∧out.length≤sizeLine∧Q out H1) s
def Iz:TJ:=fun _ H acc Q=>acc.length≤sizeLine∧Q acc H
def GC (te:TE) (tr:TJ):TJ:=fun σ H acc Q=>te σ H fun x H1=>∃ y,x=.str y∧(acc++y).length≤sizeLine∧tr σ H1 (acc++y) Q
section
variable {X:Cx}{e:Expr}{es:List Expr}{te:TE}{tr:TJ}{pos:Pos}
theorem pj_nil:PJ X [] Iz:=fun pins s σ H acc Q I h=>⟨H,I,h.1,h.2⟩
theorem BS(he:PE X e te)(hr:PJ X es tr)(hs:evalEach (e::es) X.env=eval e X.env::evalEach es X.env:=by rfl):PJ X (e::es) (GC te tr):=by intro pins s σ H acc Q I h;rw[hs];show wpAny _ _ _ _ _ _;refine thn (he pins s σ H _ I h) fun v s1 ⟨x,H1,I1,r1,y,e1,hz,q1⟩=>?_;subst e1;obtain⟨t,rfl⟩:=r1;exact⟨y,t,rfl,hz,hr pins s1 σ H1 (acc++y) Q I1 q1⟩
theorem Joins.imp{M:Model}{A:Around}{E:Value→Shared→Prop}:∀ {ps:List (Sem Value)}{acc:Str}{Q Q':Str→Shared→Prop}{s:Shared},(∀ o s,Q o s→Q' o s)→Joins M A E ps acc Q s→Joins M A E ps acc Q' s
 |[],_,_,_,_,f,h=>f _ _ h
 |_::_,_,_,_,_,f,h=>thn h fun v s1 ⟨y,t,e,hz,hr⟩=>⟨y,t,e,hz,Joins.imp f hr⟩
end
def Xl (x:Str):List Nat:=x.cps.toList
def dg (n:Int):Str:=Str.ofString (toString n)
def Nf (m:Nat):List Nat:=(Nat.toDigits 10 m).map Char.toNat
theorem Uv(m:Nat):Xl (dg (m:Int))=Nf m:=PySem.W.KIN.signs_num m
def CB (m:Nat):Bool:=decide (1≤(Nf m).length)&&decide ((Nf m).length≤4)&&(Nf m).all (fun c=>decide (48≤c)&&decide (c≤57))&&(if m=0 then Nf m==[48]else(Nf m).head? != some 48)
theorem AF:(List.range 1001).all CB=true:=by decide +kernel
structure FigOk (n:Int):Prop where
 one:1≤(Xl (dg n)).length
 four:(Xl (dg n)).length≤4
 fig:∀ c∈Xl (dg n),48≤c∧c≤57
 nought:n=0→Xl (dg n)=[48]
 first:n≠0→(Xl (dg n)).head?≠some 48
theorem EK{n:Int}(h0:0≤n)(h1:n≤1000):FigOk n:=by
 obtain⟨m,rfl⟩:∃ m:Nat,n=(m:Int):=⟨n.toNat,by omega⟩
 have h:=List.all_eq_true.mp AF m (List.mem_range.mpr (by omega));unfold CB at h;simp only[bAq,decide_eq_true_eq]at h;obtain⟨⟨⟨a,b⟩,c⟩,d⟩:=h;rw[←Uv]at a b c d;refine⟨a,b,fun k hk=>?_,fun e=>?_,fun e=>?_⟩
 ·have:=List.all_eq_true.mp c k hk;simpa using this
 ·have e:m=0:=by omega
  rw[if_pos e]at d;simpa using d
 ·have e:¬ m=0:=by omega
  rw[if_neg e]at d;simpa using d
def wT:Str:="tie"
def nl:Str:="\n"
def fl (ls:List Str):List Nat:=(ls.map fun l=>Xl l++[10]).flatten
structure NetOk (bs:List Int) (ts:List Tie):Prop where
 br:BrOk bs
 ti:TsOk bs ts
 so:sortI bs=bs
 lo:ts.map loT=ts
theorem BrOk.fig{bs:List Int}(h:BrOk bs){n:Int}(hn:n∈bs):FigOk n:=EK (h.rng n hn).1 (by have:=(h.rng n hn).2;omega)
theorem FigOk.no{n:Int}(h:FigOk n){c:Nat}(hc:c<48):c∉Xl (dg n):=fun m=>by have:=(h.fig c m).1;omega
end L2
namespace L2
open PySem PySem.Spec PyProof.Rows
theorem ObjOk.obj{P:Program}{w:World}{H:Hp}{h:Heap}{a:Addr}{o:HO}(x:ObjOk P w H h a o):∃ u,h.get? a=some u:=by
 cases o with
 |lst xs=>obtain⟨_,_,_,_,e⟩:=x;exact⟨_,e⟩
 |tup xs=>obtain⟨_,_,_,ob,e,_⟩:=x;exact⟨_,e⟩
 |dK kvs=>obtain⟨_,_,_,_,o,_,_,e,_⟩:=x;exact⟨_,e⟩
 |dT kvs=>obtain⟨_,_,_,_,o,_,_,e,_⟩:=x;exact⟨_,e⟩
 |set S n=>obtain⟨o,_,_,_,e,_⟩:=x;exact⟨_,e⟩
 |ins C dx fs=>obtain⟨_,_,_,e,_⟩:=x;exact⟨_,e⟩
 |own y=>exact x
 |xd fs=>obtain⟨_,⟨_,_,_,e,_⟩,_⟩:=x;exact⟨_,e⟩
 |rng lo hi=>obtain⟨_,_,_,e⟩:=x;exact⟨_,e⟩
 |frz ob u=>exact⟨_,x.1⟩
 |tbl ps=>exact⟨_,(show h.get? a=some _ from x)⟩
 |met f y=>exact⟨_,(show h.get? a=some _ from x)⟩
 |ext φ=>exact x.2.1
def FN (h:Heap) (a:Addr) (cls:Value) (T:Option Addr):Prop :=
 ∃ oe vs a0,h.get? a=some oe∧oe.cls=cls∧oe.data=.fields vs∧vs[0]?=some a0∧
  match T with
  |none=>vs[1]?=some .none
  |some T=>vs[1]?=some (.ref T)∧T≠a∧∃ oT ts,h.get? T=some oT∧oT.data=.fields ts∧ts[3]?=some .none
structure Fl (P:Program) (w:World) (l:List Env) (H:Hp) (s:Shared) (H':Hp) (a:Addr) (cls:Value) (s':Shared):Prop where
 os:s'.os=s.os
 bare:AllBare s'.gens
 un:Un (frs l) [] H H' s.heap s'.heap
 hok:HOk P w H' s'.heap
 na:s.heap.get? a=none
 ha:H' a=none
 ex:∃ T,FN s'.heap a cls T∧∀ t,T=some t→s.heap.get? t=none∧H' t=none
def CX1 (P:Program) (w:World):CXT:=fun l H s E e s'=>∃ a cls H',e=.ref a∧Fl P w l H s H' a cls s'∧E cls none H'
def XW (X:Cx) (E:XK):Prop:=∀ (pins:List (Addr×Obj)) (σ:St) (H:Hp) (s:Shared) (H':Hp) (a:Addr) (cls:Value) (s':Shared),
 Inv X pins σ H s→Fl X.prog X.w X.stack H s H' a cls s'→E cls none H'→X.xe (.ref a) s'
theorem XW.passes{X:Cx}{E:XK}(h:XW X E):W0 (CX1 X.prog X.w) X E:=fun pins σ H s e s' I ⟨a,cls,H',z,f,q⟩=>by subst z;exact h pins σ H s H' a cls s' I f q
section
variable {M:Model}{A:Around}{E:Value→Shared→Prop}{s:Shared}{B:Heap}{env:Env}{outer:List Env}{L a:Addr}{cls:Value}{T:Option Addr}{Q:Unit→Shared→Prop}
def Xz (h:Heap) (l:List Env) (a:Addr) (T:Option Addr):Heap:=PySem.W.hideAll h (a::(T.toList++frs l))
theorem Xg(h:Heap)(l:List Env)(a:Addr)(T:Option Addr):(Xz h l a T).StaysIn h:=fun b o e=>PySem.W.of_hideAll _ e
theorem Jy{h:Heap}{l:List Env}(a:Addr)(T:Option Addr)(hl:h.FunFrames B l):h.FunFrames (Xz h l a T) l :=
 PySem.W.funFrames_hide hl fun e he b hb=>qI _ (qL _ (zI.mpr ⟨e,he,hb⟩))
theorem M1(h:Heap)(l:List Env)(a:Addr)(T:Option Addr):(Xz h l a T).get? a=none:=PySem.W.hideAll_none _ qT
theorem BB(h:Heap)(l:List Env)(a t:Addr):(Xz h l a (some t)).get? t=none:=PySem.W.hideAll_none _ (qI _ (qM _ (by simp)))
theorem Kp(hfr:A.frames=some (env::outer))(hf:env.frame=some L)(hl:s.heap.FunFrames B (env::outer))(hx:FN s.heap a cls T)
  (h:∀ h' a0,Heap.LeftW (Xz s.heap (env::outer) a T) (env::outer) a cls a0 s.heap h'→Q () {s with heap:=h'}):wpAny M A (leaving env (.ref a)) Q E s:=by
 obtain⟨oe,vs,a0,he,hc,hd,h0,ht⟩:=hx;cases T with
 |none =>subst hc;exact wpAny_leaving_firstW hfr (Jy a none hl) hf he (Xg _ _ _ _) (M1 _ _ _ _) hd ht h0 fun h' z=>h h' a0 z
 |some t =>obtain⟨h1,hne,oT,ts,e1,e2,e3⟩:=ht;exact wpAny_leaving_nextW hfr (Jy a (some t) hl) hf ⟨oe,vs,t,oT,ts,he,⟨hc,h0⟩,hd,h1,BB _ _ _ _,hne,e1,e2,e3⟩ (Xg _ _ _ _) (M1 _ _ _ _) fun h' z=>h h' a0 z
end
theorem Fl.left{P:Program}{w:World}{l:List Env}{H H':Hp}{s s':Shared}{a:Addr}{cls a0:Value}{h' B:Heap}(f:Fl P w l H s H' a cls s'){T:Option Addr}(hT:∀ t,T=some t→s.heap.get? t=none∧H' t=none)
  (hl:s'.heap.FunFrames B l) (hfr:∀ b∈frs l,H' b=none) (z:Heap.LeftW (Xz s'.heap l a T) l a cls a0 s'.heap h'):Fl P w l H s H' a cls {s' with heap:=h'}:=by
 obtain⟨k1,k2,k3,k4⟩:=z;have inb:∀ b o,s'.heap.get? b=some o→b≠a→(∀ t,T=some t→b≠t)→b∉frs l→h'.get? b=some o:=fun b o e na nt nf=>k1 b o (PySem.W.hideAll_get _ e (by
   intro m
   rcases qE.mp m with m|m
   · exact na m
   · rcases q8.mp m with m|m
     · cases T with
       |none=>cases m
       |some t=>exact nt t rfl (by simpa using m)
     · exact nf m))
 have slot:∀ b o,s'.heap.get? b=some o→b∈frs l→∃ sl,h'.get? b=some {o with slots:=sl}:=fun b o e hb=>by obtain⟨_,o2,e2,nf⟩:=hl.mem hb;rw[e]at e2;cases e2;exact k4 b o e nf
 have old:∀ b o,s.heap.get? b=some o→b≠a∧∀ t,T=some t→b≠t:=fun b o e=>⟨(fun z=>by rw[z,f.na]at e;cases e),(fun t ht z=>by rw[z,(hT t ht).1]at e;cases e)⟩
 refine⟨f.os,f.bare,⟨fun b o e n nf _=>?_,fun b o e n hb _=>?_,f.un.free,fun b o e _=>?_,f.un.tups,f.un.frzs,f.un.tbls⟩,?_,f.na,f.ha,?_⟩
 ·exact inb b o (f.un.keep b o e n nf (by simp)) (old b o e).1 (old b o e).2 nf
 ·obtain⟨sl,e1⟩:=f.un.slot b o e n hb (by simp);obtain⟨sl',e2⟩:=slot b _ e1 hb;exact⟨sl',e2⟩
 ·obtain⟨o1,e1⟩:=f.un.there b o e (by simp);by_cases hb:b∈frs l
  ·obtain⟨sl,e2⟩:=slot b _ e1 hb;exact⟨_,e2⟩
  ·exact⟨o1,inb b o1 e1 (old b o e).1 (old b o e).2 hb⟩
 ·intro b u e;have good:∀ c v,H' c=some v→∀ ob,s'.heap.get? c=some ob→h'.get? c=some ob:=fun c v ec ob eo =>
   inb c ob eo (fun z=>by rw[z,f.ha]at ec;cases ec) (fun t ht z=>by rw[z,(hT t ht).2]at ec;cases ec) fun m=>by rw[hfr c m]at ec;cases ec
  refine(f.hok b u e).stay (fun c v hc q=>?_) (fun _ q=>q) fun _ _ q=>q;rcases hc with z|z
  ·rw[z]at q ⊢;exact good b u e v q
  ·exact good c _ z v q
 ·obtain⟨oe,vs,t',oT,ts,e1,⟨e2,e3⟩,e4,e5,e6,e7,e8,e9,e10⟩:=k3;refine⟨some t',⟨oe,vs,a0,e1,e2,e4,e3,e5,e7,oT,ts,e8,e9,e10⟩,fun t ht=>?_⟩;cases ht;have hid:∀ o,s'.heap.get? t'=some o→T=some t':=fun o e=>by
   have nin:¬ (t'∉(a::(T.toList++frs l))):=fun m=>by have q:(Xz s'.heap l a T).get? t'=some o:=PySem.W.hideAll_get _ e m;rw[e6]at q;cases q
   have m:=Classical.not_not.mp nin;rcases qE.mp m with m|m
   ·exact absurd m e7
   ·rcases q8.mp m with m|m
    ·cases T with
     |none=>cases m
     |some t=>rw[show t'=t by simpa using m]
    ·obtain⟨_,o2,q,nf⟩:=k2.mem m;rw[e8]at q;cases q;exact absurd e9 (nf ts)
  constructor
  ·cases q:s.heap.get? t' with
   |none=>rfl
   |some o =>obtain⟨o1,q1⟩:=f.un.there t' o q (by simp);have:=(hT t' (hid o1 q1)).1;rw[q]at this;cases this
  ·cases q:H' t' with
   |none=>rfl
   |some u =>obtain⟨o1,q1⟩:=(f.hok t' u q).obj;have:=(hT t' (hid o1 q1)).2;rw[q]at this;cases this
section
variable {P:Program}{w:World}{K:PySem.W.Frag}{mg:Str→Option Value}{base:Heap}
theorem Inv.raised{X:Cx}{pins:List (Addr×Obj)}{σ:St}{H H':Hp}{s s':Shared}{a:Addr}{cls:Value}(I:Inv X pins σ H s)(f:Fl X.prog X.w X.stack H s H' a cls s'):Inv X pins σ H' s' :=
 I.call' (ch:=[]) f.os f.un f.hok f.bare (fun b z=>absurd z (by simp))
theorem Mb{X:Cx}(ok:X.Ok)(h:X.stack=X.env::X.outer):X.env.frame=some X.env.locals:=by
 rcases ok.stk with e|e
 ·rw[h]at e;exact absurd (congrArg List.length e) (by simp)
 ·exact e.2
theorem Ec{N:List Str}{qual:Str}{scope:Scope}{f:Addr}{cd:Value}{A:Around}{outer:List Env}{s:Shared}{H:Hp}{E:XK}:XW (We (CX1 P w) P w K mg base N qual scope f cd A outer s H E) E:=by
 intro pins σ H2 s2 H' a cls s' I f q;have J:=I.raised f;obtain⟨T,hx,hT⟩:=f.ex;show wpAny _ _ (leaving _ _) _ _ _;refine Kp (outer:=outer) J.ok.frames (Mb J.ok rfl) J.stack hx fun h' a0 z=>?_;have f2:=f.left hT J.stack J.stkFree z;have J2:=I.raised f2;have back:∀ b,s2.heap.get? b=none→s.heap.get? b=none:=fun b e=>by
  cases z:s.heap.get? b with
  |none=>rfl
  |some o =>obtain⟨o',e'⟩:=I.base.there b o z (by intro m;cases m);rw[e]at e';cases e'
 obtain⟨T2,hx2,hT2⟩:=f2.ex;exact⟨a,cls,H',rfl,⟨J2.os,J2.bare,J2.base,J2.hok,back a f2.na,f2.ha,T2,hx2,fun t ht=>⟨back t (hT2 t ht).1,(hT2 t ht).2⟩⟩,q⟩
theorem Fun.ok1{x qual:Str}{st:Stmt}{f:Addr}{fd:FuncData}{N ps:List Str}{k:Nat}{sp:Sp}(F:Fun K x qual st f fd)(S:FnScope N ps (Zn st))(len:∀ vs H Q E,sp vs H Q E→vs.length=ps.length)
  (hbody:∀ (cdv:Value) (A:Around) (outer:List Env) (s:Shared) (H:Hp) (vs:List V) (Q:VK) (E:XK),Room k (A.deeper (envOfC qual (Zn st) s.heap.objs.size f cdv))→sp vs H Q E→
    XW (We (CX1 P w) P w K mg base N qual (Zn st) f cdv A outer s H E) E→
    ∃ t,PSs (We (CX1 P w) P w K mg base N qual (Zn st) f cdv A outer s H E) (ZH st) t∧t { nx:=fun _ H'=>Q .non H',rt:=Q } (start N vs) H):FnOk P w K mg base (CX1 P w) (k+1) f fd ps sp:=by
 obtain⟨oc,od,kV,doc,pm,an,cdv,ct,osl,rfl,lk,hcd⟩:=F.ex;exact B8 lk hcd S len fun A outer s H vs Q E hr hsp=>hbody cdv A outer s H vs Q E hr hsp Ec
end
def XP (X:Cx) (pins:List (Addr×Obj)) (σ:St) (E:XK) (v:Value) (s':Shared):Prop :=
 ∃ a cls H1 H' s1,v=.ref a∧Inv X pins σ H1 s1∧Fl X.prog X.w X.stack H1 s1 H' a cls s'∧E cls none H'
def xcO (a:Addr) (cls:Value):HO:=.ext fun h=>∃ o vs,h.get? a=some o∧o.cls=cls∧o.data=.fields vs
abbrev Cx.caught (X:Cx) (a:Addr):Cx:={X with A:=X.A.mark (some (.ref a)),calm:=false,xe:=fun _ _=>False}
section
variable {X:Cx}{pins:List (Addr×Obj)}{σ:St}{H H':Hp}{s s':Shared}{a:Addr}{cls:Value}
theorem Inv.caught(I:Inv X pins σ H s)(a:Addr):Inv (X.caught a) pins σ H s :=
 ⟨⟨I.ok.mod,I.ok.kind,I.ok.glob,I.ok.blt,I.ok.above,I.ok.inj,I.ok.has,I.ok.cab,fun z=>Bool.noConfusion z,I.ok.frames,I.ok.stk,I.ok.exf,I.ok.bs,I.ok.bsz,I.ok.noex,I.ok.exfs,I.ok.funs,I.ok.frf⟩,I.os,I.bare,I.base,I.loc,I.cell,I.free,I.freeC,I.pin,I.hok,I.len⟩
end
end L2
namespace L2
open PySem PySem.Spec PySem.W PySem.Calls PyProof.Rows PySem.Builtin PySem.Builtin.ObjectAttr PySem.Builtin.Getset_descriptor
section
variable {prog:Program}{w:World}{A:Around}{E:Value→Shared→Prop}{K:Frag}{h:Heap}{g:Array GenState}{d:Drawn}{t:Nat}{os:OsState}{a C:Addr}{o:Obj}
structure XCls (K:Frag) (C:Addr):Prop where
 ga:findIn K (.ref C) "__getattribute__" = some (some (.builtin "BaseException.__getattribute__"))
 gr:findIn K (.ref C) "__getattr__" = some none
 cl:findIn K (.ref C) "__class__" = some (some (.builtin "object.__class__"))
 mo:mroIn K C (.type "object")=some true
 mb:mroIn K C (.type "BaseException")=some true
 ci:(clsIn K C).isSome=true
end
end L2
namespace L2
open PySem PySem.Spec PyProof.Rows
section
variable {X:Cx}
theorem Wk:CallR X (.type "int") (fun xs H Q=>∃ z n,xs=[.str z]∧PySem.intText? z=some n∧z.length≤640∧Q (.int n) H):=by intro pins s σ H xs us Q I r h;obtain⟨z,n,rfl,e,hl,q⟩:=h;obtain⟨u,rfl,t,rfl⟩:=ZN r;exact PySem.W.KIN.call_text e hl ⟨.int n,H,I.tok _,⟨_,rfl⟩,q⟩
end
end L2
namespace L2
open PySem PySem.Spec PyProof.Rows
open PySem.Builtin PySem.Builtin.Str
def NR (z:Str) (lo hi:Option Int):Str:=if(strSliceIndices lo hi 1 z.length).length=z.length then z else⟨((strSliceIndices lo hi 1 z.length).filterMap (z.cps[·]?)).toArray⟩
theorem OY(z:Str)(lo hi:Option Int):(NR z lo hi).length≤z.length:=by
 unfold NR;split
 ·exact zG _
 ·show((strSliceIndices lo hi 1 z.length).filterMap (z.cps[·]?)).toArray.size≤_;rw[qC];exact zE (List.length_filterMap_le _ _) (indices_len_le lo hi z.length)
section
variable {X:Cx}
def GH:V→Option Int→Option Int→Hp→VK→Prop:=fun x lo hi H Q=>∃ z,x=.str z∧z.length≤sizeLine∧Q (.str (NR z lo hi)) H
theorem ML{v:Value}{lo:Option Int}(h:IsPart v lo):∃ l:Option (Int×Tok),v=partValue l∧l.map (·.1)=lo:=by
 cases h with
 |none=>exact⟨none,rfl,rfl⟩
 |int i t=>exact⟨some (i,t),rfl,rfl⟩
theorem sl_str:SlR X GH:=by
 intro pins s σ H x v vl vu lo hi sl Q I rx hs pl pu h;obtain⟨z,rfl,hz,q⟩:=h;obtain⟨t,rfl⟩:=rx;refine⟨"str",_,slot_str_getitem.lookup,typeIs_str s z t,?_⟩;obtain⟨l,rfl,el⟩:=ML pl;obtain⟨u,rfl,eu⟩:=ML pu;have hs':s.heap.IsSlice sl l u none:=hs;refine wpAny_getItem_str_slice hs' rfl ?_;have e:sliceMade z t l u none=if(strSliceIndices lo hi 1 z.length).length=z.length then .val (.str z t)else .str ⟨((strSliceIndices lo hi 1 z.length).filterMap (z.cps[·]?)).toArray⟩:=by unfold sliceMade slicePicked;rw[el,eu];simp
 rw[e];have cl:=OY z lo hi;unfold NR at q cl;split
 ·rename_i hh;rw[if_pos hh]at q;exact⟨.str z,H,I,⟨t,rfl⟩,q⟩
 ·rename_i hh;rw[if_neg hh]at q cl;exact⟨zE cl hz,.str _,H,I.tok _,⟨_,rfl⟩,q⟩
end
section
variable {X:Cx}
theorem M2(z:Str):∀ (n:Nat) (a:Array Nat),((List.replicate n z.cps).foldl (· ++ ·) a).size=a.size+n*z.cps.size
 |0,a=>by simp
 |n+1,a=>by rw[List.replicate_succ,List.foldl_cons,M2 z n,Array.size_append,Nat.succ_mul];omega
theorem Vals.ins{xs:List V}{us:List Value}{y:V}{u:Value}(r:Vals xs us)(ry:RelV y u)(k:Nat):Vals (xs.take k++y::xs.drop k) (us.take k++u::us.drop k):=(r.take k).append (.cons ry (r.drop k))
end
end L2
namespace L2
open PySem PySem.Spec PyProof.Rows
section
variable {X:Cx}(K:PySem.W.Frag) (h:X.K=K)
include h
end
end L2
namespace L2
open PySem PySem.Spec PyProof.Rows
open PySem.Builtin PySem.Builtin.Str
section
variable {X:Cx}
def EC (z:Str) (n:Nat):Str:=⟨(List.replicate n z.cps).foldl (· ++ ·) #[]⟩
theorem Wv(z:Array Nat):∀ (n:Nat) (a:Array Nat),((List.replicate n z).foldl (· ++ ·) a).toList=a.toList++(List.replicate n z.toList).flatten
 |0,a=>by simp
 |n+1,a=>by rw[List.replicate_succ,List.foldl_cons,Wv z n,List.replicate_succ,List.flatten_cons,Array.toList_append,List.append_assoc]
def Cq:R2:=fun x y H Q=>∃ z k,x=.str z∧y=.int k∧2≤k∧k≤1000000∧1≤z.length∧z.length*k.toNat≤1000000∧Q (.str (EC z k.toNat)) H
theorem A9:OpR X (binaryOp .Mult) Cq:=by
 intro pins s σ H x y v u Q I rx ry h;obtain⟨z,k,rfl,rfl,h2,h6,h1,hz,q⟩:=h;obtain⟨t,rfl⟩:=rx;obtain⟨t',rfl⟩:=ry;have big:(1000000:Nat)≤sizeLine:=by decide
 have nb:(k==1||z.length==0)=false:=by have e1:(k==1)=false:=beq_false_of_ne (by omega);have e2:(z.length==0)=false:=beq_false_of_ne (by omega);rw[e1,e2];rfl
 have zl:z.length≤1000000:=by have:z.length*1≤z.length*k.toNat:=Nat.mul_le_mul_left _ (by omega);omega
 have hr:(decide (k < -(2 ^ 63:Int))||decide (k≥2 ^ 63))=false:=by rw[qP (by omega),qP (by omega)];rfl
 have hb:¬ k<1→(k==1||z.length==0)=false→¬ ((z.length:Int) > (2 ^ 63 - 1) / k):=fun _ _=>by have:(1000000:Int)≤(2 ^ 63 - 1) / k:=(Int.le_ediv_iff_mul_le (by omega)).mpr (by omega);omega
 have hl:¬ k<1→(k==1||z.length==0)=false→tooLong (z.length*k.toNat)=false:=fun _ _=>by unfold tooLong;exact qP (by omega)
 refine P.mul_str hr hb hl ?_;rw[if_neg (by omega),if_neg (by rw[nb];exact Bool.false_ne_true)];have el:(⟨(List.replicate k.toNat z.cps).foldl (· ++ ·) #[]⟩:Str).length=z.length*k.toNat:=by show((List.replicate k.toNat z.cps).foldl (· ++ ·) #[]).size=_;rw[M2,Nat.mul_comm z.length];simp[Str.length]
 exact⟨by rw[el];omega,.str _,H,I.tok _,⟨_,rfl⟩,q⟩
variable {c y z a b:Str}{k1 k2 k3:Nat}{p1 p2 p3 p4 pa pb apos cpos:Pos}
end
end L2
namespace L2
open PySem PySem.Spec PyProof.Rows
section
variable {X:Cx}
def Cw (K:PySem.W.Frag):R2:=fun x y H Q=>∃ a b ys,x=.ref a∧y=.ref b∧SqT K H a []∧SqT K H b ys∧Q (.ref b) H
theorem op_cat0:OpR X (binaryOp .Add) (Cw X.K):=by
 intro pins s σ H x y v u Q I rx ry h;obtain⟨a,b,ys,rfl,rfl,ha,hb,q⟩:=h;cases rx;cases ry;obtain⟨its,r1,p1,_⟩:=I.tuple ha;obtain⟨its2,r2,p2,_⟩:=I.tuple hb;cases r1;obtain⟨⟨cls,dd,data,sl⟩,ho,hc,n,hd⟩:=id p1;obtain⟨⟨cls2,dd2,data2,sl2⟩,ho2,hc2,n2,hd2⟩:=id p2;simp only at hc hd hc2 hd2;subst hc hd hc2 hd2;exact concat_meets ⟨_,ho,rfl⟩ ⟨_,ho2,rfl⟩ noFill_tuple_add seq_tuple_add PySem.F.slot_tuple_add PySem.F.entry_tuple_add (PySem.F.args_tuple_add_2 _ _)
  (tuple_addW0 a b _ _ n n2 dd dd2 sl sl2 rfl) ⟨ho,ho2,.ref b,H,I,rfl,q⟩
end
mutual
inductive SamV (K:PySem.W.Frag) (H:Hp):Nat→V→V→Prop
 |non {n:Nat}:SamV K H n .non .non
 |bl {n:Nat}(b:Bool):SamV K H n (.bl b) (.bl b)
 |int {n:Nat}(i:Int):SamV K H n (.int i) (.int i)
 |str {n:Nat}(x:Str):SamV K H n (.str x) (.str x)
 |ref {n:Nat}(a:Addr):SamV K H n (.ref a) (.ref a)
 |lst {n:Nat}{a b:Addr}{xs ys:List V}:SqL K H a xs→SqL K H b ys→SamVs K H n xs ys→SamV K H (n+1) (.ref a) (.ref b)
 |tup {n:Nat}{a b:Addr}{xs ys:List V}:SqT K H a xs→SqT K H b ys→SamVs K H n xs ys→SamV K H (n+1) (.ref a) (.ref b)
inductive SamVs (K:PySem.W.Frag) (H:Hp):Nat→List V→List V→Prop
 |nil {n:Nat}:SamVs K H n [] []
 |cons {n:Nat}{x y:V}{xs ys:List V}:SamV K H n x y→SamVs K H n xs ys→SamVs K H n (x::xs) (y::ys)
end
theorem F8{x:V}{xs:List V}{its:List Value}(hl:(x::xs).length=its.length):(its.toArray.size != (#[]:Array Value).size)=true:=by
 cases its with
 |nil=>cases hl
 |cons y ys=>simp
theorem Jt(n:Nat):(List.range n).all (fun _=>true)=true:=by simp
theorem SamVs.length{K:PySem.W.Frag}{H:Hp}:∀ {n:Nat}{xs ys:List V},SamVs K H n xs ys→xs.length=ys.length
 |_,_,_,.nil=>rfl
 |_,_,_,.cons _ t=>by rw[qB,qB,SamVs.length t]
section
variable {X:Cx}{pins:List (Addr×Obj)}{σ:St}{H:Hp}{s:Shared}
mutual
theorem SamV.eqAt(I:Inv X pins σ H s):∀ {n:Nat}{x y:V}{u v:Value}{A:Around},SamV X.K H n x y→RelV x u→RelV y v→A.units+n<cLine→SeqAt.EqAt A s u v true
 |_,_,_,_,_,A,.non,r,q,_=>by cases r;cases q;exact SeqAt.EqAt.same _
 |_,_,_,_,_,A,.bl b,r,q,_=>by cases r;cases q;exact SeqAt.EqAt.same _
 |_,_,_,_,_,A,.int i,r,q,_=>by
  obtain⟨t,rfl⟩:=r;obtain⟨t',rfl⟩:=q;have:=SeqAt.EqAt.int_int (A:=A) (s:=s) i t i t'
  rwa [beq_self_eq_true]at this
 |_,_,_,_,_,A,.str x,r,q,_=>by
  obtain⟨t,rfl⟩:=r;obtain⟨t',rfl⟩:=q;have:=SeqAt.EqAt.str_str (A:=A) (s:=s) x t x t'
  rwa [beq_self_eq_true]at this
 |_,_,_,_,_,A,.ref a,r,q,_=>by cases r;cases q;exact SeqAt.EqAt.same _
 |n+1,_,_,_,_,A,.lst (a:=a) (b:=b) ha hb hs,r,q,hu=>by
  cases r;cases q;by_cases hab:a=b
  ·subst hab;exact SeqAt.EqAt.same _
  ·obtain⟨its,rv,pl,_⟩:=I.list ha;obtain⟨its2,rv2,pl2,_⟩:=I.list hb;have hl:=hs.length;have h1:=rv.length;have h2:=rv2.length;have hz:its.toArray.size=its2.toArray.size:=by rw[qC,qC,←h1,←h2,hl]
   have:=SeqAt.RcAt.lists (A:=A) (e:=fun _=>true) pl.isList pl2.isList hz (by omega) fun j j1 j2=>SamVs.eqAt I hs rv rv2 (A:=A.in1) (by have:A.in1.units=A.units+1:=rfl;omega) j j1 j2;rw[Jt]at this;exact SeqAt.EqAt.of_refs hab this
 |n+1,_,_,_,_,A,.tup (a:=a) (b:=b) ha hb hs,r,q,hu=>by
  cases r;cases q;by_cases hab:a=b
  ·subst hab;exact SeqAt.EqAt.same _
  ·obtain⟨its,rv,pl,_⟩:=I.tuple ha;obtain⟨its2,rv2,pl2,_⟩:=I.tuple hb;have hl:=hs.length;have h1:=rv.length;have h2:=rv2.length;have hz:its.toArray.size=its2.toArray.size:=by rw[qC,qC,←h1,←h2,hl]
   have:=SeqAt.RcAt.tuples (A:=A) (e:=fun _=>true) (show s.heap.IsTuple a its.toArray from pl) (show s.heap.IsTuple b its2.toArray from pl2) (by omega) fun j j1 j2=>SamVs.eqAt I hs rv rv2 (A:=A.in1) (by have:A.in1.units=A.units+1:=rfl;omega) j j1 j2;rw[Jt,hz,beq_self_eq_true,Bool.and_self]at this;exact SeqAt.EqAt.of_refs hab this
theorem SamVs.eqAt(I:Inv X pins σ H s):∀ {n:Nat}{xs ys:List V}{us vs:List Value}{A:Around},SamVs X.K H n xs ys→Vals xs us→Vals ys vs→A.units+n<cLine→∀ (j:Nat) (j1:j<us.toArray.size) (j2:j<vs.toArray.size),SeqAt.EqAt A s us.toArray[j] vs.toArray[j] true
 |_,_,_,_,_,_,.nil,.nil,_,_,j,j1,_=>by simp at j1
 |_,_,_,_,_,_,.cons h t,.cons r rs,.cons q qs,hu,0,_,_=>by simpa using SamV.eqAt I h r q hu
 |_,_,_,_,_,_,.cons h t,.cons r rs,.cons q qs,hu,j+1,j1,j2=>by have:=SamVs.eqAt I t rs qs hu j (by simpa using j1) (by simpa using j2);simpa using this
end
end
section
variable {X:Cx}
def DG (K:PySem.W.Frag):R2:=fun x y H Q=>∃ a b xs ys,x=.ref a∧y=.ref b∧SqL K H a xs∧SqL K H b ys∧SamVs K H 8 xs ys∧Q (.bl false) H
theorem Dc(hu:X.A.units+64<cLine):OpR X (compareOp .NotEq) (DG X.K):=by
 intro pins s σ H x y v u Q I rx ry h;obtain⟨a,b,xs,ys,rfl,rfl,ha,hb,hs,q⟩:=h;cases rx;cases ry;obtain⟨its,rv,pl,_⟩:=I.list ha;obtain⟨its2,rv2,pl2,_⟩:=I.list hb;have hz:its.toArray.size=its2.toArray.size:=by rw[qC,qC,←rv.length,←rv2.length,hs.length]
 have:=SeqAt.RcNeAt.lists (A:=X.A) (e:=fun _=>true) pl.isList pl2.isList hz (by omega) fun j j1 j2=>hs.eqAt I rv rv2 (A:=X.A.in1) (by have:X.A.in1.units=X.A.units+1:=rfl;omega) j j1 j2;rw[Jt]at this;exact this X.prog X.w X.xe _ ⟨.bl false,H,I,rfl,q⟩
def Hk (K:PySem.W.Frag) (n:Bool):R2:=fun x y H Q=>∃ a b xs,x=.ref a∧y=.ref b∧SqL K H a xs∧SqL K H b []∧Q (.bl (n ^^ xs.isEmpty)) H
theorem O2(hu:X.A.units+64<cLine):OpR X (compareOp .NotEq) (Hk X.K true):=by
 intro pins s σ H x y v u Q I rx ry h;obtain⟨a,b,xs,rfl,rfl,ha,hb,q⟩:=h;cases rx;cases ry;obtain⟨its,rv,pl,_⟩:=I.list ha;obtain⟨its2,rv2,pl2,_⟩:=I.list hb;cases rv2;have hl:=rv.length;cases xs with
 |nil =>have:its=[]:=List.length_eq_zero_iff.mp hl.symm;subst this;exact SeqAt.RcNeAt.lists (A:=X.A) (e:=fun _=>true) pl.isList pl2.isList rfl (by omega) (fun j j1 _=>by simp at j1) X.prog X.w X.xe _ ⟨.bl false,H,I,rfl,q⟩
 |cons x xs =>exact SeqAt.RcNeAt.lists_lengths (A:=X.A) pl.isList pl2.isList (F8 hl) (by omega) X.prog X.w X.xe _ ⟨.bl true,H,I,rfl,q⟩
end
def ZSt (z TI TO i1 i2 a b:Addr) (i:Nat) (h:Heap):Prop:=IsZip h z TI TO .none∧IsPair h TI (.ref i1) (.ref i2)∧(∃ u v,IsPair h TO u v)∧h.IsListIter i1 a i∧h.IsListIter i2 b i
theorem ZSt.keep{z TI TO i1 i2 a b:Addr}{i:Nat}{h h':Heap}(st:ZSt z TI TO i1 i2 a b i h)(k:∀ c∈[z,TI,TO,i1,i2],∀ o,h.get? c=some o→h'.get? c=some o):ZSt z TI TO i1 i2 a b i h':=by obtain⟨h1,h2,⟨u,v,h3⟩,h4,h5⟩:=st;exact⟨k z (by simp) _ h1,k TI (by simp) _ h2,⟨u,v,k TO (by simp) _ h3⟩,h4.at fun o q=>k i1 (by simp) o q,h5.at fun o q=>k i2 (by simp) o q⟩
theorem ZSt.obj {z TI TO i1 i2 a b:Addr}{i:Nat}{h:Heap}(st:ZSt z TI TO i1 i2 a b i h):∀ c∈[z,TI,TO,i1,i2],∃ o,h.get? c=some o∧(∀ v,o.data≠.cell v)∧o.cls≠.type "list":=by
 obtain⟨h1,h2,⟨u,v,h3⟩,⟨o4,e4,c4,d4⟩,⟨o5,e5,c5,d5⟩⟩:=st;intro c hc;simp only[qE,List.not_mem_nil,or_false]at hc;rcases hc with rfl|rfl|rfl|rfl|rfl
 ·exact⟨_,h1,(fun v z=>(by cases z)),(show Value.type "zip"≠.type "list" by decide)⟩
 ·exact⟨_,h2,(fun v z=>(by cases z)),(show Value.type "tuple"≠.type "list" by decide)⟩
 ·exact⟨_,h3,(fun v z=>(by cases z)),(show Value.type "tuple"≠.type "list" by decide)⟩
 ·exact⟨_,e4,(fun v z=>(by rw[d4]at z;cases z)),(by rw[c4];decide)⟩
 ·exact⟨_,e5,(fun v z=>(by rw[d5]at z;cases z)),(by rw[c5];decide)⟩
section
variable {X:Cx}
theorem WY:CallR X (.type "str") (fun xs H Q=>∃ z,xs=[.str z]∧Q (.str z) H):=by intro pins s σ H xs us Q I r h;obtain⟨z,rfl,q⟩:=h;obtain⟨u,rfl,t,rfl⟩:=ZN r;exact PySem.P.str_of_str ⟨.str _,H,I,⟨_,rfl⟩,q⟩
def Gp (te:TE):TE:=fun σ H Q=>te σ H fun x H1=>(∃ i,x=.int i∧i.natAbs.log2<1920∧Q (.str (toString i)) H1)∨∃ z,x=.str z∧z.length≤sizeLine∧Q (.str z) H1
theorem B3{e:Expr}{te:TE}{pos:Pos}(he:PE X e te):PE X (.FormattedValue e (-1) none pos) (Gp te):=by
 intro pins s σ H Q I h;refine wpAny_FormattedValue_plain (thn (he pins s σ H _ I h) fun v s1 ⟨x,H1,I1,r1,q1⟩=>?_);rcases q1 with⟨i,e1,hd,q1⟩|⟨z,e1,hz,q1⟩
 ·subst e1;obtain⟨t,rfl⟩:=r1;exact wpAny_formatField_int hd ⟨.str _,H1,I1.tok _,⟨_,rfl⟩,q1⟩
 ·subst e1;obtain⟨t,rfl⟩:=r1;exact wpAny_formatField_str ⟨.str _,H1,I1,⟨_,rfl⟩,q1⟩ ⟨.str _,H1,I1.tok _,⟨_,rfl⟩,q1⟩ hz
def Bq (K:PySem.W.Frag) (neg:Bool):R2:=fun x y H Q=>∃ ds d,(IsD K H y (.tuple ds)∨IsD K H y (.list ds))∧IsD K H x d∧PyData.canLayAll0 ds=true∧d.canLay0=true∧d.depth≤64∧Q (.bl (if neg then !ds.any (fun e=>PyData.eqv e d)else ds.any fun e=>PyData.eqv e d)) H
theorem ER(hu:X.A.units+65<cLine):OpR X (compareOp .In) (Bq X.K false):=by
 intro pins s σ H x y v u Q I rx ry h;obtain⟨ds,d,hd,he,sd,se,hdp,q⟩:=h;obtain⟨bs,rb⟩:=he.reads I rx;have hr:X.A.units+1+min (PyData.depthAll ds) d.depth<cLine:=by have:min (PyData.depthAll ds) d.depth≤d.depth:=Nat.min_le_right _ _;omega
 rcases hd with hd|hd
 ·obtain⟨as,ra⟩:=hd.reads I ry;exact SeqAt.in_tuple_reads ra rb sd se hr ⟨.bl _,H,I,rfl,q⟩
 ·obtain⟨as,ra⟩:=hd.reads I ry;exact SeqAt.in_list_reads ra rb sd se hr ⟨.bl _,H,I,rfl,q⟩
theorem NJ(hu:X.A.units+65<cLine):OpR X (compareOp .NotIn) (Bq X.K true):=by
 intro pins s σ H x y v u Q I rx ry h;obtain⟨ds,d,hd,he,sd,se,hdp,q⟩:=h;obtain⟨bs,rb⟩:=he.reads I rx;have hr:X.A.units+1+min (PyData.depthAll ds) d.depth<cLine:=by have:min (PyData.depthAll ds) d.depth≤d.depth:=Nat.min_le_right _ _;omega
 rcases hd with hd|hd
 ·obtain⟨as,ra⟩:=hd.reads I ry;exact SeqAt.notIn_tuple_reads ra rb sd se hr ⟨.bl _,H,I,rfl,q⟩
 ·obtain⟨as,ra⟩:=hd.reads I ry;exact SeqAt.notIn_list_reads ra rb sd se hr ⟨.bl _,H,I,rfl,q⟩
end
def ZSy (z TI TO i1 i2 a b:Addr) (i:Nat) (h:Heap):Prop:=IsZip h z TI TO .none∧IsPair h TI (.ref i1) (.ref i2)∧(∃ u v,IsPair h TO u v)∧h.IsTupleIter i1 a i∧h.IsTupleIter i2 b i
theorem ZSy.keep{z TI TO i1 i2 a b:Addr}{i:Nat}{h h':Heap}(st:ZSy z TI TO i1 i2 a b i h)(k:∀ c∈[z,TI,TO,i1,i2],∀ o,h.get? c=some o→h'.get? c=some o):ZSy z TI TO i1 i2 a b i h':=by obtain⟨h1,h2,⟨u,v,h3⟩,h4,h5⟩:=st;exact⟨k z (by simp) _ h1,k TI (by simp) _ h2,⟨u,v,k TO (by simp) _ h3⟩,h4.at fun o q=>k i1 (by simp) o q,h5.at fun o q=>k i2 (by simp) o q⟩
theorem ZSy.obj{z TI TO i1 i2 a b:Addr}{i:Nat}{h:Heap}(st:ZSy z TI TO i1 i2 a b i h):∀ c∈[z,TI,TO,i1,i2],∃ o,h.get? c=some o∧∀ v,o.data≠.cell v:=by
 obtain⟨h1,h2,⟨u,v,h3⟩,⟨o4,e4,c4,d4⟩,⟨o5,e5,c5,d5⟩⟩:=st;intro c hc;simp only[qE,List.not_mem_nil,or_false]at hc;rcases hc with rfl|rfl|rfl|rfl|rfl
 ·exact⟨_,h1,fun v z=>by cases z⟩
 ·exact⟨_,h2,fun v z=>by cases z⟩
 ·exact⟨_,h3,fun v z=>by cases z⟩
 ·exact⟨_,e4,fun v z=>by rw[d4]at z;cases z⟩
 ·exact⟨_,e5,fun v z=>by rw[d5]at z;cases z⟩
section
variable {κ:Type} [DecidableEq κ]
def Yv (kvs:List (κ×V)) (k:κ):Option V:=(kvs.find? fun kv=>decide (kv.1=k)).map (·.2)
def putK (kvs:List (κ×V)) (k:κ) (v:V):List (κ×V) :=
 if(kvs.any fun kv=>decide (kv.1=k))=true then kvs.map (fun kv=>if kv.1=k then(kv.1,v)else kv)else kvs++[(k,v)]
def dropK (kvs:List (κ×V)) (k:κ):List (κ×V):=kvs.filter fun kv=>decide (kv.1≠k)
theorem Ys{p:κ×V}{r:List (κ×V)}{k:κ}(e:p.1=k):Yv (p::r) k=some p.2:=by simp[Yv,List.find?_cons,e]
theorem Yq{p:κ×V}{r:List (κ×V)}{k:κ}(e:¬ p.1=k):Yv (p::r) k=Yv r k:=by simp[Yv,List.find?_cons,e]
theorem Yn(k:κ):∀ kvs:List (κ×V),(kvs.any fun kv=>decide (kv.1=k))=(Yv kvs k).isSome
 |[]=>rfl
 |p::r=>by
  rw[List.any_cons];by_cases e:p.1=k
  ·simp only[Ys e,qQ e,Bool.true_or,Option.isSome_some]
  ·rw[Yq e,qP e,Bool.false_or];exact Yn k r
theorem Z8(kvs:List (κ×V))(k:κ)(v:V):(putK kvs k v).length≤kvs.length+1:=by
 unfold putK;split
 ·rw[qA];omega
 ·rw[qU,qB,List.length_nil];omega
theorem RelO.isSome_eq{o:Option V}{u:Option Value}(r:RelO o u):o.isSome=u.isSome:=by
 cases o with
 |none=>cases u with
  |none=>rfl
  |some _=>exact(show False from r).elim
 |some _=>cases u with
  |none=>exact(show False from r).elim
  |some _=>rfl
theorem RelO.getD{o:Option V}{u:Option Value}{d:V}{d':Value}(r:RelO o u)(rd:RelV d d'):RelV (o.getD d) (u.getD d'):=by
 cases o with
 |none=>cases u with
  |none=>exact rd
  |some _=>exact(show False from r).elim
 |some _=>cases u with
  |none=>exact(show False from r).elim
  |some _=>exact r
theorem KV.val{kvs:List (κ×V)}{vs:List (κ×Value)}(r:KV kvs vs)(k:κ):RelO (Yv kvs k) (valueAt vs k):=by
 unfold KV at r;induction r with
 |nil=>exact True.intro
 |@cons p q ps qs h t ih =>
  obtain⟨h1,h2⟩:=h;by_cases e:p.1=k
  ·have e':q.1=k:=h1.symm.trans e;have b:valueAt (q::qs) k=some q.2:=by simp[valueAt,List.find?_cons,e']
   rw[Ys e,b];exact h2
  ·have e':¬ q.1=k:=fun z=>e (h1.trans z);have b:valueAt (q::qs) k=valueAt qs k:=by simp[valueAt,List.find?_cons,e']
   rw[Yq e,b];exact ih
theorem KV.any{kvs:List (κ×V)}{vs:List (κ×Value)}(r:KV kvs vs)(k:κ):(kvs.any fun kv=>decide (kv.1=k))=vs.any fun kv=>decide (kv.1=k):=by
 unfold KV at r;induction r with
 |nil=>rfl
 |cons h t ih=>rw[List.any_cons,List.any_cons,ih,h.1]
theorem KV.repl{kvs:List (κ×V)}{vs:List (κ×Value)}(r:KV kvs vs)(k:κ){y:V}{u:Value}(ry:RelV y u) :
  KV (kvs.map fun kv=>if kv.1=k then(kv.1,y)else kv) (vs.map fun kv=>if kv.1=k then(kv.1,u)else kv):=by
 unfold KV at r ⊢;induction r with
 |nil=>exact .nil
 |@cons p q ps qs h t ih =>
  rw[qG,qG];refine .cons ?_ ih;obtain⟨h1,h2⟩:=h;by_cases e:p.1=k
  ·rw[if_pos e,if_pos (h1.symm.trans e)];exact⟨h1,ry⟩
  ·rw[if_neg e,if_neg (fun z=>e (h1.trans z))];exact⟨h1,h2⟩
theorem KV.put{kvs:List (κ×V)}{vs:List (κ×Value)}(r:KV kvs vs)(k:κ){y:V}{u:Value}(ry:RelV y u):KV (putK kvs k y) (stored vs k u):=by
 unfold putK stored;rw[r.any k];by_cases e:(vs.any fun kv=>decide (kv.1=k))=true
 ·rw[if_pos e,if_pos e];exact r.repl k ry
 ·rw[if_neg e,if_neg e];exact Paired.snoc r ⟨rfl,ry⟩
theorem KV.drop{kvs:List (κ×V)}{vs:List (κ×Value)}(r:KV kvs vs)(k:κ):KV (dropK kvs k) (without vs k):=by
 unfold KV at r ⊢;unfold dropK without;induction r with
 |nil=>exact .nil
 |@cons p q ps qs h t ih =>
  obtain⟨h1,h2⟩:=h;rw[List.filter_cons,List.filter_cons];by_cases e:p.1=k
  ·have a:¬ decide (p.1≠k)=true:=by simp[e]
   have b:¬ decide (q.1≠k)=true:=by simp[h1.symm.trans e]
   rw[if_neg a,if_neg b];exact ih
  ·have e':¬ q.1=k:=fun z=>e (h1.trans z);have a:decide (p.1≠k)=true:=by simp[e]
   have b:decide (q.1≠k)=true:=by simp[e']
   rw[if_pos a,if_pos b];exact .cons ⟨h1,h2⟩ ih
theorem KV.keys{kvs:List (κ×V)}{vs:List (κ×Value)}(r:KV kvs vs):kvs.map (·.1)=vs.map (·.1):=by
 unfold KV at r;induction r with
 |nil=>rfl
 |cons h t ih=>rw[qG,qG,ih,h.1]
theorem KV.length{kvs:List (κ×V)}{vs:List (κ×Value)}(r:KV kvs vs):kvs.length=vs.length:=Paired.length r
end
theorem XM{P:Program}{w:World}{k:Key}{u:Value}(r:RelV (kV k) u):(Zg P w).is k u=true:=by
 cases k with
 |inl i=>obtain⟨t,e⟩:=(show ∃ t,u=Value.int i t from r);subst e;exact JJ P w i t
 |inr x=>obtain⟨t,e⟩:=(show ∃ t,u=Value.str x t from r);subst e;exact JH P w x t
theorem WD{P:Program}{w:World}:∀ {ks:List Key}{us:List Value},Vals (ks.map kV) us→ItemsAre (Zg P w) ks us
 |[],_,r=>by rw[List.map_nil]at r;cases r;exact .nil
 |k::ks,_,r=>by
  rw[qG]at r;cases r with
  |cons h t=>exact .cons (XM h) (WD t)
abbrev KTd (H:Hp):List (List Key×V)→List (List Key×Addr×Value)→Prop:=Paired fun p q=>p.1=q.1∧H q.2.1=some (.tup (p.1.map kV))∧RelV p.2 q.2.2
theorem KTd.val{H:Hp}{kvs:List (List Key×V)}{xs:List (List Key×Addr×Value)}(r:KTd H kvs xs)(k:List Key):RelO (Yv kvs k) ((atKey xs k).map (·.2)):=by
 induction r with
 |nil=>exact True.intro
 |@cons p q ps qs h t ih =>
  obtain⟨h1,_,h2⟩:=h;by_cases e:p.1=k
  ·have e':q.1=k:=h1.symm.trans e;have b:atKey (q::qs) k=some q.2:=by simp[atKey,List.find?_cons,e']
   rw[Ys e,b];exact h2
  ·have e':¬ q.1=k:=fun z=>e (h1.trans z);have b:atKey (q::qs) k=atKey qs k:=by simp[atKey,List.find?_cons,e']
   rw[Yq e,b];exact ih
theorem KTd.repl{H:Hp}{kvs:List (List Key×V)}{xs:List (List Key×Addr×Value)}(r:KTd H kvs xs)(k:List Key){y:V}{u:Value}(ry:RelV y u) :
  KTd H (kvs.map fun kv=>if kv.1=k then(kv.1,y)else kv) (xs.map (putAt k u)):=by
 induction r with
 |nil=>exact .nil
 |@cons p q ps qs h t ih =>
  rw[qG,qG];refine .cons ?_ ih;obtain⟨h1,h2,h3⟩:=h;unfold putAt;by_cases e:p.1=k
  ·rw[if_pos e,if_pos (h1.symm.trans e)];exact⟨h1,h2,ry⟩
  ·rw[if_neg e,if_neg (fun z=>e (h1.trans z))];exact⟨h1,h2,h3⟩
theorem KTd.put{H:Hp}{kvs:List (List Key×V)}{xs:List (List Key×Addr×Value)}(r:KTd H kvs xs)(k:List Key){b:Addr}{y:V}{u:Value}(hb:H b=some (.tup (k.map kV)))(ry:RelV y u) :
  KTd H (putK kvs k y) (storedH xs k b u):=by
 have e:(kvs.any fun kv=>decide (kv.1=k))=(atKey xs k).isSome:=by rw[Yn,(r.val k).isSome_eq,Option.isSome_map]
 unfold putK storedH;rw[e];by_cases q:(atKey xs k).isSome=true
 ·rw[if_pos q,if_pos q];exact r.repl k ry
 ·rw[if_neg q,if_neg q];exact Paired.snoc r ⟨rfl,hb,ry⟩
theorem KTd.keeps{H H':Hp}{kvs:List (List Key×V)}{xs:List (List Key×Addr×Value)}(r:KTd H kvs xs)(ht:∀ b ys,H b=some (.tup ys)→H' b=some (.tup ys)):KTd H' kvs xs :=
 Paired.mapP r fun _ _ z=>⟨z.1,ht _ _ z.2.1,z.2.2⟩
section
variable {P:Program}{w:World}{H:Hp}{h:Heap}{a:Addr}
theorem Cp{u:HO}(ok:HOk P w H h)(e:Rd H a u):ObjOk P w H h a u:=e.ok ok
theorem XG{kvs:List (Key×V)}(ok:HOk P w H h)(e:Rd H a (.dK kvs)):kvs.length≤sizeLine∧(a==sysModules)=false∧∃ vs,KV kvs vs∧h.DictOf (Zg P w) a vs :=
 show ObjOk P w H h a (.dK kvs) from Cp ok e
theorem MA{kvs:List (Key×V)}(ok:HOk P w H h)(e:H a=some (.dK kvs)):kvs.length≤sizeLine∧(a==sysModules)=false∧∃ vs,KV kvs vs∧h.DictOf (Zg P w) a vs:=XG ok (.inl e)
theorem key_of{ks:List Key}(ok:HOk P w H h)(e:H a=some (.tup (ks.map kV))):(tupleKind (Zg P w)).is h ks a:=by
 obtain⟨_,its,r,o,h1,h2,n,h3⟩:=(show ObjOk P w H h a (.tup (ks.map kV)) from ok a _ e)
 exact⟨o,its.toArray,n,h1,h2,h3,by simpa using WD r⟩
theorem Ki{kvs:List (List Key×V)}(ok:HOk P w H h)(e:Rd H a (.dT kvs)):kvs.length≤sizeLine∧(a==sysModules)=false∧
  ∃ xs,KTd H kvs xs∧h.DictOfH (tupleKind (Zg P w)) a xs:=by
 obtain⟨z,y,xs,r,o,es,ep,h1,h2,h3,h4,h5⟩:=(show ObjOk P w H h a (.dT kvs) from Cp ok e)
 refine⟨z,y,xs,r,o,es,ep,h1,h2,h3,h4,fun x hx=>?_,h5⟩;have all:∀ {l:List (List Key×V)}{m:List (List Key×Addr×Value)},KTd H l m→∀ x∈m,(tupleKind (Zg P w)).is h x.1 x.2.1:=by
  intro l m q;induction q with
  |nil=>intro x hx;exact nomatch hx
  |@cons p q ps qs hq t ih =>
   intro x hx;rcases qE.mp hx with e|hx
   ·subst e;exact key_of ok (by rw[←hq.1];exact hq.2.1)
   ·exact ih x hx
 exact all r x hx
theorem FF{kvs:List (List Key×V)}(ok:HOk P w H h)(e:H a=some (.dT kvs)):kvs.length≤sizeLine∧(a==sysModules)=false∧
  ∃ xs,KTd H kvs xs∧h.DictOfH (tupleKind (Zg P w)) a xs:=Ki ok (.inl e)
end
def DGet (H:Hp) (a:Addr) (y:V) (r:Option V):Prop :=
 (∃ kvs k,Rd H a (.dK kvs)∧y=kV k∧r=Yv kvs k)∨∃ kvs k b,Rd H a (.dT kvs)∧y=.ref b∧H b=some (.tup (k.map kV))∧r=Yv kvs k
def DPut (H:Hp) (a:Addr) (y v:V) (H':Hp):Prop :=
 (∃ kvs k,H a=some (.dK kvs)∧y=kV k∧kvs.length<sizeLine∧H'=upd H a (.dK (putK kvs k v)))∨
 ∃ kvs k b,H a=some (.dT kvs)∧y=.ref b∧H b=some (.tup (k.map kV))∧kvs.length<sizeLine∧H'=upd H a (.dT (putK kvs k v))
theorem DGet.k{H:Hp}{a:Addr}{kvs:List (Key×V)}{k:Key}(e:H a=some (.dK kvs)):DGet H a (kV k) (Yv kvs k):=.inl ⟨kvs,k,.inl e,rfl,rfl⟩
theorem DGet.t{H:Hp}{a b:Addr}{kvs:List (List Key×V)}{k:List Key}(e:H a=some (.dT kvs))(eb:H b=some (.tup (k.map kV))):DGet H a (.ref b) (Yv kvs k):=.inr ⟨kvs,k,b,.inl e,rfl,eb,rfl⟩
theorem DPut.k{H:Hp}{a:Addr}{kvs:List (Key×V)}{k:Key}{v:V}(e:H a=some (.dK kvs))(hl:kvs.length<sizeLine):DPut H a (kV k) v (upd H a (.dK (putK kvs k v))):=.inl ⟨kvs,k,e,rfl,hl,rfl⟩
theorem DPut.t{H:Hp}{a b:Addr}{kvs:List (List Key×V)}{k:List Key}{v:V}(e:H a=some (.dT kvs))(eb:H b=some (.tup (k.map kV)))(hl:kvs.length<sizeLine) :
  DPut H a (.ref b) v (upd H a (.dT (putK kvs k v))):=.inr ⟨kvs,k,b,e,rfl,eb,hl,rfl⟩
section
variable {X:Cx}{pins:List (Addr×Obj)}{σ:St}{H:Hp}{s:Shared}{a:Addr}{y v:V}{u r:Value}{o:Option V}{A:Around}{E:Value→Shared→Prop}
theorem Inv.big(I:Inv X pins σ H s):sysModules<s.heap.objs.size:=by have h:mainGlobals<s.heap.objs.size:=(I.mod.glob.keeps I.bk).lt;exact Nat.lt_trans (by decide) h
theorem N7{Q:Value→Shared→Prop}(hu:A.units+1<cLine)(I:Inv X pins σ H s)(g:DGet H a y (some v))(ry:RelV y u)(h:∀ w' s',Inv X pins σ H s'→RelV v w'→Q w' s') :
  wpAny (model X.prog X.w) A (getItem (.ref a) u) Q E s:=by
 rcases g with⟨kvs,k,e,ey,l⟩|⟨kvs,k,b,e,ey,eb,l⟩
 ·subst ey;obtain⟨z,hd,vs,rel,dd⟩:=XG I.hok e;obtain⟨w',hw,rw'⟩:=RelO.some_of (v:=v) (o:=valueAt vs k) (by rw[l];exact rel.val k);exact wpAny_getItem_of (XM ry) dd.mapOf hw (h w' _ (I.tok _) rw')
 ·subst ey;cases (show u=Value.ref b from ry);obtain⟨z,hd,xs,rel,dd⟩:=Ki I.hok e;obtain⟨w',hw,rw'⟩:=RelO.some_of (v:=v) (o:=(atKey xs k).map (·.2)) (by rw[l];exact rel.val k);obtain⟨p,hp,hp2⟩:=qD.mp hw;refine wpAny_getItem_heap (tupleKind_room_in1 hu) (key_of I.hok eb) dd hp ?_;rw[hp2];exact h w' _ (I.tok _) rw'
theorem Ib{Q:Value→Shared→Prop}(hu:A.units+1<cLine)(I:Inv X pins σ H s)(g:DGet H a y o)(ry:RelV y u)(h:∀ s',Inv X pins σ H s'→Q (.bool o.isSome) s') :
  wpAny (model X.prog X.w) A (compareOp .In u (.ref a)) Q E s:=by
 rcases g with⟨kvs,k,e,ey,l⟩|⟨kvs,k,b,e,ey,eb,l⟩
 ·subst ey;obtain⟨z,hd,vs,rel,dd⟩:=XG I.hok e;refine wpAny_in_of (XM ry) hd dd.mapOf ?_;rw[←(rel.val k).isSome_eq,←l];exact h _ (I.tok _)
 ·subst ey;cases (show u=Value.ref b from ry);obtain⟨z,hd,xs,rel,dd⟩:=Ki I.hok e;refine wpAny_in_heap (tupleKind_room_in1 hu) (key_of I.hok eb) hd dd ?_;have q:=(rel.val k).isSome_eq;rw[Option.isSome_map]at q;rw[←q,←l];exact h _ (I.tok _)
theorem Bl{Q:Value→Shared→Prop}(hu:A.units+1<cLine)(I:Inv X pins σ H s)(g:DGet H a y o)(ry:RelV y u)(h:∀ s',Inv X pins σ H s'→Q (.bool (!o.isSome)) s') :
  wpAny (model X.prog X.w) A (compareOp .NotIn u (.ref a)) Q E s:=by
 rcases g with⟨kvs,k,e,ey,l⟩|⟨kvs,k,b,e,ey,eb,l⟩
 ·subst ey;obtain⟨z,hd,vs,rel,dd⟩:=XG I.hok e;refine wpAny_notIn_of (XM ry) hd dd.mapOf ?_;rw[←(rel.val k).isSome_eq,←l];exact h _ (I.tok _)
 ·subst ey;cases (show u=Value.ref b from ry);obtain⟨z,hd,xs,rel,dd⟩:=Ki I.hok e;refine wpAny_notIn_heap (tupleKind_room_in1 hu) (key_of I.hok eb) hd dd ?_;have q:=(rel.val k).isSome_eq;rw[Option.isSome_map]at q;rw[←q,←l];exact h _ (I.tok _)
theorem W3{h':Heap}{t':Nat}{ob:HO}(I:Inv X pins σ H s)(mu:Mut (H a))(hs:Heap.SameBut a s.heap h')(he:∃ q,h'.get? a=some q)(new:ObjOk X.prog X.w (upd H a ob) h' a ob) :
  Inv X pins σ (upd H a ob) {s with heap:=h',toks:=t'} :=
 I.write (x:=a) (e:=a) mu (.inl rfl) (fun b q hb z=>(hs.2 b hb).trans z) he new
theorem W4{P:Program}{w:World}{H':Hp}{h':Heap}{kvs:List (Key×V)}{vs:List (Key×Value)}(z:kvs.length≤sizeLine)(hd:(a==sysModules)=false)(rel:KV kvs vs)(dd:h'.DictOf (Zg P w) a vs) :
  ObjOk P w H' h' a (.dK kvs):=⟨z,hd,vs,rel,dd⟩
theorem Oc{H':Hp}{Q:Unit→Shared→Prop}(hu:A.units+1<cLine)(I:Inv X pins σ H s)(g:DPut H a y v H')(ry:RelV y u)(rv:RelV v r)(h:∀ s',Inv X pins σ H' s'→Q () s') :
  wpAny (model X.prog X.w) A (setItem (.ref a) u r) Q E s:=by
 rcases g with⟨kvs,k,e,ey,l,eH⟩|⟨kvs,k,b,e,ey,eb,l,eH⟩
 ·subst ey eH;obtain⟨z,hd,vs,rel,dd⟩:=MA I.hok e;have hz:vs.length≤sizeLine:=by rw[←rel.length];exact z
  have hl:(putK kvs k v).length≤sizeLine:=by have:=Z8 kvs k v;omega
  refine wpAny_setItem_pairs (hsz:=hz) (XM ry) dd fun h' dd' hs=>h _ ?_;have he:∃ q,h'.get? a=some q:=let ⟨q,_,_,hq,_⟩:=dd';⟨q,hq⟩;exact W3 I (by rw[e];exact True.intro) hs he (W4 hl hd (rel.put k rv) dd')
 ·subst ey eH;cases (show u=Value.ref b from ry);obtain⟨z,hd,xs,rel,dd⟩:=FF I.hok e;have hz:xs.length≤sizeLine:=by rw[←Paired.length rel];exact z
  have hl:(putK kvs k v).length≤sizeLine:=by have:=Z8 kvs k v;omega
  refine wpAny_setItem_heap (hsz:=hz) (tupleKind_room_in1 hu) (key_of I.hok eb) dd fun h' dd' hs=>h _ ?_;obtain⟨q,es,ep,hq,h2,h3,h4,_,h5⟩:=dd';refine W3 I (by rw[e];exact True.intro) hs ⟨q,hq⟩ ⟨hl,hd,_,(rel.put k eb rv).keeps fun c ys ec=>?_,q,es,ep,hq,h2,h3,h4,h5⟩;rw[upd_ne (O9 ec e (fun z=>nomatch z))];exact ec
end
section
variable {X:Cx}{pins:List (Addr×Obj)}{σ:St}{H:Hp}{s:Shared}{a:Addr}{kvs:List (Key×V)}{k:Key}{u:Value}{A:Around}{E:Value→Shared→Prop}
theorem Ha {Q:Value→Shared→Prop}(I:Inv X pins σ H s) (e:Rd H a (.dK kvs)) (h:∀ t s',Inv X pins σ H s'→Q (.int kvs.length t) s'):wpAny (model X.prog X.w) A (call (.builtin "len") [.ref a]) Q E s:=by obtain⟨z,hd,vs,rel,dd⟩:=XG I.hok e;refine call_len_dict hd dd (by rw[←rel.length];rw[sizeLine_eq]at z;omega) ?_;rw[←rel.length];exact h _ _ (I.tok _)
end
theorem JG {X:Cx}{pins:List (Addr×Obj)}{σ:St}{H:Hp}{s:Shared}{a:Addr}{y:V}{o:Option V}(I:Inv X pins σ H s) (g:DGet H a y o):s.TypeIs (.ref a) "dict":=by
 rcases g with⟨kvs,k,e,_,_⟩|⟨kvs,k,b,e,_,_,_⟩
 ·obtain⟨_,_,vs,_,dd⟩:=XG I.hok e;exact dd.typeIs
 ·obtain⟨_,_,xs,_,dd⟩:=Ki I.hok e;exact dd.typeIs
theorem JW {P:Program}{w:World}{H:Hp}(h:Heap) (hb:sysModules<h.objs.size):ObjOk P w H (h.push {cls:=.type "dict",data:=.dict #[]}) h.objs.size (.dK []) :=
 ⟨Nat.zero_le _,beq_eq_false_iff_ne.mpr (Ne.symm (zF hb)),[],.nil,Heap.DictOf.new h⟩
def Db:TE:=fun _ H Q=>∀ p,H p=none→Q (.ref p) (upd H p (.dK []))
section
variable {X:Cx}{pos:Pos}
theorem pe_dnewK:PE X (.Dict [] [] pos) Db:=fun pins s σ H Q I h =>
 wpAny_Dict_empty ⟨.ref s.heap.objs.size,_,I.laid (a:=s.heap.objs.size) (o:=.dK []) (t':=s.toks) (fun _ _ q=>Heap.get?_push_of_some _ q) (zG _) (JW s.heap I.big),rfl,h _ (I.hok.fresh (zG _))⟩
end
def WP:List (TE×TE)→St→Hp→(List (V×V)→Hp→Prop)→Prop
 |[],_,H,Q=>Q [] H
 |(tk,tv)::r,σ,H,Q=>tk σ H fun x H1=>tv σ H1 fun y H2=>WP r σ H2 fun ps H3=>Q ((x,y)::ps) H3
abbrev VV:List (V×V)→List (Value×Value)→Prop:=Paired fun p q=>RelV p.1 q.1∧RelV p.2 q.2
def PPs (X:Cx) (pos:Pos) (keys:List (Option Expr)) (values:List Expr) (trs:List (TE×TE)):Prop :=
 ∀ (pins:List (Addr×Obj)) (s:Shared) (σ:St) (H:Hp) (Q:List (V×V)→Hp→Prop),Inv X pins σ H s→WP trs σ H Q→
  wpAny (model X.prog X.w) X.A (evalPairs (pairTrees keys values X.env pos)) (fun vs s'=>∃ ps H',Inv X pins σ H' s'∧VV ps vs∧Q ps H') X.xe s
theorem A1{X:Cx}{pos:Pos}:PPs X pos [] [] []:=fun pins s σ H Q I h=>pairTrees_nil_walk ⟨[],H,I,.nil,h⟩
theorem Om{X:Cx}{pos:Pos}{k v:Expr}{ks:List (Option Expr)}{vs:List Expr}{tk tv:TE}{trs:List (TE×TE)}(hk:PE X k tk)(hv:PE X v tv)(hr:PPs X pos ks vs trs) :
  PPs X pos (some k::ks) (v::vs) ((tk,tv)::trs):=fun pins s σ H Q I h =>
 pairTrees_cons_walk (thn (hk pins s σ H _ I h) fun u s1 ⟨x,H1,I1,rx,q1⟩=>thn (hv pins s1 σ H1 _ I1 q1) fun w2 s2 ⟨y,H2,I2,ry,q2⟩ =>
   thn (hr pins s2 σ H2 _ I2 q2) fun ws s3 ⟨ps,H3,I3,rel,q3⟩=>⟨(x,y)::ps,H3,I3,.cons ⟨rx,ry⟩ rel,q3⟩)
def Yp (kvs more:List (Key×V)):List (Key×V):=more.foldl (fun acc kv=>putK acc kv.1 kv.2) kvs
theorem KV.merge:∀ {more:List (Key×V)}{rs:List (Key×Value)}{kvs:List (Key×V)}{vs:List (Key×Value)},KV more rs→KV kvs vs→KV (Yp kvs more) (merged vs rs):=by
 intro more rs kvs vs r;unfold KV at r;induction r generalizing kvs vs with
 |nil=>intro q;exact q
 |@cons p q ps qs h t ih =>
  intro r0;have e:KV (putK kvs p.1 p.2) (stored vs q.1 q.2):=by have:=r0.put p.1 h.2;rw[←h.1];exact this
  exact ih e
theorem Yz:∀ (more kvs:List (Key×V)),(Yp kvs more).length≤kvs.length+more.length
 |[],kvs=>by show kvs.length≤kvs.length+0;omega
 |p::r,kvs=>by have h1:=Yz r (putK kvs p.1 p.2);have h2:=Z8 kvs p.1 p.2;show(Yp (putK kvs p.1 p.2) r).length≤_;rw[qB];omega
theorem Wb{P:Program}{w:World}:∀ {kvs:List (Key×V)}{ws:List (Value×Value)},VV (kvs.map fun kv=>(kV kv.1,kv.2)) ws→∃ rs,Carries (Zg P w) ws rs∧KV kvs rs
 |[],_,r=>by rw[List.map_nil]at r;cases r;exact⟨[],True.intro,.nil⟩
 |p::kvs,_,r=>by
  rw[qG]at r;cases r with
  |@cons a b as bs h t =>obtain⟨rs,c,q⟩:=Wb (P:=P) (w:=w) t;obtain⟨b1,b2⟩:=b;exact⟨(p.1,b2)::rs,⟨XM h.1,rfl,c⟩,.cons ⟨rfl,h.2⟩ q⟩
def GD (trs:List (TE×TE)):TE:=fun σ H Q=>∀ p,H p=none→WP trs σ (upd H p (.dK [])) fun ps H2=>H2 p=some (.dK [])∧∃ kvs:List (Key×V),ps=kvs.map (fun kv=>(kV kv.1,kv.2))∧kvs.length≤15∧Q (.ref p) (upd H2 p (.dK (Yp [] kvs)))
theorem Bw{X:Cx}{pos:Pos}{keys:List (Option Expr)}{values:List Expr}{trs:List (TE×TE)}(h:PPs X pos keys values trs)(hall:keys.all (·.isSome)=true)(hl:keys.length=values.length)(h0:keys≠[])
  (h15:keys.length≤15):PE X (.Dict keys values pos) (GD trs):=by
 intro pins s σ H Q I q;have hn:=I.hok.fresh (zG s.heap.objs.size);have I1:=I.laid (a:=s.heap.objs.size) (o:=.dK []) (h':=s.heap.push {cls:=.type "dict",data:=.dict #[]}) (t':=s.toks) (fun _ _ q=>Heap.get?_push_of_some _ q) (zG _) (JW s.heap I.big);refine wpAny_Dict_walk (knd:=Zg X.prog X.w) hall hl h0 h15 (thn (h pins _ σ _ _ I1 (q _ hn)) fun ws s2 ⟨ps,H2,I2,rel,e,kvs,ep,lk,q2⟩=>?_);subst ep;obtain⟨rs,c,rk⟩:=Wb (P:=X.prog) (w:=X.w) rel;obtain⟨z,hd,vs0,r0,dd⟩:=MA I2.hok e;cases r0;refine⟨rs,c,dd,fun h' dd' hs=>⟨.ref s.heap.objs.size,_,?_,rfl,q2⟩⟩;have hz:(Yp [] kvs).length≤sizeLine:=by have h1:=Yz kvs [];rw[List.length_nil]at h1;rw[sizeLine_eq];omega
 have he:∃ q,h'.get? s.heap.objs.size=some q:=let ⟨q,_,_,hq,_⟩:=dd';⟨q,hq⟩;exact W3 I2 (by rw[e];exact True.intro) hs he (W4 hz hd (rk.merge .nil) dd')
section
variable {X:Cx}
theorem N0:CallR X (.builtin "len") (fun xs H Q=>∃ a kvs,xs=[V.ref a]∧H a=some (.dK kvs)∧Q (.int kvs.length) H):=by intro pins s σ H xs us Q I r h;obtain⟨a,kvs,rfl,ha,q⟩:=h;obtain⟨u,rfl,ru⟩:=ZN r;cases ru;exact Ha I (.inl ha) fun t s' I'=>⟨.int kvs.length,H,I',⟨t,rfl⟩,q⟩
end
end L2
namespace Own
noncomputable abbrev Ad:=Nat
inductive Val where
 |non|bl (b:Bool)|int (i:Int)|str (s:String)|tup (xs:List Val)|ref (a:Ad)|scr (ns:List Int)|key (i j:Int)
 deriving Inhabited
mutual
noncomputable def Val.eqb:Val→Val→Bool
 |.non,.non=>true
 |.bl a,.bl b=>a==b
 |.int a,.int b=>a==b
 |.str a,.str b=>a==b
 |.tup a,.tup b=>Val.eqs a b
 |.ref a,.ref b=>a==b
 |.scr a,.scr b=>a==b
 |.key a b,.key c d=>a==c&&b==d
 |_,_=>false
noncomputable def Val.eqs:List Val→List Val→Bool
 |[],[]=>true
 |x::xs,y::ys=>Val.eqb x y&&Val.eqs xs ys
 |_,_=>false
end
mutual
theorem Val.eqb_iff:∀ {a b:Val},Val.eqb a b=true↔a=b
 |.non,b=>by cases b<;>simp[Val.eqb]
 |.bl _,b=>by cases b<;>simp[Val.eqb]
 |.int _,b=>by cases b<;>simp[Val.eqb]
 |.str _,b=>by cases b<;>simp[Val.eqb]
 |.tup _,b=>by cases b<;>simp[Val.eqb,Val.eqs_iff]
 |.ref _,b=>by cases b<;>simp[Val.eqb]
 |.scr _,b=>by cases b<;>simp[Val.eqb]
 |.key _ _,b=>by cases b<;>simp[Val.eqb]
theorem Val.eqs_iff:∀ {a b:List Val},Val.eqs a b=true↔a=b
 |[],b=>by cases b<;>simp[Val.eqs]
 |_::_,b=>by cases b<;>simp[Val.eqs,Val.eqb_iff,Val.eqs_iff]
end
noncomputable instance:DecidableEq Val:=fun a b=>if h:Val.eqb a b=true then isTrue (Val.eqb_iff.mp h)else isFalse fun e=>h (Val.eqb_iff.mpr e)
inductive Ob where
 |lst (xs:List Val)|dct (kvs:List (Val×Val))|ins (C:String) (fs:List (String×Val))|exc (C:String)|frz (kvs:List (Val×Val))|dtp (kvs:List (Val×Val))
 deriving Inhabited
noncomputable def Cz (sep:List Char):List (List Char)→List Char
 |[]=>[]
 |[x]=>x
 |x::y::r=>x++(sep++Cz sep (y::r))
noncomputable def CJ (sep:String) (xs:List String):String:=String.ofList (Cz sep.toList (xs.map String.toList))
noncomputable def K3 (c:Char):List Char→List (List Char)
 |[]=>[[]]
 |x::xs=>if x=c then []::K3 c xs else match K3 c xs with
  |[]=>[[x]]
  |y::ys=>(x::y)::ys
noncomputable def KH (c:Char) (s:String):List String:=(K3 c s.toList).map String.ofList
noncomputable def figB (c:Char):Bool:=decide (48≤c.toNat)&&decide (c.toNat≤57)
noncomputable def decN (l:List Char):Nat:=l.foldl (fun a c=>10*a+(c.toNat - 48)) 0
noncomputable def U5:List Val→Option (List String)
 |[]=>some []
 |.str s::xs=>(U5 xs).map (s :: ·)
 |_=>none
noncomputable def Xk:Val→Option String
 |.str s=>some s
 |_=>none
noncomputable def oneC (s:String):Option Char:=match s.toList with
 |[c]=>some c
 |_=>none
noncomputable def MO (i:Int):String:=toString i
noncomputable def fmtV:Val→Option String
 |.str s=>some s
 |.int i=>if i.natAbs<10 ^ 200 then some (MO i)else none
 |_=>none
noncomputable abbrev Hs:=Ad→Option Ob
@[irreducible] noncomputable def upd (h:Hs) (a:Ad) (o:Ob):Hs:=fun b=>if b=a then some o else h b
theorem upd_same{h:Hs}{a:Ad}{o:Ob}:upd h a o a=some o:=by simp[upd]
theorem upd_ne{h:Hs}{a b:Ad}{o:Ob}(e:b≠a):upd h a o b=h b:=by simp[upd,e]
theorem upd_upd{h:Hs}{a:Ad}{o u:Ob}:upd (upd h a o) a u=upd h a u:=by funext b;simp only[upd];split<;>rfl
noncomputable abbrev Env:=List (Option Val)
noncomputable abbrev Q1:=Val→Hs→Prop
noncomputable abbrev XQ:=String→Hs→Prop
noncomputable abbrev Fs:=String→List Val→Hs→Q1→XQ→Prop
noncomputable def lim:Nat:=1000000
@[irreducible] noncomputable def go {α:Type}(o:Option α) (k:α→Prop):Prop:=match o with|some a=>k a|none=>False
@[simp] theorem go_some{α:Type}{a:α}{k:α→Prop}:go (some a) k=k a:=by unfold go;rfl
@[simp] theorem HN{α:Type}{k:α→Prop}:go none k=False:=by unfold go;rfl
theorem go_of{α:Type}{o:Option α}{a:α}{k:α→Prop}(e:o=some a)(h:k a):go o k:=by rw[e,go_some];exact h
inductive Bop where|add|sub|mul|fdiv|mod|pow
inductive Cop where|eq|ne|lt|le|gt|ge|isin|notin|is|isnot|nes|eqE|neE|ntT|neX
inductive Bi where
 |len|int|str|bool|abs|min2|max2|minL|maxL|minD|sum|all|any|sorted|sortedI|sortedSet|lenSet|list|tuple|dict|isi (Ts:List String)|isx (Ts:List String)|repr|listRev|listRange|tupRange|dictEnum
inductive Bm where
 |append|extend|pop|popAt|insert|remove|clear|reverse|index|count|dget|dgetD|dpop|dpopD|setdefault|join|split|replace|upper|partition|sidx
inductive Pt where|one (i:Nat)|many (is:List Nat)|nest (i:Nat) (is:List Nat)
mutual
inductive E where
 |cst (v:Val)|var (i:Nat)|glob (x:String) (v:Val)
 |bin (op:Bop) (a b:E)|neg (a:E)|not (a:E)|and (a b:E)|or (a b:E)
 |cmp (op:Cop) (a b:E)|chain (o1 o2:Cop) (a b c:E)
 |call (f:String) (as:Es)|make (C:String) (as:Es)|meth (C m:String) (o:E) (as:Es)|fld (o:E) (f:String)
 |bi (f:Bi) (as:Es)|bm (m:Bm) (o:E) (as:Es)
 |idx (a i:E)|slc (a:E) (lo hi:Oe)|rev (a:E)
 |tup (es:Es)|lst (es:Es)|dct (es:Es)
 |ife (c:Tt) (a b:E)
 |comp (caps:List Nat) (n:Nat) (p:Pt) (it:It) (c:Tt) (e:E)
 |fstr (es:Es)
 |split (o a:E)
 |repl (o:E) (y z:String)
 |key (es:Es)|dctP
inductive Es where|nil|cons (e:E) (es:Es)
inductive Oe where|none|some (e:E)
inductive Tt where|yes|val (e:E)|not (t:Tt)|and (a b:Tt)|or (a b:Tt)
inductive It where
 |seq (e:E)|chars (e:E)|range (a:E)|range2 (a b:E)|enum (e:E)|zip (a b:E)|items (e:E)|rev (e:E)
end
mutual
inductive S where
 |set (p:Pt) (e:E)|setIdx (a i e:E)|setFld (o:E) (f:String) (e:E)
 |augVar (i:Nat) (op:Bop) (e:E)|augFld (o:E) (f:String) (op:Bop) (n:Int)|augIdx (a i:E) (op:Bop) (n:Int)
 |setPair (a i b j e:E)
 |expr (e:E)|ret (e:E)|retN|ite (c:Tt) (a b:Ss)|whl (c:Tt) (b:Ss)|for (p:Pt) (it:It) (b:Ss)|forI (k:Bool) (p:Pt) (e:E) (b:Ss)
 |never|brk|cnt|pass|raise (C:String) (as:Es)|try (t:Option Nat) (e:E) (hs:Hn)
inductive Ss where|nil|cons (s:S) (ss:Ss)
inductive Hn where|nil|cons (C:String) (n:Option Nat) (b:Ss) (r:Hn)
end
noncomputable def ixN (n:Nat) (i:Int):Option Nat:=if 0≤i then(if i<n then some i.toNat else none)else if -(n:Int)≤i then some (i+n).toNat else none
noncomputable def atI {α:Type}(xs:List α) (i:Int):Option α:=(ixN xs.length i).bind fun j=>xs[j]?
noncomputable def cutAt (n d:Nat):Option Int→Nat
 |none=>d
 |some i=>if 0≤i then min i.toNat n else(i+n).toNat
noncomputable def cut {α:Type}(xs:List α) (lo hi:Option Int):List α:=(xs.drop (cutAt xs.length 0 lo)).take (cutAt xs.length xs.length hi - cutAt xs.length 0 lo)
noncomputable def lsOf:Option Ob→Option (List Val)
 |some (.lst xs)=>some xs
 |_=>none
@[simp] theorem ZY{xs:List Val}:lsOf (some (.lst xs))=some xs:=rfl
noncomputable def YQ (h:Hs):Val→Option (List Val)
 |.ref a=>lsOf (h a)
 |.tup xs=>some xs
 |.scr ns=>some (ns.map .int)
 |_=>none
noncomputable def K6:Option Ob→Option (List (Val×Val))
 |some (.dct kvs)=>some kvs
 |_=>none
noncomputable def lookK (kvs:List (Val×Val)) (k:Val):Option Val:=(kvs.find? fun p=>p.1==k).map (·.2)
noncomputable def hasK (kvs:List (Val×Val)) (k:Val):Bool:=kvs.any fun p=>p.1==k
noncomputable def putK (kvs:List (Val×Val)) (k v:Val):List (Val×Val):=if hasK kvs k then kvs.map fun p=>if p.1==k then(k,v)else p else kvs++[(k,v)]
noncomputable def dropK (kvs:List (Val×Val)) (k:Val):List (Val×Val):=kvs.filter fun p=>!(p.1==k)
noncomputable def isKey:Val→Bool
 |.int _=>true
 |.str _=>true
 |_=>false
inductive D where
 |non|bl (b:Bool)|int (i:Int)|str (s:String)|tup (ds:List D)|lst (ds:List D)
 deriving Inhabited
mutual
noncomputable def D.eqv:D→D→Bool
 |.non,.non=>true
 |.bl a,.bl b=>a==b
 |.bl a,.int i=>(if a then 1 else 0)==i
 |.int i,.bl a=>i==(if a then 1 else 0)
 |.int a,.int b=>a==b
 |.str a,.str b=>a==b
 |.tup a,.tup b=>D.eqvs a b
 |.lst a,.lst b=>D.eqvs a b
 |_,_=>false
noncomputable def D.eqvs:List D→List D→Bool
 |[],[]=>true
 |x::xs,y::ys=>D.eqv x y&&D.eqvs xs ys
 |_,_=>false
end
noncomputable def dat (h:Hs):Nat→Val→Option D
 |_,.non=>some .non
 |_,.bl b=>some (.bl b)
 |_,.int i=>some (.int i)
 |_,.str s=>some (.str s)
 |0,_=>none
 |n+1,.tup xs=>(xs.mapM (dat h n)).map .tup
 |n+1,.ref a=>(lsOf (h a)).bind fun xs=>(xs.mapM (dat h n)).map .lst
 |n+1,.scr ns=>some (.lst (ns.map .int))
 |_+1,.key _ _=>none
noncomputable def deep:Nat:=12
noncomputable def eqV (h:Hs) (v u:Val):Option Bool:=(dat h deep v).bind fun d=>(dat h deep u).map fun e=>D.eqv d e
noncomputable def intsOf:List Val→Option (List Int)
 |[]=>some []
 |.int i::xs=>(intsOf xs).map (i :: ·)
 |_=>none
noncomputable def lexI:List Int→List Int→Bool
 |[],[]=>false
 |[],_::_=>true
 |_::_,[]=>false
 |x::xs,y::ys=>if x=y then lexI xs ys else decide (x<y)
noncomputable def ltV:Val→Val→Option Bool
 |.int i,.int j=>some (decide (i<j))
 |.tup xs,.tup ys=>(intsOf xs).bind fun ns=>(intsOf ys).map fun ms=>lexI ns ms
 |_,_=>none
noncomputable def inL (h:Hs) (x:Val) (ys:List Val):Option Bool:=(dat h deep x).bind fun d=>(ys.mapM (dat h (deep - 1))).map fun ds=>ds.any fun e=>D.eqv e d
noncomputable def leV:Val→Val→Option Bool
 |.int i,.int j=>some (decide (i≤j))
 |_,_=>none
noncomputable def isKeyT:Val→Bool
 |.key _ _=>true
 |_=>false
noncomputable def inV (h:Hs) (v u:Val):Option Bool:=match u with
 |.tup xs=>inL h v xs
 |.ref a=>match h a with
  |some (.lst xs)=>inL h v xs
  |some (.dct kvs)=>if isKey v then some (hasK kvs v)else none
  |some (.frz kvs)=>if isKey v then some (hasK kvs v)else none
  |some (.dtp kvs)=>if isKeyT v then some (hasK kvs v)else none
  |_=>none
 |.str t=>(match v with|.str s=>(oneC s).map fun c=>decide (c∈t.toList)|_=>none)
 |_=>none
noncomputable def isV (v u:Val):Option Bool:=match u with
 |.non=>some (decide (v=.non))
 |.bl b=>some (decide (v=.bl b))
 |_=>none
noncomputable def samL (f:Val→Val→Bool):List Val→List Val→Bool
 |[],[]=>true
 |x::xs,y::ys=>f x y&&samL f xs ys
 |_,_=>false
noncomputable def sam (h:Hs):Nat→Val→Val→Bool
 |_,.non,.non=>true
 |_,.bl a,.bl b=>a==b
 |_,.int a,.int b=>a==b
 |_,.str a,.str b=>a==b
 |0,.ref a,.ref b=>a==b
 |n+1,.tup xs,.tup ys=>samL (sam h n) xs ys
 | n+1,.ref a,.ref b=>a == b||(match lsOf (h a),lsOf (h b)with
   |some xs,some ys=>samL (sam h n) xs ys
   | _,_=>false)
 |_,_,_=>false
noncomputable def asLst (h:Hs):Val→Option (List Val)
 |.ref a=>lsOf (h a)
 |_=>none
noncomputable def noPairs:Option Ob→Bool
 |some (.dct [])=>true
 |_=>false
noncomputable def sam0 (h:Hs) (v u:Val):Bool:=(match asLst h v,asLst h u with
    |some xs,some ys=>samL (sam h 8) xs ys
    |_,_=>false)||(match v,u with
    |.ref a,.ref b=>a==b&&noPairs (h a)
    | _,_=>false)
noncomputable def cmpV (h:Hs) (op:Cop) (v u:Val):Option Bool:=match op with
 |.eq=>eqV h v u
 |.ne=>(eqV h v u).map (!·)
 |.lt=>ltV v u
 |.gt=>ltV u v
 |.le=>leV v u
 |.ge=>leV u v
 |.isin=>inV h v u
 |.notin=>(inV h v u).map (!·)
 |.is=>isV v u
 |.isnot=>(isV v u).map (!·)
 |.nes=>(asLst h v).bind fun xs=>(asLst h u).bind fun ys=>if samL (sam h 8) xs ys then some false else none
 |.eqE=>(asLst h v).bind fun xs=>(asLst h u).bind fun ys=>if ys.isEmpty then some xs.isEmpty else none
 |.neE=>(asLst h v).bind fun xs=>(asLst h u).bind fun ys=>if ys.isEmpty then some (!xs.isEmpty)else none
 |.neX=>if sam0 h v u=true then some false else(eqV h v u).map (!·)
 |.ntT=>match v,u with
  |.bl a,.bl b=>some (a != b)
  |_,_=>none
noncomputable def YI (h:Hs):Val→Option Bool
 |.bl b=>some b
 |.int i=>some (decide (i≠0))
 |.non=>some false
 |.str s=>if s.length≤lim then some (decide (s.length≠0))else none
 |.tup xs=>some (!xs.isEmpty)
 |.scr ns=>some (!ns.isEmpty)
 |.ref a=>match h a with
  |some (.lst xs)=>some (!xs.isEmpty)
  |some (.dct kvs)=>some (!kvs.isEmpty)
  |_=>none
 |.key _ _=>none
def mulOk (i j:Int):Prop:=(i.natAbs<2 ^ 64∨j.natAbs<2 ^ 64)∨(i.natAbs≤10 ^ 200∧j.natAbs≤10 ^ 200)
instance (i j:Int):Decidable (mulOk i j):=inferInstanceAs (Decidable (_∨_))
@[irreducible] noncomputable def new (h:Hs) (o:Ob) (Q:Q1):Prop:=∀ p,h p=none→Q (.ref p) (upd h p o)
theorem O5{h:Hs}{o:Ob}{Q:Q1}(q:∀ p,h p=none→Q (.ref p) (upd h p o)):new h o Q:=by unfold new;exact q
inductive Rs where|val (v:Val)|new (o:Ob)|no
@[irreducible] noncomputable def Rs.wp (r:Rs) (h:Hs) (Q:Q1):Prop:=match r with|.val v=>Q v h|.new o=>Own.new h o Q|.no=>False
@[simp] theorem Rs.wp_val{v:Val}{h:Hs}{Q:Q1}:(Rs.val v).wp h Q=Q v h:=by unfold Rs.wp;rfl
@[simp] theorem Rs.wp_new{o:Ob}{h:Hs}{Q:Q1}:(Rs.new o).wp h Q=Own.new h o Q:=by unfold Rs.wp;rfl
@[simp] theorem Rs.wp_no{h:Hs}{Q:Q1}:Rs.no.wp h Q=False:=by unfold Rs.wp;rfl
noncomputable def Rs.ofO:Option Val→Rs
 |some v=>.val v
 |none=>.no
noncomputable def Rs.lst (xs:List Val):Rs:=if xs.length≤lim then .new (.lst xs)else .no
noncomputable def addV (h:Hs):Val→Val→Rs
 |.int i,.int j=>.val (.int (i+j))
 |.str s,.str t=>if s.length+t.length≤lim then .val (.str (s++t))else .no
 |.tup xs,.tup ys=>if xs.length+ys.length≤lim then .val (.tup (xs++ys))else .no
 |.ref a,.ref b=>match h a,h b with
  |some (.lst xs),some (.lst ys)=>Rs.lst (xs++ys)
  |_,_=>.no
 |_,_=>.no
noncomputable def repT (s:String) (n:Nat):String:=String.ofList (List.replicate n s.toList).flatten
noncomputable def mulV (h:Hs):Val→Val→Rs
 |.int i,.int j=>if mulOk i j then .val (.int (i*j))else .no
 |.ref a,.int k=>match h a with
  |some (.lst xs)=>if -(2 ^ 62)<k∧k<2 ^ 62∧xs.length*k.toNat≤lim then Rs.lst (List.replicate k.toNat xs).flatten else .no
  |_=>.no
 |.str s,.int k=>if 2≤k∧k≤1000000∧1≤s.length∧s.length*k.toNat≤lim then .val (.str (repT s k.toNat))else .no
 |_,_=>.no
noncomputable def intV (f:Int→Int→Rs):Val→Val→Rs
 |.int i,.int j=>f i j
 |_,_=>.no
noncomputable def binV (h:Hs) (op:Bop) (v u:Val):Rs:=match op with
 |.add=>addV h v u
 |.sub=>intV (fun i j=>.val (.int (i - j))) v u
 |.mul=>mulV h v u
 |.fdiv=>intV (fun i j=>if 0<j∧j<1073741824 then .val (.int (i / j))else .no) v u
 |.mod=>intV (fun i j=>if 0<j then .val (.int (i % j))else .no) v u
 |.pow=>intV (fun i j=>if 0≤j∧j≤1000000∧i.natAbs<2 ^ 64 then .val (.int (i ^ j.toNat))else .no) v u
noncomputable def asInt:Val→Option Int
 |.int i=>some i
 |_=>none
noncomputable def idxV (h:Hs):Val→Val→Option Val
 |.tup xs,.int k=>atI xs k
 |.str s,.int k=>if s.length≤lim then(atI s.toList k).map fun c=>.str (String.singleton c)else none
 |.ref a,k=>match h a with
  |some (.lst xs)=>(asInt k).bind (atI xs)
  |some (.dct kvs)=>if isKey k then lookK kvs k else none
  |some (.frz kvs)=>if isKey k then lookK kvs k else none
  |some (.dtp kvs)=>if isKeyT k then lookK kvs k else none
  |_=>none
 |.scr ns,.int i=>atI (ns.map .int) i
 |_,_=>none
noncomputable def slcV (h:Hs) (v:Val) (lo hi:Option Int):Rs :=
 match v with
 |.tup xs=>if cutAt xs.length 0 lo=0∧cutAt xs.length xs.length hi=xs.length then .no else .val (.tup (cut xs lo hi))
 |.ref a=>match lsOf (h a)with
  |some xs=>.new (.lst (cut xs lo hi))
  |none=>.no
 |.scr ns=>.new (.lst (cut (ns.map .int) lo hi))
 |.str s=>if s.length≤lim then .val (.str (String.ofList (cut s.toList lo hi)))else .no
 |_=>.no
noncomputable def sortI (ns:List Int):List Int:=ns.mergeSort fun a b=>decide (a≤b)
noncomputable def blsOf:List Val→Option (List Bool)
 |[]=>some []
 |.bl b::xs=>(blsOf xs).map (b :: ·)
 |_=>none
noncomputable def minL:List Val→Option Val
 |[]=>none
 |x::xs=>xs.foldl (fun m y=>m.bind fun b=>(ltV y b).map fun c=>if c then y else b) (some x)
noncomputable def maxL:List Val→Option Val
 |[]=>none
 |x::xs=>xs.foldl (fun m y=>m.bind fun b=>(ltV b y).map fun c=>if c then y else b) (some x)
noncomputable def dedup:List Int→List Int
 |[]=>[]
 |x::xs=>x::(dedup xs).filter (· != x)
noncomputable def excSub (c d:String):Bool:=c==d||d == "ShutError" || d == "ValueError" || d == "Exception"
noncomputable def kindV (h:Hs):Val→Option String
 |.non=>some "NoneType"
 |.bl _=>some "bool"
 |.int _=>some "int"
 |.str _=>some "str"
 |.tup _=>some "tuple"
 |.scr _=>some "list"
 |.ref a=>match h a with
  |some (.lst _)=>some "list"
  |some (.dct _)=>some "dict"
  |_=>none
 |.key _ _=>none
noncomputable def isiV (h:Hs) (v:Val) (T:String):Option Bool:=(kindV h v).map fun t=>t==T||(t == "bool" && T == "int")
noncomputable def Hc:Option Ob→Option String
 |some (.exc c)=>some c
 |_=>none
noncomputable def Ll (h:Hs):Val→Option String
 |.ref a=>Hc (h a)
 |_=>none
noncomputable def isiAny (h:Hs) (v:Val):List String→Option Bool
 |[]=>some false
 |T::Ts=>(isiV h v T).bind fun b=>(isiAny h v Ts).map (b || ·)
noncomputable def pairsOf (h:Hs):List Val→Option (List (Val×Val))
 |[]=>some []
 |v::vs=>match v with
  |.tup [k,x]=>if isKey k then(pairsOf h vs).map ((k,x) :: ·)else none
  |_=>none
noncomputable def pairUp:List Val→Option (List (Val×Val))
 |[]=>some []
 |k::v::r=>if isKey k then(pairUp r).map ((k,v) :: ·)else none
 |_=>none
noncomputable def putAll (kvs:List (Val×Val)):List (Val×Val)→List (Val×Val)
 |[]=>kvs
 |(k,v)::r=>putAll (putK kvs k v) r
noncomputable def lenV (h:Hs):Val→Rs
 |.ref a=>match h a with
  |some (.lst xs)=>.val (.int xs.length)
  |some (.dct kvs)=>.val (.int kvs.length)
  |_=>.no
 |.tup xs=>.val (.int xs.length)
 |.scr ns=>.val (.int ns.length)
 |.str s=>if s.length≤lim then .val (.int s.length)else .no
 |_=>.no
noncomputable def Hv:Val→Rs
 |.int i=>.val (.int i)
 |.bl b=>.val (.int (if b then 1 else 0))
 |.str s=>if s.length≤640∧s.toList≠[]∧s.toList.all figB=true then .val (.int (decN s.toList))else .no
 |_=>.no
noncomputable def EI:Val→Rs
 |.bl b=>.val (.bl b)
 |_=>.no
noncomputable def Ft:Val→Rs
 |.str s=>.val (.str s)
 |.int i=>if i.natAbs<10 ^ 200 then .val (.str (MO i))else .no
 |_=>.no
noncomputable def absV:Val→Rs
 |.int i=>.val (.int (if i<0 then -i else i))
 |_=>.no
noncomputable def biOf1 (f:Val→Rs):List Val→Rs
 |[v]=>f v
 |_=>.no
noncomputable def biOf2 (f:Val→Val→Rs):List Val→Rs
 |[v,u]=>f v u
 |_=>.no
noncomputable def WX:List Val→Option (List (List Int))
 |[]=>some []
 |.tup xs::r=>(intsOf xs).bind fun ns=>(WX r).map (ns :: ·)
 |_=>none
noncomputable def Df (b:List Int):List (List Int)→List Int
 |[]=>b
 |y::r=>Df (if lexI y b then y else b) r
noncomputable def EJ (h:Hs) (v:Val):Rs:=match v with
 |.ref a=>match (lsOf (h a)).bind WX with
  |some []=>.val .non
  |some (x::r)=>.val (.tup ((Df x r).map .int))
  |none=>.no
 |_=>.no
noncomputable def min2V:Val→Val→Rs
 |.int i,.int j=>.val (.int (if j<i then j else i))
 |.tup xs,.tup ys=>match intsOf xs,intsOf ys with
  |some ns,some ms=>.val (if lexI ms ns=true then .tup ys else .tup xs)
  |_,_=>.no
 |_,_=>.no
noncomputable def HZ (h:Hs):Val→Rs
 |.ref a=>.ofO ((lsOf (h a)).bind fun xs=>(blsOf xs).map fun bs=>.bl (bs.any id))
 |_=>.no
noncomputable def IK (h:Hs):Val→Rs
 |.ref a=>.ofO ((lsOf (h a)).bind fun xs=>(blsOf xs).map fun bs=>.bl (bs.all id))
 |_=>.no
noncomputable def sortOf (h:Hs):Val→Option (List Int)
 |.ref a=>(lsOf (h a)).bind intsOf
 |.scr ns=>some ns
 |_=>none
noncomputable def keysOf (kvs:List (Val×Val)):Option (List Int):=intsOf (kvs.map (·.1))
noncomputable def sortAny (h:Hs) (v:Val):Option (List Int):=match v with
 |.ref a=>match h a with
  |some (.lst xs)=>intsOf xs
  |some (.dct kvs)=>keysOf kvs
  |_=>none
 |.scr ns=>some ns
 |_=>none
noncomputable def FR (rows:List (List Int)):List (List Int):=rows.mergeSort fun a b=>!lexI b a
noncomputable def Ff (h:Hs) (v:Val):Option (List (List Int)):=match v with
 |.ref a=>(lsOf (h a)).bind WX
 |_=>none
noncomputable def NY (h:Hs) (v:Val):Rs:=match Ff h v with
 |some rows=>if rows.length<64∧(rows.all fun r=>!r.isEmpty)=true then .new (.lst ((FR rows).map fun r=>.tup (r.map .int)))else .no
 |none=>.no
noncomputable def XO (h:Hs) (v:Val):Rs:=match sortAny h v with
 |some ns=>if ns.length<64 then .new (.lst ((sortI ns).map .int))else .no
 |none=>NY h v
noncomputable def biSortedI (h:Hs) (v:Val):Rs:=match sortAny h v with
 |some ns=>if ns.length<64 then .new (.lst ((sortI ns).map .int))else .no
 |none=>.no
noncomputable def biSortedSet (h:Hs) (v:Val):Rs:=match sortOf h v with
 |some ns=>if ns.length<64 then .new (.lst ((sortI (dedup ns)).map .int))else .no
 |none=>.no
noncomputable def biLenSet (h:Hs) (v:Val):Rs:=match sortOf h v with
 |some ns=>if ns.length<4000 then .val (.int (dedup ns).length)else .no
 |none=>.no
noncomputable def toList (h:Hs):Val→Rs
 |.ref a=>match h a with
  |some (.lst xs)=>.new (.lst xs)
  |_=>.no
 |.tup xs=>.new (.lst xs)
 |_=>.no
noncomputable def Jf (h:Hs):Val→Rs
 |.ref a=>match h a with
  |some (.lst xs)=>.val (.tup xs)
  |_=>.no
 |.tup xs=>.val (.tup xs)
 |_=>.no
noncomputable def Kt (h:Hs):Val→Rs
 |.ref a=>match h a with
  |some (.dct kvs)=>.new (.dct kvs)
  |some (.lst xs)=>match pairsOf h xs with
   |some kvs=>.new (.dct (putAll [] kvs))
   |none=>.no
  |_=>.no
 |_=>.no
noncomputable def Cv:Nat→List Val→List (Val×Val)
 |_,[]=>[]
 |k,x::xs=>(.int (k:Nat),x)::Cv (k+1) xs
noncomputable def AH:Val→Rs
 |.tup xs=>.new (.dct (Cv 0 xs))
 |_=>.no
noncomputable def Lf:List Int→Int
 |[]=>0
 |x::r=>r.foldl (fun a b=>if b<a then b else a) x
noncomputable def Ir:List Int→Int
 |[]=>0
 |x::r=>r.foldl (fun a b=>if b > a then b else a) x
noncomputable def U9 (h:Hs):Val→Option (List Int)
 |.ref a=>(lsOf (h a)).bind intsOf
 |_=>none
noncomputable def MS:Val→Option (Int×Int)
 |.tup [.int i,.int j]=>some (i,j)
 |_=>none
noncomputable def Nz (h:Hs) (v:Val):Rs:=match asLst h v with
 |some xs=>.new (.lst xs.reverse)
 |none=>.no
noncomputable def EW:Val→Rs
 |.int k=>if 0≤k∧k≤1000 then .new (.lst ((List.range k.toNat).map fun n=>.int (n:Nat)))else .no
 |_=>.no
noncomputable def DU:Val→Rs
 |.int k=>if 0≤k∧k≤1000 then .val (.tup ((List.range k.toNat).map fun n=>.int (n:Nat)))else .no
 |_=>.no
noncomputable def IY:Val→Option (List Int)
 |.tup xs=>intsOf xs
 |_=>none
noncomputable def Ei (h:Hs) (v:Val):Rs:=match MS v with
 |some p=>.val (.int (if p.2<p.1 then p.2 else p.1))
 |none=>match (IY v).or (U9 h v)with
  |some (x::r)=>.val (.int (Lf (x::r)))
  |_=>match (asLst h v).bind WX with
   |some (x::r)=>.val (.tup ((Df x r).map .int))
   |_=>.no
noncomputable def En (h:Hs) (v:Val):Rs:=match MS v with
 |some p=>.val (.int (if p.2 > p.1 then p.2 else p.1))
 |none=>match U9 h v with
  |some (x::r)=>.val (.int (Ir (x::r)))
  |_=>.no
noncomputable def biV (h:Hs) (b:Bi) (vs:List Val):Rs:=match b with
 |.len=>biOf1 (lenV h) vs
 |.int=>biOf1 Hv vs
 |.str=>biOf1 Ft vs
 |.bool=>biOf1 EI vs
 |.abs=>biOf1 absV vs
 |.min2=>biOf2 min2V vs
 |.max2=>biOf2 (intV fun i j=>.val (.int (if j > i then j else i))) vs
 |.minL=>biOf1 (Ei h) vs
 |.maxL=>biOf1 (En h) vs
 |.minD=>biOf1 (EJ h) vs
 |.sum=>biOf1 (fun v=>.ofO ((YQ h v).bind fun xs=>(intsOf xs).map fun ns=>.int ns.sum)) vs
 |.all=>biOf1 (IK h) vs
 |.any=>biOf1 (HZ h) vs
 |.sorted=>biOf1 (XO h) vs
 |.sortedI=>biOf1 (biSortedI h) vs
 |.sortedSet=>biOf1 (biSortedSet h) vs
 |.lenSet=>biOf1 (biLenSet h) vs
 |.list=>biOf1 (toList h) vs
 |.tuple=>biOf1 (Jf h) vs
 |.dict=>biOf1 (Kt h) vs
 |.isi Ts=>biOf1 (fun v=>.ofO ((isiAny h v Ts).map .bl)) vs
 |.isx Ts=>biOf1 (fun v=>.ofO ((Ll h v).map fun c=>.bl (Ts.any (excSub c)))) vs
 |.repr=>.no
 |.listRev=>biOf1 (Nz h) vs
 |.listRange=>biOf1 EW vs
 |.tupRange=>biOf1 DU vs
 |.dictEnum=>biOf1 AH vs
noncomputable def bmL (h:Hs) (v:Val) (f:Ad→List Val→Option (Val×Hs)):Option (Val×Hs):=match v with
 |.ref a=>(lsOf (h a)).bind (f a)
 |_=>none
noncomputable def bmD (h:Hs) (v:Val) (f:Ad→List (Val×Val)→Option (Val×Hs)):Option (Val×Hs):=match v with
 |.ref a=>(K6 (h a)).bind (f a)
 |_=>none
noncomputable def OR (h:Hs) (vs:List Val) (a:Ad) (xs:List Val):Option (Val×Hs):=match vs with
 |[v]=>if xs.length<lim then some (.non,upd h a (.lst (xs++[v])))else none
 |_=>none
noncomputable def UG (h:Hs) (vs:List Val) (a:Ad) (xs:List Val):Option (Val×Hs):=match vs with
 |[.ref b]=>(lsOf (h b)).bind fun ys=>if xs.length+ys.length≤lim then some (.non,upd h a (.lst (xs++ys)))else none
 |_=>none
noncomputable def FH (h:Hs) (vs:List Val) (a:Ad) (xs:List Val):Option (Val×Hs):=match vs with
 |[]=>(xs[xs.length - 1]?).map fun v=>(v,upd h a (.lst xs.dropLast))
 |_=>none
noncomputable def B5 (h:Hs) (vs:List Val) (a:Ad) (xs:List Val):Option (Val×Hs):=match vs with
 |[.int i]=>if -(2 ^ 62)<i∧i<2 ^ 62 then(ixN xs.length i).bind fun k=>(xs[k]?).map fun v=>(v,upd h a (.lst (xs.eraseIdx k)))else none
 |_=>none
noncomputable def UT (h:Hs) (vs:List Val) (a:Ad) (xs:List Val):Option (Val×Hs):=match vs with
 |[.int i,v]=>if 0≤i∧i≤xs.length∧xs.length<lim then some (.non,upd h a (.lst (xs.take i.toNat++v::xs.drop i.toNat)))else none
 |_=>none
noncomputable def Ud (h:Hs) (vs:List Val) (a:Ad) (xs:List Val):Option (Val×Hs):=match vs with
 |[.int i]=>(intsOf xs).bind fun ns=>if i∈ns then some (.non,upd h a (.lst ((ns.erase i).map .int)))else none
 |_=>none
noncomputable def AD (h:Hs) (vs:List Val) (a:Ad) (xs:List Val):Option (Val×Hs):=match vs with
 |[]=>some (.non,upd h a (.lst []))
 |_=>none
noncomputable def Nm (h:Hs) (vs:List Val) (a:Ad) (xs:List Val):Option (Val×Hs):=match vs with
 |[]=>some (.non,upd h a (.lst xs.reverse))
 |_=>none
noncomputable def DP (h:Hs) (v:Val) (vs:List Val):Option (Val×Hs):=match v,vs with
 |.str sep,[.ref a]=>(lsOf (h a)).bind fun xs=>(U5 xs).bind fun ss=>if(ss.map String.length).sum+ss.length*sep.length≤lim then some (.str (CJ sep ss),h)else none
 |_,_=>none
noncomputable def BQ (h:Hs) (v:Val) (vs:List Val):Option (Val×Hs):=match vs with
 |[.int i]=>((YQ h v).bind intsOf).bind fun ns=>if i∈ns then some (.int (ns.idxOf i),h)else none
 |_=>none
noncomputable def FZ (h:Hs) (vs:List Val) (a:Ad) (kvs:List (Val×Val)):Option (Val×Hs):=match vs with
 |[k]=>if isKey k then some ((lookK kvs k).getD .non,h)else none
 |_=>none
noncomputable def DA (h:Hs) (vs:List Val) (a:Ad) (kvs:List (Val×Val)):Option (Val×Hs):=match vs with
 |[k,d]=>if isKey k then some ((lookK kvs k).getD d,h)else none
 |_=>none
noncomputable def Lv (h:Hs):Val→Option (List (Val×Val))
 |.ref a=>match h a with
  |some (.dtp kvs)=>some kvs
  |_=>none
 |_=>none
noncomputable def DZ (h:Hs) (vs:List Val) (kvs:List (Val×Val)):Option (Val×Hs):=match vs with
 |[k,d]=>if isKeyT k then some ((lookK kvs k).getD d,h)else none
 |_=>none
noncomputable def E1 (h:Hs) (v:Val) (vs:List Val):Option (Val×Hs):=match Lv h v with
 |some kvs=>DZ h vs kvs
 |none=>bmD h v (DA h vs)
noncomputable def DI (h:Hs) (vs:List Val) (a:Ad) (kvs:List (Val×Val)):Option (Val×Hs):=match vs with
 |[k]=>if isKey k then(lookK kvs k).map fun v=>(v,upd h a (.dct (dropK kvs k)))else none
 |_=>none
noncomputable def BU (h:Hs) (vs:List Val) (a:Ad) (kvs:List (Val×Val)):Option (Val×Hs):=match vs with
 |[k,d]=>if isKey k then some ((lookK kvs k).getD d,upd h a (.dct (dropK kvs k)))else none
 |_=>none
noncomputable def Do (h:Hs) (v:Val) (vs:List Val):Option (Val×Hs):=match v,vs with
 |.str t,[.str s]=>if t = "0123456789" then(oneC s).bind fun c=>if figB c=true then some (.int ((c.toNat - 48:Nat):Int),h)else none else none
 |_,_=>none
noncomputable def bmV (h:Hs) (m:Bm) (v:Val) (vs:List Val):Option (Val×Hs):=match m with
 |.append=>bmL h v (OR h vs)
 |.extend=>bmL h v (UG h vs)
 |.pop=>bmL h v (FH h vs)
 |.popAt=>bmL h v (B5 h vs)
 |.insert=>bmL h v (UT h vs)
 |.remove=>bmL h v (Ud h vs)
 |.clear=>bmL h v (AD h vs)
 |.reverse=>bmL h v (Nm h vs)
 |.index=>BQ h v vs
 |.join=>DP h v vs
 |.sidx=>Do h v vs
 |.dget=>bmD h v (FZ h vs)
 |.dgetD=>E1 h v vs
 |.dpop=>bmD h v (DI h vs)
 |.dpopD=>bmD h v (BU h vs)
 |.count=>none
 |.setdefault=>none
 |.split=>none
 |.replace=>none
 |.upper=>none
 |.partition=>none
noncomputable def isLst:Option Ob→Bool
 |some (.lst _)=>true
 |_=>false
noncomputable def Cj:Option Ob→Bool
 |some (.dct _)=>true
 |some (.dtp _)=>true
 |_=>false
inductive Ty where|l|d|s|t
noncomputable def Bm.ty:Bm→Ty
 |.dget=>.d
 |.dgetD=>.d
 |.dpop=>.d
 |.dpopD=>.d
 |.setdefault=>.d
 |.join=>.s
 |.split=>.s
 |.replace=>.s
 |.upper=>.s
 |.partition=>.s
 |.sidx=>.s
 |.index=>.t
 |_=>.l
noncomputable def X3 (p:Option Ob→Bool) (h:Hs):Val→Bool
 |.ref a=>p (h a)
 |_=>false
noncomputable def DB:Val→Bool
 |.str _=>true
 |_=>false
noncomputable def Ep:Val→Bool
 |.tup _=>true
 |_=>false
noncomputable def bmTy (h:Hs) (m:Bm) (v:Val):Bool:=match m.ty with
 |.l=>X3 isLst h v
 |.d=>X3 Cj h v
 |.s=>DB v
 |.t=>X3 isLst h v||Ep v
noncomputable def putF:List (String×Val)→String→Val→List (String×Val)
 |[],f,v=>[(f,v)]
 |(g,x)::r,f,v=>if g=f then(g,v)::r else(g,x)::putF r f v
noncomputable def getV (env:Env) (i:Nat):Option Val:=match env[i]? with
 |some (some v)=>some v
 |_=>none
noncomputable def asBl:Val→Option Bool
 |.bl b=>some b
 |_=>none
noncomputable def asRef:Val→Option Ad
 |.ref a=>some a
 |_=>none
noncomputable def Nb:Option Ob→Option (String×List (String×Val))
 |some (.ins C fs)=>some (C,fs)
 |_=>none
noncomputable def GU:Val→Option (Val×Val)
 |.tup [x,y]=>some (x,y)
 |_=>none
noncomputable def tupOf:Val→Option (List Val)
 |.tup xs=>some xs
 |_=>none
noncomputable def bindL:List Nat→List Val→Env→Option Env
 |[],[],env=>some env
 |i::is,x::xs,env=>bindL is xs (env.set i (some x))
 |_,_,_=>none
noncomputable def bind (p:Pt) (h:Hs) (v:Val) (env:Env):Option Env :=
 match p with
 |.one i=>some (env.set i (some v))
 |.many is=>(tupOf v).bind fun xs=>bindL is xs env
 |.nest i is=>(tupOf v).bind fun xs=>match xs with
  |[x,y]=>(tupOf y).bind fun ys=>bindL is ys (env.set i (some x))
  |_=>none
def wComp (st:Hs→Prop) (step:Val→Hs→(Option Val→Hs→Prop)→XQ→Prop):List Val→List Val→Hs→(List Val→Hs→Prop)→XQ→Prop
 |[],acc,h,Q,_=>st h∧Q acc h
 |v::vs,acc,h,Q,X=>st h∧step v h (fun r h'=>wComp st step vs (acc++r.toList) h' Q X) X
noncomputable def enumL:Nat→List Val→List Val
 |_,[]=>[]
 |k,x::xs=>.tup [.int k,x]::enumL (k+1) xs
noncomputable def Dt:List Val→List Val→List Val
 |x::xs,y::ys=>.tup [x,y]::Dt xs ys
 |_,_=>[]
noncomputable def GM (s:String):List Val:=s.toList.map fun c=>.str (String.singleton c)
noncomputable def itV (h:Hs):Val→Option ((Hs→Prop)×List Val)
 |.tup xs=>some (fun _=>True,xs)
 |.scr ns=>some (fun _=>True,ns.map .int)
 |.ref a=>(lsOf (h a)).map fun xs=>(fun g=>lsOf (g a)=some xs,xs)
 |_=>none
noncomputable def F7 (h:Hs):Val→Val→Option ((Hs→Prop)×List Val)
 |.tup xs,.tup ys=>some (fun _=>True,Dt xs ys)
 |.ref p,.ref q=>(lsOf (h p)).bind fun xs=>(lsOf (h q)).map fun ys=>(fun g=>lsOf (g p)=some xs∧lsOf (g q)=some ys,Dt xs ys)
 |_,_=>none
noncomputable def Ja (k:Bool) (p:Val×Val):Val:=if k then p.1 else .tup [p.1,p.2]
noncomputable def rangeV (i j:Int):List Val:=(List.range (j - i).toNat).map fun(k:Nat)=>.int (i+k)
noncomputable def putV (h:Hs) (o k v:Val):Option Hs :=
 match o with
 |.ref p=>match h p with
  |some (.lst xs)=>(asInt k).bind fun n=>(ixN xs.length n).map fun j=>upd h p (.lst (xs.set j v))
  |some (.dct kvs)=>if isKey k∧kvs.length<lim then some (upd h p (.dct (putK kvs k v)))else none
  |some (.dtp kvs)=>if isKeyT k∧kvs.length<lim then some (upd h p (.dtp (putK kvs k v)))else none
  |_=>none
 |_=>none
noncomputable def WJ (h:Hs) (o:Val) (f:String) (v:Val):Option Hs :=
 match o with
 |.ref p=>match h p with
  |some (.ins C fs)=>if fs.length<900 then some (upd h p (.ins C (putF fs f v)))else none
  |_=>none
 |_=>none
noncomputable def NV (h:Hs) (o:Val) (f:String):Option Val:=(asRef o).bind fun a=>(Nb (h a)).bind fun p=>p.2.lookup f
noncomputable def O7 (h:Hs) (o:Val) (m:String):Option String:=(asRef o).bind fun a=>(Nb (h a)).bind fun p=>if(p.2.lookup m).isNone then some p.1 else none
noncomputable def KU (op:Bop) (x y:Val):Option Val:=match op,x,y with
 |.add,.int i,.int j=>some (.int (i+j))
 |.sub,.int i,.int j=>some (.int (i - j))
 |_,_,_=>none
mutual
def xE (Φ:Fs):E→Env→Hs→Q1→XQ→Prop
 |.cst v,_,h,Q,_=>Q v h
 |.glob _ v,_,h,Q,_=>Q v h
 |.var i,env,h,Q,_=>go (getV env i) fun v=>Q v h
 |.bin op a b,env,h,Q,X=>xE Φ a env h (fun v h1=>xE Φ b env h1 (fun u h2=>(binV h2 op v u).wp h2 Q) X) X
 |.neg a,env,h,Q,X=>xE Φ a env h (fun v h1=>go (asInt v) fun i=>Q (.int (-i)) h1) X
 |.not a,env,h,Q,X=>xE Φ a env h (fun v h1=>go (asBl v) fun b=>Q (.bl (!b)) h1) X
 |.and a b,env,h,Q,X=>xE Φ a env h (fun v h1=>go (asBl v) fun c=>if c=true then xE Φ b env h1 Q X else Q (.bl false) h1) X
 |.or a b,env,h,Q,X=>xE Φ a env h (fun v h1=>go (asBl v) fun c=>if c=true then Q (.bl true) h1 else xE Φ b env h1 Q X) X
 |.cmp op a b,env,h,Q,X=>xE Φ a env h (fun v h1=>xE Φ b env h1 (fun u h2=>go (cmpV h2 op v u) fun c=>Q (.bl c) h2) X) X
 | .chain o1 o2 a b c,env,h,Q,X=>xE Φ a env h (fun v h1=>xE Φ b env h1 (fun u h2=>go (cmpV h2 o1 v u) fun k =>
     if k=true then xE Φ c env h2 (fun w h3=>go (cmpV h3 o2 u w) fun k2=>Q (.bl k2) h3) X else Q (.bl false) h2) X) X
 |.call f as,env,h,Q,X=>xA Φ as env h (fun vs h1=>Φ f vs h1 Q X) X
 |.make C as,env,h,Q,X=>xA Φ as env h (fun vs h1=>∀ p,h1 p=none→Φ (C ++ ".__init__") (.ref p::vs) (upd h1 p (.ins C [])) (fun v h2=>v=.non∧Q (.ref p) h2) X) X
 |.meth C m o as,env,h,Q,X=>xE Φ o env h (fun v h1=>O7 h1 v m=some C∧xA Φ as env h1 (fun vs h2=>Φ (C ++ "." ++ m) (v::vs) h2 Q X) X) X
 |.fld o f,env,h,Q,X=>xE Φ o env h (fun v h1=>go (NV h1 v f) fun u=>Q u h1) X
 |.bi f as,env,h,Q,X=>xA Φ as env h (fun vs h1=>(biV h1 f vs).wp h1 Q) X
 |.bm m o as,env,h,Q,X=>xE Φ o env h (fun v h1=>bmTy h1 m v=true∧xA Φ as env h1 (fun vs h2=>go (bmV h2 m v vs) fun r=>Q r.1 r.2) X) X
 |.idx a i,env,h,Q,X=>xE Φ a env h (fun v h1=>xE Φ i env h1 (fun k h2=>go (idxV h2 v k) fun u=>Q u h2) X) X
 |.slc a lo hi,env,h,Q,X=>xE Φ a env h (fun v h1=>xO Φ lo env h1 (fun l h2=>xO Φ hi env h2 (fun u h3=>(slcV h3 v l u).wp h3 Q) X) X) X
 |.rev a,env,h,Q,X=>xE Φ a env h (fun v h1=>go (asRef v) fun p=>go (lsOf (h1 p)) fun xs=>new h1 (.lst xs.reverse) Q) X
 |.tup es,env,h,Q,X=>xA Φ es env h (fun vs h1=>Q (.tup vs) h1) X
 |.key es,env,h,Q,X=>xA Φ es env h (fun vs h1=>go (MS (.tup vs)) fun p=>Q (.key p.1 p.2) h1) X
 |.dctP,env,h,Q,X=>new h (.dtp []) Q
 |.lst es,env,h,Q,X=>xA Φ es env h (fun vs h1=>new h1 (.lst vs) Q) X
 |.dct es,env,h,Q,X=>new h (.dct []) fun r h1=>go (asRef r) fun p=>xA Φ es env h1 (fun vs h2=>go (pairUp vs) fun kvs=>h2 p=some (.dct [])∧Q (.ref p) (upd h2 p (.dct (putAll [] kvs)))) X
 |.ife c a b,env,h,Q,X=>xT Φ c env h (fun k h1=>if k=true then xE Φ a env h1 Q X else xE Φ b env h1 Q X) X
 | .comp caps n p it c e,env,h,Q,X=>xI Φ it env h (fun st xs h1=>xs.length<lim∧
     wComp st (fun v h2 K X2=>go (bind p h2 v (List.replicate n none++caps.map fun j=>(env[j]?).getD none)) fun env2 =>
       xT Φ c env2 h2 (fun k h3=>if k=true then xE Φ e env2 h3 (fun u h4=>K (some u) h4) X2 else K none h3) X2) xs [] h1 (fun ys h5=>new h5 (.lst ys) Q) fun _ _=>False) X
 |.fstr es,env,h,Q,X=>xJ Φ es env h "" (fun s h1=>Q (.str s) h1) X
 |.split o a,env,h,Q,X=>xE Φ o env h (fun v h1=>go (Xk v) fun s=>xE Φ a env h1 (fun u h2=>go ((Xk u).bind oneC) fun c=>s.length+2≤lim∧new h2 (.lst ((KH c s).map .str)) Q) X) X
 |.repl o y z,env,h,Q,X=>xE Φ o env h (fun v h1=>go (Xk v) fun s=>go (oneC y) fun c=>(s.length≤lim∧z.length≤8∧y≠z)∧Q (.str (CJ z (KH c s))) h1) X
def xA (Φ:Fs):Es→Env→Hs→(List Val→Hs→Prop)→XQ→Prop
 |.nil,_,h,Q,_=>Q [] h
 |.cons e es,env,h,Q,X=>xE Φ e env h (fun v h1=>xA Φ es env h1 (fun vs h2=>Q (v::vs) h2) X) X
def xJ (Φ:Fs):Es→Env→Hs→String→(String→Hs→Prop)→XQ→Prop
 |.nil,_,h,acc,Q,_=>Q acc h
 |.cons e es,env,h,acc,Q,X=>xE Φ e env h (fun v h1=>go (fmtV v) fun s=>acc.length+s.length≤lim∧xJ Φ es env h1 (acc++s) Q X) X
def xO (Φ:Fs):Oe→Env→Hs→(Option Int→Hs→Prop)→XQ→Prop
 |.none,_,h,Q,_=>Q none h
 |.some e,env,h,Q,X=>xE Φ e env h (fun v h1=>go (asInt v) fun i=>Q (some i) h1) X
def xT (Φ:Fs):Tt→Env→Hs→(Bool→Hs→Prop)→XQ→Prop
 |.yes,_,h,Q,_=>Q true h
 |.val e,env,h,Q,X=>xE Φ e env h (fun v h1=>go (YI h1 v) fun k=>Q k h1) X
 |.not a,env,h,Q,X=>xT Φ a env h (fun k h1=>Q (!k) h1) X
 |.and a b,env,h,Q,X=>xT Φ a env h (fun k h1=>if k=true then xT Φ b env h1 Q X else Q false h1) X
 |.or a b,env,h,Q,X=>xT Φ a env h (fun k h1=>if k=true then Q true h1 else xT Φ b env h1 Q X) X
def xI (Φ:Fs):It→Env→Hs→((Hs→Prop)→List Val→Hs→Prop)→XQ→Prop
 |.seq e,env,h,Q,X=>xE Φ e env h (fun v h1=>go (itV h1 v) fun p=>Q p.1 p.2 h1) X
 |.chars e,env,h,Q,X=>xE Φ e env h (fun v h1=>go (Xk v) fun s=>Q (fun _=>True) (GM s) h1) X
 |.range a,env,h,Q,X=>xE Φ a env h (fun v h1=>go (asInt v) fun n=>(-(2 ^ 62)≤n∧n<2 ^ 62)∧Q (fun _=>True) (rangeV 0 n) h1) X
 | .range2 a b,env,h,Q,X=>xE Φ a env h (fun v h1=>xE Φ b env h1 (fun u h2=>go (asInt v) fun i=>go (asInt u) fun j =>
     (-(2 ^ 62)≤i∧i<2 ^ 62∧-(2 ^ 62)≤j∧j<2 ^ 62)∧Q (fun _=>True) (rangeV i j) h2) X) X
 |.enum e,env,h,Q,X=>xE Φ e env h (fun v h1=>go (tupOf v) fun xs=>Q (fun _=>True) (enumL 0 xs) h1) X
 |.zip a b,env,h,Q,X=>xE Φ a env h (fun v h1=>xE Φ b env h1 (fun u h2=>go (F7 h2 v u) fun p=>Q p.1 p.2 h2) X) X
 |.items e,env,h,Q,X=>xE Φ e env h (fun v h1=>go (asRef v) fun a=>go (K6 (h1 a)) fun kvs=>Q (fun g=>g a=some (.frz kvs)) (kvs.map (Ja true)) (upd h1 a (.frz kvs))) X
 |.rev e,env,h,Q,X=>xE Φ e env h (fun v h1=>go (YQ h1 v) fun xs=>Q (fun g=>YQ g v=some xs) xs.reverse h1) X
end
@[irreducible] noncomputable def wE:Fs→E→Env→Hs→Q1→XQ→Prop:=xE
@[irreducible] noncomputable def wA:Fs→Es→Env→Hs→(List Val→Hs→Prop)→XQ→Prop:=xA
@[irreducible] noncomputable def wJ:Fs→Es→Env→Hs→String→(String→Hs→Prop)→XQ→Prop:=xJ
theorem J8:wJ=xJ:=by unfold wJ;rfl
@[irreducible] noncomputable def wO:Fs→Oe→Env→Hs→(Option Int→Hs→Prop)→XQ→Prop:=xO
@[irreducible] noncomputable def wT:Fs→Tt→Env→Hs→(Bool→Hs→Prop)→XQ→Prop:=xT
@[irreducible] noncomputable def wI:Fs→It→Env→Hs→((Hs→Prop)→List Val→Hs→Prop)→XQ→Prop:=xI
theorem wE_eq:wE=xE:=by unfold wE;rfl
theorem Zb:wA=xA:=by unfold wA;rfl
theorem Zc:wO=xO:=by unfold wO;rfl
theorem Zd:wT=xT:=by unfold wT;rfl
theorem Za:wI=xI:=by unfold wI;rfl
noncomputable abbrev NQ:=Env→Hs→Prop
noncomputable abbrev EQ:=Env→String→Hs→Prop
def wFor (st:Hs→Prop) (W:Val→Env→Hs→NQ→NQ→Prop) (N:NQ):List Val→Env→Hs→Prop
 |[],env,h=>st h∧N env h
 |v::vs,env,h=>st h∧W v env h (fun e g=>wFor st W N vs e g) N
def Kz (T:Env→Hs→(Bool→Hs→Prop)→Prop) (W:Env→Hs→NQ→NQ→Prop) (N:NQ):Nat→Env→Hs→Prop
 |0,_,_=>False
 |n+1,env,h=>T env h fun k h1=>if k=true then W env h1 (fun e g=>Kz T W N n e g) N else N env h1
def wC (Φ:Fs):E→Env→Hs→Q1→XQ→Prop
 |.call f as,env,h,Q,X=>wA Φ as env h (fun vs h1=>Φ f vs h1 Q X) fun _ _=>False
 |.meth C m o as,env,h,Q,X=>wE Φ o env h (fun v h1=>O7 h1 v m=some C∧wA Φ as env h1 (fun vs h2=>Φ (C ++ "." ++ m) (v::vs) h2 Q X) fun _ _=>False) fun _ _=>False
 |_,_,_,_,_=>False
noncomputable def Uu (env:Env):Option Nat→Val→Env
 |none,_=>env
 |some j,v=>env.set j (some v)
mutual
def xS (Φ:Fs):S→Env→Hs→NQ→Q1→NQ→NQ→EQ→Prop
 |.set p e,env,h,N,_,_,_,X=>wE Φ e env h (fun v h1=>go (bind p h1 v env) fun env2=>N env2 h1) (X env)
 |.setIdx a i e,env,h,N,_,_,_,X=>wE Φ e env h (fun v h1=>wE Φ a env h1 (fun o h2=>wE Φ i env h2 (fun k h3=>go (putV h3 o k v) fun g=>N env g) (X env)) (X env)) (X env)
 |.setFld o f e,env,h,N,_,_,_,X=>wE Φ e env h (fun v h1=>wE Φ o env h1 (fun u h2=>go (WJ h2 u f v) fun g=>N env g) (X env)) (X env)
 |.augVar i op e,env,h,N,_,_,_,X=>go (getV env i) fun x=>wE Φ e env h (fun v h1=>go (KU op x v) fun y=>N (env.set i (some y)) h1) (X env)
 |.augFld o f op n,env,h,N,_,_,_,X=>wE Φ o env h (fun u h1=>go (NV h1 u f) fun x=>go (KU op x (.int n)) fun y=>go (WJ h1 u f y) fun g=>N env g) (X env)
 |.augIdx a i op n,env,h,N,_,_,_,X=>wE Φ a env h (fun o h1=>wE Φ i env h1 (fun k h2=>go (idxV h2 o k) fun x=>go (KU op x (.int n)) fun y=>go (putV h2 o k y) fun g=>N env g) (X env)) (X env)
 | .setPair a i b j e,env,h,N,_,_,_,X=>wE Φ e env h (fun v h1=>go (GU v) fun p=>wE Φ a env h1 (fun o h2=>wE Φ i env h2 (fun k h3=>go (putV h3 o k p.1) fun g =>
     wE Φ b env g (fun o2 h4=>wE Φ j env h4 (fun k2 h5=>go (putV h5 o2 k2 p.2) fun g2=>N env g2) (X env)) (X env)) (X env)) (X env)) (X env)
 |.expr e,env,h,N,_,_,_,X=>wE Φ e env h (fun _ h1=>N env h1) (X env)
 |.ret e,env,h,_,R,_,_,X=>wE Φ e env h R (X env)
 |.retN,_,h,_,R,_,_,_=>R .non h
 |.ite c a b,env,h,N,R,B,C,X=>wT Φ c env h (fun k h1=>if k=true then xSs Φ a env h1 N R B C X else xSs Φ b env h1 N R B C X) (X env)
 |.whl c b,env,h,N,R,_,_,X=>∃ n,Kz (fun e g K=>wT Φ c e g K (X e)) (fun e g K M=>xSs Φ b e g K R M K X) N n env h
 |.for p it b,env,h,N,R,_,_,X=>wI Φ it env h (fun st xs h1=>wFor st (fun v e g K M=>go (bind p g v e) fun e2=>xSs Φ b e2 g K R M K X) N xs env h1) (X env)
 | .forI k p e b,env,h,N,R,_,_,X=>wE Φ e env h (fun v h1=>go (asRef v) fun a=>go (K6 (h1 a)) fun kvs =>
     wFor (fun g=>g a=some (.frz kvs)) (fun v e g K M=>go (bind p g v e) fun e2=>xSs Φ b e2 g K (fun u g2=>g2 a=some (.frz kvs)∧R u (upd g2 a (.dct kvs))) M K fun _ _ _=>False)
       (fun e g=>g a=some (.frz kvs)∧N e (upd g a (.dct kvs))) (kvs.map (Ja k)) env (upd h1 a (.frz kvs))) (X env)
 |.never,_,_,_,_,_,_,_=>False
 |.brk,env,h,_,_,B,_,_=>B env h
 |.cnt,env,h,_,_,_,C,_=>C env h
 |.pass,env,h,N,_,_,_,_=>N env h
 |.raise C as,env,h,_,_,_,_,X=>wA Φ as env h (fun _ h1=>X env C h1) (X env)
 |.try t e hs,env,h,N,R,B,C,X=>wC Φ e env h (fun v h1=>N (Uu env t v) h1) fun c g=>xH Φ hs c env g N R B C
def xSs (Φ:Fs):Ss→Env→Hs→NQ→Q1→NQ→NQ→EQ→Prop
 |.nil,env,h,N,_,_,_,_=>N env h
 |.cons s ss,env,h,N,R,B,C,X=>xS Φ s env h (fun e g=>xSs Φ ss e g N R B C X) R B C X
def xH (Φ:Fs):Hn→String→Env→Hs→NQ→Q1→NQ→NQ→Prop
 |.nil,_,_,_,_,_,_,_=>False
 |.cons K none b r,c,env,h,N,R,B,C=>if excSub c K=true then xSs Φ b env h N R B C (fun _ _ _=>False)else xH Φ r c env h N R B C
 |.cons K (some i) b r,c,env,h,N,R,B,C=>if excSub c K=true then(∀ p,h p=none→xSs Φ b (env.set i (some (.ref p))) (upd h p (.exc c)) (fun e g=>N (e.set i none) g) R (fun e g=>B (e.set i none) g) (fun e g=>C (e.set i none) g) fun _ _ _=>False)
  else xH Φ r c env h N R B C
end
@[irreducible] noncomputable def wS:Fs→S→Env→Hs→NQ→Q1→NQ→NQ→EQ→Prop:=xS
@[irreducible] noncomputable def wSs:Fs→Ss→Env→Hs→NQ→Q1→NQ→NQ→EQ→Prop:=xSs
@[irreducible] noncomputable def wH:Fs→Hn→String→Env→Hs→NQ→Q1→NQ→NQ→Prop:=xH
theorem Zs:wS=xS:=by unfold wS;rfl
theorem Zk:wSs=xSs:=by unfold wSs;rfl
theorem Zt:wH=xH:=by unfold wH;rfl
structure Fn where
 ar:Nat
 sz:Nat
 body:Ss
noncomputable abbrev Pg:=String→Option Fn
class In (P:Pg) (f:String) (d:outParam Fn):Prop where
 eq:P f=some d
noncomputable def Fn.env (d:Fn) (vs:List Val):Env:=vs.map some++List.replicate (d.sz - d.ar) none
noncomputable def wF0 (P:Pg):Nat→Fs
 |0=>fun _ _ _ _ _=>False
 |n+1=>fun f vs h Q X=>go (P f) fun d=>vs.length=d.ar∧wSs (wF0 P n) d.body (d.env vs) h (fun _ g=>Q .non g) Q (fun _ _=>False) (fun _ _=>False) fun _ c g=>X c g
@[irreducible] noncomputable def wF (P:Pg) (n:Nat):Fs:=wF0 P n
theorem wF_eq{P:Pg}{n:Nat}:wF P n=wF0 P n:=by unfold wF;rfl
theorem ZP{P:Pg}{n:Nat}{f:String}{d:Fn}{vs:List Val}{h:Hs}{Q:Q1}{X:XQ}(e:P f=some d)(hl:vs.length=d.ar)
  (q:wSs (wF P n) d.body (d.env vs) h (fun _ g=>Q .non g) Q (fun _ _=>False) (fun _ _=>False) fun _ c g=>X c g):wF P (n+1) f vs h Q X:=by
 rw[wF_eq]at q ⊢;exact go_of e ⟨hl,q⟩
section
variable {Φ:Fs}{env:Env}{h:Hs}{Q:Q1}{X:XQ}{a b c e o:E}{as:Es}{v u:Val}
theorem FP(q:Q v h):wE Φ (.cst v) env h Q X:=by simp only[wE_eq,Zb,Zc,Zd,Za]at q ⊢;exact q
theorem EF{x:String}(q:Q v h):wE Φ (.glob x v) env h Q X:=by simp only[wE_eq,Zb,Zc,Zd,Za]at q ⊢;exact q
theorem M4{i:Nat}(g:getV env i=some v)(q:Q v h):wE Φ (.var i) env h Q X:=by rw[wE_eq];exact go_of g q
theorem F1{op:Bop}(q:wE Φ a env h (fun v h1=>wE Φ b env h1 (fun u h2=>(binV h2 op v u).wp h2 Q) X) X):wE Φ (.bin op a b) env h Q X:=by simp only[wE_eq,Zb,Zc,Zd,Za]at q ⊢;exact q
theorem GP(q:wE Φ a env h (fun v h1=>go (asInt v) fun i=>Q (.int (-i)) h1) X):wE Φ (.neg a) env h Q X:=by simp only[wE_eq,Zb,Zc,Zd,Za]at q ⊢;exact q
theorem HB(q:wE Φ a env h (fun v h1=>go (asBl v) fun b=>Q (.bl (!b)) h1) X):wE Φ (.not a) env h Q X:=by simp only[wE_eq,Zb,Zc,Zd,Za]at q ⊢;exact q
theorem Gy(q:wE Φ a env h (fun v h1=>go (asBl v) fun c=>if c=true then wE Φ b env h1 Q X else Q (.bl false) h1) X):wE Φ (.and a b) env h Q X:=by simp only[wE_eq,Zb,Zc,Zd,Za]at q ⊢;exact q
theorem LS(q:wE Φ a env h (fun v h1=>go (asBl v) fun c=>if c=true then Q (.bl true) h1 else wE Φ b env h1 Q X) X):wE Φ (.or a b) env h Q X:=by simp only[wE_eq,Zb,Zc,Zd,Za]at q ⊢;exact q
theorem Hr{op:Cop}(q:wE Φ a env h (fun v h1=>wE Φ b env h1 (fun u h2=>go (cmpV h2 op v u) fun c=>Q (.bl c) h2) X) X):wE Φ (.cmp op a b) env h Q X:=by simp only[wE_eq,Zb,Zc,Zd,Za]at q ⊢;exact q
theorem Bn{o1 o2:Cop}(q:wE Φ a env h (fun v h1=>wE Φ b env h1 (fun u h2=>go (cmpV h2 o1 v u) fun k =>
      if k=true then wE Φ c env h2 (fun w h3=>go (cmpV h3 o2 u w) fun k2=>Q (.bl k2) h3) X else Q (.bl false) h2) X) X):wE Φ (.chain o1 o2 a b c) env h Q X:=by simp only[wE_eq,Zb,Zc,Zd,Za]at q ⊢;exact q
theorem DR{f:String}(q:wA Φ as env h (fun vs h1=>Φ f vs h1 Q X) X):wE Φ (.call f as) env h Q X:=by simp only[wE_eq,Zb,Zc,Zd,Za]at q ⊢;exact q
theorem Iw {C:String}(q:wA Φ as env h (fun vs h1=>∀ p,h1 p=none→Φ (C ++ ".__init__") (.ref p::vs) (upd h1 p (.ins C [])) (fun v h2=>v=.non∧Q (.ref p) h2) X) X):wE Φ (.make C as) env h Q X:=by simp only[wE_eq,Zb,Zc,Zd,Za]at q ⊢;exact q
theorem Lg {C m:String}(q:wE Φ o env h (fun v h1=>O7 h1 v m=some C∧wA Φ as env h1 (fun vs h2=>Φ (C ++ "." ++ m) (v::vs) h2 Q X) X) X):wE Φ (.meth C m o as) env h Q X:=by simp only[wE_eq,Zb,Zc,Zd,Za]at q ⊢;exact q
theorem LI{f:String}(q:wE Φ o env h (fun v h1=>go (NV h1 v f) fun u=>Q u h1) X):wE Φ (.fld o f) env h Q X:=by simp only[wE_eq,Zb,Zc,Zd,Za]at q ⊢;exact q
theorem AR{f:Bi}(q:wA Φ as env h (fun vs h1=>(biV h1 f vs).wp h1 Q) X):wE Φ (.bi f as) env h Q X:=by simp only[wE_eq,Zb,Zc,Zd,Za]at q ⊢;exact q
theorem Im{m:Bm}(q:wE Φ o env h (fun v h1=>bmTy h1 m v=true∧wA Φ as env h1 (fun vs h2=>go (bmV h2 m v vs) fun r=>Q r.1 r.2) X) X):wE Φ (.bm m o as) env h Q X:=by simp only[wE_eq,Zb,Zc,Zd,Za]at q ⊢;exact q
theorem GS{i:E}(q:wE Φ a env h (fun v h1=>wE Φ i env h1 (fun k h2=>go (idxV h2 v k) fun u=>Q u h2) X) X):wE Φ (.idx a i) env h Q X:=by simp only[wE_eq,Zb,Zc,Zd,Za]at q ⊢;exact q
theorem GX{lo hi:Oe}(q:wE Φ a env h (fun v h1=>wO Φ lo env h1 (fun l h2=>wO Φ hi env h2 (fun u h3=>(slcV h3 v l u).wp h3 Q) X) X) X):wE Φ (.slc a lo hi) env h Q X:=by simp only[wE_eq,Zb,Zc,Zd,Za]at q ⊢;exact q
theorem LO{es:Es}(q:wA Φ es env h (fun vs h1=>go (MS (.tup vs)) fun p=>Q (.key p.1 p.2) h1) X):wE Φ (.key es) env h Q X:=by simp only[wE_eq,Zb,Zc,Zd,Za]at q ⊢;exact q
theorem Lh(q:new h (.dtp []) Q):wE Φ .dctP env h Q X:=by simp only[wE_eq,Zb,Zc,Zd,Za]at q ⊢;exact q
theorem Hl{es:Es}(q:wA Φ es env h (fun vs h1=>Q (.tup vs) h1) X):wE Φ (.tup es) env h Q X:=by simp only[wE_eq,Zb,Zc,Zd,Za]at q ⊢;exact q
theorem F2{es:Es}(q:wA Φ es env h (fun vs h1=>new h1 (.lst vs) Q) X):wE Φ (.lst es) env h Q X:=by simp only[wE_eq,Zb,Zc,Zd,Za]at q ⊢;exact q
theorem Hg(q:wE Φ a env h (fun v h1=>go (asRef v) fun p=>go (lsOf (h1 p)) fun xs=>new h1 (.lst xs.reverse) Q) X):wE Φ (.rev a) env h Q X:=by simp only[wE_eq,Zb,Zc,Zd,Za]at q ⊢;exact q
theorem Cd{es:Es}(q:new h (.dct []) fun r h1=>go (asRef r) fun p=>wA Φ es env h1 (fun vs h2=>go (pairUp vs) fun kvs=>h2 p=some (.dct [])∧Q (.ref p) (upd h2 p (.dct (putAll [] kvs)))) X):wE Φ (.dct es) env h Q X:=by simp only[wE_eq,Zb,Zc,Zd,Za]at q ⊢;exact q
theorem LH{t:Tt}(q:wT Φ t env h (fun k h1=>if k=true then wE Φ a env h1 Q X else wE Φ b env h1 Q X) X):wE Φ (.ife t a b) env h Q X:=by simp only[wE_eq,Zb,Zc,Zd,Za]at q ⊢;exact q
theorem DM{caps:List Nat}{n:Nat}{p:Pt}{it:It}{t:Tt}(q:wI Φ it env h (fun st xs h1=>xs.length<lim∧
      wComp st (fun v h2 K X2=>go (bind p h2 v (List.replicate n none++caps.map fun j=>(env[j]?).getD none)) fun env2 =>
        wT Φ t env2 h2 (fun k h3=>if k=true then wE Φ e env2 h3 (fun u h4=>K (some u) h4) X2 else K none h3) X2) xs [] h1 (fun ys h5=>new h5 (.lst ys) Q) fun _ _=>False) X):wE Φ (.comp caps n p it t e) env h Q X:=by simp only[wE_eq,Zb,Zc,Zd,Za]at q ⊢;exact q
theorem IM {es:Es}(q:wJ Φ es env h "" (fun s h1=>Q (.str s) h1) X):wE Φ (.fstr es) env h Q X:=by simp only[wE_eq,J8]at q ⊢;exact q
theorem LL{acc:String}{QJ:String→Hs→Prop}(q:QJ acc h):wJ Φ .nil env h acc QJ X:=by rw[J8];exact q
theorem La{es:Es}{acc:String}{QJ:String→Hs→Prop}(q:wE Φ e env h (fun v h1=>go (fmtV v) fun s=>acc.length+s.length≤lim∧wJ Φ es env h1 (acc++s) QJ X) X):wJ Φ (.cons e es) env h acc QJ X:=by simp only[wE_eq,J8]at q ⊢;exact q
theorem HK(q:wE Φ o env h (fun v h1=>go (Xk v) fun s=>wE Φ a env h1 (fun u h2=>go ((Xk u).bind oneC) fun c=>s.length+2≤lim∧new h2 (.lst ((KH c s).map .str)) Q) X) X):wE Φ (.split o a) env h Q X:=by simp only[wE_eq,Zb,Zc,Zd,Za]at q ⊢;exact q
variable {QA:List Val→Hs→Prop}{QO:Option Int→Hs→Prop}{QT:Bool→Hs→Prop}{QI:(Hs→Prop)→List Val→Hs→Prop}
theorem JL(q:QA [] h):wA Φ .nil env h QA X:=by simp only[wE_eq,Zb,Zc,Zd,Za]at q ⊢;exact q
theorem WO{es:Es}(q:wE Φ e env h (fun v h1=>wA Φ es env h1 (fun vs h2=>QA (v::vs) h2) X) X):wA Φ (.cons e es) env h QA X:=by simp only[wE_eq,Zb,Zc,Zd,Za]at q ⊢;exact q
theorem Fo(q:QO none h):wO Φ .none env h QO X:=by simp only[wE_eq,Zb,Zc,Zd,Za]at q ⊢;exact q
theorem CS(q:wE Φ e env h (fun v h1=>go (asInt v) fun i=>QO (some i) h1) X):wO Φ (.some e) env h QO X:=by simp only[wE_eq,Zb,Zc,Zd,Za]at q ⊢;exact q
theorem FA(q:QT true h):wT Φ .yes env h QT X:=by simp only[wE_eq,Zb,Zc,Zd,Za]at q ⊢;exact q
theorem M5(q:wE Φ e env h (fun v h1=>go (YI h1 v) fun k=>QT k h1) X):wT Φ (.val e) env h QT X:=by simp only[wE_eq,Zb,Zc,Zd,Za]at q ⊢;exact q
theorem M6{t:Tt}(q:wT Φ t env h (fun k h1=>QT (!k) h1) X):wT Φ (.not t) env h QT X:=by simp only[wE_eq,Zb,Zc,Zd,Za]at q ⊢;exact q
theorem Hu{s t:Tt}(q:wT Φ s env h (fun k h1=>if k=true then wT Φ t env h1 QT X else QT false h1) X):wT Φ (.and s t) env h QT X:=by simp only[wE_eq,Zb,Zc,Zd,Za]at q ⊢;exact q
theorem EL{s t:Tt}(q:wT Φ s env h (fun k h1=>if k=true then QT true h1 else wT Φ t env h1 QT X) X):wT Φ (.or s t) env h QT X:=by simp only[wE_eq,Zb,Zc,Zd,Za]at q ⊢;exact q
theorem Gi(q:wE Φ e env h (fun v h1=>go (itV h1 v) fun p=>QI p.1 p.2 h1) X):wI Φ (.seq e) env h QI X:=by simp only[wE_eq,Zb,Zc,Zd,Za]at q ⊢;exact q
theorem HP(q:wE Φ e env h (fun v h1=>go (Xk v) fun s=>QI (fun _=>True) (GM s) h1) X):wI Φ (.chars e) env h QI X:=by simp only[wE_eq,Zb,Zc,Zd,Za]at q ⊢;exact q
theorem B4(q:wE Φ a env h (fun v h1=>go (asInt v) fun n=>(-(2 ^ 62)≤n∧n<2 ^ 62)∧QI (fun _=>True) (rangeV 0 n) h1) X):wI Φ (.range a) env h QI X:=by simp only[wE_eq,Zb,Zc,Zd,Za]at q ⊢;exact q
theorem Uc (q:wE Φ a env h (fun v h1=>wE Φ b env h1 (fun u h2=>go (asInt v) fun i=>go (asInt u) fun j =>
      (-(2 ^ 62)≤i∧i<2 ^ 62∧-(2 ^ 62)≤j∧j<2 ^ 62)∧QI (fun _=>True) (rangeV i j) h2) X) X):wI Φ (.range2 a b) env h QI X:=by simp only[wE_eq,Zb,Zc,Zd,Za]at q ⊢;exact q
theorem C5(q:wE Φ e env h (fun v h1=>go (tupOf v) fun xs=>QI (fun _=>True) (enumL 0 xs) h1) X):wI Φ (.enum e) env h QI X:=by simp only[wE_eq,Zb,Zc,Zd,Za]at q ⊢;exact q
theorem LR(q:wE Φ a env h (fun v h1=>wE Φ b env h1 (fun u h2=>go (F7 h2 v u) fun p=>QI p.1 p.2 h2) X) X):wI Φ (.zip a b) env h QI X:=by simp only[wE_eq,Zb,Zc,Zd,Za]at q ⊢;exact q
theorem HL(q:wE Φ e env h (fun v h1=>go (asRef v) fun a=>go (K6 (h1 a)) fun kvs=>QI (fun g=>g a=some (.frz kvs)) (kvs.map (Ja true)) (upd h1 a (.frz kvs))) X):wI Φ (.items e) env h QI X:=by simp only[wE_eq,Zb,Zc,Zd,Za]at q ⊢;exact q
theorem LK(q:wE Φ e env h (fun v h1=>go (YQ h1 v) fun xs=>QI (fun g=>YQ g v=some xs) xs.reverse h1) X):wI Φ (.rev e) env h QI X:=by simp only[wE_eq,Zb,Zc,Zd,Za]at q ⊢;exact q
end
section
variable {Φ:Fs}{env:Env}{h:Hs}{N B C:NQ}{R:Q1}{X:EQ}{a b c e o i:E}{as:Es}{v u:Val}{t:Tt}{s1 s2:Ss}{s:S}{p:Pt}{it:It}{hs:Hn}
theorem Hw(q:wE Φ e env h (fun v h1=>go (bind p h1 v env) fun env2=>N env2 h1) (X env)):wS Φ (.set p e) env h N R B C X:=by simp only[Zs,Zk,Zt]at q ⊢;exact q
theorem Ou(q:wE Φ e env h (fun v h1=>wE Φ a env h1 (fun o h2=>wE Φ i env h2 (fun k h3=>go (putV h3 o k v) fun g=>N env g) (X env)) (X env)) (X env)):wS Φ (.setIdx a i e) env h N R B C X:=by simp only[Zs,Zk,Zt]at q ⊢;exact q
theorem GY{f:String}(q:wE Φ e env h (fun v h1=>wE Φ o env h1 (fun u h2=>go (WJ h2 u f v) fun g=>N env g) (X env)) (X env)):wS Φ (.setFld o f e) env h N R B C X:=by simp only[Zs,Zk,Zt]at q ⊢;exact q
theorem GV{k:Nat}{op:Bop}(q:go (getV env k) fun x=>wE Φ e env h (fun v h1=>go (KU op x v) fun y=>N (env.set k (some y)) h1) (X env)):wS Φ (.augVar k op e) env h N R B C X:=by simp only[Zs,Zk,Zt]at q ⊢;exact q
theorem GB{f:String}{op:Bop}{n:Int}(q:wE Φ o env h (fun u h1=>go (NV h1 u f) fun x=>go (KU op x (.int n)) fun y=>go (WJ h1 u f y) fun g=>N env g) (X env)):wS Φ (.augFld o f op n) env h N R B C X:=by simp only[Zs,Zk,Zt]at q ⊢;exact q
theorem GZ{i:E}{op:Bop}{n:Int}(q:wE Φ a env h (fun o h1=>wE Φ i env h1 (fun k h2=>go (idxV h2 o k) fun x=>go (KU op x (.int n)) fun y=>go (putV h2 o k y) fun g=>N env g) (X env)) (X env)):wS Φ (.augIdx a i op n) env h N R B C X:=by simp only[Zs,Zk,Zt]at q ⊢;exact q
theorem Dk(q:wE Φ e env h (fun _ h1=>N env h1) (X env)):wS Φ (.expr e) env h N R B C X:=by simp only[Zs,Zk,Zt]at q ⊢;exact q
theorem HF(q:wE Φ e env h R (X env)):wS Φ (.ret e) env h N R B C X:=by simp only[Zs,Zk,Zt]at q ⊢;exact q
theorem Ix(q:R .non h):wS Φ .retN env h N R B C X:=by simp only[Zs,Zk,Zt]at q ⊢;exact q
theorem U3(q:wT Φ t env h (fun k h1=>if k=true then wSs Φ s1 env h1 N R B C X else wSs Φ s2 env h1 N R B C X) (X env)):wS Φ (.ite t s1 s2) env h N R B C X:=by simp only[Zs,Zk,Zt]at q ⊢;exact q
theorem LE(q:∃ n,Kz (fun e g K=>wT Φ t e g K (X e)) (fun e g K M=>wSs Φ s1 e g K R M K X) N n env h):wS Φ (.whl t s1) env h N R B C X:=by simp only[Zs,Zk,Zt]at q ⊢;exact q
theorem Gz(q:wI Φ it env h (fun st xs h1=>wFor st (fun v e g K M=>go (bind p g v e) fun e2=>wSs Φ s1 e2 g K R M K X) N xs env h1) (X env)):wS Φ (.for p it s1) env h N R B C X:=by simp only[Zs,Zk,Zt]at q ⊢;exact q
theorem HV{k:Bool}(q:wE Φ e env h (fun v h1=>go (asRef v) fun a=>go (K6 (h1 a)) fun kvs =>
      wFor (fun g=>g a=some (.frz kvs)) (fun v e g K M=>go (bind p g v e) fun e2=>wSs Φ s1 e2 g K (fun u g2=>g2 a=some (.frz kvs)∧R u (upd g2 a (.dct kvs))) M K fun _ _ _=>False)
        (fun e g=>g a=some (.frz kvs)∧N e (upd g a (.dct kvs))) (kvs.map (Ja k)) env (upd h1 a (.frz kvs))) (X env)):wS Φ (.forI k p e s1) env h N R B C X:=by simp only[Zs,Zk,Zt]at q ⊢;exact q
theorem LQ(q:B env h):wS Φ .brk env h N R B C X:=by simp only[Zs,Zk,Zt]at q ⊢;exact q
theorem LG(q:C env h):wS Φ .cnt env h N R B C X:=by simp only[Zs,Zk,Zt]at q ⊢;exact q
theorem Le(q:N env h):wS Φ .pass env h N R B C X:=by simp only[Zs,Zk,Zt]at q ⊢;exact q
theorem HM{D:String}(q:wA Φ as env h (fun _ h1=>X env D h1) (X env)):wS Φ (.raise D as) env h N R B C X:=by simp only[Zs,Zk,Zt]at q ⊢;exact q
theorem LP{t:Option Nat}(q:wC Φ e env h (fun v h1=>N (Uu env t v) h1) fun c g=>wH Φ hs c env g N R B C):wS Φ (.try t e hs) env h N R B C X:=by simp only[Zs,Zk,Zt]at q ⊢;exact q
theorem Eg(q:N env h):wSs Φ .nil env h N R B C X:=by simp only[Zs,Zk,Zt]at q ⊢;exact q
theorem Jn{ss:Ss}(q:wS Φ s env h (fun e g=>wSs Φ ss e g N R B C X) R B C X):wSs Φ (.cons s ss) env h N R B C X:=by simp only[Zs,Zk,Zt]at q ⊢;exact q
end
section
variable {h:Hs}{Q:Q1}{i j k:Int}{a b:Ad}{xs ys:List Val}{v u:Val}{K:Val→Prop}{KB:Bool→Prop}
theorem wp_val{r:Rs}(e:r=.val v)(q:Q v h):r.wp h Q:=by rw[e,Rs.wp_val];exact q
theorem wp_new{r:Rs}{o:Ob}(e:r=.new o)(q:new h o Q):r.wp h Q:=by rw[e,Rs.wp_new];exact q
theorem b_add(q:Q (.int (i+j)) h):(binV h .add (.int i) (.int j)).wp h Q:=wp_val rfl q
theorem b_sub(q:Q (.int (i - j)) h):(binV h .sub (.int i) (.int j)).wp h Q:=wp_val rfl q
theorem b_mul(m:mulOk i j)(q:Q (.int (i*j)) h):(binV h .mul (.int i) (.int j)).wp h Q:=wp_val (if_pos m) q
theorem b_fdiv(m:0<j∧j<1073741824)(q:Q (.int (i / j)) h):(binV h .fdiv (.int i) (.int j)).wp h Q:=wp_val (if_pos m) q
theorem b_mod(m:0<j)(q:Q (.int (i % j)) h):(binV h .mod (.int i) (.int j)).wp h Q:=wp_val (if_pos m) q
theorem b_pow(m:0≤j∧j≤1000000∧i.natAbs<2 ^ 64)(q:Q (.int (i ^ j.toNat)) h):(binV h .pow (.int i) (.int j)).wp h Q:=wp_val (if_pos m) q
theorem DF{z:Int}(m:0≤j∧j≤1000000∧i.natAbs<2 ^ 64)(e:i ^ j.toNat=z)(q:Q (.int z) h):(binV h .pow (.int i) (.int j)).wp h Q:=b_pow m (by rw[e];exact q)
theorem Fc(m:xs.length+ys.length≤lim)(q:Q (.tup (xs++ys)) h):(binV h .add (.tup xs) (.tup ys)).wp h Q:=wp_val (if_pos m) q
theorem YK(e1:h a=some (.lst xs))(e2:h b=some (.lst ys))(m:(xs++ys).length≤lim)(q:new h (.lst (xs++ys)) Q):(binV h .add (.ref a) (.ref b)).wp h Q:=by refine wp_new ?_ q;show(match h a,h b with|some (.lst xs),some (.lst ys)=>Rs.lst (xs++ys)|_,_=>.no:Rs)=_;simp only[e1,e2,Rs.lst];rw[if_pos m]
theorem lsE(e1:h a=some (.lst xs)):lsOf (h a)=some xs:=by rw[e1];rfl
theorem dcE{kvs:List (Val×Val)}(e1:h a=some (.dct kvs)):K6 (h a)=some kvs:=by rw[e1];rfl
theorem FW{K:Int→Prop}(q:K i):go (asInt (.int i)) K:=go_of rfl q
theorem Ig{b:Bool}(q:KB b):go (asBl (.bl b)) KB:=go_of rfl q
theorem Cf{K:Ad→Prop}(q:K a):go (asRef (.ref a)) K:=go_of rfl q
theorem Mu{b:Bool}(q:KB b):go (YI h (.bl b)) KB:=go_of rfl q
theorem IE(q:KB (decide (i≠0))):go (YI h (.int i)) KB:=go_of rfl q
theorem Id(e:h a=some (.lst xs))(q:KB (!xs.isEmpty)):go (YI h (.ref a)) KB:=go_of (by unfold YI;simp only[e]) q
theorem ix_tup(e:atI xs i=some v)(q:K v):go (idxV h (.tup xs) (.int i)) K:=go_of e q
theorem ZD(e1:h a=some (.lst xs))(e:atI xs i=some v)(q:K v):go (idxV h (.ref a) (.int i)) K:=go_of (by unfold idxV;simp only[e1];exact e) q
theorem Yo{kvs:List (Val×Val)}{k:Val}(e1:h a=some (.dct kvs))(hk:isKey k=true)(e:lookK kvs k=some v)(q:K v):go (idxV h (.ref a) k) K:=go_of (by unfold idxV;simp only[e1];rw[if_pos hk];exact e) q
theorem c_lt(q:KB (decide (i<j))):go (cmpV h .lt (.int i) (.int j)) KB:=go_of rfl q
theorem c_gt(q:KB (decide (j<i))):go (cmpV h .gt (.int i) (.int j)) KB:=go_of rfl q
theorem c_le(q:KB (decide (i≤j))):go (cmpV h .le (.int i) (.int j)) KB:=go_of rfl q
theorem c_ge(q:KB (decide (j≤i))):go (cmpV h .ge (.int i) (.int j)) KB:=go_of rfl q
theorem MM:D.eqv (.int i) (.int j)=decide (i=j):=by rw[D.eqv];by_cases e:i=j<;>simp[e]
theorem Ci{s t:String}:D.eqv (.str s) (.str t)=decide (s=t):=by rw[D.eqv];by_cases e:s=t<;>simp[e]
theorem Fv(q:KB (decide (i=j))):go (cmpV h .eq (.int i) (.int j)) KB:=go_of (by show some (D.eqv (.int i) (.int j))=_;rw[MM]) q
theorem GJ(q:KB (!decide (i=j))):go (cmpV h .ne (.int i) (.int j)) KB:=go_of (by show some (!D.eqv (.int i) (.int j))=_;rw[MM]) q
theorem LM{s t:String}(q:KB (decide (s=t))):go (cmpV h .eq (.str s) (.str t)) KB:=go_of (by show some (D.eqv (.str s) (.str t))=_;rw[Ci]) q
theorem LN{s t:String}(q:KB (!decide (s=t))):go (cmpV h .ne (.str s) (.str t)) KB:=go_of (by show some (!D.eqv (.str s) (.str t))=_;rw[Ci]) q
theorem LD{c d:Bool}(q:KB (c==d)):go (cmpV h .eq (.bl c) (.bl d)) KB:=go_of (by show some (D.eqv (.bl c) (.bl d))=_;rw[D.eqv]) q
theorem LC(q:KB (decide (v=.non))):go (cmpV h .is v .non) KB:=go_of (by unfold cmpV;rfl) q
theorem II(q:KB (!decide (v=.non))):go (cmpV h .isnot v .non) KB:=go_of (by unfold cmpV;rfl) q
theorem c_neE(e1:h a=some (.lst xs))(e2:h b=some (.lst []))(q:KB (!xs.isEmpty)):go (cmpV h .neE (.ref a) (.ref b)) KB:=go_of (by show(lsOf (h a)).bind _=_;rw[e1,ZY];show(lsOf (h b)).bind _=_;rw[e2,ZY];rfl) q
theorem c_neX{v u:Val}{c:Bool}(n:sam0 h v u=false)(e:eqV h v u=some c)(q:KB (!c)):go (cmpV h .neX v u) KB:=go_of (by show(if sam0 h v u=true then some false else(eqV h v u).map (!·))=_;rw[n,e];rfl) q
theorem c_nes(e1:h a=some (.lst xs))(e2:h b=some (.lst ys))(e:samL (sam h 8) xs ys=true)(q:KB false):go (cmpV h .nes (.ref a) (.ref b)) KB:=go_of (by show(lsOf (h a)).bind _=_;rw[e1,ZY];show(lsOf (h b)).bind _=_;rw[e2,ZY];show(if _ then _ else _)=_;rw[if_pos e]) q
theorem Fg{n:Nat}{env env':Env}{K:Env→Prop}(e:env.set n (some v)=env')(q:K env'):go (bind (.one n) h v env) K:=by subst e;exact go_of rfl q
theorem Dx{is:List Nat}{env env':Env}{K:Env→Prop}(e:bindL is xs env=some env')(q:K env'):go (bind (.many is) h (.tup xs) env) K:=go_of e q
theorem Ey{n:Nat}{K:Hs→Prop}(e1:h a=some (.lst xs))(e:ixN xs.length i=some n)(q:K (upd h a (.lst (xs.set n v)))):go (putV h (.ref a) (.int i) v) K:=go_of (by unfold putV;simp only[e1,asInt,Option.bind_some,e,Option.map_some]) q
theorem WR{K:Hs→Prop}{kvs:List (Val×Val)}{k:Val}(e1:h a=some (.dct kvs))(m:isKey k=true∧kvs.length<lim)(q:K (upd h a (.dct (putK kvs k v)))):go (putV h (.ref a) k v) K:=go_of (by unfold putV;simp only[e1];rw[if_pos m]) q
theorem Nd{kvs:List (Val×Val)}(e1:h a=some (.dct kvs))(hk:isKey v=true)(q:KB (!hasK kvs v)):go (cmpV h .notin v (.ref a)) KB:=go_of (by show(inV h v (.ref a)).map _=_;unfold inV;simp only[e1];rw[if_pos hk];rfl) q
theorem HW{C f:String}{fs:List (String×Val)}{K:Hs→Prop}(e1:h a=some (.ins C fs))(m:fs.length<900)(q:K (upd h a (.ins C (putF fs f v)))):go (WJ h (.ref a) f v) K:=go_of (by unfold WJ;simp only[e1];rw[if_pos m]) q
theorem IG{C f:String}{fs:List (String×Val)}(e1:h a=some (.ins C fs))(e:fs.lookup f=some v)(q:K v):go (NV h (.ref a) f) K:=go_of (by unfold NV asRef;simp only[e1,Nb,Option.bind_some];exact e) q
theorem LA{C m:String}{fs:List (String×Val)}{P:Prop}(e1:h a=some (.ins C fs))(e:fs.lookup m=none)(q:P):O7 h (.ref a) m=some C∧P:=⟨by unfold O7 asRef;simp only[e1,Nb,Option.bind_some,e,Option.isNone_none,if_true],q⟩
theorem Lw(q:K (.int (i+j))):go (KU .add (.int i) (.int j)) K:=go_of rfl q
theorem Dj(e1:h a=some (.lst xs))(q:Q (.int xs.length) h):(biV h .len [.ref a]).wp h Q:=wp_val (by show lenV h (.ref a)=_;unfold lenV;dsimp only;rw[e1]) q
theorem IA{ns:List Int}(q:Q (.int ns.length) h):(biV h .len [.scr ns]).wp h Q:=wp_val rfl q
theorem DT(q:Q (.int xs.length) h):(biV h .len [.tup xs]).wp h Q:=wp_val rfl q
theorem IR{s:String}(q:Q (.str s) h):(biV h .str [.str s]).wp h Q:=wp_val rfl q
theorem in_str{s:String}(m:s.length≤640∧s.toList≠[]∧s.toList.all figB=true)(q:Q (.int (decN s.toList)) h):(biV h .int [.str s]).wp h Q:=wp_val (if_pos m) q
theorem HX(q:Q (.int (if i<0 then -i else i)) h):(biV h .abs [.int i]).wp h Q:=wp_val rfl q
theorem X0{bs:List Bool}(e1:h a=some (.lst xs))(e2:blsOf xs=some bs)(q:Q (.bl (bs.all id)) h):(biV h .all [.ref a]).wp h Q:=wp_val (by show Rs.ofO ((lsOf (h a)).bind _)=_;rw[lsE e1,Option.bind_some,e2];rfl) q
theorem LF{K:String→Prop}{s:String}(q:K s):go (Xk (.str s)) K:=go_of rfl q
theorem Lx{m:Bm}{P:Prop}{s:String}(hm:m=.join)(q:P):bmTy h m (.str s)=true∧P:=⟨by subst hm;rfl,q⟩
theorem OD{kvs:List (Val×Val)}(e1:h a=some (.lst xs))(e2:pairsOf h xs=some kvs)(q:new h (.dct (putAll [] kvs)) Q):(biV h .dict [.ref a]).wp h Q:=wp_new (by show Kt h (.ref a)=_;unfold Kt;simp only[e1,e2]) q
theorem IL(q:Q (.int i) h):(biV h .int [.int i]).wp h Q:=wp_val rfl q
theorem FO{c:Bool}(q:Q (.int (if c then 1 else 0)) h):(biV h .int [.bl c]).wp h Q:=wp_val rfl q
theorem mn2(q:Q (.int (if j<i then j else i)) h):(biV h .min2 [.int i,.int j]).wp h Q:=wp_val rfl q
theorem mx2(q:Q (.int (if j > i then j else i)) h):(biV h .max2 [.int i,.int j]).wp h Q:=wp_val rfl q
theorem C6(e1:h a=some (.lst xs))(q:Q (.tup xs) h):(biV h .tuple [.ref a]).wp h Q:=wp_val (by show Jf h (.ref a)=_;unfold Jf;dsimp only;rw[e1]) q
theorem Ip(q:Q (.tup xs) h):(biV h .tuple [.tup xs]).wp h Q:=wp_val rfl q
theorem BG{Ts:List String}{c:Bool}(e:isiAny h v Ts=some c)(q:Q (.bl c) h):(biV h (.isi Ts) [v]).wp h Q:=wp_val (by show Rs.ofO ((isiAny h v Ts).map .bl)=_;rw[e];rfl) q
theorem Ea(e1:h a=some (.lst xs))(q:new h (.lst xs) Q):(biV h .list [.ref a]).wp h Q:=wp_new (by show toList h (.ref a)=_;unfold toList;dsimp only;rw[e1]) q
theorem Fb(q:new h (.lst xs) Q):(biV h .list [.tup xs]).wp h Q:=wp_new rfl q
theorem sl_tup{lo hi:Option Int}(n:¬ (cutAt xs.length 0 lo=0∧cutAt xs.length xs.length hi=xs.length))(q:Q (.tup (cut xs lo hi)) h):(slcV h (.tup xs) lo hi).wp h Q:=wp_val (by unfold slcV;simp only;rw[if_neg n]) q
theorem Di{m:Bm}{P:Prop}(hm:m.ty=.l∨m.ty=.t)(e:h a=some (.lst xs))(q:P):bmTy h m (.ref a)=true∧P:=⟨by unfold bmTy;rcases hm with hm|hm<;>rw[hm]<;>simp[X3,e,isLst],q⟩
theorem Lk{m:Bm}{P:Prop}{kvs:List (Val×Val)}(hm:m.ty=.d)(e:h a=some (.dct kvs))(q:P):bmTy h m (.ref a)=true∧P:=⟨by unfold bmTy;rw[hm];simp[X3,e,Cj],q⟩
noncomputable def G4:Bi→Bool
 |.sorted=>true
 |.sortedI=>true
 |_=>false
theorem ED{f:Bi}{v:Val}{ns:List Int}(hf:G4 f=true)(e:sortAny h v=some ns)(m:ns.length<64)(q:new h (.lst ((sortI ns).map Val.int)) Q):(biV h f [v]).wp h Q:=by
 cases f with
 |sorted=>exact wp_new (by show XO h v=_;unfold XO;simp only[e];exact if_pos m) q
 |sortedI=>exact wp_new (by show biSortedI h v=_;unfold biSortedI;simp only[e];exact if_pos m) q
 |_=>cases hf
theorem EE{f:Bi}{ns:List Int}(e1:h a=some (.lst (ns.map Val.int)))(e2:intsOf (ns.map Val.int)=some ns)(m:ns.length<64)(q:new h (.lst ((sortI ns).map Val.int)) Q)(hf:G4 f=true:=by rfl):(biV h f [.ref a]).wp h Q:=ED hf (by unfold sortAny;simp only[e1,e2]) m q
theorem sl_str{s:String}{lo hi:Option Int}(n:s.length≤lim)(q:Q (.str (String.ofList (cut s.toList lo hi))) h):(slcV h (.str s) lo hi).wp h Q:=wp_val (by unfold slcV;simp only;rw[if_pos n]) q
theorem E0{lo hi:Option Int}(e1:h a=some (.lst xs))(q:new h (.lst (cut xs lo hi)) Q):(slcV h (.ref a) lo hi).wp h Q:=wp_new (by unfold slcV;simp only[e1,lsOf]) q
theorem EX{ns:List Int}{lo hi:Option Int}(q:new h (.lst (cut (ns.map Val.int) lo hi)) Q):(slcV h (.scr ns) lo hi).wp h Q:=wp_new rfl q
theorem Z2{K:Val×Hs→Prop}(e1:h a=some (.lst xs))(m:xs.length<lim)(q:K (.non,upd h a (.lst (xs++[v])))):go (bmV h .append (.ref a) [v]) K:=go_of (by show(lsOf (h a)).bind _=_;rw[lsE e1];exact if_pos m) q
theorem it_lst{K:(Hs→Prop)×List Val→Prop}(e1:h a=some (.lst xs))(q:K (fun g=>lsOf (g a)=some xs,xs)):go (itV h (.ref a)) K:=go_of (by unfold itV;simp only[e1,lsOf,Option.map_some]) q
theorem it_scr{ns:List Int}{K:(Hs→Prop)×List Val→Prop}(q:K (fun _=>True,ns.map Val.int)):go (itV h (.scr ns)) K:=go_of rfl q
theorem it_tup{K:(Hs→Prop)×List Val→Prop}(q:K (fun _=>True,xs)):go (itV h (.tup xs)) K:=go_of rfl q
theorem Lo{K:List Val→Prop}(q:K xs):go (YQ h (.tup xs)) K:=go_of rfl q
theorem IC{K:List Val→Prop}(e1:h a=some (.lst xs))(q:K xs):go (YQ h (.ref a)) K:=go_of (by unfold YQ;simp only[e1,lsOf]) q
theorem ifT{c:Bool}{A B:Prop}(e:c=true)(q:A):if c=true then A else B:=by rw[if_pos e];exact q
theorem ifF{c:Bool}{A B:Prop}(e:c=false)(q:B):if c=true then A else B:=by rw[if_neg (by rw[e];decide)];exact q
theorem ifD{c:Bool}{A B:Prop}(q:c=true→A)(r:c=false→B):if c=true then A else B:=by cases c;exact r rfl;exact q rfl
theorem ifP{p:Prop}[Decidable p]{A B:Prop}(q:p→A)(r:¬p→B):if decide p=true then A else B:=by
 by_cases e:p
 ·rw[if_pos (qQ e)];exact q e
 ·rw[if_neg (by simpa using e)];exact r e
theorem Ke{p:Prop}[Decidable p]{A B:Prop}(q:¬p→A)(r:p→B):if(!decide p)=true then A else B:=by
 by_cases e:p
 ·rw[if_neg (by simpa using e)];exact r e
 ·rw[if_pos (by simpa using e)];exact q e
end
structure Ext (h g:Hs):Prop where
 get:∀ {a:Ad}{o:Ob},h a=some o→g a=some o
theorem Ext.refl{h:Hs}:Ext h h:=⟨fun e=>e⟩
theorem Ext.trans{h g k:Hs}(e:Ext h g)(f:Ext g k):Ext h k:=⟨fun x=>f.get (e.get x)⟩
theorem Ext.new{h:Hs}{p:Ad}{o:Ob}(e:h p=none):Ext h (upd h p o):=⟨fun {a u} x=>by
  rw[upd_ne (by intro z;rw[z,e]at x;cases x)];exact x⟩
structure ExtB (w:Ad) (h g:Hs):Prop where
 get:∀ {a:Ad}{o:Ob},a≠w→h a=some o→g a=some o
theorem ExtB.refl{h:Hs}{w:Ad}:ExtB w h h:=⟨fun _ e=>e⟩
theorem ExtB.trans{h g k:Hs}{w:Ad}(e:ExtB w h g)(f:ExtB w g k):ExtB w h k:=⟨fun n x=>f.get n (e.get n x)⟩
theorem ExtB.upd{h:Hs}{w:Ad}{o:Ob}:ExtB w h (upd h w o):=⟨fun n x=>by rw[upd_ne n];exact x⟩
theorem ExtB.of{h g:Hs}{w:Ad}(e:Ext h g):ExtB w h g:=⟨fun _ x=>e.get x⟩
theorem ZG{h:Hs}{a p:Ad}{o:Ob}(x:h a=some o)(n:h p=none):a≠p:=by intro z;rw[z,n]at x;cases x
theorem ne_none'{h:Hs}{a p:Ad}{o:Ob}(n:h p=none)(x:h a=some o):a≠p:=ZG x n
theorem upd_ne'{h:Hs}{a b:Ad}{o:Ob}{r:Option Ob}(n:b≠a)(e:h b=r):upd h a o b=r:=by rw[upd_ne n];exact e
theorem ZX{st:Hs→Prop}{W:Val→Env→Hs→NQ→NQ→Prop}{N:NQ}(I:Nat→Env→Hs→Prop){xs:List Val}{env:Env}{h:Hs}(h0:I 0 env h)(hst:∀ i e g,i≤xs.length→I i e g→st g)
  (step:∀ i v e g,xs[i]?=some v→I i e g→∀ K:NQ,(∀ e' g',I (i+1) e' g'→K e' g')→W v e g K N) (fin:∀ e g,I xs.length e g→N e g):wFor st W N xs env h:=by
 have key:∀ (ys:List Val) (i:Nat) e g,xs.drop i=ys→i≤xs.length→I i e g→wFor st W N ys e g:=by
  intro ys;induction ys with
  |nil =>
   intro i e g hd hi hI;have:i=xs.length:=by have:=congrArg List.length hd;simp at this;omega
   subst this;exact⟨hst _ e g (zG _) hI,fin e g hI⟩
  |cons v vs ih =>
   intro i e g hd hi hI;have hlt:i<xs.length:=by have:=congrArg List.length hd;simp at this;omega
   have hv:xs[i]?=some v:=by have:=congrArg (fun l=>l[0]?) hd;simpa using this
   refine⟨hst i e g hi hI,step i v e g hv hI _ fun e' g' hI'=>ih (i+1) e' g' ?_ (by omega) hI'⟩;have:=congrArg List.tail hd;simpa using this
 exact key xs 0 env h (by simp) (by omega) h0
theorem Y2{st:Hs→Prop}{step:Val→Hs→(Option Val→Hs→Prop)→XQ→Prop}{Q:List Val→Hs→Prop}{X:XQ}(I:Nat→List Val→Hs→Prop){xs:List Val}{h:Hs}(h0:I 0 [] h)(hst:∀ i ys g,i≤xs.length→I i ys g→st g)
  (go:∀ i v ys g,xs[i]?=some v→I i ys g→∀ K,(∀ r g',I (i+1) (ys++r.toList) g'→K r g')→step v g K X) (fin:∀ ys g,I xs.length ys g→Q ys g):wComp st step xs [] h Q X:=by
 have key:∀ (zs:List Val) (i:Nat) ys g,xs.drop i=zs→i≤xs.length→I i ys g→wComp st step zs ys g Q X:=by
  intro zs;induction zs with
  |nil =>
   intro i ys g hd hi hI;have:i=xs.length:=by have:=congrArg List.length hd;simp at this;omega
   subst this;exact⟨hst _ ys g (zG _) hI,fin ys g hI⟩
  |cons v vs ih =>
   intro i ys g hd hi hI;have hlt:i<xs.length:=by have:=congrArg List.length hd;simp at this;omega
   have hv:xs[i]?=some v:=by have:=congrArg (fun l=>l[0]?) hd;simpa using this
   refine⟨hst i ys g hi hI,go i v ys g hv hI _ fun r g' hI'=>ih (i+1) _ g' ?_ (by omega) hI'⟩;have:=congrArg List.tail hd;simpa using this
 exact key xs 0 [] h (by simp) (by omega) h0
theorem ZB{st:Hs→Prop}{step:Val→Hs→(Option Val→Hs→Prop)→XQ→Prop}{Q:List Val→Hs→Prop}{X:XQ}(f:Val→Option Val){xs:List Val}{h:Hs}(hst:st h)
  (go:∀ v∈xs,∀ K,K (f v) h→step v h K X) (fin:Q (xs.filterMap f) h):wComp st step xs [] h Q X:=by
 have key:∀ (zs ys:List Val),(∀ v∈zs,v∈xs)→Q (ys++zs.filterMap f) h→wComp st step zs ys h Q X:=by
  intro zs;induction zs with
  |nil=>intro ys _ q;exact⟨hst,by simpa using q⟩
  |cons v vs ih =>
   intro ys hm q;refine⟨hst,go v (hm v (by simp)) _ (ih _ (fun w hw=>hm w (by simp[hw])) ?_)⟩;cases e:f v with
   |none=>simpa[zJ,e]using q
   |some u=>simpa[zJ,e]using q
 exact key xs [] (fun _ h=>h) (by simpa using fin)
section
variable {Φ:Fs}{env:Env}{h:Hs}{Q:Q1}{X:XQ}{a b c e o:E}{as:Es}{v u:Val}
theorem q_e_cst:(wE Φ (.cst v) env h Q X)=(Q v h):=by simp only[wE_eq,Zb,Zc,Zd,Za];rfl
theorem q_e_glob{x:String}:(wE Φ (.glob x v) env h Q X)=(Q v h):=by simp only[wE_eq,Zb,Zc,Zd,Za];rfl
theorem q_e_bin{op:Bop}:(wE Φ (.bin op a b) env h Q X)=(wE Φ a env h (fun v h1=>wE Φ b env h1 (fun u h2=>(binV h2 op v u).wp h2 Q) X) X):=by simp only[wE_eq,Zb,Zc,Zd,Za];rfl
theorem q_e_neg:(wE Φ (.neg a) env h Q X)=(wE Φ a env h (fun v h1=>go (asInt v) fun i=>Q (.int (-i)) h1) X):=by simp only[wE_eq,Zb,Zc,Zd,Za];rfl
theorem q_e_not:(wE Φ (.not a) env h Q X)=(wE Φ a env h (fun v h1=>go (asBl v) fun b=>Q (.bl (!b)) h1) X):=by simp only[wE_eq,Zb,Zc,Zd,Za];rfl
theorem q_e_and:(wE Φ (.and a b) env h Q X)=(wE Φ a env h (fun v h1=>go (asBl v) fun c=>if c=true then wE Φ b env h1 Q X else Q (.bl false) h1) X):=by simp only[wE_eq,Zb,Zc,Zd,Za];rfl
theorem q_e_or:(wE Φ (.or a b) env h Q X)=(wE Φ a env h (fun v h1=>go (asBl v) fun c=>if c=true then Q (.bl true) h1 else wE Φ b env h1 Q X) X):=by simp only[wE_eq,Zb,Zc,Zd,Za];rfl
theorem q_e_cmp{op:Cop}:(wE Φ (.cmp op a b) env h Q X)=(wE Φ a env h (fun v h1=>wE Φ b env h1 (fun u h2=>go (cmpV h2 op v u) fun c=>Q (.bl c) h2) X) X):=by simp only[wE_eq,Zb,Zc,Zd,Za];rfl
theorem q_e_chain{o1 o2:Cop}:(wE Φ (.chain o1 o2 a b c) env h Q X)=(wE Φ a env h (fun v h1=>wE Φ b env h1 (fun u h2=>go (cmpV h2 o1 v u) fun k=>if k=true then wE Φ c env h2 (fun w h3=>go (cmpV h3 o2 u w) fun k2=>Q (.bl k2) h3) X else Q (.bl false) h2) X) X):=by simp only[wE_eq,Zb,Zc,Zd,Za];rfl
theorem q_e_call{f:String}:(wE Φ (.call f as) env h Q X)=(wA Φ as env h (fun vs h1=>Φ f vs h1 Q X) X):=by simp only[wE_eq,Zb,Zc,Zd,Za];rfl
theorem q_e_bi{f:Bi}:(wE Φ (.bi f as) env h Q X)=(wA Φ as env h (fun vs h1=>(biV h1 f vs).wp h1 Q) X):=by simp only[wE_eq,Zb,Zc,Zd,Za];rfl
theorem q_e_bm{m:Bm}:(wE Φ (.bm m o as) env h Q X)=(wE Φ o env h (fun v h1=>bmTy h1 m v=true∧wA Φ as env h1 (fun vs h2=>go (bmV h2 m v vs) fun r=>Q r.1 r.2) X) X):=by simp only[wE_eq,Zb,Zc,Zd,Za];rfl
theorem q_e_idx{i:E}:(wE Φ (.idx a i) env h Q X)=(wE Φ a env h (fun v h1=>wE Φ i env h1 (fun k h2=>go (idxV h2 v k) fun u=>Q u h2) X) X):=by simp only[wE_eq,Zb,Zc,Zd,Za];rfl
theorem q_e_slc{lo hi:Oe}:(wE Φ (.slc a lo hi) env h Q X)=(wE Φ a env h (fun v h1=>wO Φ lo env h1 (fun l h2=>wO Φ hi env h2 (fun u h3=>(slcV h3 v l u).wp h3 Q) X) X) X):=by simp only[wE_eq,Zb,Zc,Zd,Za];rfl
theorem q_e_tup{es:Es}:(wE Φ (.tup es) env h Q X)=(wA Φ es env h (fun vs h1=>Q (.tup vs) h1) X):=by simp only[wE_eq,Zb,Zc,Zd,Za];rfl
theorem q_e_lst{es:Es}:(wE Φ (.lst es) env h Q X)=(wA Φ es env h (fun vs h1=>new h1 (.lst vs) Q) X):=by simp only[wE_eq,Zb,Zc,Zd,Za];rfl
theorem q_e_rev:(wE Φ (.rev a) env h Q X)=(wE Φ a env h (fun v h1=>go (asRef v) fun p=>go (lsOf (h1 p)) fun xs=>new h1 (.lst xs.reverse) Q) X):=by simp only[wE_eq,Zb,Zc,Zd,Za];rfl
theorem q_e_dct{es:Es}:(wE Φ (.dct es) env h Q X)=(new h (.dct []) fun r h1=>go (asRef r) fun p=>wA Φ es env h1 (fun vs h2=>go (pairUp vs) fun kvs=>h2 p=some (.dct [])∧Q (.ref p) (upd h2 p (.dct (putAll [] kvs)))) X):=by simp only[wE_eq,Zb,Zc,Zd,Za];rfl
theorem q_e_comp{caps:List Nat}{n:Nat}{p:Pt}{it:It}{t:Tt}:(wE Φ (.comp caps n p it t e) env h Q X)=(wI Φ it env h (fun st xs h1=>xs.length<lim∧wComp st (fun v h2 K X2=>go (bind p h2 v (List.replicate n none++caps.map fun j=>(env[j]?).getD none)) fun env2=>  wT Φ t env2 h2 (fun k h3=>if k=true then wE Φ e env2 h3 (fun u h4=>K (some u) h4) X2 else K none h3) X2) xs [] h1 (fun ys h5=>new h5 (.lst ys) Q) fun _ _=>False) X):=by simp only[wE_eq,Zb,Zc,Zd,Za];rfl
theorem q_j_nil{acc:String}{QJ:String→Hs→Prop}:(wJ Φ .nil env h acc QJ X)=QJ acc h:=by rw[J8];rfl
theorem q_j_cons{es:Es}{acc:String}{QJ:String→Hs→Prop}:(wJ Φ (.cons e es) env h acc QJ X)=(wE Φ e env h (fun v h1=>go (fmtV v) fun s=>acc.length+s.length≤lim∧wJ Φ es env h1 (acc++s) QJ X) X):=by simp only[wE_eq,J8];rfl
variable {QA:List Val→Hs→Prop}{QO:Option Int→Hs→Prop}{QT:Bool→Hs→Prop}{QI:(Hs→Prop)→List Val→Hs→Prop}
theorem q_a_nil:(wA Φ .nil env h QA X)=(QA [] h):=by simp only[wE_eq,Zb,Zc,Zd,Za];rfl
theorem q_a_cons{es:Es}:(wA Φ (.cons e es) env h QA X)=(wE Φ e env h (fun v h1=>wA Φ es env h1 (fun vs h2=>QA (v::vs) h2) X) X):=by simp only[wE_eq,Zb,Zc,Zd,Za];rfl
theorem q_o_none:(wO Φ .none env h QO X)=(QO none h):=by simp only[wE_eq,Zb,Zc,Zd,Za];rfl
theorem q_o_some:(wO Φ (.some e) env h QO X)=(wE Φ e env h (fun v h1=>go (asInt v) fun i=>QO (some i) h1) X):=by simp only[wE_eq,Zb,Zc,Zd,Za];rfl
theorem q_t_yes:(wT Φ .yes env h QT X)=(QT true h):=by simp only[wE_eq,Zb,Zc,Zd,Za];rfl
theorem q_t_val:(wT Φ (.val e) env h QT X)=(wE Φ e env h (fun v h1=>go (YI h1 v) fun k=>QT k h1) X):=by simp only[wE_eq,Zb,Zc,Zd,Za];rfl
theorem q_t_not{t:Tt}:(wT Φ (.not t) env h QT X)=(wT Φ t env h (fun k h1=>QT (!k) h1) X):=by simp only[wE_eq,Zb,Zc,Zd,Za];rfl
theorem q_t_and{s t:Tt}:(wT Φ (.and s t) env h QT X)=(wT Φ s env h (fun k h1=>if k=true then wT Φ t env h1 QT X else QT false h1) X):=by simp only[wE_eq,Zb,Zc,Zd,Za];rfl
theorem q_t_or{s t:Tt}:(wT Φ (.or s t) env h QT X)=(wT Φ s env h (fun k h1=>if k=true then QT true h1 else wT Φ t env h1 QT X) X):=by simp only[wE_eq,Zb,Zc,Zd,Za];rfl
theorem q_i_seq:(wI Φ (.seq e) env h QI X)=(wE Φ e env h (fun v h1=>go (itV h1 v) fun p=>QI p.1 p.2 h1) X):=by simp only[wE_eq,Zb,Zc,Zd,Za];rfl
theorem q_i_range:(wI Φ (.range a) env h QI X)=(wE Φ a env h (fun v h1=>go (asInt v) fun n=>(-(2 ^ 62)≤n∧n<2 ^ 62)∧QI (fun _=>True) (rangeV 0 n) h1) X):=by simp only[wE_eq,Zb,Zc,Zd,Za];rfl
theorem q_i_range2:(wI Φ (.range2 a b) env h QI X)=(wE Φ a env h (fun v h1=>wE Φ b env h1 (fun u h2=>go (asInt v) fun i=>go (asInt u) fun j=>(-(2 ^ 62)≤i∧i<2 ^ 62∧-(2 ^ 62)≤j∧j<2 ^ 62)∧QI (fun _=>True) (rangeV i j) h2) X) X):=by simp only[wE_eq,Zb,Zc,Zd,Za];rfl
theorem q_i_enum:(wI Φ (.enum e) env h QI X)=(wE Φ e env h (fun v h1=>go (tupOf v) fun xs=>QI (fun _=>True) (enumL 0 xs) h1) X):=by simp only[wE_eq,Zb,Zc,Zd,Za];rfl
end
section
variable {Φ:Fs}{env:Env}{h:Hs}{N B C:NQ}{R:Q1}{X:EQ}{a b c e o i:E}{as:Es}{v u:Val}{t:Tt}{s1 s2:Ss}{s:S}{p:Pt}{it:It}{hs:Hn}
theorem q_s_set:(wS Φ (.set p e) env h N R B C X)=(wE Φ e env h (fun v h1=>go (bind p h1 v env) fun env2=>N env2 h1) (X env)):=by simp only[Zs,Zk,Zt];rfl
theorem q_s_setIdx:(wS Φ (.setIdx a i e) env h N R B C X)=(wE Φ e env h (fun v h1=>wE Φ a env h1 (fun o h2=>wE Φ i env h2 (fun k h3=>go (putV h3 o k v) fun g=>N env g) (X env)) (X env)) (X env)):=by simp only[Zs,Zk,Zt];rfl
theorem q_s_expr:(wS Φ (.expr e) env h N R B C X)=(wE Φ e env h (fun _ h1=>N env h1) (X env)):=by simp only[Zs,Zk,Zt];rfl
theorem q_s_ret:(wS Φ (.ret e) env h N R B C X)=(wE Φ e env h R (X env)):=by simp only[Zs,Zk,Zt];rfl
theorem q_s_ite:(wS Φ (.ite t s1 s2) env h N R B C X)=(wT Φ t env h (fun k h1=>if k=true then wSs Φ s1 env h1 N R B C X else wSs Φ s2 env h1 N R B C X) (X env)):=by simp only[Zs,Zk,Zt];rfl
theorem q_s_for:(wS Φ (.for p it s1) env h N R B C X)=(wI Φ it env h (fun st xs h1=>wFor st (fun v e g K M=>go (bind p g v e) fun e2=>wSs Φ s1 e2 g K R M K X) N xs env h1) (X env)):=by simp only[Zs,Zk,Zt];rfl
theorem q_s_never:(wS Φ .never env h N R B C X)=False:=by simp only[Zs];rfl
theorem q_ss_nil:(wSs Φ .nil env h N R B C X)=(N env h):=by simp only[Zs,Zk,Zt];rfl
theorem q_ss_cons{ss:Ss}:(wSs Φ (.cons s ss) env h N R B C X)=(wS Φ s env h (fun e g=>wSs Φ ss e g N R B C X) R B C X):=by simp only[Zs,Zk,Zt];rfl
end
section
variable {Φ:Fs}{env:Env}{h:Hs}{Q:Q1}{X:XQ}{a:Ad}{v:Val}{kvs:List (Val×Val)}
theorem Eu(q:∀ p,h p=none→Q (.ref p) (upd h p (.dct []))):wE Φ (.dct .nil) env h Q X:=by refine Cd (O5 fun p hp=>Cf (JL (go_of rfl ⟨upd_same,?_⟩)));rw[upd_upd];exact q p hp
theorem LJ{K:List (Val×Val)→Prop}(e1:h a=some (.dct kvs))(q:K kvs):go (K6 (h a)) K:=go_of (dcE e1) q
end
end Own
namespace Snd
open PySem L2
def KT (K:PySem.W.Frag) (a:Addr) (xs:List V):Prop :=
 ∃ (o:Obj) (its:Array Value) (n:Nat),K.lookup a=some o∧o.cls=.type "tuple"∧o.data=.seq its n∧its.size≤sizeLine∧Vals xs its.toList
def KL (K:PySem.W.Frag) (a:Addr) (xs:List V):Prop :=
 ∃ (o:Obj) (its:Array Value) (n:Nat),K.lookup a=some o∧o.cls=.type "list"∧o.dict=none∧o.data=.seq its n∧its.size≤sizeLine∧Vals xs its.toList
mutual
inductive RV (K:PySem.W.Frag) (H:Hp):Own.Val→V→Prop
 |non:RV K H .non .non
 |bl (b:Bool):RV K H (.bl b) (.bl b)
 |int (i:Int):RV K H (.int i) (.int i)
 |str (s:String):RV K H (.str s) (.str (Str.ofString s))
 |tup {xs:List Own.Val}{a:Addr}{vs:List V}:(H a=some (.tup vs)∨KT K a vs)→RVs K H xs vs→RV K H (.tup xs) (.ref a)
 |ref (a:Addr):RV K H (.ref a) (.ref a)
 |scr {ns:List Int}{a:Addr}:((∃ o,H a=some (.frz o (.lst (ns.map V.int))))∨KL K a (ns.map V.int))→RV K H (.scr ns) (.ref a)
 |key {i j:Int}{a:Addr}:H a=some (.tup [.int i,.int j])→RV K H (.key i j) (.ref a)
inductive RVs (K:PySem.W.Frag) (H:Hp):List Own.Val→List V→Prop
 |nil:RVs K H [] []
 |cons {v:Own.Val}{x:V}{vs:List Own.Val}{xs:List V}:RV K H v x→RVs K H vs xs→RVs K H (v::vs) (x::xs)
end
structure Keep (H H':Hp):Prop where
 t:∀ a xs,H a=some (.tup xs)→H' a=some (.tup xs)
 f:∀ a o u,H a=some (.frz o u)→H' a=some (.frz o u)
theorem Keep.refl(H:Hp):Keep H H:=⟨fun _ _ e=>e,fun _ _ _ e=>e⟩
theorem Keep.trans{H H1 H2:Hp}(a:Keep H H1)(b:Keep H1 H2):Keep H H2:=⟨fun c xs e=>b.t c xs (a.t c xs e),fun c o u e=>b.f c o u (a.f c o u e)⟩
theorem Keep.put{H:Hp}{a:Addr}{o:HO}(h:∀ xs,H a≠some (.tup xs))(h2:∀ p u,H a≠some (.frz p u)):Keep H (upd H a o):=⟨fun b xs e=>by
  rw[upd_ne (by rintro rfl;exact h xs e)];exact e,fun b p u e=>by rw[upd_ne (by rintro rfl;exact h2 p u e)];exact e⟩
theorem Keep.new{H:Hp}{a:Addr}{o:HO}(h:H a=none):Keep H (upd H a o):=Keep.put (fun xs e=>by rw[h]at e;cases e) fun p u e=>by rw[h]at e;cases e
variable {K:PySem.W.Frag}{H H':Hp}
mutual
theorem RV.keep(k:Keep H H'):∀ {v:Own.Val}{x:V},RV K H v x→RV K H' v x
 |_,_,.non=>.non
 |_,_,.bl b=>.bl b
 |_,_,.int i=>.int i
 |_,_,.str s=>.str s
 |_,_,.tup (.inl e) r=>.tup (.inl (k.t _ _ e)) (RVs.keep k r)
 |_,_,.tup (.inr e) r=>.tup (.inr e) (RVs.keep k r)
 |_,_,.ref a=>.ref a
 |_,_,.scr (.inl ⟨o,e⟩)=>.scr (.inl ⟨o,k.f _ _ _ e⟩)
 |_,_,.scr (.inr e)=>.scr (.inr e)
 |_,_,.key e=>.key (k.t _ _ e)
theorem RVs.keep(k:Keep H H'):∀ {vs:List Own.Val}{xs:List V},RVs K H vs xs→RVs K H' vs xs
 |_,_,.nil=>.nil
 |_,_,.cons r t=>.cons (RV.keep k r) (RVs.keep k t)
end
theorem RVs.length:∀ {vs:List Own.Val}{xs:List V},RVs K H vs xs→vs.length=xs.length
 |_,_,.nil=>rfl
 |_,_,.cons _ t=>by rw[qB,qB,RVs.length t]
theorem RVs.get:∀ {vs:List Own.Val}{xs:List V}{i:Nat}{v:Own.Val},RVs K H vs xs→vs[i]?=some v→∃ x,xs[i]?=some x∧RV K H v x
 |_,_,_,_,.nil,e=>by simp at e
 |_,_,0,_,.cons r _,e=>by simp at e;subst e;exact⟨_,rfl,r⟩
 |_,_,i+1,v,.cons _ t,e=>by obtain⟨x,h1,h2⟩:=RVs.get (i:=i) (v:=v) t (by simpa using e);exact⟨x,by simpa using h1,h2⟩
theorem RVs.append:∀ {vs us:List Own.Val}{xs ys:List V},RVs K H vs xs→RVs K H us ys→RVs K H (vs++us) (xs++ys)
 |_,_,_,_,.nil,h=>h
 |_,_,_,_,.cons r t,h=>.cons r (RVs.append t h)
theorem RVs.set{v:Own.Val}{x:V}(r:RV K H v x):∀ {vs:List Own.Val}{xs:List V}(i:Nat),RVs K H vs xs→RVs K H (vs.set i v) (xs.set i x)
 |_,_,_,.nil=>.nil
 |_,_,0,.cons _ t=>.cons r t
 |_,_,i+1,.cons q t=>.cons q (RVs.set r i t)
theorem RVs.take:∀ {vs:List Own.Val}{xs:List V}(n:Nat),RVs K H vs xs→RVs K H (vs.take n) (xs.take n)
 |_,_,0,_=>.nil
 |_,_,_+1,.nil=>.nil
 |_,_,n+1,.cons r t=>.cons r (RVs.take n t)
theorem RVs.drop:∀ {vs:List Own.Val}{xs:List V}(n:Nat),RVs K H vs xs→RVs K H (vs.drop n) (xs.drop n)
 |_,_,0,r=>r
 |_,_,_+1,.nil=>.nil
 |_,_,n+1,.cons _ t=>RVs.drop n t
theorem RVs.reverse{vs:List Own.Val}{xs:List V}(r:RVs K H vs xs):RVs K H vs.reverse xs.reverse:=by
 induction r using RVs.rec (motive_1:=fun _ _ _=>True)with
 |nil=>exact .nil
 |cons r t _ ih=>rw[List.reverse_cons,List.reverse_cons];exact ih.append (.cons r .nil)
 |_=>trivial
theorem RVs.eraseIdx:∀ {vs:List Own.Val}{xs:List V}(i:Nat),RVs K H vs xs→RVs K H (vs.eraseIdx i) (xs.eraseIdx i)
 |_,_,_,.nil=>.nil
 |_,_,0,.cons _ t=>t
 |_,_,i+1,.cons q t=>.cons q (RVs.eraseIdx i t)
theorem RVs.dropLast{vs:List Own.Val}{xs:List V}(r:RVs K H vs xs):RVs K H vs.dropLast xs.dropLast:=by rw[List.dropLast_eq_take,List.dropLast_eq_take,r.length];exact r.take _
theorem Zl{a:Addr}{vs:List V}(h:H a=some (.tup vs)∨KT K a vs):SqT K H a vs:=by
 rcases h with h|h
 ·exact SqT.of h
 ·exact .inr h
structure Inf where
 K:PySem.W.Frag
 cl:String→Addr→Prop
 ins:String→Bool
 xc:String→Addr→Prop
def XB:Own.Val→Key→Prop
 |.int i,.inl j=>i=j
 |.str s,.inr t=>t=Str.ofString s
 |_,_=>False
inductive RKs (K:PySem.W.Frag) (H:Hp):List (Own.Val×Own.Val)→List (Key×V)→Prop
 |nil:RKs K H [] []
 |cons {k v:Own.Val}{c:Key}{x:V}{kvs:List (Own.Val×Own.Val)}{ps:List (Key×V)}:XB k c→RV K H v x→RKs K H kvs ps→RKs K H ((k,v)::kvs) ((c,x)::ps)
inductive RFs (K:PySem.W.Frag) (H:Hp):List (String×Own.Val)→List (Str×V)→Prop
 |nil:RFs K H [] []
 |cons {f:String}{v:Own.Val}{x:V}{fs:List (String×Own.Val)}{ps:List (Str×V)}:RV K H v x→RFs K H fs ps→RFs K H ((f,v)::fs) ((Str.ofString f,x)::ps)
theorem RKs.keep(k:Keep H H'):∀ {kvs:List (Own.Val×Own.Val)}{ps:List (Key×V)},RKs K H kvs ps→RKs K H' kvs ps
 |_,_,.nil=>.nil
 |_,_,.cons a r t=>.cons a (r.keep k) (RKs.keep k t)
inductive RTs (K:PySem.W.Frag) (H:Hp):List (Own.Val×Own.Val)→List (List Key×V)→Prop
 |nil:RTs K H [] []
 |cons {i j:Int}{v:Own.Val}{x:V}{kvs:List (Own.Val×Own.Val)}{ps:List (List Key×V)}:RV K H v x→RTs K H kvs ps→RTs K H ((.key i j,v)::kvs) (([.inl i,.inl j],x)::ps)
theorem RTs.keep(k:Keep H H'):∀ {kvs:List (Own.Val×Own.Val)}{ps:List (List Key×V)},RTs K H kvs ps→RTs K H' kvs ps
 |_,_,.nil=>.nil
 |_,_,.cons r t=>.cons (r.keep k) (RTs.keep k t)
theorem RFs.keep(k:Keep H H'):∀ {fs:List (String×Own.Val)}{ps:List (Str×V)},RFs K H fs ps→RFs K H' fs ps
 |_,_,.nil=>.nil
 |_,_,.cons r t=>.cons (r.keep k) (RFs.keep k t)
def RO (i:Inf) (H:Hp) (a:Addr):Own.Ob→Prop
 |.lst xs=>∃ vs,H a=some (.lst vs)∧RVs i.K H xs vs
 |.dct kvs=>∃ ps,H a=some (.dK ps)∧RKs i.K H kvs ps
 |.ins C fs=>∃ c dx ps,i.ins C=true∧i.cl C c∧H a=some (.ins c dx ps)∧RFs i.K H fs ps
 |.exc C=>∃ c,i.xc C c∧H a=some (xcO a (.ref c))
 |.frz kvs=>∃ o ps,H a=some (.frz o (.dK ps))∧RKs i.K H kvs ps
 |.dtp kvs=>∃ ps,H a=some (.dT ps)∧RTs i.K H kvs ps
theorem RO.there{i:Inf}{a:Addr}{o:Own.Ob}(r:RO i H a o):∃ u,H a=some u:=by
 cases o with
 |lst xs=>obtain⟨_,e,_⟩:=r;exact⟨_,e⟩
 |dct kvs=>obtain⟨_,e,_⟩:=r;exact⟨_,e⟩
 |ins C fs=>obtain⟨_,_,_,_,_,e,_⟩:=r;exact⟨_,e⟩
 |exc C=>obtain⟨_,_,e⟩:=r;exact⟨_,e⟩
 |frz kvs=>obtain⟨_,_,e,_⟩:=r;exact⟨_,e⟩
 |dtp kvs=>obtain⟨_,e,_⟩:=r;exact⟨_,e⟩
theorem RO.move{i:Inf}{a:Addr}{o:Own.Ob}(r:RO i H a o)(k:Keep H H')(e:H' a=H a):RO i H' a o:=by
 cases o with
 |lst xs=>obtain⟨vs,q,r⟩:=r;exact⟨vs,e.trans q,r.keep k⟩
 |dct kvs=>obtain⟨ps,q,r⟩:=r;exact⟨ps,e.trans q,r.keep k⟩
 |ins C fs=>obtain⟨c,dx,ps,h0,h,q,r⟩:=r;exact⟨c,dx,ps,h0,h,e.trans q,r.keep k⟩
 |exc C=>obtain⟨c,h,q⟩:=r;exact⟨c,h,e.trans q⟩
 |frz kvs=>obtain⟨o,ps,q,r⟩:=r;exact⟨o,ps,e.trans q,r.keep k⟩
 |dtp kvs=>obtain⟨ps,q,r⟩:=r;exact⟨ps,e.trans q,r.keep k⟩
def RH (i:Inf) (G:Own.Hs) (H:Hp):Prop:=∀ a o,G a=some o→RO i H a o
theorem RH.free{i:Inf}{G:Own.Hs}{a:Addr}(r:RH i G H)(e:H a=none):G a=none:=by
 cases q:G a with
 |none=>rfl
 |some o=>obtain⟨u,z⟩:=(r a o q).there;rw[e]at z;cases z
theorem RH.put{i:Inf}{G:Own.Hs}{a:Addr}{o:Own.Ob}{u:HO}(r:RH i G H)(k:Keep H (upd H a u))(n:RO i (upd H a u) a o):RH i (Own.upd G a o) (upd H a u):=fun b p e=>by
 by_cases hb:b=a
 ·subst hb;rw[Own.upd_same]at e;cases e;exact n
 ·rw[Own.upd_ne hb]at e;exact(r b p e).move k (upd_ne hb)
theorem RH.hid{i:Inf}{G:Own.Hs}(r:RH i G H)(k:Keep H H')(e:∀ a o,G a=some o→H' a=H a):RH i G H':=fun b p q=>(r b p q).move k (e b p q)
structure REn (K:PySem.W.Frag) (H:Hp) (env:Own.Env) (σ:St):Prop where
 len:env.length=σ.length
 get:∀ (i:Nat) (v:Own.Val),env[i]?=some (some v)→∃ x,σ[i]?=some (some x)∧RV K H v x
theorem REn.keep{env:Own.Env}{σ:St}(r:REn K H env σ)(k:Keep H H'):REn K H' env σ:=⟨r.len,fun i v e=>by
  obtain⟨x,h1,h2⟩:=r.get i v e
  exact⟨x,h1,h2.keep k⟩⟩
theorem REn.set{env:Own.Env}{σ:St}{v:Own.Val}{x:V}(r:REn K H env σ)(q:RV K H v x)(j:Nat):REn K H (env.set j (some v)) (σ.set j (some x)):=⟨by simp[r.len],fun i u e=>by
  by_cases hij:j=i
  · subst hij
    rw[List.getElem?_set_self']at e
    cases z:env[j]? with
    |none=>rw[z]at e;cases e
    |some w =>
      rw[z]at e
      cases e
      have hj:j<σ.length:=by rw[←r.len];exact(qK.mp z).1
      exact⟨x,List.getElem?_set_self hj,q⟩
  · rw[List.getElem?_set_ne hij]at e
    obtain⟨y,h1,h2⟩:=r.get i u e
    exact⟨y,by rw[List.getElem?_set_ne hij];exact h1,h2⟩⟩
theorem REn.start{vs:List Own.Val}{xs:List V}{n:Nat}(r:RVs K H vs xs):REn K H (vs.map some++List.replicate n none) (xs.map some++List.replicate n none):=⟨by simp[r.length],fun i v e=>by
  by_cases hi:i<vs.length
  · rw[List.getElem?_append_left (by simpa using hi),qF]at e
    cases z:vs[i]? with
    |none=>rw[z]at e;cases e
    |some w =>
      rw[z]at e
      cases e
      obtain⟨x,h1,h2⟩:=r.get z
      exact⟨x,by rw[List.getElem?_append_left (by rw[qA,←r.length];exact hi),qF,h1];rfl,h2⟩
  · rw[List.getElem?_append_right (by simpa using hi),List.getElem?_replicate]at e
    split at e<;>cases e⟩
theorem RVs.ints{K:PySem.W.Frag}{H:Hp}:∀ ns:List Int,RVs K H (ns.map Own.Val.int) (ns.map V.int)
 |[]=>.nil
 |n::ns=>.cons (.int n) (RVs.ints ns)
theorem Z1{a:Addr}{ns:List Int}(h:(∃ o,H a=some (.frz o (.lst (ns.map V.int))))∨KL K a (ns.map V.int)):SqL K H a (ns.map V.int):=by
 rcases h with⟨o,h⟩|h
 ·exact .inl (.inr ⟨o,h⟩)
 ·exact .inr h
variable {i:Inf}{X:Cx}{Φ:Own.Fs}
noncomputable def XK1 (i:Inf) (H:Hp) (Em:Own.XQ):XK:=fun cls _ H'=>∃ c G' ad,cls=.ref ad∧i.xc c ad∧Keep H H'∧RH i G' H'∧Em c G'
def XOk (X:Cx) (i:Inf) (H:Hp) (Em:Own.XQ):Prop:=XW X (XK1 i H Em)
theorem XK1.go{H H1 H':Hp}{Em:Own.XQ}{cls:Value}{d:Option Addr}(k:Keep H H1)(h:XK1 i H1 Em cls d H'):XK1 i H Em cls d H':=by obtain⟨c,G',ad,e,q,k',r,m⟩:=h;exact⟨c,G',ad,e,q,k.trans k',r,m⟩
theorem XOk.go{H H1:Hp}{Em:Own.XQ}(x:XOk X i H Em)(k:Keep H H1):XOk X i H1 Em:=fun pins σ H0 s H' a cls s' I f e=>x pins σ H0 s H' a cls s' I f (e.go k)
structure Pre (X:Cx) (i:Inf) (σ:St) (H:Hp) (env:Own.Env) (G:Own.Hs) (Em:Own.XQ):Prop where
 en:REn i.K H env σ
 hp:RH i G H
 xo:XOk X i H Em
theorem Pre.go{σ:St}{H H1:Hp}{env:Own.Env}{G G1:Own.Hs}{Em:Own.XQ}(p:Pre X i σ H env G Em)(k:Keep H H1)(r:RH i G1 H1):Pre X i σ H1 env G1 Em:=⟨p.en.keep k,r,p.xo.go k⟩
def Cn (i:Inf) (H:Hp) (Q:VK) (Qm:Own.Q1):Prop:=∀ v G' H' x,Keep H H'→RH i G' H'→RV i.K H' v x→Qm v G'→Q x H'
theorem Cn.go{H H1:Hp}{Q:VK}{Qm:Own.Q1}(c:Cn i H Q Qm)(k:Keep H H1):Cn i H1 Q Qm:=fun v G' H' x k'=>c v G' H' x (k.trans k')
noncomputable def tE (X:Cx) (i:Inf) (Φ:Own.Fs) (m:Own.E):TE:=fun σ H Q=>∃ env G Qm Em,Pre X i σ H env G Em∧Own.wE Φ m env G Qm Em∧Cn i H Q Qm
noncomputable def tAr (X:Cx) (i:Inf) (Φ:Own.Fs) (ms:Own.Es) (n:Nat):TA:=fun σ H Q=>∃ env G Qm Em,Pre X i σ H env G Em∧Own.wA Φ ms env G Qm Em∧∀ vs G' H' xs,Keep H H'→RH i G' H'→RVs i.K H' vs xs→xs.length=n→Qm vs G'→Q xs H'
noncomputable def tTt (X:Cx) (i:Inf) (Φ:Own.Fs) (m:Own.Tt):TT:=fun σ H Q=>∃ env G Qm Em,Pre X i σ H env G Em∧Own.wT Φ m env G Qm Em∧∀ b G' H',Keep H H'→RH i G' H'→Qm b G'→Q b H'
theorem _root_.L2.PE.imp{X:Cx}{e:Expr}{t t':TE}(h:PE X e t)(f:∀ σ H Q,t' σ H Q→t σ H Q):PE X e t':=fun pins s σ H Q I q=>h pins s σ H Q I (f σ H Q q)
theorem _root_.L2.PT.imp{X:Cx}{e:Expr}{t t':TT}(h:PT X e t)(f:∀ σ H Q,t' σ H Q→t σ H Q):PT X e t':=fun pins s σ H Q I q=>h pins s σ H Q I (f σ H Q q)
theorem _root_.L2.PW.imp{X:Cx}{e:Expr}{t t':TT}(h:PW X e t)(f:∀ σ H Q,t' σ H Q→t σ H Q):PW X e t':=fun wh pins s σ H Q I q=>h wh pins s σ H Q I (f σ H Q q)
theorem _root_.L2.PA.imp{X:Cx}{es:List Expr}{t t':TA}(h:PA X es t)(f:∀ σ H Q,t' σ H Q→t σ H Q):PA X es t':=fun pos pins s σ H Q I q=>h pos pins s σ H Q I (f σ H Q q)
theorem GF{env:Own.Env}{h:Own.Hs}{Q:Own.Q1}{E:Own.XQ}{j:Nat}:(Own.wE Φ (.var j) env h Q E)=(Own.go (Own.getV env j) fun v=>Q v h):=by simp only[Own.wE_eq];rfl
theorem go_some{α:Type}{o:Option α}{k:α→Prop}(h:Own.go o k):∃ a,o=some a∧k a:=by
 cases o with
 |none=>simp at h
 |some a=>exact⟨a,rfl,by simpa using h⟩
theorem NC{env:Own.Env}{j:Nat}{v:Own.Val}(h:Own.getV env j=some v):env[j]?=some (some v):=by
 unfold Own.getV at h;split at h
 ·rename_i u e;cases h;exact e
 ·cases h
theorem FE {x:Str}{pos:Pos}{j:Nat}(hN:X.N[j]?=some x) (hv:Vis X.env.scope x) (hd:(x==("__debug__" : Str))=false) (hcd:(x==("__classdict__" : Str))=false):PE X (.Name x pos) (tE X i Φ (.var j)) :=
 (D5 hN hv hd hcd).imp fun σ H Q ⟨env,G,Qm,Em,p,w,c⟩=>by rw[GF]at w;obtain⟨v,e,q⟩:=go_some w;obtain⟨y,h1,h2⟩:=p.en.get j v (NC e);exact⟨y,h1,c v G H y (Keep.refl H) p.hp h2 q⟩
theorem Xw{e:Expr}{v:Own.Val}{x:V}(h:PE X e (tC x))(r:∀ H,RV i.K H v x):PE X e (tE X i Φ (.cst v)) :=
 h.imp fun σ H Q ⟨env,G,Qm,Em,p,w,c⟩=>by rw[Own.q_e_cst]at w;exact c v G H x (Keep.refl H) p.hp (r H) w
theorem Ev{e:Expr}{y:String}{v:Own.Val}{x:V}(h:PE X e (tC x))(r:∀ H,RV i.K H v x):PE X e (tE X i Φ (.glob y v)) :=
 h.imp fun σ H Q ⟨env,G,Qm,Em,p,w,c⟩=>by rw[Own.q_e_glob]at w;exact c v G H x (Keep.refl H) p.hp (r H) w
theorem two{a b:Own.E}{σ:St}{H:Hp}{env:Own.Env}{G:Own.Hs}{Em:Own.XQ}{F:Own.Val→Own.Val→Own.Hs→Prop}{R:V→V→Hp→Prop}(p:Pre X i σ H env G Em)
  (w:Own.wE Φ a env G (fun v G1=>Own.wE Φ b env G1 (fun u G2=>F v u G2) Em) Em)
  (h:∀ v u G2 H2 x y,Keep H H2→Pre X i σ H2 env G2 Em→RV i.K H2 v x→RV i.K H2 u y→F v u G2→R x y H2):tE X i Φ a σ H fun x H1=>tE X i Φ b σ H1 fun y H2=>R x y H2 :=
 ⟨env,G,_,Em,p,w,fun v G1 H1 x k1 g1 r1 w1=>⟨env,G1,_,Em,p.go k1 g1,w1,fun u G2 H2 y k2 g2 r2 w2=>h v u G2 H2 x y (k1.trans k2) ((p.go k1 g1).go k2 g2) (r1.keep k2) r2 w2⟩⟩
theorem one{a:Own.E}{σ:St}{H:Hp}{env:Own.Env}{G:Own.Hs}{Em:Own.XQ}{F:Own.Val→Own.Hs→Prop}{R:V→Hp→Prop}(p:Pre X i σ H env G Em)
  (w:Own.wE Φ a env G (fun v G1=>F v G1) Em) (h:∀ v G1 H1 x,Keep H H1→Pre X i σ H1 env G1 Em→RV i.K H1 v x→F v G1→R x H1):tE X i Φ a σ H fun x H1=>R x H1 :=
 ⟨env,G,_,Em,p,w,fun v G1 H1 x k1 g1 r1 w1=>h v G1 H1 x k1 (p.go k1 g1) r1 w1⟩
def XC (i:Inf) (op:Own.Bop) (r:R2):Prop:=∀ (v u:Own.Val) (G:Own.Hs) (H:Hp) (x y:V) (Q:VK) (Qm:Own.Q1),RH i G H→RV i.K H v x→RV i.K H u y→(Own.binV G op v u).wp G Qm→Cn i H Q Qm→r x y H Q
theorem WM{a b:Expr}{ma mb:Own.E}{op:Operator}{bop:Own.Bop}{r:R2}{pos:Pos}(ho:OpR X (binaryOp op) r)(hr:XC i bop r)(ha:PE X a (tE X i Φ ma))(hb:PE X b (tE X i Φ mb)):PE X (.BinOp a op b pos) (tE X i Φ (.bin bop ma mb)) :=
 (Gg ho ha hb).imp fun σ H Q ⟨env,G,Qm,Em,p,w,c⟩=>by rw[Own.q_e_bin]at w;exact two p w fun v u G2 H2 x y k2 p2 rx ry q=>hr v u G2 H2 x y Q Qm p2.hp rx ry q (c.go k2)
def ZQ (i:Inf) (op:Own.Cop) (r:R2):Prop:=∀ (v u:Own.Val) (G:Own.Hs) (H:Hp) (x y:V) (c:Bool) (Q:VK),RH i G H→RV i.K H v x→RV i.K H u y→Own.cmpV G op v u=some c→Q (.bl c) H→r x y H Q
theorem Ga{a b:Expr}{ma mb:Own.E}{op:CmpOp}{cop:Own.Cop}{r:R2}{pos:Pos}(ho:OpR X (compareOp op) r)(hr:ZQ i cop r)(ha:PE X a (tE X i Φ ma))(hb:PE X b (tE X i Φ mb))(hm:behindInMarks op b=false):PE X (.Compare a [op] [b] pos) (tE X i Φ (.cmp cop ma mb)) :=
 (Ms ho ha hb hm).imp fun σ H Q ⟨env,G,Qm,Em,p,w,c⟩=>by
  rw[Own.q_e_cmp]at w;exact two p w fun v u G2 H2 x y k2 p2 rx ry q=>by obtain⟨d,e,q⟩:=go_some q;exact hr v u G2 H2 x y d Q p2.hp rx ry e (c (.bl d) G2 H2 (.bl d) k2 p2.hp (.bl d) q)
theorem El{a b:Expr}{ma mb:Own.E}{op:CmpOp}{cop:Own.Cop}{r:R2}{pos:Pos}(ho:OpR X (compareOp op) r)(hr:ZQ i cop r)(ha:PE X a (tE X i Φ ma))(hb:PE X b (tE X i Φ mb))(hm:behindInMarks op b=false):PT X (.Compare a [op] [b] pos) (tTt X i Φ (.val (.cmp cop ma mb))) :=
 (MZ ho ha hb hm).imp fun σ H Q ⟨env,G,Qm,Em,p,w,c⟩=>by
  rw[Own.q_t_val,Own.q_e_cmp]at w;exact two p w fun v u G2 H2 x y k2 p2 rx ry q=>by obtain⟨d,e,q⟩:=go_some q;obtain⟨d',e',q⟩:=go_some q;cases e';exact hr v u G2 H2 x y d _ p2.hp rx ry e ⟨d,rfl,c d G2 H2 k2 p2.hp q⟩
theorem Xf{v:Own.Val}{b:Bool}(h:Own.asBl v=some b):v=.bl b:=by cases v<;>simp_all [Own.asBl]
theorem ZJ{v:Own.Val}{b:Int}(h:Own.asInt v=some b):v=.int b:=by cases v<;>simp_all [Own.asInt]
theorem Kq{v:Own.Val}{b:Own.Ad}(h:Own.asRef v=some b):v=.ref b:=by cases v<;>simp_all [Own.asRef]
theorem RV.bl_inv{K:PySem.W.Frag}{H:Hp}{b:Bool}{x:V}(r:RV K H (.bl b) x):x=.bl b:=by cases r;rfl
theorem RV.int_inv{K:PySem.W.Frag}{H:Hp}{b:Int}{x:V}(r:RV K H (.int b) x):x=.int b:=by cases r;rfl
theorem RV.ref_inv{K:PySem.W.Frag}{H:Hp}{b:Addr}{x:V}(r:RV K H (.ref b) x):x=.ref b:=by cases r;rfl
theorem RV.str_inv{K:PySem.W.Frag}{H:Hp}{b:String}{x:V}(r:RV K H (.str b) x):x=.str (Str.ofString b):=by cases r;rfl
theorem HD{a:Expr}{ma:Own.E}{pos:Pos}(ha:PE X a (tE X i Φ ma)):PE X (.UnaryOp .Not a pos) (tE X i Φ (.not ma)) :=
 (D9 ha).imp fun σ H Q ⟨env,G,Qm,Em,p,w,c⟩=>by
  rw[Own.q_e_not]at w;exact one p w fun v G1 H1 x k1 p1 r q=>by obtain⟨b,e,q2⟩:=go_some q;clear q;cases Xf e;exact⟨b,r.bl_inv,c _ G1 H1 _ k1 p1.hp (.bl _) q2⟩
theorem FM{a:Expr}{ma:Own.E}{pos:Pos}(ha:PE X a (tE X i Φ ma)):PE X (.UnaryOp .USub a pos) (tE X i Φ (.neg ma)) :=
 (Cr Uw ha).imp fun σ H Q ⟨env,G,Qm,Em,p,w,c⟩=>by
  rw[Own.q_e_neg]at w;exact one p w fun v G1 H1 x k1 p1 r q=>by obtain⟨b,e,q2⟩:=go_some q;clear q;cases ZJ e;exact⟨b,r.int_inv,c _ G1 H1 _ k1 p1.hp (.int _) q2⟩
theorem Ht{a b:Expr}{rest:List Expr}{ma mb:Own.E}{pos:Pos}(ha:PE X a (tE X i Φ ma))(hb:PE X (.BoolOp .And (b::rest) pos) (tE X i Φ mb)):PE X (.BoolOp .And (a::b::rest) pos) (tE X i Φ (.and ma mb)) :=
 (CZ ha hb).imp fun σ H Q ⟨env,G,Qm,Em,p,w,c⟩=>by
  rw[Own.q_e_and]at w;exact one p w fun v G1 H1 x k1 p1 r q=>by
   obtain⟨d,e,q2⟩:=go_some q;clear q;cases Xf e;refine⟨d,r.bl_inv,?_⟩;cases d with
   |true=>exact⟨env,G1,Qm,Em,p1,by simpa using q2,c.go k1⟩
   |false=>simp at q2 ⊢;exact c _ G1 H1 _ k1 p1.hp (.bl _) q2
theorem HS{a b:Expr}{rest:List Expr}{ma mb:Own.E}{pos:Pos}(ha:PE X a (tE X i Φ ma))(hb:PE X (.BoolOp .Or (b::rest) pos) (tE X i Φ mb)):PE X (.BoolOp .Or (a::b::rest) pos) (tE X i Φ (.or ma mb)) :=
 (Ge ha hb).imp fun σ H Q ⟨env,G,Qm,Em,p,w,c⟩=>by
  rw[Own.q_e_or]at w;exact one p w fun v G1 H1 x k1 p1 r q=>by
   obtain⟨d,e,q2⟩:=go_some q;clear q;cases Xf e;refine⟨d,r.bl_inv,?_⟩;cases d with
   |false=>exact⟨env,G1,Qm,Em,p1,by simpa using q2,c.go k1⟩
   |true=>simp at q2 ⊢;exact c _ G1 H1 _ k1 p1.hp (.bl _) q2
theorem C2{a:Expr}{ma:Own.Tt}{pos:Pos}(ha:PT X a (tTt X i Φ ma)):PT X (.UnaryOp .Not a pos) (tTt X i Φ (.not ma)) :=
 (Ef ha).imp fun σ H Q ⟨env,G,Qm,Em,p,w,c⟩=>by rw[Own.q_t_not]at w;exact⟨env,G,_,Em,p,w,fun b G1 H1 k1 g1 q=>c (!b) G1 H1 k1 g1 q⟩
theorem E9{a b:Expr}{rest:List Expr}{ma mb:Own.Tt}{pos:Pos}(ha:PT X a (tTt X i Φ ma))(hb:PW X (.BoolOp .And (b::rest) pos) (tTt X i Φ mb)):PW X (.BoolOp .And (a::b::rest) pos) (tTt X i Φ (.and ma mb)) :=
 (E5 ha hb).imp fun σ H Q ⟨env,G,Qm,Em,p,w,c⟩=>by
  rw[Own.q_t_and]at w;refine⟨env,G,_,Em,p,w,fun d G1 H1 k1 g1 q=>?_⟩;cases d with
  |true=>exact⟨env,G1,Qm,Em,p.go k1 g1,by simpa using q,fun b G2 H2 k2=>c b G2 H2 (k1.trans k2)⟩
  |false=>simp at q ⊢;exact c false G1 H1 k1 g1 q
theorem Fu{a b:Expr}{rest:List Expr}{ma mb:Own.Tt}{pos:Pos}(ha:PT X a (tTt X i Φ ma))(hb:PW X (.BoolOp .Or (b::rest) pos) (tTt X i Φ mb)):PW X (.BoolOp .Or (a::b::rest) pos) (tTt X i Φ (.or ma mb)) :=
 (GT ha hb).imp fun σ H Q ⟨env,G,Qm,Em,p,w,c⟩=>by
  rw[Own.q_t_or]at w;refine⟨env,G,_,Em,p,w,fun d G1 H1 k1 g1 q=>?_⟩;cases d with
  |false=>exact⟨env,G1,Qm,Em,p.go k1 g1,by simpa using q,fun b G2 H2 k2=>c b G2 H2 (k1.trans k2)⟩
  |true=>simp at q ⊢;exact c true G1 H1 k1 g1 q
theorem B1{a:Expr}{ma:Own.Tt}{pos:Pos}(ha:PT X a (tTt X i Φ ma)):PW X (.BoolOp .And [a] pos) (tTt X i Φ ma):=BJ ha
theorem Da{a:Expr}{ma:Own.Tt}{pos:Pos}(ha:PT X a (tTt X i Φ ma)):PW X (.BoolOp .Or [a] pos) (tTt X i Φ ma):=DW ha
theorem DY:PA X [] (tAr X i Φ .nil 0):=pa_nil.imp fun σ H Q ⟨env,G,Qm,Em,p,w,c⟩=>by rw[Own.q_a_nil]at w;exact c [] G H [] (Keep.refl H) p.hp .nil rfl w
theorem Bh{e:Expr}{es:List Expr}{m:Own.E}{ms:Own.Es}{n:Nat}(he:PE X e (tE X i Φ m))(hes:PA X es (tAr X i Φ ms n))(hs:starEach (e::es) X.env=(false,eval e X.env)::starEach es X.env):PA X (e::es) (tAr X i Φ (.cons m ms) (n+1)) :=
 (ZV he hes hs).imp fun σ H Q ⟨env,G,Qm,Em,p,w,c⟩=>by rw[Own.q_a_cons]at w;exact⟨env,G,_,Em,p,w,fun v G1 H1 x k1 g1 r1 w1=>⟨env,G1,_,Em,p.go k1 g1,w1,fun vs G2 H2 xs k2 g2 r2 hn w2=>c (v::vs) G2 H2 (x::xs) (k1.trans k2) g2 (.cons (r1.keep k2) r2) (by rw[qB,hn]) w2⟩⟩
theorem ZO:Own.lim≤sizeLine:=by decide
theorem ZR{H:Hp}{G:Own.Hs}{Q:VK}{Qm:Own.Q1}{o:Own.Ob}{u:HO}(g:RH i G H)(w:Own.new G o Qm)(c:Cn i H Q Qm)(r:∀ p,H p=none→RO i (upd H p u) p o):∀ p,H p=none→Q (.ref p) (upd H p u):=fun p hp=>by unfold Own.new at w;exact c (.ref p) _ _ (.ref p) (Keep.new hp) (g.put (Keep.new hp) (r p hp)) (.ref p) (w p (g.free hp))
end Snd
namespace HT2
open PySem PySem.Spec PyProof.Rows L2
def Z4:List Int→List Int→Bool
 |[],[]=>false
 |[],_::_=>false
 |_::_,[]=>true
 |x::xs,y::ys=>if x=y then Z4 xs ys else decide (x > y)
theorem Oi(A:Around)(s:Shared)(a:Int)(t:Tok)(c:Int)(u:Tok)(prog:Program)(w:World)(E:Value→Shared→Prop)(Q:Value→Shared→Prop)(h:Q (.bool (decide (a > c))) s) :
  wpAny (model prog w) A (richCompare .Gt (.int a t) (.int c u)) Q E s :=
 (PyProof.Rows.gt_int h:wpAny (model prog w) A (compareOp .Gt (.int a t) (.int c u)) Q E s)
section
open PySem.SeqAt
open PySem.AutoSeq1 (wpAny_loadPart')
open PySem.MeetsSeq PySem.MeetsSeq2 PySem.MeetsSeq3
theorem Wd(l b:Addr)(items items2:Array Value)(n n2:Nat)(dd dd2:Option Addr)(sl sl2:Array (Option Value))(ns ms:List Int)(hi:IntsAre items.toList ns)(hj:IntsAre items2.toList ms) :
  Meets (Builtin.«tuple.__gt__» ⟨[.ref l,.ref b],[]⟩)
   (fun _ R s=>s.heap.get? l=some { cls:=.type "tuple",dict:=dd,data:=.seq items n,slots:=sl }∧s.heap.get? b=some { cls:=.type "tuple",dict:=dd2,data:=.seq items2 n2,slots:=sl2 }∧
     R (.ok (.ret (.bool (Z4 ns ms)))) s) :=
 .of_wp fun prog w A R s h=>by
  obtain⟨hp,g,d,tk,os⟩:=s;obtain⟨hl,hb,h⟩:=h;have f2:=AutoSeq1.sub_tuple_tuple;have z1:items.size=ns.length:=by rw[←hi.length];simp
  have z2:items2.size=ms.length:=by rw[←hj.length];simp
  wp_walk using wpAny_loadPart' hl,wpAny_loadPart' hb,wpAny_forIn_list _ (fun rest b s'=>b.1=none∧s'=⟨hp,g,d,tk,os⟩∧∃ (vs ws:List Value) (ns' ms':List Int),rest=vs.zip ws∧
    IntsAre vs ns'∧IntsAre ws ms'∧ns'.length+items2.size=ms'.length+items.size∧R (.ok (.ret (.bool (Z4 ns' ms')))) ⟨hp,g,d,tk,os⟩) _
  case turn =>
   rintro⟨y,x⟩ rest b s' ⟨hb',rfl,vs,ws,ns',ms',hz,hvi,hwi,hlen,hR⟩;cases hvi with
   |nil=>rw[List.zip_nil_left]at hz;cases hz
   |cons a t hvi' =>
    cases hwi with
    |nil=>rw[List.zip_nil_right]at hz;cases hz
    |cons c u hwi' =>
     rw[List.zip_cons_cons]at hz;injection hz with hyx hrest;injection hyx with hy hx;subst hy hx;rw[Z4]at hR;simp only[qB]at hlen;obtain⟨e,he,hiff⟩:=HT.eqAt_int A.in1 ⟨hp,g,d,tk,os⟩ a t c u;refine wpAny_bind (he prog w _ _ ?_);cases e with
     |true =>
      rw[if_pos (hiff.mp rfl)]at hR
      wp_walk
      exact⟨rfl,rfl,_,_,_,_,hrest,hvi',hwi',by omega,hR⟩
     |false =>
      rw[if_neg (fun q=>absurd (hiff.mpr q) Bool.false_ne_true)]at hR;have hri:=Oi A.in1 ⟨hp,g,d,tk,os⟩ a t c u prog w
      wp_walk using hri
      exact⟨_,rfl,by simpa using hR⟩
  case fin =>
   rintro⟨b1,b2⟩ s' ⟨hb',rfl,vs,ws,ns',ms',hz,hvi,hwi,hlen,hR⟩;simp only at hb';subst hb';have hv:Z4 ns' ms'=decide (items.size > items2.size):=by
    cases hvi with
    |nil =>
     cases hwi with
     |nil =>simp only[List.length_nil]at hlen;rw[Z4];exact(qP (by omega)).symm
     |cons c u hw =>simp only[List.length_nil,qB]at hlen;rw[Z4];exact(qP (by omega)).symm
    |cons a t hv =>
     cases hwi with
     |nil =>simp only[List.length_nil,qB]at hlen;rw[Z4];exact(qQ (by omega)).symm
     |cons c u hw =>rw[List.zip_cons_cons]at hz;cases hz
   rw[hv]at hR
   wp_walk
   exact⟨_,rfl,by simpa[Builtin.Tuple.tupleCompareSizes]using hR⟩
  case h =>exact⟨rfl,rfl,items.toList,items2.toList,ns,ms,rfl,hi,hj,by omega,h⟩
end
theorem KP{prog:Program}{w:World}{A:Around}{E:Value→Shared→Prop}{s:Shared}{l b:Addr}{items items2:Array Value}{ns ms:List Int}{Q:Value→Shared→Prop}(hl:IsTup s.heap l items)(hb:IsTup s.heap b items2)(hi:IntsAre items.toList ns)(hj:IntsAre items2.toList ms)
  (hu:A.units<cLine) (h:Q (.bool (Z4 ns ms)) s):wpAny (model prog w) A (compareOp .Gt (.ref l) (.ref b)) Q E s:=by
 obtain⟨⟨cls,dd,data,sl⟩,ho,hc,n,hd⟩:=id hl;obtain⟨⟨cls2,dd2,data2,sl2⟩,ho2,hc2,n2,hd2⟩:=id hb;simp only at hc hd hc2 hd2;subst hc hd hc2 hd2;exact richCompare_meets_room (op:=.Gt) ⟨_,ho,rfl⟩ ⟨_,ho2,rfl⟩ PySem.F.slot_tuple_gt PySem.F.entry_tuple_gt (PySem.F.args_tuple_gt_2 _ _) (Wd l b items items2 n n2 dd dd2 sl sl2 ns ms hi hj)
  ⟨ho,ho2,show Value.bool (Z4 ns ms)≠Value.notImplemented∧Q (.bool (Z4 ns ms)) s from ⟨(fun x=>nomatch x),h⟩⟩ hu
def rGtT (K:PySem.W.Frag):R2:=fun x y H Q=>∃ a b ns ms,x=.ref a∧y=.ref b∧SqT K H a (ns.map V.int)∧SqT K H b (ms.map V.int)∧Q (.bl (Z4 ns ms)) H
theorem op_gtT{X:Cx}(hu:X.A.units<cLine):OpR X (compareOp .Gt) (rGtT X.K):=by intro pins s σ H x y v u Q I rx ry h;obtain⟨a,b,ns,ms,rfl,rfl,ha,hb,q⟩:=h;cases rx;cases ry;obtain⟨its,r1,p1,_⟩:=I.tuple ha;obtain⟨its2,r2,p2,_⟩:=I.tuple hb;have i1:IntsAre its.toArray.toList ns:=Zz r1;have i2:IntsAre its2.toArray.toList ms:=Zz r2;exact KP p1 p2 i1 i2 hu ⟨.bl (Z4 ns ms),H,I,rfl,q⟩
theorem lexGt_lt:∀ (ns ms:List Int),Z4 ns ms=HT.lexLt ms ns
 |[],[]=>rfl
 |[],_::_=>rfl
 |_::_,[]=>rfl
 |x::xs,y::ys=>by
  rw[Z4,HT.lexLt_cons,lexGt_lt xs ys];by_cases e:x=y
  ·rw[if_pos e,if_pos e.symm]
  ·rw[if_neg e,if_neg (fun z=>e z.symm)]
end HT2
namespace Snd
open PySem L2
mutual
noncomputable def toD:Own.D→PyData
 |.non=>.none
 |.bl b=>.bool b
 |.int i=>.int i
 |.str s=>.str (Str.ofString s)
 |.tup ds=>.tuple (toDs ds)
 |.lst ds=>.list (toDs ds)
noncomputable def toDs:List Own.D→List PyData
 |[]=>[]
 |d::ds=>toD d::toDs ds
end
theorem ofS_inj{s t:String}:Str.ofString s=Str.ofString t↔s=t:=by
 constructor
 ·intro h;rw[Str.ofString_eq_toList,Str.ofString_eq_toList]at h;injection h with h;have h2:s.toList.map Char.toNat=t.toList.map Char.toNat:=by simpa using congrArg Array.toList h
  have inj:∀ {a b:Char},a.toNat=b.toNat→a=b:=fun {a b} e=>Char.ext (UInt32.toNat.inj e);have:s.toList=t.toList:=by
   revert h2;generalize s.toList=a;generalize t.toList=b;intro h2;induction a generalizing b with
   |nil=>cases b with
    |nil=>rfl
    |cons _ _=>cases h2
   |cons x xs ih=>cases b with
    |nil=>cases h2
    |cons y ys =>simp only[qG,List.cons.injEq]at h2;rw[inj h2.1,ih _ h2.2]
  exact String.toList_inj.mp this
 ·rintro rfl;rfl
theorem BW(s t:String):(Str.ofString s==Str.ofString t)=(s==t):=by
 by_cases e:s=t
 ·subst e;simp
 ·have:Str.ofString s≠Str.ofString t:=fun z=>e (ofS_inj.mp z);rw[beq_eq_false_iff_ne.mpr this,beq_eq_false_iff_ne.mpr e]
theorem NU(s:String):PyData.strOk (Str.ofString s)=true:=by
 rw[Str.ofString_eq_toList];unfold PyData.strOk;rw[Array.all_eq_true'];intro n hn;have:n∈s.toList.map Char.toNat:=by simpa using hn
 obtain⟨c,_,rfl⟩:=qZ.mp this;have:=c.valid;have h2:c.toNat=c.val.toNat:=rfl;simp only[UInt32.isValidChar,Nat.isValidChar]at this;simp only[decide_eq_true_eq];omega
mutual
theorem WS:∀ d e:Own.D,PyData.eqv (toD d) (toD e)=Own.D.eqv d e
 |.non,e=>by cases e<;>simp[toD,PyData.eqv,Own.D.eqv]
 |.bl _,e=>by cases e<;>simp[toD,PyData.eqv,Own.D.eqv]
 |.int _,e=>by cases e<;>simp[toD,PyData.eqv,Own.D.eqv]
 |.str s,e=>by cases e<;>simp only[toD,PyData.eqv,Own.D.eqv];exact BW _ _
 |.tup ds,e=>by cases e<;>simp only[toD,PyData.eqv,Own.D.eqv];exact toDs_eqv _ _
 |.lst ds,e=>by cases e<;>simp only[toD,PyData.eqv,Own.D.eqv];exact toDs_eqv _ _
theorem toDs_eqv:∀ ds es:List Own.D,PyData.eqvAll (toDs ds) (toDs es)=Own.D.eqvs ds es
 |[],[]=>by simp[toDs,PyData.eqvAll,Own.D.eqvs]
 |[],_::_=>by simp[toDs,PyData.eqvAll,Own.D.eqvs]
 |_::_,[]=>by simp[toDs,PyData.eqvAll,Own.D.eqvs]
 |d::ds,e::es=>by simp only[toDs,PyData.eqvAll,Own.D.eqvs,WS d e,toDs_eqv ds es]
end
mutual
theorem Jw:∀ d:Own.D,(toD d).canLay0=true
 |.non=>by simp[toD,PyData.canLay0]
 |.bl _=>by simp[toD,PyData.canLay0]
 |.int _=>by simp[toD,PyData.canLay0]
 |.str s=>by simp only[toD,PyData.canLay0];exact NU s
 |.tup ds=>by simp only[toD,PyData.canLay0];exact toDs_lay ds
 |.lst ds=>by simp only[toD,PyData.canLay0];exact toDs_lay ds
theorem toDs_lay:∀ ds:List Own.D,PyData.canLayAll0 (toDs ds)=true
 |[]=>by simp[toDs,PyData.canLayAll0]
 |d::ds=>by simp only[toDs,PyData.canLayAll0,Jw d,toDs_lay ds,Bool.and_self]
end
section
variable {i:Inf}{G:Own.Hs}{H:Hp}
theorem mapM_some{α β:Type}{f:α→Option β}:∀ {xs:List α}{ys:List β},xs.mapM f=some ys→List.length xs=ys.length∧∀ (n:Nat) (x:α),xs[n]?=some x→∃ y,ys[n]?=some y∧f x=some y:=by
 intro xs;induction xs with
 |nil=>intro ys h;simp at h;subst h;exact⟨rfl,fun n x e=>by simp at e⟩
 |cons a as ih =>
  intro ys h;rw[List.mapM_cons]at h;cases e:f a with
  |none=>rw[e]at h;simp at h
  |some b =>
   rw[e]at h;cases e2:as.mapM f with
   |none=>rw[e2]at h;simp at h
   |some bs =>
    rw[e2]at h;simp at h;subst h;obtain⟨h1,h2⟩:=ih e2;refine⟨by simp[h1],fun n x hn=>?_⟩;cases n with
    |zero=>simp at hn;subst hn;exact⟨b,rfl,e⟩
    |succ n=>simp at hn ⊢;exact h2 n x hn
theorem Mp{K:PySem.W.Frag}{f:Own.Val→Option Own.D}(hf:∀ v d x,f v=some d→RV K H v x→IsD K H x (toD d)):∀ {vs:List Own.Val}{xs:List V}{ds:List Own.D},vs.mapM f=some ds→RVs K H vs xs→IsDs K H xs (toDs ds):=by
 intro vs;induction vs with
 |nil=>intro xs ds h r;simp at h;subst h;cases r;exact .nil
 |cons a as ih =>
  intro xs ds h r;rw[List.mapM_cons]at h;cases e:f a with
  |none=>rw[e]at h;simp at h
  |some b =>
   rw[e]at h;cases e2:as.mapM f with
   |none=>rw[e2]at h;simp at h
   |some bs =>
    rw[e2]at h;simp at h;subst h;cases r with
    |cons r1 r2=>exact .cons (hf a b _ e r1) (ih e2 r2)
theorem Zy(g:RH i G H){a:Addr}{xs:List Own.Val}(e:Own.lsOf (G a)=some xs):∃ vs,SqL i.K H a vs∧RVs i.K H xs vs:=by
 cases q:G a with
 |none=>rw[q]at e;cases e
 |some o =>
  rw[q]at e;cases o with
  |lst ys=>cases e;obtain⟨vs,h,r⟩:=g a _ q;exact⟨vs,SqL.of h,r⟩
  |dct _=>cases e
  |ins _ _=>cases e
  |exc _=>cases e
  |frz _=>cases e
  |dtp _=>cases e
theorem WK:∀ ns:List Int,toDs (ns.map Own.D.int)=ns.map PyData.int
 |[]=>by simp[toDs]
 |n::ns=>by simp only[qG,toDs,toD,WK ns]
theorem Y6(g:RH i G H):∀ (n:Nat) (v:Own.Val) (d:Own.D) (x:V),Own.dat G n v=some d→RV i.K H v x→IsD i.K H x (toD d):=by
 intro n;induction n with
 |zero =>
  intro v d x e r;cases v with
  |non=>cases r;simp[Own.dat]at e;subst e;rw[toD];exact .non
  |bl b=>cases r;simp[Own.dat]at e;subst e;rw[toD];exact .bl b
  |int b=>cases r;simp[Own.dat]at e;subst e;rw[toD];exact .int b
  |str s=>cases r;simp[Own.dat]at e;subst e;rw[toD];exact .str _
  |tup xs=>simp[Own.dat]at e
  |ref a=>simp[Own.dat]at e
  |scr ns=>simp[Own.dat]at e
  |key _ _=>simp[Own.dat]at e
 |succ n ih =>
  intro v d x e r;cases v with
  |non=>cases r;simp[Own.dat]at e;subst e;rw[toD];exact .non
  |bl b=>cases r;simp[Own.dat]at e;subst e;rw[toD];exact .bl b
  |int b=>cases r;simp[Own.dat]at e;subst e;rw[toD];exact .int b
  |str s=>cases r;simp[Own.dat]at e;subst e;rw[toD];exact .str _
  |tup xs =>
   rw[Own.dat]at e;cases z:xs.mapM (Own.dat G n)with
   |none=>rw[z]at e;cases e
   |some ds =>
    rw[z]at e;cases e;cases r with
    |tup hp hr=>rw[toD];exact .tup (Zl hp) (Mp ih z hr)
  |ref a =>
   rw[Own.dat]at e;cases q:Own.lsOf (G a)with
   |none=>rw[q]at e;cases e
   |some xs =>
    rw[q]at e;simp only[Option.bind_some]at e;cases z:xs.mapM (Own.dat G n)with
    |none=>rw[z]at e;cases e
    |some ds =>rw[z]at e;cases e;cases r.ref_inv;obtain⟨vs,h1,h2⟩:=Zy g q;rw[toD];exact .lst h1 (Mp ih z h2)
  |scr ns =>
   simp[Own.dat]at e;subst e;cases r with
   |scr h =>rw[toD,WK];exact .lst (Z1 h) (IsDs.ints ns)
  |key _ _=>simp[Own.dat]at e
theorem YH{n:Nat}:∀ {ds:List Own.D},(∀ d∈ds,(toD d).depth≤n)→PyData.depthAll (toDs ds)≤n
 |[],_=>by rw[toDs];simp[PyData.depthAll]
 |d::ds,h=>by rw[toDs];simp only[PyData.depthAll];exact Nat.max_le.mpr ⟨h d (by simp),YH fun e he=>h e (by simp[he])⟩
theorem Wz:∀ (n:Nat) (v:Own.Val) (d:Own.D),Own.dat G n v=some d→(toD d).depth≤n:=by
 have sc:∀ (n:Nat) (v:Own.Val) (d:Own.D),(∀ xs,v≠.tup xs)→(∀ a,v≠.ref a)→(∀ ns,v≠.scr ns)→Own.dat G n v=some d→(toD d).depth≤n:=by
  intro n v d h1 h2 h3 e;cases v with
  |tup xs=>exact absurd rfl (h1 xs)
  |ref a=>exact absurd rfl (h2 a)
  |scr ns=>exact absurd rfl (h3 ns)
  |key _ _=>cases n<;>simp[Own.dat]at e
  |_=>simp[Own.dat]at e;subst e;simp[toD,PyData.depth]
 have ms:∀ (n:Nat),(∀ v d,Own.dat G n v=some d→(toD d).depth≤n)→∀ (xs:List Own.Val) (ds:List Own.D),xs.mapM (Own.dat G n)=some ds→PyData.depthAll (toDs ds)≤n:=by
  intro n ih xs ds z;refine YH fun d hd=>?_;obtain⟨k,hk⟩:=List.mem_iff_getElem?.mp hd;obtain⟨h1,h2⟩:=mapM_some z;have hlt:k<xs.length:=by rw[h1];exact(qK.mp hk).1
  obtain⟨y,hy,hf⟩:=h2 k xs[k] (qH hlt);rw[hk]at hy;cases hy;exact ih _ _ hf
 intro n;induction n with
 |zero =>
  intro v d e;cases v with
  |tup xs=>simp[Own.dat]at e
  |ref a=>simp[Own.dat]at e
  |scr ns=>simp[Own.dat]at e
  |_=>exact sc 0 _ d (by simp) (by simp) (by simp) e
 |succ n ih =>
  intro v d e;cases v with
  |tup xs =>
   rw[Own.dat]at e;cases z:xs.mapM (Own.dat G n)with
   |none=>rw[z]at e;cases e
   |some ds =>rw[z]at e;cases e;rw[toD];exact Nat.succ_le_succ (ms n ih xs ds z)
  |ref a =>
   rw[Own.dat]at e;cases q:Own.lsOf (G a)with
   |none=>rw[q]at e;cases e
   |some xs =>
    rw[q]at e;simp only[Option.bind_some]at e;cases z:xs.mapM (Own.dat G n)with
    |none=>rw[z]at e;cases e
    |some ds =>rw[z]at e;cases e;rw[toD];exact Nat.succ_le_succ (ms n ih xs ds z)
  |scr ns =>simp[Own.dat]at e;subst e;rw[toD];refine Nat.succ_le_succ (zE ?_ (Nat.zero_le n));refine YH fun d hd=>?_;obtain⟨m,_,rfl⟩:=qZ.mp hd;simp[toD,PyData.depth]
  |_=>exact sc (n+1) _ d (by simp) (by simp) (by simp) e
theorem XZ{v:Own.Val}{d:Own.D}(e:Own.dat G Own.deep v=some d):SeqAt.shaped (toD d)=true:=by show((toD d).canLay0&&decide ((toD d).depth≤64))=true;rw[Jw,qQ (zE (Wz _ _ _ e) (by decide))];rfl
theorem MK(g:RH i G H){v u:Own.Val}{x y:V}{c:Bool}(rx:RV i.K H v x)(ry:RV i.K H u y)(e:Own.eqV G v u=some c):∃ d d',IsD i.K H x d∧IsD i.K H y d'∧SeqAt.shaped d=true∧SeqAt.shaped d'=true∧PyData.eqv d d'=c:=by
 unfold Own.eqV at e;cases z:Own.dat G Own.deep v with
 |none=>rw[z]at e;cases e
 |some d =>
  cases z2:Own.dat G Own.deep u with
  |none=>rw[z,z2]at e;cases e
  |some d' =>rw[z,z2]at e;cases e;exact⟨_,_,Y6 g _ _ _ _ z rx,Y6 g _ _ _ _ z2 ry,XZ z,XZ z2,WS d d'⟩
theorem HQ:ZQ i .eq (F4 i.K):=by intro v u G H x y c Q g rx ry e q;obtain⟨d,d',h1,h2,h3,h4,h5⟩:=MK g rx ry e;exact⟨d,d',h1,h2,h3,h4,by rw[h5];exact q⟩
theorem FV:ZQ i .ne (Dr i.K):=by
 intro v u G H x y c Q g rx ry e q;have e:(Own.eqV G v u).map (!·)=some c:=e;cases z:Own.eqV G v u with
 |none=>rw[z]at e;cases e
 |some b =>rw[z]at e;cases e;obtain⟨d,d',h1,h2,h3,h4,h5⟩:=MK g rx ry z;exact⟨d,d',h1,h2,h3,h4,by rw[h5];exact q⟩
end
variable {i:Inf}{X:Cx}{Φ:Own.Fs}
theorem Zu(s:String):(Str.ofString s).length=s.length:=by rw[Str.ofString_eq_toList];show(List.map Char.toNat s.toList).toArray.size=_;rw[qC,qA];first|rfl|exact String.length_toList
theorem Ju(s t:String):Str.ofString (s++t)=Str.ofString s++Str.ofString t:=by rw[Str.ofString_eq_toList,Str.ofString_eq_toList,Str.ofString_eq_toList];show _=Str.append _ _;unfold Str.append;simp
theorem N8{o:Option Own.Ob}{xs:List Own.Val}(h:Own.lsOf o=some xs):o=some (.lst xs):=by
 cases o with
 |none=>cases h
 |some o=>cases o with
  |lst ys=>cases h;rfl
  |_=>cases h
theorem ZM{α:Type}{p:Prop}[Decidable p]{o:Option α}{a:α}(e:(if p then o else none)=some a):p∧o=some a:=by
 by_cases q:p
 ·rw[if_pos q]at e;exact⟨q,e⟩
 ·rw[if_neg q]at e;cases e
theorem Zf{h:Own.Hs}{Q:Own.Q1}(w:Own.Rs.no.wp h Q):False:=by rw[Own.Rs.wp_no]at w;exact w
theorem Zo{v:Own.Val}{h:Own.Hs}{Q:Own.Q1}(w:(Own.Rs.val v).wp h Q):Q v h:=by rw[Own.Rs.wp_val]at w;exact w
theorem Xd{o:Own.Ob}{h:Own.Hs}{Q:Own.Q1}(w:(Own.Rs.new o).wp h Q):Own.new h o Q:=by rw[Own.Rs.wp_new]at w;exact w
theorem Yy{p:Prop}[Decidable p]{r:Own.Rs}{h:Own.Hs}{Q:Own.Q1}(w:(if p then r else .no).wp h Q):p∧r.wp h Q:=by
 by_cases e:p
 ·rw[if_pos e]at w;exact⟨e,w⟩
 ·rw[if_neg e]at w;exact(Zf w).elim
theorem YZ{f:Int→Int→Own.Rs}{v u:Own.Val}{h:Own.Hs}{Q:Own.Q1}(w:(Own.intV f v u).wp h Q):∃ i j,v=.int i∧u=.int j∧(f i j).wp h Q:=by
 cases v with
 |int i=>cases u with
  |int j=>exact⟨i,j,rfl,rfl,w⟩
  |_=>exact(Zf w).elim
 |_=>exact(Zf w).elim
noncomputable def Co (K:PySem.W.Frag):R2:=fun x y H Q=>(rI0 (fun i j=>.int (i+j))) x y H Q∨(((Cw K x y H Q∨CK K x y H Q)∨GO x y H Q)∨∃ i j,x=.str i∧y=.str j∧i.length+j.length≤sizeLine∧Q (.str (i++j)) H)
theorem FX:OpR X (binaryOp .Add) (Co X.K):=op_add.or (((op_cat0.or BC).or Ee).or KA)
theorem b_add:XC i .add (Co i.K):=by
 intro v u G H x y Q Qm g rx ry w c;cases v<;>cases u<;>first|exact(Zf w).elim|skip
 case int.int a b =>
  replace w:=Zo w
  exact .inl ⟨a,b,rx.int_inv,ry.int_inv,c _ G H _ (Keep.refl H) g (.int _) w⟩
 case str.str a b =>
  obtain⟨h,w⟩:=Yy w
  replace w:=Zo w
  refine .inr (.inr ⟨_,_,rx.str_inv,ry.str_inv,?_,?_⟩)
  ·rw[Zu,Zu];exact zE h ZO
  ·rw[←Ju];exact c _ G H _ (Keep.refl H) g (.str _) w
 case tup.tup xs ys =>
  obtain⟨h,w⟩:=Yy w
  replace w:=Zo w
  ·skip
   cases rx with
   |@tup _ p vs hp hr =>
   cases ry with
   |@tup _ q us hq hs =>
   by_cases h0:vs=[]
   ·subst h0;have:xs=[]:=List.eq_nil_of_length_eq_zero hr.length;subst this;exact .inr (.inl (.inl (.inl ⟨p,q,us,rfl,rfl,Zl hp,Zl hq,c _ G H _ (Keep.refl H) g (.tup hq hs) w⟩)))
   refine .inr (.inl (.inl (.inr ⟨p,q,vs,us,rfl,rfl,Zl hp,Zl hq,h0,?_,fun z=>?_,fun z a ha=>?_⟩)))
   ·rw[←hr.length,←hs.length];exact zE h ZO
   ·have:ys=[]:=List.eq_nil_of_length_eq_zero (by rw[hs.length,z];rfl);subst this;rw[zB]at w;exact c _ G H _ (Keep.refl H) g (.tup hp hr) w
   ·have k:=Keep.new (o:=.tup (vs++us)) ha;refine c _ G _ _ k (g.hid k fun b o e=>upd_ne ?_) (.tup (.inl upd_same) ((hr.keep k).append (hs.keep k))) w;rintro rfl;rw[g.free ha]at e;cases e
 case ref.ref a b =>
  dsimp only[Own.binV,Own.addV]at w;split at w
  ·rename_i xs ys e1 e2;unfold Own.Rs.lst at w;split at w
   ·rename_i hl;rw[Own.Rs.wp_new]at w;cases rx.ref_inv;cases ry.ref_inv;obtain⟨vs,h1,r1⟩:=g a _ e1;obtain⟨us,h2,r2⟩:=g b _ e2;refine .inr (.inl (.inr ⟨a,b,vs,us,rfl,rfl,h1,h2,?_,ZR g w c fun p hp=>?_⟩))
    ·rw[←r1.length,←r2.length,←qU];exact zE hl ZO
    ·have k:=Keep.new (o:=.lst (vs++us)) hp;exact⟨_,upd_same,(r1.keep k).append (r2.keep k)⟩
   ·exact(Zf w).elim
  ·exact(Zf w).elim
theorem b_sub:XC i .sub (rI0 fun i j=>.int (i - j)):=by intro v u G H x y Q Qm g rx ry w c;obtain⟨a,b,rfl,rfl,w⟩:=YZ w;exact⟨a,b,rx.int_inv,ry.int_inv,c _ G H _ (Keep.refl H) g (.int _) (Zo w)⟩
theorem RVs.rep{K:PySem.W.Frag}{H:Hp}{vs:List Own.Val}{xs:List V}(r:RVs K H vs xs):∀ n,RVs K H (List.replicate n vs).flatten (List.replicate n xs).flatten
 |0=>.nil
 |n+1=>by rw[List.replicate_succ,List.replicate_succ,List.flatten_cons,List.flatten_cons];exact r.append (RVs.rep r n)
set_option exponentiation.threshold 2000 in
theorem Dp{i j:Int}(h:Own.mulOk i j):IntMulOk i j:=by
 rcases h with(h|h)|⟨h1,h2⟩
 ·exact .of_left (intBits_le_64 (by omega) (by omega))
 ·exact .of_right (intBits_le_64 (by omega) (by omega))
 ·have e:(10:Nat) ^ 200<2 ^ 1000:=by decide
  exact .of_bits (zE (PyProof.Rows.intBits_le (qS h1 e)) (by decide)) (zE (PyProof.Rows.intBits_le (qS h2 e)) (by decide))
theorem A3(s:String)(n:Nat):EC (Str.ofString s) n=Str.ofString (Own.repT s n):=by unfold EC Own.repT;rw[Str.ofString_eq_toList,Str.ofString_eq_toList,String.toList_ofList];congr 1;apply Array.toList_inj.mp;rw[Wv];simp[List.map_flatten,List.map_replicate]
noncomputable def Cu:R2:=fun x y H Q=>rI Own.mulOk (fun i j=>.int (i*j)) x y H Q∨(Gr x y H Q∨Cq x y H Q)
theorem GK:OpR X (binaryOp .Mult) Cu:=OpR.or (opI fun _ _ _ _ _ _ _ hc q=>PyProof.Rows.mul_int q (Dp hc)) (op_rep.or A9)
theorem b_mul:XC i .mul Cu:=by
 intro v u G H x y Q Qm g rx ry w c;cases v<;>cases u<;>first|exact(Zf w).elim|skip
 case int.int a b =>obtain⟨h,w⟩:=Yy w;exact .inl ⟨a,b,rx.int_inv,ry.int_inv,h,c _ G H _ (Keep.refl H) g (.int _) (Zo w)⟩
 case ref.int a k =>
  dsimp only[Own.binV,Own.mulV]at w;split at w
  ·rename_i xs e1;split at w
   ·rename_i hk;unfold Own.Rs.lst at w;split at w
    ·rw[Own.Rs.wp_new]at w;cases rx.ref_inv;cases ry.int_inv;obtain⟨vs,h1,r1⟩:=g a _ e1;refine .inr (.inl ⟨a,k,vs,rfl,rfl,h1,by omega,by omega,?_,ZR g w c fun p hp=>?_⟩)
     ·rw[←r1.length];exact zE hk.2.2 ZO
     ·have kk:=Keep.new (o:=.lst (List.replicate k.toNat vs).flatten) hp;exact⟨_,upd_same,(r1.keep kk).rep _⟩
    ·exact(Zf w).elim
   ·exact(Zf w).elim
  ·exact(Zf w).elim
 case str.int a k =>
  obtain⟨hk,w⟩:=Yy w
  replace w:=Zo w
  refine .inr (.inr ⟨_,k,rx.str_inv,ry.int_inv,hk.1,hk.2.1,by rw[Zu];exact hk.2.2.1,by rw[Zu];exact hk.2.2.2,?_⟩);rw[A3];exact c _ G H _ (Keep.refl H) g (.str _) w
theorem b_fdiv:XC i .fdiv (rI Fx fun i j=>.int (i / j)):=by intro v u G H x y Q Qm g rx ry w c;obtain⟨a,b,rfl,rfl,w⟩:=YZ w;obtain⟨h,w⟩:=Yy w;exact⟨a,b,rx.int_inv,ry.int_inv,h,c _ G H _ (Keep.refl H) g (.int _) (Zo w)⟩
theorem b_mod:XC i .mod (rI (fun _ j=>0<j) fun i j=>.int (i % j)):=by intro v u G H x y Q Qm g rx ry w c;obtain⟨a,b,rfl,rfl,w⟩:=YZ w;obtain⟨h,w⟩:=Yy w;exact⟨a,b,rx.int_inv,ry.int_inv,h,c _ G H _ (Keep.refl H) g (.int _) (Zo w)⟩
theorem b_pow:XC i .pow (rI Hi fun i j=>.int (i ^ j.toNat)):=by intro v u G H x y Q Qm g rx ry w c;obtain⟨a,b,rfl,rfl,w⟩:=YZ w;obtain⟨h,w⟩:=Yy w;exact⟨a,b,rx.int_inv,ry.int_inv,h,c _ G H _ (Keep.refl H) g (.int _) (Zo w)⟩
theorem ZI{K:PySem.W.Frag}{H:Hp}:∀ {xs:List Own.Val}{ns:List Int}{vs:List V},Own.intsOf xs=some ns→RVs K H xs vs→vs=ns.map V.int
 |[],_,_,e,.nil=>by cases e;rfl
 |.int k::xs,_,_,e,.cons r t=>by
  simp only[Own.intsOf]at e;cases z:Own.intsOf xs with
  |none=>rw[z]at e;cases e
  |some ns=>rw[z]at e;cases e;cases r;rw[ZI z t];rfl
 |.non::_,_,_,e,_=>by cases e
 |.bl _::_,_,_,e,_=>by cases e
 |.str _::_,_,_,e,_=>by cases e
 |.tup _::_,_,_,e,_=>by cases e
 |.ref _::_,_,_,e,_=>by cases e
 |.scr _::_,_,_,e,_=>by cases e
theorem WW:∀ (ns ms:List Int),Own.lexI ns ms=HT.lexLt ns ms
 |[],[]=>rfl
 |[],_::_=>rfl
 |_::_,[]=>rfl
 |x::xs,y::ys=>by rw[Own.lexI,HT.lexLt_cons,WW xs ys]
noncomputable def F0 (K:PySem.W.Frag):R2:=fun x y H Q=>rI0 (fun i j=>.bl (decide (i<j))) x y H Q∨Fy K x y H Q
theorem Ia(hu:X.A.units<cLine):OpR X (compareOp .Lt) (F0 X.K):=op_lt.or (DO hu)
noncomputable def Gk (K:PySem.W.Frag):R2:=fun x y H Q=>rI0 (fun i j=>.bl (decide (j<i))) x y H Q∨HT2.rGtT K x y H Q
theorem Lc(hu:X.A.units<cLine):OpR X (compareOp .Gt) (Gk X.K):=op_gt.or (HT2.op_gtT hu)
theorem CH{H:Hp}{K:PySem.W.Frag}{xs ys:List Own.Val}{x y:V}{c:Bool}(rx:RV K H (.tup xs) x)(ry:RV K H (.tup ys) y)(e:Own.ltV (.tup xs) (.tup ys)=some c):∃ a b ns ms,x=.ref a∧y=.ref b∧SqT K H a (ns.map V.int)∧SqT K H b (ms.map V.int)∧HT.lexLt ns ms=c:=by
 simp only[Own.ltV]at e;cases z1:Own.intsOf xs with
 |none=>rw[z1]at e;cases e
 |some ns =>
  cases z2:Own.intsOf ys with
  |none=>rw[z1,z2]at e;cases e
  |some ms =>
   rw[z1,z2]at e;cases e;cases rx with
   |@tup _ p vs hp hr =>
   cases ry with
   |@tup _ q us hq hs =>
   have h1:=ZI z1 hr;have h2:=ZI z2 hs;subst h1 h2;exact⟨p,q,ns,ms,rfl,rfl,Zl hp,Zl hq,(WW _ _).symm⟩
theorem c_lt:ZQ i .lt (F0 i.K):=by
 intro v u G H x y c Q g rx ry e q
 replace e:Own.ltV v u=some c:=e
 cases v<;>cases u<;>first|(cases e;done)|skip
 case int.int a b=>cases e;exact .inl ⟨a,b,rx.int_inv,ry.int_inv,q⟩
 case tup.tup xs ys =>obtain⟨a,b,ns,ms,h1,h2,h3,h4,h5⟩:=CH rx ry e;exact .inr ⟨a,b,ns,ms,h1,h2,h3,h4,by rw[h5];exact q⟩
theorem c_gt:ZQ i .gt (Gk i.K):=by
 intro v u G H x y c Q g rx ry e q
 replace e:Own.ltV u v=some c:=e
 cases v<;>cases u<;>first|(cases e;done)|skip
 case int.int a b=>cases e;exact .inl ⟨a,b,rx.int_inv,ry.int_inv,q⟩
 case tup.tup xs ys =>obtain⟨a,b,ns,ms,h1,h2,h3,h4,h5⟩:=CH ry rx e;exact .inr ⟨b,a,ms,ns,h2,h1,h4,h3,by rw[HT2.lexGt_lt,h5];exact q⟩
theorem CM{v u:Own.Val}{c:Bool}(e:Own.leV v u=some c):∃ i j,v=.int i∧u=.int j∧decide (i≤j)=c:=by
 cases v with
 |int i=>cases u with
  |int j=>cases e;exact⟨i,j,rfl,rfl,rfl⟩
  |_=>cases e
 |_=>cases e
theorem c_le:ZQ i .le (rI0 fun i j=>.bl (decide (i≤j))):=by intro v u G H x y c Q g rx ry e q;obtain⟨a,b,rfl,rfl,rfl⟩:=CM e;exact⟨a,b,rx.int_inv,ry.int_inv,q⟩
theorem c_ge:ZQ i .ge (rI0 fun i j=>.bl (decide (j≤i))):=by intro v u G H x y c Q g rx ry e q;obtain⟨a,b,rfl,rfl,rfl⟩:=CM e;exact⟨b,a,rx.int_inv,ry.int_inv,q⟩
theorem RV.isN{K:PySem.W.Frag}{H:Hp}{v:Own.Val}{x:V}(r:RV K H v x):decide (x=.non)=decide (v=.non):=by cases r<;>simp
theorem Hx{a:Expr}{ma:Own.E}{pos p2:Pos}{j:Nat}(ha:PE X a (tE X i Φ ma)):PE X (.Compare a [.Is] [.Constant .none j p2] pos) (tE X i Φ (.cmp .is ma (.cst .non))) :=
 (Ot (O6 ha) rfl).imp fun σ H Q ⟨env,G,Qm,Em,p,w,c⟩=>by rw[Own.q_e_cmp]at w;refine one p w fun v G1 H1 x k1 p1 r q=>?_;rw[Own.q_e_cst]at q;obtain⟨d,e,q2⟩:=go_some q;have e:some (decide (v=.non))=some d:=e;cases e;rw[r.isN];exact c _ G1 H1 _ k1 p1.hp (.bl _) q2
theorem ET{a:Expr}{ma:Own.E}{pos p2:Pos}{j:Nat}(ha:PE X a (tE X i Φ ma)):PE X (.Compare a [.IsNot] [.Constant .none j p2] pos) (tE X i Φ (.cmp .isnot ma (.cst .non))) :=
 (Ot (Na ha) rfl).imp fun σ H Q ⟨env,G,Qm,Em,p,w,c⟩=>by rw[Own.q_e_cmp]at w;refine one p w fun v G1 H1 x k1 p1 r q=>?_;rw[Own.q_e_cst]at q;obtain⟨d,e,q2⟩:=go_some q;have e:some (!decide (v=.non))=some d:=e;cases e;rw[r.isN];exact c _ G1 H1 _ k1 p1.hp (.bl _) q2
theorem Fj{a:Expr}{ma:Own.E}{pos p2:Pos}{j:Nat}(ha:PE X a (tE X i Φ ma)):PT X (.Compare a [.Is] [.Constant .none j p2] pos) (tTt X i Φ (.val (.cmp .is ma (.cst .non)))) :=
 (Am (O6 ha) rfl).imp fun σ H Q ⟨env,G,Qm,Em,p,w,c⟩=>by rw[Own.q_t_val,Own.q_e_cmp]at w;refine one p w fun v G1 H1 x k1 p1 r q=>?_;rw[Own.q_e_cst]at q;obtain⟨d,e,q2⟩:=go_some q;obtain⟨d',e',q3⟩:=go_some q2;cases e';have e:some (decide (v=.non))=some d:=e;cases e;rw[r.isN];exact⟨_,rfl,c _ G1 H1 k1 p1.hp q3⟩
theorem AJ{a:Expr}{ma:Own.E}{pos p2:Pos}{j:Nat}(ha:PE X a (tE X i Φ ma)):PT X (.Compare a [.IsNot] [.Constant .none j p2] pos) (tTt X i Φ (.val (.cmp .isnot ma (.cst .non)))) :=
 (Am (Na ha) rfl).imp fun σ H Q ⟨env,G,Qm,Em,p,w,c⟩=>by rw[Own.q_t_val,Own.q_e_cmp]at w;refine one p w fun v G1 H1 x k1 p1 r q=>?_;rw[Own.q_e_cst]at q;obtain⟨d,e,q2⟩:=go_some q;obtain⟨d',e',q3⟩:=go_some q2;cases e';have e:some (!decide (v=.non))=some d:=e;cases e;rw[r.isN];exact⟨_,rfl,c _ G1 H1 k1 p1.hp q3⟩
end Snd
namespace Snd
open PySem L2 PySem.Spec PyProof.Rows
variable {i:Inf}{X:Cx}{Φ:Own.Fs}
theorem RKs.length{K:PySem.W.Frag}{H:Hp}:∀ {kvs:List (Own.Val×Own.Val)}{ps:List (Key×V)},RKs K H kvs ps→kvs.length=ps.length
 |_,_,.nil=>rfl
 |_,_,.cons _ _ t=>by rw[qB,qB,RKs.length t]
theorem Xv{k j:Own.Val}{c d:Key}(a:XB k c)(b:XB j d):(k==j)=decide (c=d):=by
 have key:k=j↔c=d:=by
  cases k<;>cases c<;>first|(cases a;done)|skip
  ·cases j<;>cases d<;>first|(cases b;done)|skip
   ·cases a;cases b;simp
   ·cases a;cases b;simp
  ·cases j<;>cases d<;>first|(cases b;done)|skip
   ·cases a;cases b;simp
   ·cases a;cases b;simp[ofS_inj]
 by_cases e:k=j
 ·rw[qQ (key.mp e),e];simp
 ·rw[qP fun z=>e (key.mpr z)];simpa using e
theorem key_of{k:Own.Val}{x:V}{K:PySem.W.Frag}{H:Hp}(h:Own.isKey k=true)(r:RV K H k x):∃ c,XB k c∧x=kV c:=by
 cases k with
 |int n=>cases r.int_inv;exact⟨.inl n,rfl,rfl⟩
 |str s=>cases r.str_inv;exact⟨.inr (Str.ofString s),rfl,rfl⟩
 |_=>cases h
theorem RKs.look{K:PySem.W.Frag}{H:Hp}{k:Own.Val}{c:Key}(a:XB k c):∀ {kvs:List (Own.Val×Own.Val)}{ps:List (Key×V)},RKs K H kvs ps→
  (∀ v,Own.lookK kvs k=some v→∃ x,Yv ps c=some x∧RV K H v x)∧(Own.lookK kvs k=none→Yv ps c=none)
 |_,_,.nil=>⟨fun v e=>(by cases e),fun _=>rfl⟩
 |_,_,.cons (k:=j) (v:=u) (c:=d) (x:=y) (kvs:=kvs) (ps:=ps) b r t=>by
  have ih:=RKs.look a t;have q:=Xv b a;by_cases e:d=c
  ·rw[qQ e]at q;have e1:Own.lookK ((j,u)::kvs) k=some u:=by simp[Own.lookK,List.find?_cons,q]
   rw[e1,Ys e];exact⟨fun v z=>(by cases z;exact⟨y,rfl,r⟩),fun z=>(by cases z)⟩
  ·rw[qP e]at q;have e1:Own.lookK ((j,u)::kvs) k=Own.lookK kvs k:=by simp[Own.lookK,List.find?_cons,q]
   rw[e1,Yq e];exact ih
theorem RKs.has{K:PySem.W.Frag}{H:Hp}{k:Own.Val}{c:Key}(a:XB k c):∀ {kvs:List (Own.Val×Own.Val)}{ps:List (Key×V)},RKs K H kvs ps→Own.hasK kvs k=ps.any fun kv=>decide (kv.1=c)
 |_,_,.nil=>rfl
 |_,_,.cons b r t=>by have ih:=RKs.has a t;unfold Own.hasK at ih ⊢;rw[List.any_cons,List.any_cons,ih,Xv b a]
theorem RKs.app{K:PySem.W.Frag}{H:Hp}{k v:Own.Val}{c:Key}{x:V}(a:XB k c)(q:RV K H v x):∀ {kvs:List (Own.Val×Own.Val)}{ps:List (Key×V)},RKs K H kvs ps→RKs K H (kvs++[(k,v)]) (ps++[(c,x)])
 |_,_,.nil=>.cons a q .nil
 |_,_,.cons b r t=>.cons b r (RKs.app a q t)
theorem RKs.repl{K:PySem.W.Frag}{H:Hp}{k v:Own.Val}{c:Key}{x:V}(a:XB k c)(q:RV K H v x):∀ {kvs:List (Own.Val×Own.Val)}{ps:List (Key×V)},RKs K H kvs ps→
  RKs K H (kvs.map fun p=>if p.1==k then(k,v)else p) (ps.map fun kv=>if kv.1=c then(kv.1,x)else kv)
 |_,_,.nil=>.nil
 |_,_,.cons (k:=j) (v:=u) (c:=d) (x:=y) b r t=>by
  have ih:=RKs.repl a q t;have z:=Xv b a;rw[qG,qG];by_cases e:d=c
  ·rw[qQ e]at z;rw[if_pos z,if_pos e];exact .cons (e▸a) q ih
  ·rw[qP e]at z;rw[if_neg (by rw[z];decide),if_neg e];exact .cons b r ih
theorem RKs.put{K:PySem.W.Frag}{H:Hp}{k v:Own.Val}{c:Key}{x:V}(a:XB k c)(q:RV K H v x){kvs:List (Own.Val×Own.Val)}{ps:List (Key×V)}(r:RKs K H kvs ps):RKs K H (Own.putK kvs k v) (L2.putK ps c x):=by
 unfold Own.putK L2.putK;rw[r.has a];by_cases e:(ps.any fun kv=>decide (kv.1=c))=true
 ·rw[if_pos e,if_pos e];exact r.repl a q
 ·rw[if_neg e,if_neg e];exact r.app a q
theorem RKs.drop{K:PySem.W.Frag}{H:Hp}{k:Own.Val}{c:Key}(a:XB k c):∀ {kvs:List (Own.Val×Own.Val)}{ps:List (Key×V)},RKs K H kvs ps→RKs K H (Own.dropK kvs k) (L2.dropK ps c)
 |_,_,.nil=>.nil
 |_,_,.cons (k:=j) (v:=u) (c:=d) (x:=y) b r t=>by
  have ih:=RKs.drop a t;have z:=Xv b a;unfold Own.dropK L2.dropK at ih ⊢;rw[List.filter_cons,List.filter_cons];by_cases e:d=c
  ·rw[qQ e]at z;rw[if_neg (by rw[z];decide),if_neg (by simpa using e)];exact ih
  ·rw[qP e]at z;rw[if_pos (by rw[z];rfl),if_pos (by simpa using e)];exact .cons b r ih
theorem A5{G:Own.Hs}{H:Hp}{a:Addr}{kvs kvs':List (Own.Val×Own.Val)}{ps ps':List (Key×V)}(g:RH i G H)(h:H a=some (.dK ps))(r:RKs i.K H kvs' ps'):Keep H (upd H a (.dK ps'))∧RH i (Own.upd G a (.dct kvs')) (upd H a (.dK ps')):=by
 have k:Keep H (upd H a (.dK ps')):=Keep.put (fun xs e=>by rw[h]at e;cases e) fun p u e=>by rw[h]at e;cases e
 exact⟨k,g.put k ⟨ps',upd_same,r.keep k⟩⟩
theorem RTs.length{K:PySem.W.Frag}{H:Hp}:∀ {kvs:List (Own.Val×Own.Val)}{ps:List (List Key×V)},RTs K H kvs ps→kvs.length=ps.length
 |_,_,.nil=>rfl
 |_,_,.cons _ t=>by rw[qB,qB,RTs.length t]
theorem Jm(a b i j:Int):(Own.Val.key a b == .key i j)=decide (([.inl a,.inl b]:List Key)=[.inl i,.inl j]):=by
 by_cases e:a=i∧b=j
 ·obtain⟨rfl,rfl⟩:=e;rw[qQ rfl];simp
 ·rw[qP fun z=>e (by simpa using z)];exact beq_eq_false_iff_ne.mpr fun z=>e (by simpa using z)
theorem RTs.look{K:PySem.W.Frag}{H:Hp}{i j:Int}:∀ {kvs:List (Own.Val×Own.Val)}{ps:List (List Key×V)},RTs K H kvs ps→
  (∀ v,Own.lookK kvs (.key i j)=some v→∃ x,Yv ps [.inl i,.inl j]=some x∧RV K H v x)∧(Own.lookK kvs (.key i j)=none→Yv ps [.inl i,.inl j]=none)
 |_,_,.nil=>⟨fun v e=>(by cases e),fun _=>rfl⟩
 |_,_,.cons (i:=a) (j:=b) (v:=u) (x:=y) (kvs:=kvs) (ps:=ps) r t=>by
  have ih:=RTs.look (i:=i) (j:=j) t;have q:=Jm a b i j;by_cases e:([.inl a,.inl b]:List Key)=[.inl i,.inl j]
  ·rw[qQ e]at q;have e1:Own.lookK ((.key a b,u)::kvs) (.key i j)=some u:=by simp[Own.lookK,List.find?_cons,q]
   rw[e1,Ys e];exact⟨fun v z=>(by cases z;exact⟨y,rfl,r⟩),fun z=>(by cases z)⟩
  ·rw[qP e]at q;have e1:Own.lookK ((.key a b,u)::kvs) (.key i j)=Own.lookK kvs (.key i j):=by simp[Own.lookK,List.find?_cons,q]
   rw[e1,Yq e];exact ih
theorem RTs.has{K:PySem.W.Frag}{H:Hp}{i j:Int}:∀ {kvs:List (Own.Val×Own.Val)}{ps:List (List Key×V)},RTs K H kvs ps→Own.hasK kvs (.key i j)=ps.any fun kv=>decide (kv.1=[.inl i,.inl j])
 |_,_,.nil=>rfl
 |_,_,.cons (i:=a) (j:=b) r t=>by have ih:=RTs.has (i:=i) (j:=j) t;unfold Own.hasK at ih ⊢;rw[List.any_cons,List.any_cons,ih,Jm a b i j]
theorem RTs.app{K:PySem.W.Frag}{H:Hp}{v:Own.Val}{i j:Int}{x:V}(q:RV K H v x):∀ {kvs:List (Own.Val×Own.Val)}{ps:List (List Key×V)},RTs K H kvs ps→RTs K H (kvs++[(.key i j,v)]) (ps++[([.inl i,.inl j],x)])
 |_,_,.nil=>.cons q .nil
 |_,_,.cons r t=>.cons r (RTs.app q t)
theorem RTs.repl{K:PySem.W.Frag}{H:Hp}{v:Own.Val}{i j:Int}{x:V}(q:RV K H v x):∀ {kvs:List (Own.Val×Own.Val)}{ps:List (List Key×V)},RTs K H kvs ps→
  RTs K H (kvs.map fun p=>if p.1 == .key i j then(.key i j,v)else p) (ps.map fun kv=>if kv.1=[.inl i,.inl j]then(kv.1,x)else kv)
 |_,_,.nil=>.nil
 |_,_,.cons (i:=a) (j:=b) (v:=u) (x:=y) r t=>by
  have ih:=RTs.repl (i:=i) (j:=j) q t;have z:=Jm a b i j;rw[qG,qG];by_cases e:([.inl a,.inl b]:List Key)=[.inl i,.inl j]
  ·rw[qQ e]at z;simp only[z,if_true,e];exact .cons q ih
  ·rw[qP e]at z;simp only[z,e,if_false,Bool.false_eq_true];exact .cons r ih
theorem RTs.put{K:PySem.W.Frag}{H:Hp}{v:Own.Val}{i j:Int}{x:V}(q:RV K H v x){kvs:List (Own.Val×Own.Val)}{ps:List (List Key×V)}(r:RTs K H kvs ps):RTs K H (Own.putK kvs (.key i j) v) (L2.putK ps [.inl i,.inl j] x):=by
 unfold Own.putK L2.putK;rw[r.has];by_cases e:(ps.any fun kv=>decide (kv.1=[.inl i,.inl j]))=true
 ·rw[if_pos e,if_pos e];exact r.repl q
 ·rw[if_neg e,if_neg e];exact r.app q
theorem Bc{G:Own.Hs}{H:Hp}{a:Addr}{kvs':List (Own.Val×Own.Val)}{ps ps':List (List Key×V)}(g:RH i G H)(h:H a=some (.dT ps))(r:RTs i.K H kvs' ps'):Keep H (upd H a (.dT ps'))∧RH i (Own.upd G a (.dtp kvs')) (upd H a (.dT ps')):=by
 have k:Keep H (upd H a (.dT ps')):=Keep.put (fun xs e=>by rw[h]at e;cases e) fun p u e=>by rw[h]at e;cases e
 exact⟨k,g.put k ⟨ps',upd_same,r.keep k⟩⟩
theorem Jj{k:Own.Val}{x:V}{K:PySem.W.Frag}{H:Hp}(h:Own.isKeyT k=true)(r:RV K H k x):∃ a b c,k=.key a b∧x=.ref c∧H c=some (.tup (([.inl a,.inl b]:List Key).map kV)):=by
 cases k with
 |key a b=>cases r with|key e=>exact⟨a,b,_,rfl,rfl,e⟩
 |_=>cases h
noncomputable def Gx:R2:=fun x y H Q=>∃ a v,x=.ref a∧DGet H a y (some v)∧Q v H
theorem A2(hu:X.A.units+1<cLine):IxR X Gx:=by
 intro value slice pins s σ H x y v u Q I rx ry h hs;obtain⟨a,z,rfl,g,q⟩:=h;cases rx;have hT:=JG I g;unfold subscriptTail;refine wpAny_bind ?_;rw[getitemInPython_of_ne hT.not_modules];refine wpAny_bind (wpAny_specialOf hT PySem.F.slot_dict_getitem.lookup ?_);have fin:wpAny (model X.prog X.w) X.A (subscripted slice false (.ref a) u) (fun r s₃=>wpAny (model X.prog X.w) X.A (letTemporaryGo value (.ref a) r >>= fun _=>pure r) (EP X pins σ Q) X.xe s₃) X.xe s:=by rw[hs];exact wpAny_operating (N7 hu I g ry fun w' s' I' rw'=>wpAny_bind (wpAny_letTemporaryGo (wpAny_pure ⟨_,_,I',rw',q⟩)))
 first
  |exact wpAny_pure (wpAny_bind fin)
  |exact wpAny_bind (wpAny_pure (wpAny_bind fin))
  |exact wpAny_bind fin
noncomputable def Ap (b:Bool):R2:=fun x y H Q=>∃ a o,y=.ref a∧DGet H a x o∧Q (.bl (b ^^ o.isSome)) H
theorem DN(hu:X.A.units+1<cLine):OpR X (compareOp .In) (Ap false):=by intro pins s σ H x y v u Q I rx ry h;obtain⟨a,o,rfl,g,q⟩:=h;cases ry;rw[Bool.false_xor]at q;exact Ib hu I g rx fun s' I'=>⟨.bl o.isSome,_,I',rfl,q⟩
theorem EO(hu:X.A.units+1<cLine):OpR X (compareOp .NotIn) (Ap true):=by intro pins s σ H x y v u Q I rx ry h;obtain⟨a,o,rfl,g,q⟩:=h;cases ry;rw[Bool.true_xor]at q;exact Bl hu I g rx fun s' I'=>⟨.bl (!o.isSome),_,I',rfl,q⟩
def Cm:V→V→V→Hp→(Hp→Prop)→Prop:=fun o y v H Q=>∃ a H',o=.ref a∧DPut H a y v H'∧Q H'
theorem OZ(hu:X.A.units+1<cLine):PSet X Cm:=by intro pins s σ H o y v ov iv u Q I ro ri rv h;obtain⟨a,H',rfl,g,q⟩:=h;cases ro;exact Oc hu I g ri rv fun s' I'=>⟨H',I',q⟩
theorem PSet.or{r r':V→V→V→Hp→(Hp→Prop)→Prop}(h:PSet X r)(h':PSet X r'):PSet X (fun o y v H Q=>r o y v H Q∨r' o y v H Q):=by
 intro pins s σ H o y v ov iv u Q I ro ri rv q;rcases q with q|q
 ·exact h pins s σ H o y v ov iv u Q I ro ri rv q
 ·exact h' pins s σ H o y v ov iv u Q I ro ri rv q
end Snd
namespace Snd
open PySem L2
variable {i:Inf}{X:Cx}{Φ:Own.Fs}
theorem Kv(n:Nat)(k:Int):Own.ixN n k=L2.ixN n k:=rfl
theorem Jv{K:PySem.W.Frag}{H:Hp}{xs:List Own.Val}{vs:List V}{k:Int}{v:Own.Val}(r:RVs K H xs vs)(e:Own.atI xs k=some v):∃ x,L2.atI vs k=some x∧RV K H v x:=by
 unfold Own.atI at e;unfold L2.atI;rw[Kv,r.length]at e;cases z:L2.ixN vs.length k with
 |none=>rw[z]at e;cases e
 |some j =>rw[z]at e;obtain⟨x,h1,h2⟩:=r.get (show xs[j]?=some v from e);exact⟨x,h1,h2⟩
def HC (i:Inf) (r:R2):Prop:=∀ (v u:Own.Val) (G:Own.Hs) (H:Hp) (x y:V) (w:Own.Val) (Q:VK),RH i G H→RV i.K H v x→RV i.K H u y→Own.idxV G v u=some w→(∀ z,RV i.K H w z→Q z H)→r x y H Q
theorem Hb{a b:Expr}{ma mb:Own.E}{r:R2}{pos:Pos}(hr:IxR X r)(ho:HC i r)(ha:PE X a (tE X i Φ ma))(hb:PE X b (tE X i Φ mb))(hs:W8 b):PE X (.Subscript a b pos) (tE X i Φ (.idx ma mb)) :=
 (GN hr ha hb hs).imp fun σ H Q ⟨env,G,Qm,Em,p,w,c⟩=>by
  rw[Own.q_e_idx]at w;exact two p w fun v u G2 H2 x y k2 p2 rx ry q=>by obtain⟨z,e,q⟩:=go_some q;exact ho v u G2 H2 x y z Q p2.hp rx ry e fun t rt=>c z G2 H2 t k2 p2.hp rt q
theorem AK{s:String}{k:Int}{c:Char}(e:Own.atI s.toList k=some c):L2.atI (Str.ofString s).cps.toList k=some c.toNat:=by
 rw[Str.ofString_eq_toList];show L2.atI (List.map Char.toNat s.toList).toArray.toList k=_;unfold Own.atI at e;unfold L2.atI;simp only[qA];rw[Kv]at e;cases z:L2.ixN s.toList.length k with
 |none=>rw[z]at e;cases e
 |some j =>rw[z]at e;have e:s.toList[j]?=some c:=e;show(List.map Char.toNat s.toList)[j]?=_;rw[qF,e];rfl
theorem Ko(c:Char):Str.ofString (String.singleton c)=⟨#[c.toNat]⟩:=by rw[Str.ofString_eq_toList];simp
noncomputable def I0 (K:PySem.W.Frag):R2:=fun x y H Q=>rIx K x y H Q∨Gx x y H Q
theorem GI:HC i (I0 i.K):=by
 intro v u G H x y w Q g rx ry e q;cases v with
 |tup xs =>
  cases u with
  |int k =>
   cases rx with
   |tup hp hr =>obtain⟨z,h1,h2⟩:=Jv hr (show Own.atI xs k=some w from e);exact .inl (.inr (.inl ⟨_,_,k,z,rfl,ry.int_inv,Zl hp,h1,q z h2⟩))
  |_=>cases e
 |str s =>
  cases u with
  |int k =>
   simp only[Own.idxV]at e;split at e
   ·rename_i hl;cases z:Own.atI s.toList k with
    |none=>rw[z]at e;cases e
    |some c =>rw[z]at e;cases e;refine .inl (.inr (.inr ⟨_,k,_,rx.str_inv,ry.int_inv,by rw[Zu];exact zE hl ZO,AK z,?_⟩));have:=q _ (.str (String.singleton c));rw[Ko]at this;exact this
   ·cases e
  |_=>cases e
 |ref a =>
  cases rx.ref_inv
  replace e:(match G a with|some (.lst xs)=>(Own.asInt u).bind (Own.atI xs)|some (.dct kvs)=>if Own.isKey u then Own.lookK kvs u else none|some (.frz kvs)=>if Own.isKey u then Own.lookK kvs u else none|some (.dtp kvs)=>if Own.isKeyT u then Own.lookK kvs u else none|_=>none)=some w:=e
  cases z:G a with
  |none=>rw[z]at e;cases e
  |some o =>
   rw[z]at e;cases o with
   |lst xs =>obtain⟨k,hk,e⟩:=q9.mp e;cases ZJ hk;obtain⟨vs,h1,h2⟩:=g a _ z;obtain⟨t,h3,h4⟩:=Jv h2 e;exact .inl (.inl ⟨a,vs,k,t,rfl,ry.int_inv,SqL.of h1,h3,q t h4⟩)
   |dct kvs =>obtain⟨hk,e⟩:=ZM (show(if Own.isKey u then Own.lookK kvs u else none)=some w from e);obtain⟨ps,h1,h2⟩:=g a _ z;obtain⟨d,kr,rfl⟩:=key_of hk ry;obtain⟨t,hx,rv⟩:=(h2.look kr).1 w e;exact .inr ⟨a,t,rfl,by rw[←hx];exact DGet.k h1,q t rv⟩
   |frz kvs =>obtain⟨hk,e⟩:=ZM (show(if Own.isKey u then Own.lookK kvs u else none)=some w from e);obtain⟨ob,ps,h1,h2⟩:=g a _ z;obtain⟨d,kr,rfl⟩:=key_of hk ry;obtain⟨t,hx,rv⟩:=(h2.look kr).1 w e;exact .inr ⟨a,t,rfl,.inl ⟨ps,d,.inr ⟨ob,h1⟩,rfl,hx.symm⟩,q t rv⟩
   |dtp kvs =>obtain⟨hk,e⟩:=ZM (show(if Own.isKeyT u then Own.lookK kvs u else none)=some w from e);obtain⟨ps,h1,h2⟩:=g a _ z;obtain⟨k1,k2,b,rfl,rfl,hb⟩:=Jj hk ry;obtain⟨t,hx,rv⟩:=(h2.look).1 w e;exact .inr ⟨a,t,rfl,by rw[←hx];exact DGet.t h1 hb,q t rv⟩
   |_=>cases e
 |scr ns =>
  cases u with
  |int k =>
   cases rx with
   |scr h =>obtain⟨t,h3,h4⟩:=Jv (RVs.ints ns) (show Own.atI (ns.map .int) k=some w from e);exact .inl (.inl ⟨_,_,k,t,rfl,ry.int_inv,Z1 h,h3,q t h4⟩)
  |_=>cases e
 |_=>cases e
noncomputable def tOx (X:Cx) (i:Inf) (Φ:Own.Fs) (m:Own.Oe):TO:=fun σ H Q=>∃ env G Qm Em,Pre X i σ H env G Em∧Own.wO Φ m env G Qm Em∧∀ k G' H',Keep H H'→RH i G' H'→Qm k G'→Q k H'
theorem _root_.L2.PO.imp{X:Cx}{e:Option Expr}{t t':TO}(h:PO X e t)(f:∀ σ H Q,t' σ H Q→t σ H Q):PO X e t':=fun pins s σ H Q I q=>h pins s σ H Q I (f σ H Q q)
theorem Ba:PO X none (tOx X i Φ .none):=po_none.imp fun σ H Q ⟨env,G,Qm,Em,p,w,c⟩=>by rw[Own.q_o_none]at w;exact c none G H (Keep.refl H) p.hp w
theorem Bu{e:Expr}{m:Own.E}(he:PE X e (tE X i Φ m)):PO X (some e) (tOx X i Φ (.some m)):=(BX he).imp fun σ H Q ⟨env,G,Qm,Em,p,w,c⟩=>by
 rw[Own.q_o_some]at w;exact one p w fun v G1 H1 x k1 p1 r q=>by obtain⟨b,e,q2⟩:=go_some q;cases ZJ e;exact⟨b,r.int_inv,c _ G1 H1 k1 p1.hp q2⟩
theorem Kn{xs:List Own.Val}{vs:List V}{K:PySem.W.Frag}{H:Hp}(r:RVs K H xs vs)(lo hi:Option Int):RVs K H (Own.cut xs lo hi) (WT vs lo hi):=by
 have e:∀ (n d:Nat) (o:Option Int),Own.cutAt n d o=HT.sIx n d o:=by
  intro n d o;cases o with
  |none=>rfl
  |some k =>
   show(if 0≤k then min k.toNat n else(k+n).toNat)=(if k<0 then(k+(n:Int)).toNat else min k.toNat n)
   by_cases h:k<0
   ·rw[if_pos h,if_neg (by omega)]
   ·rw[if_neg h,if_pos (by omega)]
 unfold Own.cut WT;rw[e,e,r.length];exact(r.drop _).take _
def G9 (i:Inf) (r:V→Option Int→Option Int→Hp→VK→Prop):Prop:=∀ (v:Own.Val) (lo hi:Option Int) (G:Own.Hs) (H:Hp) (x:V) (Q:VK) (Qm:Own.Q1),RH i G H→RV i.K H v x→(Own.slcV G v lo hi).wp G Qm→Cn i H Q Qm→r x lo hi H Q
theorem G0{a:Expr}{lo hi:Option Expr}{ma:Own.E}{ml mh:Own.Oe}{r:V→Option Int→Option Int→Hp→VK→Prop}{p2 pos:Pos}(hr:SlR X r)(ho:G9 i r)(ha:PE X a (tE X i Φ ma))(hl:PO X lo (tOx X i Φ ml))(hh:PO X hi (tOx X i Φ mh)):PE X (.Subscript a (.Slice lo hi none p2) pos) (tE X i Φ (.slc ma ml mh)) :=
 (Oq hr ha hl hh).imp fun σ H Q ⟨env,G,Qm,Em,p,w,c⟩=>by
  rw[Own.q_e_slc]at w;exact⟨env,G,_,Em,p,w,fun v G1 H1 x k1 g1 r1 w1=>⟨env,G1,_,Em,p.go k1 g1,w1,fun l G2 H2 k2 g2 w2=>⟨env,G2,_,Em,(p.go k1 g1).go k2 g2,w2,fun u G3 H3 k3 g3 w3 =>
    ho v l u G3 H3 x Q Qm g3 ((r1.keep k2).keep k3) w3 (((c.go k1).go k2).go k3)⟩⟩⟩
def Hm (K:PySem.W.Frag):V→Option Int→Option Int→Hp→VK→Prop:=fun x lo hi H Q=>F6 K x lo hi H Q∨Hh K x lo hi H Q∨GH x lo hi H Q
theorem IZ:SlR X (Hm X.K):=sl_list.or (sl_tup.or sl_str)
theorem JV(n d:Nat)(o:Option Int):Own.cutAt n d o=HT.sIx n d o:=by
 cases o with
 |none=>rfl
 |some k =>
  show(if 0≤k then min k.toNat n else(k+n).toNat)=(if k<0 then(k+(n:Int)).toNat else min k.toNat n)
  by_cases h:k<0
  ·rw[if_pos h,if_neg (by omega)]
  ·rw[if_neg h,if_pos (by omega)]
theorem JZ(n d:Nat)(h:d≤n)(o:Option Int):Own.cutAt n d o≤n:=by
 cases o with
 |none=>exact h
 |some k =>show(if 0≤k then min k.toNat n else(k+n).toNat)≤n;split<;>omega
theorem clip_eq(n d:Nat)(h:d≤n)(o:Option Int):(match o with
    |none=>(d:Int)
    | some i=>max 0 (min (if i<0 then i+(n:Int)else i) (n:Int)))=(Own.cutAt n d o:Int):=by
 cases o with
 |none=>rfl
 |some k =>
  show _=(((if 0≤k then min k.toNat n else(k+n).toNat):Nat):Int)
  by_cases hk:k<0
  ·rw[if_neg (show ¬ 0≤k by omega)];simp only[hk,if_true];omega
  ·rw[if_pos (show 0≤k by omega)];simp only[hk,if_false];omega
theorem Fp(n:Nat)(lo hi:Option Int):PySem.Builtin.Str.strSliceIndices lo hi 1 n=(List.range (Own.cutAt n n hi - Own.cutAt n 0 lo)).map fun k=>Own.cutAt n 0 lo+k:=by
 have e1:=clip_eq n 0 (Nat.zero_le _) lo;have e2:=clip_eq n n (zG _) hi;have e3:PySem.Builtin.Str.strSliceIndices lo hi 1 n=sliceRange (Own.cutAt n 0 lo:Int) (Own.cutAt n n hi:Int) 1:=by unfold PySem.Builtin.Str.strSliceIndices;rw[←e1,←e2];cases lo<;>cases hi<;>rfl
 rw[e3];unfold sliceRange;have e4:(if(1:Int) > 0 then(if(Own.cutAt n 0 lo:Int)<(Own.cutAt n n hi:Int)then((Own.cutAt n n hi:Int) - (Own.cutAt n 0 lo:Int)+1 - 1) / 1 else 0)else(if(Own.cutAt n 0 lo:Int) > (Own.cutAt n n hi:Int)then((Own.cutAt n 0 lo:Int) - (Own.cutAt n n hi:Int) - 1 - 1) / (-1)else 0)).toNat=Own.cutAt n n hi - Own.cutAt n 0 lo:=by rw[if_pos (by decide),Int.ediv_one];split<;>omega
 show(List.range (Int.toNat (if(1:Int) > 0 then _ else _))).map _=_;rw[e4];refine List.map_congr_left fun k _=>?_;omega
theorem BN(s:String)(lo hi:Option Int):NR (Str.ofString s) lo hi=Str.ofString (String.ofList (Own.cut s.toList lo hi)):=by
 have hl:(Str.ofString s).length=s.toList.length:=by rw[Zu,String.length_toList]
 have ha:=JZ s.toList.length 0 (Nat.zero_le _) lo;have hb:=JZ s.toList.length s.toList.length (zG _) hi;have e:=Fp s.toList.length lo hi;rw[←hl]at e;unfold NR;rw[e];simp only[hl];have ec:(Str.ofString s).cps.toList=s.toList.map Char.toNat:=by rw[Str.ofString_eq_toList]
 split
 ·rename_i z;rw[qA,List.length_range]at z;have e0:Own.cutAt s.toList.length 0 lo=0∨s.toList.length=0:=by omega
  have e5:Own.cut s.toList lo hi=s.toList:=by
   unfold Own.cut;rw[z];rcases e0 with e0|e0
   ·rw[e0,List.drop_zero,zA]
   ·have:s.toList=[]:=List.length_eq_zero_iff.mp e0;rw[this];simp
  rw[e5,String.ofList_toList]
 ·rw[Str.ofString_eq_toList (String.ofList _),String.toList_ofList];congr 2;have e3:(fun i:Nat=>(Str.ofString s).cps[i]?)=fun i:Nat=>(s.toList.map Char.toNat)[i]?:=by
   funext i;rw[←ec];simp
  rw[e3];by_cases hab:Own.cutAt s.toList.length 0 lo≤Own.cutAt s.toList.length s.toList.length hi
  ·rw[PySem.StrLaws.picks _ _ _ (by rw[qA];omega)];unfold Own.cut;rw[List.map_take,List.map_drop]
  ·have:Own.cutAt s.toList.length s.toList.length hi - Own.cutAt s.toList.length 0 lo=0:=by omega
   unfold Own.cut;rw[this];simp
theorem Gb:G9 i (Hm i.K):=by
 intro v lo hi G H x Q Qm g r w c;cases v with
 |tup xs =>
  simp only[Own.slcV]at w;split at w
  ·simp at w
  ·rename_i hn;rw[Own.Rs.wp_val]at w;cases r with
   |@tup _ a vs hp hr =>refine .inr (.inl ⟨a,vs,rfl,Zl hp,by rw[←JV,←JV,←hr.length];exact hn,fun p hp'=>?_⟩);have k:=Keep.new (o:=.tup (WT vs lo hi)) hp';refine c _ G _ _ k (g.hid k fun b o e=>upd_ne ?_) (.tup (.inl upd_same) (Kn (hr.keep k) lo hi)) w;rintro rfl;rw[g.free hp']at e;cases e
 |ref a =>
  cases r.ref_inv;simp only[Own.slcV]at w;cases z:Own.lsOf (G a)with
  |none=>rw[z]at w;simp at w
  |some xs =>rw[z]at w;rw[Own.Rs.wp_new]at w;obtain⟨vs,h1,h2⟩:=Zy g z;exact .inl ⟨a,vs,rfl,h1,ZR g w c fun p hp=>⟨_,upd_same,Kn (h2.keep (Keep.new hp)) lo hi⟩⟩
 |scr ns =>
  simp only[Own.slcV,Own.Rs.wp_new]at w;cases r with
  |scr h=>exact .inl ⟨_,_,rfl,Z1 h,ZR g w c fun p hp=>⟨_,upd_same,Kn (RVs.ints ns) lo hi⟩⟩
 |str s =>
  cases r.str_inv;simp only[Own.slcV]at w;split at w
  ·rename_i hl;rw[Own.Rs.wp_val]at w;refine .inr (.inr ⟨_,rfl,by rw[Zu];exact zE hl (by decide),?_⟩);rw[BN];exact c _ G H _ (Keep.refl H) g (.str _) w
  ·simp at w
 |_=>simp[Own.slcV]at w
theorem RVs.app1{K:PySem.W.Frag}{H:Hp}{vs:List Own.Val}{xs:List V}{v:Own.Val}{x:V}(r:RVs K H vs xs)(q:RV K H v x):RVs K H (vs++[v]) (xs++[x]):=r.append (.cons q .nil)
theorem FS{es:List Expr}{ms:Own.Es}{k n:Nat}{pos:Pos}(hn:n≤1000)(h:PA X es (tAr X i Φ ms n)):PE X (.Tuple es k pos) (tE X i Φ (.tup ms)) :=
 (D4 h).imp fun σ H Q ⟨env,G,Qm,Em,p,w,c⟩=>by rw[Own.q_e_tup]at w;refine⟨env,G,_,Em,p,w,fun vs G1 H1 xs k1 g1 r1 hl w1=>⟨by rw[hl];exact zE hn (by decide),fun a ha=>?_⟩⟩;have k:=Keep.new (o:=.tup xs) ha;refine c _ G1 _ _ (k1.trans k) (g1.hid k fun b o e=>upd_ne ?_) (.tup (.inl upd_same) (r1.keep k)) w1;rintro rfl;rw[g1.free ha]at e;cases e
theorem GQ{es:List Expr}{ms:Own.Es}{n:Nat}{pos:Pos}(hn:n≤1000)(h:PA X es (tAr X i Φ ms n)):PE X (.List es pos) (tE X i Φ (.lst ms)) :=
 (D0 h).imp fun σ H Q ⟨env,G,Qm,Em,p,w,c⟩=>by rw[Own.q_e_lst]at w;refine⟨env,G,_,Em,p,w,fun vs G1 H1 xs k1 g1 r1 hl w1=>⟨by rw[hl];exact zE hn (by decide),ZR g1 w1 (c.go k1) fun a ha=>?_⟩⟩;exact⟨xs,upd_same,r1.keep (Keep.new ha)⟩
def BiOk (i:Inf) (f:Own.Bi) (r:List V→Hp→VK→Prop):Prop:=∀ (vs:List Own.Val) (G:Own.Hs) (H:Hp) (xs:List V) (Q:VK) (Qm:Own.Q1),RH i G H→RVs i.K H vs xs→(Own.biV G f vs).wp G Qm→Cn i H Q Qm→r xs H Q
theorem Yw{f:Own.Bi}{r:List V→Hp→VK→Prop}{ms:Own.Es}{n:Nat}(hr:BiOk i f r):∀ σ H Q,tE X i Φ (.bi f ms) σ H Q→tCB r (tAr X i Φ ms n) σ H Q:=fun σ H Q ⟨env,G,Qm,Em,p,w,c⟩=>by rw[Own.q_e_bi]at w;exact⟨env,G,_,Em,p,w,fun vs G1 H1 xs k1 g1 r1 _ w1=>hr vs G1 H1 xs Q Qm g1 r1 w1 (c.go k1)⟩
theorem RVs.inv1{K:PySem.W.Frag}{H:Hp}{v:Own.Val}{xs:List V}(r:RVs K H [v] xs):∃ x,xs=[x]∧RV K H v x:=by cases r with|cons a t=>cases t;exact⟨_,rfl,a⟩
theorem RVs.inv2{K:PySem.W.Frag}{H:Hp}{v u:Own.Val}{xs:List V}(r:RVs K H [v,u] xs):∃ x y,xs=[x,y]∧RV K H v x∧RV K H u y:=by cases r with|cons a t=>cases t with|cons b t=>cases t;exact⟨_,_,rfl,a,b⟩
theorem Wu(s:String):(Str.ofString s).cps.toList=s.toList.map Char.toNat:=by rw[Str.ofString_eq_toList]
theorem Mw:∀ (l:List Char) (a:Nat),(l.map Char.toNat).foldl (fun acc c=>acc*10+(c - 48)) a=l.foldl (fun a c=>10*a+(c.toNat - 48)) a
 |[],_=>rfl
 |c::l,a=>by rw[qG,List.foldl_cons,List.foldl_cons,Mw l,Nat.mul_comm a 10]
theorem Bg{s:String}(h1:s.toList≠[])(h2:s.toList.all Own.figB=true)(h3:s.length≤640):PySem.intText? (Str.ofString s)=some ((Own.decN s.toList:Nat):Int):=by
 have hc:=Wu s;rw[intText_digits (x:=Str.ofString s)]
 ·rw[hc];unfold NumText.digitsVal Own.decN;rw[Mw]
 ·rw[hc];intro c hm;obtain⟨d,hd,rfl⟩:=qZ.mp hm;have:=List.all_eq_true.mp h2 d hd;unfold Own.figB at this;simpa using this
 ·rw[hc];simpa using h1
 ·rw[Zu];omega
theorem Yt{f:Own.Val→Own.Rs}{vs:List Own.Val}{h:Own.Hs}{Q:Own.Q1}(w:(Own.biOf1 f vs).wp h Q):∃ v,vs=[v]∧(f v).wp h Q:=by
 cases vs with
 |nil=>exact(Zf w).elim
 |cons v vs=>cases vs with
  |nil=>exact⟨v,rfl,w⟩
  |cons _ _=>exact(Zf w).elim
theorem OV{f:Own.Val→Own.Val→Own.Rs}{vs:List Own.Val}{h:Own.Hs}{Q:Own.Q1}(w:(Own.biOf2 f vs).wp h Q):∃ v u,vs=[v,u]∧(f v u).wp h Q:=by
 cases vs with
 |nil=>exact(Zf w).elim
 |cons v vs=>cases vs with
  |nil=>exact(Zf w).elim
  |cons u us=>cases us with
   |nil=>exact⟨v,u,rfl,w⟩
   |cons _ _=>exact(Zf w).elim
theorem BiOk.imp{f:Own.Bi}{r r':List V→Hp→VK→Prop}(h:BiOk i f r)(k:∀ xs H Q,r xs H Q→r' xs H Q):BiOk i f r':=fun vs G H xs Q Qm g rv w c=>k _ _ _ (h vs G H xs Q Qm g rv w c)
theorem Eo:BiOk i .int (fun xs H Q=>((∃ i,xs=[.int i]∧Q (.int i) H)∨∃ k,xs=[.bl k]∧Q (.int (if k then 1 else 0)) H)∨∃ z n,xs=[.str z]∧PySem.intText? z=some n∧z.length≤640∧Q (.int n) H):=by
 intro vs G H xs Q Qm g r w c;obtain⟨v,rfl,w⟩:=Yt w;obtain⟨x,rfl,rx⟩:=r.inv1;cases v with
 |int k=>cases rx.int_inv;exact .inl (.inl ⟨k,rfl,c _ G H _ (Keep.refl H) g (.int _) (Zo w)⟩)
 |bl k=>cases rx.bl_inv;exact .inl (.inr ⟨k,rfl,c _ G H _ (Keep.refl H) g (.int _) (Zo w)⟩)
 |str s =>cases rx.str_inv;obtain⟨hl,w⟩:=Yy w;exact .inr ⟨_,_,rfl,Bg hl.2.1 hl.2.2 hl.1,by rw[Zu];exact hl.1,c _ G H _ (Keep.refl H) g (.int _) (Zo w)⟩
 |_=>exact(Zf w).elim
theorem B6:BiOk i .max2 (fun xs H Q=>∃ i j,xs=[.int i,.int j]∧Q (.int (if j > i then j else i)) H):=by intro vs G H xs Q Qm g r w c;obtain⟨v,u,rfl,w⟩:=OV w;obtain⟨a,b,rfl,rfl,w⟩:=YZ w;obtain⟨x,y,rfl,rx,ry⟩:=r.inv2;cases rx.int_inv;cases ry.int_inv;exact⟨a,b,rfl,c _ G H _ (Keep.refl H) g (.int _) (Zo w)⟩
noncomputable def Hy (o:Option Own.Ob) (f:List Own.Val→Own.Rs):Own.Rs:=match o with
 |some (.lst xs)=>f xs
 |_=>.no
theorem Kg{o:Option Own.Ob}{f:List Own.Val→Own.Rs}{h:Own.Hs}{Q:Own.Q1}(w:(Hy o f).wp h Q):∃ xs,o=some (.lst xs)∧(f xs).wp h Q:=by
 cases o with
 |none=>exact(Zf w).elim
 |some o=>cases o with
  |lst xs=>exact⟨xs,rfl,w⟩
  |_=>exact(Zf w).elim
theorem AB{G:Own.Hs}{H:Hp}{Q:VK}{Qm:Own.Q1}{ys:List Own.Val}{us:List V}(g:RH i G H)(r:RVs i.K H ys us)(w:Qm (.tup ys) G)(c:Cn i H Q Qm):∀ l,H l=none→Q (.ref l) (upd H l (.tup us)):=fun l hl=>by have k:=Keep.new (o:=.tup us) hl;refine c _ G _ _ k (g.hid k fun b o e=>upd_ne ?_) (.tup (.inl upd_same) (r.keep k)) w;rintro rfl;rw[g.free hl]at e;cases e
theorem O4:BiOk i .tuple (fun xs H Q=>∃ p ys,xs=[.ref p]∧((SqL i.K H p ys∧∀ l,H l=none→Q (.ref l) (upd H l (.tup ys)))∨(SqT i.K H p ys∧Q (.ref p) H))):=by
 intro vs G H xs Q Qm g r w c;obtain⟨v,rfl,w⟩:=Yt w;obtain⟨x,rfl,rx⟩:=r.inv1;cases v with
 |ref a =>cases rx.ref_inv;obtain⟨ys,e,w⟩:=Kg (f:=fun xs=>.val (.tup xs)) w;obtain⟨us,h1,h2⟩:=g a _ e;exact⟨a,us,rfl,.inl ⟨SqL.of h1,AB g h2 (Zo w) c⟩⟩
 |tup ys =>
  cases rx with
  |tup hp hr=>exact⟨_,_,rfl,.inr ⟨Zl hp,c _ G H _ (Keep.refl H) g (.tup hp hr) (Zo w)⟩⟩
 |_=>exact(Zf w).elim
noncomputable def kinds:List String:=["int","bool","str","list","tuple","dict"]
theorem Au (K:PySem.W.Frag):∀ t∈["NoneType","bool","int","str","tuple","list","dict"],∀ T∈kinds,PySem.W.kitOne K (.type t) (.type T)=some (t==T||(t == "bool" && T == "int")):=by intro t ht T hT;simp only[kinds,qE,List.not_mem_nil,or_false]at ht hT;rcases ht with rfl|rfl|rfl|rfl|rfl|rfl|rfl<;>rcases hT with rfl|rfl|rfl|rfl|rfl|rfl<;>rfl
theorem Nj {G:Own.Hs}{H:Hp}(g:RH i G H){v:Own.Val}{x:V}{t:String}(r:RV i.K H v x) (e:Own.kindV G v=some t):TyV i.K H x (.type t)∧t∈["NoneType","bool","int","str","tuple","list","dict"]:=by
 cases v with
 |non=>cases r;cases e;exact⟨.of .non,by simp⟩
 |bl b=>cases r;cases e;exact⟨.of (.bl b),by simp⟩
 |int b=>cases r;cases e;exact⟨.of (.int b),by simp⟩
 |str b=>cases r;cases e;exact⟨.of (.str _),by simp⟩
 |tup xs=>cases e;cases r with|tup hp hr=>exact⟨.tup (Zl hp),by simp⟩
 |scr ns=>cases e;cases r with|scr h=>exact⟨.lst (Z1 h),by simp⟩
 |ref a =>
  cases r.ref_inv;simp only[Own.kindV]at e;cases q:G a with
  |none=>rw[q]at e;cases e
  |some o =>
   rw[q]at e;cases o with
   |lst xs=>cases e;obtain⟨vs,h1,_⟩:=g a _ q;exact⟨.lst (SqL.of h1),by simp⟩
   |dct kvs=>cases e;obtain⟨ps,h1,_⟩:=g a _ q;exact⟨.of (.dK h1),by simp⟩
   |ins C fs=>cases e
   |exc C=>cases e
   |frz _=>cases e
   |dtp _=>cases e
 |key _ _=>cases e
theorem Go {e:Expr}{m:Own.E}{T:String}{p p2 pos:Pos}(hT:T∈kinds) (he:PE X e (tE X i Φ m)) (hk:X.K=i.K) (hg:Gl X "isinstance") (hm:X.mg "isinstance" = none) (hg2:Gl X (Str.ofString T)) (hm2:X.mg (Str.ofString T)=none)
  (hv2:bootBuiltins (Str.ofString T)=some (.type T)) (hn2:Str.ofString T≠"__name__") (hd2:(Str.ofString T==("__debug__" : Str))=false) (hst:starEach [e,.Name (Str.ofString T) p2] X.env=(false,eval e X.env)::starEach [.Name (Str.ofString T) p2] X.env) :
  PE X (.Call (.Name "isinstance" p) [e,.Name (Str.ofString T) p2] [] pos) (tE X i Φ (.bi (.isi [T]) (.cons m .nil))):=by
 refine(Z3 UX hg hm (by kernel_rfl) (ZV he (ZV (F5 (T:=T) hg2 hm2 hv2 hn2 hd2) pa_nil) hst) (he:=hst)).imp fun σ H Q ⟨env,G,Qm,Em,p,w,c⟩=>?_;rw[Own.q_e_bi,Own.q_a_cons]at w;refine one p w fun v G1 H1 x k1 p1 r q=>?_;rw[Own.q_a_nil]at q
 replace q:(Own.Rs.ofO (((Own.isiV G1 v T).bind fun b=>(Own.isiAny G1 v []).map (b || ·)).map .bl)).wp G1 Qm:=q
 simp only[Own.isiAny,Own.isiV]at q;cases z:Own.kindV G1 v with
 |none=>rw[z]at q;simp[Own.Rs.ofO]at q
 |some t =>rw[z]at q;simp only[Option.map_some,Option.bind_some,Own.Rs.ofO,Own.Rs.wp_val,Bool.or_false]at q;obtain⟨h1,h2⟩:=Nj p1.hp r z;refine⟨x,T,.type t,_,rfl,by rw[hk];exact h1,by rw[hk];exact Au _ t h2 T hT,c _ G1 H1 _ k1 p1.hp (.bl _) q⟩
theorem Kx{o:Option Own.Ob}(h:Own.isLst o=true):∃ xs,o=some (.lst xs):=by
 cases o with
 |none=>cases h
 |some o=>cases o with
  |lst xs=>exact⟨xs,rfl⟩
  |_=>cases h
theorem O3{G:Own.Hs}{a:Addr}{f:Own.Ad→List Own.Val→Option (Own.Val×Own.Hs)}{t:Own.Val×Own.Hs}(e:Own.bmL G (.ref a) f=some t):∃ xs,G a=some (.lst xs)∧f a xs=some t:=by obtain⟨xs,h1,h2⟩:=q9.mp (show(Own.lsOf (G a)).bind (f a)=some t from e);exact⟨xs,N8 h1,h2⟩
theorem Nc{G:Own.Hs}{H:Hp}{a:Addr}{xs:List Own.Val}{vs:List V}(g:RH i G H)(h:H a=some (.lst vs))(ys:List Own.Val)(us:List V)(r:RVs i.K H ys us):Keep H (upd H a (.lst us))∧RH i (Own.upd G a (.lst ys)) (upd H a (.lst us)):=by
 have k:Keep H (upd H a (.lst us)):=Keep.put (fun xs e=>by rw[h]at e;cases e) fun p u e=>by rw[h]at e;cases e
 exact⟨k,g.put k ⟨us,upd_same,r.keep k⟩⟩
noncomputable def spF (i:Inf) (P:Own.Pg) (n:Nat) (f:String):Sp:=fun vs H Q E=>∃ args G Qm Em,RVs i.K H args vs∧RH i G H∧Own.wF P n f args G Qm Em∧Cn i H Q Qm∧∀ cls d H',XK1 i H Em cls d H'→E cls d H'
def Dfo (pr:Program) (w:World) (mg:Str→Option Value) (base:Heap) (i:Inf) (P:Own.Pg) (n:Nat) (f:String):Prop :=
 ∃ fa fd ps,FnOk pr w i.K mg base (CX1 pr w) (2*n) fa fd ps (spF i P n f)∧mg (Str.ofString f)=some (.ref fa)∧PySem.W.keepIn i.K (.ref fa)=true∧Binds i.K fd ps []
theorem EZ {P:Own.Pg}{n k:Nat}{f:String}{e:Expr}{es:List Expr}{ms:Own.Es}{p pos:Pos}(hK:X.K=i.K) (D:Dfo X.prog X.w X.mg X.base i P n f) (hr:Room (2*n) X.A) (hg:Gl X (Str.ofString f)) (hdb:(Str.ofString f==("__debug__" : Str))=false)
  (ha:PA X (e::es) (tAr X i (Own.wF P n) ms k)) (he:starEach (e::es) X.env=(false,eval e X.env)::starEach es X.env) (hpl:(backTo pos (starEach es X.env)).any (·.1)=false) :
  PE X (.Call (.Name (Str.ofString f) p) (e::es) [] pos) (tE X i (Own.wF P n) (.call f ms)):=by
 obtain⟨fa,fd,ps,F,hm,hk,hb⟩:=D;rw[←hK]at F hk hb;intro pins s σ H Q I h;obtain⟨env,G,Qm,Em,pr,w,c⟩:=h;rw[Own.q_e_call]at w;refine Be (E:=XK1 i H Em) F hr hg hm hk hb .nil (XW.passes pr.xo) ha hdb he hpl pins s σ H Q I ⟨env,G,_,Em,pr,w,fun vs G1 H1 xs k1 g1 r1 hl w1=>?_⟩;exact⟨vs,G1,Qm,Em,by rw[zB];exact r1,g1,w1,c.go k1,fun cls d H' h=>h.go k1⟩
noncomputable def XKS (i:Inf) (H:Hp) (Xe:Own.EQ):XK:=fun cls _ H'=>∃ e c G' ad,cls=.ref ad∧i.xc c ad∧Keep H H'∧RH i G' H'∧Xe e c G'
structure PreS (X:Cx) (i:Inf) (σ:St) (H:Hp) (env:Own.Env) (G:Own.Hs) (Xe:Own.EQ):Prop where
 en:REn i.K H env σ
 hp:RH i G H
 xo:XW X (XKS i H Xe)
theorem PreS.go{σ σ1:St}{H H1:Hp}{env env1:Own.Env}{G G1:Own.Hs}{Xe:Own.EQ}(p:PreS X i σ H env G Xe)(k:Keep H H1)(r:RH i G1 H1)(e:REn i.K H1 env1 σ1):PreS X i σ1 H1 env1 G1 Xe :=
 ⟨e,r,fun pins σ H0 s H' a cls s' I f ⟨e,c,G',ad,q1,q2,q3,q4⟩=>p.xo pins σ H0 s H' a cls s' I f ⟨e,c,G',ad,q1,q2,k.trans q3,q4⟩⟩
theorem PreS.pre{σ:St}{H:Hp}{env:Own.Env}{G:Own.Hs}{Xe:Own.EQ}(p:PreS X i σ H env G Xe):Pre X i σ H env G (Xe env) :=
 ⟨p.en,p.hp,fun pins σ H0 s H' a cls s' I f ⟨c,G',ad,q1,q2,q3,q4⟩=>p.xo pins σ H0 s H' a cls s' I f ⟨env,c,G',ad,q1,q2,q3,q4⟩⟩
structure EOk (i:Inf) (H:Hp) (D:Ends) (N:Own.NQ) (R:Own.Q1) (B C:Own.NQ):Prop where
 nx:∀ env' σ' G' H',Keep H H'→RH i G' H'→REn i.K H' env' σ'→N env' G'→D.nx σ' H'
 rt:∀ v G' H' x,Keep H H'→RH i G' H'→RV i.K H' v x→R v G'→D.rt x H'
 bk:∀ env' σ' G' H',Keep H H'→RH i G' H'→REn i.K H' env' σ'→B env' G'→D.bk σ' H'
 ct:∀ env' σ' G' H',Keep H H'→RH i G' H'→REn i.K H' env' σ'→C env' G'→D.ct σ' H'
theorem EOk.go{H H1:Hp}{D:Ends}{N:Own.NQ}{R:Own.Q1}{B C:Own.NQ}(e:EOk i H D N R B C)(k:Keep H H1):EOk i H1 D N R B C :=
 ⟨fun a b c d k'=>e.nx a b c d (k.trans k'),fun a b c d k'=>e.rt a b c d (k.trans k'),fun a b c d k'=>e.bk a b c d (k.trans k'),fun a b c d k'=>e.ct a b c d (k.trans k')⟩
noncomputable def tSt (X:Cx) (i:Inf) (Φ:Own.Fs) (m:Own.S):TS:=fun D σ H=>∃ env G N R B C Xe,PreS X i σ H env G Xe∧Own.wS Φ m env G N R B C Xe∧EOk i H D N R B C
noncomputable def tBl (X:Cx) (i:Inf) (Φ:Own.Fs) (m:Own.Ss):TS:=fun D σ H=>∃ env G N R B C Xe,PreS X i σ H env G Xe∧Own.wSs Φ m env G N R B C Xe∧EOk i H D N R B C
theorem _root_.L2.PS.imp{X:Cx}{st:Stmt}{t t':TS}(h:PS X st t)(f:∀ D σ H,t' D σ H→t D σ H):PS X st t':=fun pins s σ H D I q=>h pins s σ H D I (f D σ H q)
theorem _root_.L2.PSs.imp{X:Cx}{st:List Stmt}{t t':TS}(h:PSs X st t)(f:∀ D σ H,t' D σ H→t D σ H):PSs X st t':=fun pins s σ H D I q=>h pins s σ H D I (f D σ H q)
theorem Du:PSs X [] (tBl X i Φ .nil):=pss_nil.imp fun D σ H ⟨env,G,N,R,B,C,Xe,p,w,c⟩=>by rw[Own.q_ss_nil]at w;exact c.nx env σ G H (Keep.refl H) p.hp p.en w
theorem AI{st:Stmt}{sts:List Stmt}{m:Own.S}{ms:Own.Ss}(h1:PS X st (tSt X i Φ m))(h2:PSs X sts (tBl X i Φ ms)):PSs X (st::sts) (tBl X i Φ (.cons m ms)) :=
 (OT h1 h2).imp fun D σ H ⟨env,G,N,R,B,C,Xe,p,w,c⟩=>by rw[Own.q_ss_cons]at w;exact⟨env,G,_,R,B,C,Xe,p,w,⟨fun env' σ' G' H' k g e w'=>⟨env',G',N,R,B,C,Xe,p.go k g e,w',c.go k⟩,c.rt,c.bk,c.ct⟩⟩
theorem E2{e:Expr}{m:Own.E}{pos:Pos}(he:PE X e (tE X i Φ m)):PS X (.Return (some e) pos) (tSt X i Φ (.ret m)) :=
 (D6 he).imp fun D σ H ⟨env,G,N,R,B,C,Xe,p,w,c⟩=>by rw[Own.q_s_ret]at w;exact⟨env,G,R,Xe env,p.pre,w,c.rt⟩
theorem AM{e:Expr}{m:Own.E}{pos:Pos}(he:PE X e (tE X i Φ m))(hs:swapsWith e none pos.line X.env=pure false):PS X (.Expr e pos) (tSt X i Φ (.expr m)) :=
 (AU he hs).imp fun D σ H ⟨env,G,N,R,B,C,Xe,p,w,c⟩=>by rw[Own.q_s_expr]at w;exact⟨env,G,_,Xe env,p.pre,w,fun v G1 H1 x k1 g1 r1 w1=>c.nx env σ G1 H1 k1 g1 (p.en.keep k1) w1⟩
theorem Dl{t:Expr}{a b:List Stmt}{mt:Own.Tt}{ma mb:Own.Ss}{pos:Pos}(ht:PT X t (tTt X i Φ mt))(ha:PSs X a (tBl X i Φ ma))(hb:PSs X b (tBl X i Φ mb)):PS X (.If t a b pos) (tSt X i Φ (.ite mt ma mb)) :=
 (Gc ht ha hb).imp fun D σ H ⟨env,G,N,R,B,C,Xe,p,w,c⟩=>by
  rw[Own.q_s_ite]at w;refine⟨env,G,_,Xe env,p.pre,w,fun d G1 H1 k1 g1 q=>?_⟩;cases d with
  |true=>exact⟨env,G1,N,R,B,C,Xe,p.go k1 g1 (p.en.keep k1),by simpa using q,c.go k1⟩
  |false=>exact⟨env,G1,N,R,B,C,Xe,p.go k1 g1 (p.en.keep k1),by simpa using q,c.go k1⟩
noncomputable def gPt (i:Inf) (p:Own.Pt):TG:=fun x σ H Q=>∃ v env G env2,RV i.K H v x∧RH i G H∧REn i.K H env σ∧Own.bind p G v env=some env2∧∀ σ2,REn i.K H env2 σ2→Q σ2 H
theorem _root_.L2.PG.imp{X:Cx}{tg:Expr}{t t':TG}(h:PG X tg t)(f:∀ v σ H Q,t' v σ H Q→t v σ H Q):PG X tg t':=fun pins s σ H v u Q I r q=>h pins s σ H v u Q I r (f v σ H Q q)
theorem _root_.L2.PGs.imp{X:Cx}{tg:List Expr}{t t':TGs}(h:PGs X tg t)(f:∀ v σ H Q,t' v σ H Q→t v σ H Q):PGs X tg t':=fun pins s σ H v u Q I r q=>h pins s σ H v u Q I r (f v σ H Q q)
theorem K5{x:Str}{j:Nat}{pos:Pos}(hN:X.N.Nodup)(hi:X.N[j]?=some x)(hx:Loc X.env.scope x)(hf:X.fn x=true∨X.env.scope.names.lookup x=some .local):PG X (.Name x pos) (gPt i (.one j)) :=
 (MU hN hi hx hf).imp fun v σ H Q ⟨u,env,G,env2,r,g,e,b,h⟩=>by cases b;exact h _ (e.set r j)
noncomputable def OX (i:Inf) (js:List Nat):TGs:=fun xs σ H Q=>∃ vs env env2,RVs i.K H vs xs∧REn i.K H env σ∧Own.bindL js vs env=some env2∧∀ σ2,REn i.K H env2 σ2→Q σ2 H
theorem BP:PGs X [] (OX i []):=pgs_nil.imp fun xs σ H Q ⟨vs,env,env2,r,e,b,h⟩=>by
 cases vs with
 |nil=>cases r;cases b;exact⟨rfl,h _ e⟩
 |cons _ _=>cases b
theorem Ut{x:Str}{j:Nat}{js:List Nat}{es:List Expr}{pos:Pos}(hN:X.N.Nodup)(hi:X.N[j]?=some x)(hx:Loc X.env.scope x)(hf:X.fn x=true∨X.env.scope.names.lookup x=some .local)(h2:PGs X es (OX i js))
  (hs:(assignEach (.Name x pos::es) X.env).map (·.2)=assign (.Name x pos) X.env::(assignEach es X.env).map (·.2)):PGs X (.Name x pos::es) (OX i (j::js)) :=
 (XU (MU hN hi hx hf) h2 hs).imp fun xs σ H Q ⟨vs,env,env2,r,e,b,h⟩=>by
  cases vs with
  |nil=>cases b
  |cons v vs =>
   cases r with
   |cons r t=>exact⟨_,_,rfl,vs,env.set j (some v),env2,t,e.set r j,b,h⟩
theorem Wo:∀ {js:List Nat}{vs:List Own.Val}{env env2:Own.Env},Own.bindL js vs env=some env2→vs.length=js.length
 |[],[],_,_,_=>rfl
 |j::js,v::vs,env,_,h=>by rw[qB,qB,Wo (show Own.bindL js vs (env.set j (some v))=_ from h)]
 |[],_::_,_,_,h=>by cases h
 |_::_,[],_,_,h=>by cases h
theorem MQ{es:List Expr}{js:List Nat}{k:Nat}{pos:Pos}(hK:X.K=i.K)(hc:X.calm=true)(h:PGs X es (OX i js))(hn:(assignEach es X.env).length=js.length)(hst:(assignEach es X.env).findIdx? (·.1)=none):PG X (.Tuple es k pos) (gPt i (.many js)) :=
 (Ur (n:=js.length) hc h hn hst).imp fun v σ H Q ⟨u,env,G,env2,r,g,e,b,h⟩=>by
  cases u with
  |tup vs =>
   have b:Own.bindL js vs env=some env2:=b;cases r with
   |tup hp hr=>exact⟨_,_,rfl,by rw[hK];exact Zl hp,by rw[←hr.length];exact Wo b,vs,env,env2,hr,e,b,h⟩
  |_=>cases b
theorem B2{x:Str}{es:List Expr}{j:Nat}{js:List Nat}{k k2:Nat}{p1 p2 pos:Pos}(hK:X.K=i.K)(hc:X.calm=true)(h1:PG X (.Name x p1) (gPt i (.one j)))(h2:PG X (.Tuple es k2 p2) (gPt i (.many js))):PG X (.Tuple [.Name x p1,.Tuple es k2 p2] k pos) (gPt i (.nest j js)) :=
 (Ur (n:=2) hc (XU h1 (XU h2 pgs_nil rfl) rfl) rfl rfl).imp fun v σ H Q ⟨u,env,G,env2,r,g,e,b,h⟩=>by
  cases u with
  |tup vs =>
   cases vs with
   |nil=>cases b
   |cons x0 vs=>cases vs with
    |nil=>cases b
    |cons y vs=>cases vs with
     |cons _ _=>cases b
     |nil =>
      have b:(Own.tupOf y).bind (fun ys=>Own.bindL js ys (env.set j (some x0)))=some env2:=b;cases r with
      |tup hp hr =>
       cases hr with
       |cons r0 t=>cases t with
        |cons r1 t =>cases t;exact⟨_,_,rfl,by rw[hK];exact Zl hp,rfl,_,_,rfl,x0,env,G,_,r0,g,e,rfl,fun σ2 e2=>⟨_,_,rfl,y,_,G,env2,r1,g,e2,b,fun σ3 e3=>⟨rfl,h σ3 e3⟩⟩⟩
  |_=>cases b
theorem CT{tg e:Expr}{m:Own.E}{q:Own.Pt}{pos:Pos}(he:PE X e (tE X i Φ m))(hg:PG X tg (gPt i q))(hs:swapsWithSole [tg] e pos.line X.env=pure false)(hw:swappedStores [tg] e X.env=pure none)
  (h1:(assignEach [tg] X.env).map (·.2)=[assign tg X.env]):PS X (.Assign [tg] e pos) (tSt X i Φ (.set q m)) :=
 (O8 he hg hs hw h1).imp fun D σ H ⟨env,G,N,R,B,C,Xe,p,w,c⟩=>by rw[Own.q_s_set]at w;refine⟨env,G,_,Xe env,p.pre,w,fun v G1 H1 x k1 g1 r1 w1=>?_⟩;obtain⟨env2,e2,w1⟩:=go_some w1;exact⟨v,env,G1,env2,r1,g1,p.en.keep k1,e2,fun σ2 h2=>c.nx env2 σ2 G1 H1 k1 g1 h2 w1⟩
def Cs:V→V→V→Hp→(Hp→Prop)→Prop:=fun o y v H Q=>Ce o y v H Q∨Cm o y v H Q
theorem CU{G G3:Own.Hs}{H:Hp}{o k v:Own.Val}{y z x:V}{Q:Hp→Prop}(g:RH i G H)(ry:RV i.K H o y)(rz:RV i.K H k z)(rx:RV i.K H v x)(e:Own.putV G o k v=some G3)(c:∀ H3,Keep H H3→RH i G3 H3→Q H3):Cs y z x H Q:=by
 cases o with
 |ref b =>
  cases ry.ref_inv
  replace e:(match G b with|some (.lst xs)=>(Own.asInt k).bind fun n=>(Own.ixN xs.length n).map fun j=>Own.upd G b (.lst (xs.set j v))|some (.dct kvs)=>if Own.isKey k∧kvs.length<Own.lim then some (Own.upd G b (.dct (Own.putK kvs k v)))else none|some (.dtp kvs)=>if Own.isKeyT k∧kvs.length<Own.lim then some (Own.upd G b (.dtp (Own.putK kvs k v)))else none|_=>none)=some G3:=e
  cases z4:G b with
  |none=>rw[z4]at e;cases e
  |some o =>
   rw[z4]at e;cases o with
   |lst xs =>obtain⟨n,hn,e⟩:=q9.mp e;obtain⟨jj,hj,rfl⟩:=qD.mp e;cases ZJ hn;cases rz.int_inv;obtain⟨vs,h2,r2⟩:=g b _ z4;rw[Kv,r2.length]at hj;obtain⟨k3,g3⟩:=Nc (xs:=xs) g h2 (xs.set jj v) (vs.set jj x) (r2.set rx jj);exact .inl ⟨b,vs,n,jj,rfl,rfl,h2,hj,c _ k3 g3⟩
   |dct kvs =>obtain⟨hk,e⟩:=ZM (show(if Own.isKey k∧kvs.length<Own.lim then some (Own.upd G b (.dct (Own.putK kvs k v)))else none)=some G3 from e);cases e;obtain⟨ps,h2,r2⟩:=g b _ z4;obtain⟨d,kr,rfl⟩:=key_of hk.1 rz;obtain⟨k3,g3⟩:=A5 (kvs:=kvs) g h2 (r2.put kr rx);exact .inr ⟨b,_,rfl,DPut.k h2 (by rw[←RKs.length r2];exact qR hk.2 ZO),c _ k3 g3⟩
   |dtp kvs =>obtain⟨hk,e⟩:=ZM (show(if Own.isKeyT k∧kvs.length<Own.lim then some (Own.upd G b (.dtp (Own.putK kvs k v)))else none)=some G3 from e);cases e;obtain⟨ps,h2,r2⟩:=g b _ z4;obtain⟨a1,a2,d,rfl,rfl,hd⟩:=Jj hk.1 rz;obtain⟨k3,g3⟩:=Bc g h2 (r2.put (i:=a1) (j:=a2) rx);exact .inr ⟨b,_,rfl,DPut.t h2 hd (by rw[←RTs.length r2];exact qR hk.2 ZO),c _ k3 g3⟩
   |_=>cases e
 |_=>cases e
theorem NB{a j e:Expr}{ma mj m:Own.E}{spos pos:Pos}(hK:X.K=i.K)(he:PE X e (tE X i Φ m))(ha:PE X a (tE X i Φ ma))(hj:PE X j (tE X i Φ mj))(hgl:PG X (.Subscript a j spos) (HJ (tE X i Φ ma) (tE X i Φ mj) Cs))(hs:swapsWithSole [.Subscript a j spos] e pos.line X.env=pure false)(hw:swappedStores [.Subscript a j spos] e X.env=pure none)
  (h1:(assignEach [.Subscript a j spos] X.env).map (·.2)=[assign (.Subscript a j spos) X.env]):PS X (.Assign [.Subscript a j spos] e pos) (tSt X i Φ (.setIdx ma mj m)) :=
 (O8 he hgl hs hw h1).imp fun D σ H ⟨env,G,N,R,B,C,Xe,p,w,c⟩=>by rw[Own.q_s_setIdx]at w;refine⟨env,G,_,Xe env,p.pre,w,fun v G1 H1 x k1 g1 r1 w1=>?_⟩;refine two (p.go k1 g1 (p.en.keep k1)).pre w1 fun o k G2 H2 y z k2 p2 ry rz q=>?_;obtain⟨G3,e3,q⟩:=go_some q;exact CU p2.hp ry rz (r1.keep k2) e3 fun H3 k3 g3=>c.nx env σ _ _ ((k1.trans k2).trans k3) g3 (p2.en.keep k3) q
structure ItOk (i:Inf) (H0:Hp) (J:It) (st:Own.Hs→Prop) (xs:List Own.Val):Prop where
 go:∀ n G H v,Keep H0 H→RH i G H→st G→xs[n]?=some v→J.go n H∧∀ x H',J.yld n H x H'→Keep H H'∧RH i G H'∧RV i.K H' v x
 stop:∀ n G H,Keep H0 H→RH i G H→st G→xs.length≤n→J.stop n H
noncomputable def tIt (X:Cx) (i:Inf) (Φ:Own.Fs) (m:Own.It):TI:=fun σ H R=>∃ env G QI Em,Pre X i σ H env G Em∧Own.wI Φ m env G QI Em∧∀ st xs G' H' J,Keep H H'→RH i G' H'→ItOk i H' J st xs→QI st xs G'→R J H'
theorem _root_.L2.PI.imp{X:Cx}{tg e:Expr}{t t':TI}(h:PI X tg e t)(f:∀ σ H Q,t' σ H Q→t σ H Q):PI X tg e t':=fun pins s σ H Q I q=>h pins s σ H Q I (f σ H Q q)
noncomputable def Ld (K:PySem.W.Frag) (tl:TE):TI:=fun σ H R=>tl σ H fun x H1=>∃ a,x=.ref a∧(((∃ xs,SqL K H1 a xs)∧R (Itl K a) H1)∨((∃ xs,SqT K H1 a xs)∧R (Itt K a) H1))
theorem EU{tg l:Expr}{tl:TE}(hl:PE X l tl):PI X tg l (Ld X.K tl):=by
 intro pins s σ H R I h;refine thn (hl pins s σ H _ I h) fun v s1 ⟨x,H1,I1,r1,q1⟩=>?_;obtain⟨a,e,q1⟩:=q1;subst e;cases r1;rcases q1 with⟨⟨xs,hq⟩,q⟩|⟨⟨xs,hq⟩,q⟩
 ·obtain⟨its,rv,p,hz⟩:=I1.list hq;refine wpAny_pyIter_list p.isList ?_;refine⟨s1.heap.objs.size,[s1.heap.objs.size],_,_,H1,rfl,I1.kept (t':=s1.toks) fun b o e=>Heap.get?_push_of_some _ e,NE a _,⟨_,Heap.get?_push_size _ rfl,rfl,rfl⟩,fun b hb=>?_,q⟩;have e:b=s1.heap.objs.size:=by simpa using hb
  subst e;exact I1.fpOk (zG _) (I1.hok.fresh (zG _))
 ·obtain⟨its,rv,p,hz⟩:=I1.tuple hq;refine wpAny_pyIter_tuple (show s1.heap.IsTuple a its.toArray from p) ?_;refine⟨s1.heap.objs.size,[s1.heap.objs.size],_,_,H1,rfl,I1.kept (t':=s1.toks) fun b o e=>Heap.get?_push_of_some _ e,Kw a _,⟨_,Heap.get?_push_size _ rfl,rfl,rfl⟩,fun b hb=>?_,q⟩;have e:b=s1.heap.objs.size:=by simpa using hb
  subst e;exact I1.fpOk (zG _) (I1.hok.fresh (zG _))
theorem it_lst{H0:Hp}{a:Addr}{xs:List Own.Val}:ItOk i H0 (Itl i.K a) (fun g=>Own.lsOf (g a)=some xs) xs where
 go:=fun n G H v _ g e hv=>by obtain⟨vs,h1,h2⟩:=Zy g e;obtain⟨x,h3,h4⟩:=h2.get hv;refine⟨⟨vs,x,h1,h3⟩,fun y H' ⟨e1,e2⟩=>?_⟩;subst e1;have:=e2 vs h1;rw[h3]at this;cases this;exact⟨Keep.refl _,g,h4⟩
 stop:=fun n G H _ g e hn=>by obtain⟨vs,h1,h2⟩:=Zy g e;exact⟨vs,h1,by rw[←h2.length];exact hn⟩
theorem it_tup{H0:Hp}{a:Addr}{xs:List Own.Val}{vs:List V}(hp:H0 a=some (.tup vs)∨KT i.K a vs)(hr:RVs i.K H0 xs vs):ItOk i H0 (Itt i.K a) (fun _=>True) xs where
 go:=fun n G H v k g e hv=>by have hp':H a=some (.tup vs)∨KT i.K a vs:=hp.imp (k.t _ _) id;obtain⟨x,h3,h4⟩:=(hr.keep k).get hv;refine⟨⟨vs,x,Zl hp',h3⟩,fun y H' ⟨e1,e2⟩=>?_⟩;subst e1;have:=e2 vs (Zl hp');rw[h3]at this;cases this;exact⟨Keep.refl _,g,h4⟩
 stop:=fun n G H k g e hn=>by have hp':H a=some (.tup vs)∨KT i.K a vs:=hp.imp (k.t _ _) id;exact⟨vs,Zl hp',by rw[←hr.length];exact hn⟩
theorem it_scr{H0:Hp}{a:Addr}{ns:List Int}(h:(∃ o,H0 a=some (.frz o (.lst (ns.map V.int))))∨KL i.K a (ns.map V.int)):ItOk i H0 (Itl i.K a) (fun _=>True) (ns.map .int) where
 go:=fun n G H v k g e hv=>by have h':SqL i.K H a (ns.map V.int):=Z1 (h.imp (fun⟨o,e⟩=>⟨o,k.f _ _ _ e⟩) id);obtain⟨x,h3,h4⟩:=(RVs.ints (K:=i.K) (H:=H) ns).get hv;refine⟨⟨_,x,h',h3⟩,fun y H' ⟨e1,e2⟩=>?_⟩;subst e1;have:=e2 _ h';rw[h3]at this;cases this;exact⟨Keep.refl _,g,h4⟩
 stop:=fun n G H k g e hn=>⟨_,Z1 (h.imp (fun⟨o,e⟩=>⟨o,k.f _ _ _ e⟩) id),by simpa using hn⟩
theorem Of{H0:Hp}{lo hi:Int}{n:Nat}(hn:n=(hi - lo).toNat):ItOk i H0 (Itr lo n) (fun _=>True) (Own.rangeV lo hi) where
 go:=fun k G H v _ g _ hv=>by
  unfold Own.rangeV at hv;rw[qF]at hv;have hk:k<(hi - lo).toNat:=by
   by_cases h:k<(hi - lo).toNat
   ·exact h
   ·rw[List.getElem?_eq_none (by simpa using h)]at hv;cases hv
  rw[List.getElem?_range hk]at hv;cases hv;refine⟨by rw[hn];exact hk,fun x H' ⟨e1,e2⟩=>?_⟩;subst e1 e2;exact⟨Keep.refl _,g,.int _⟩
 stop:=fun k G H _ g _ hk=>by unfold Own.rangeV at hk;show n≤k;simp at hk;omega
theorem Dq{tg e:Expr}{m:Own.E}(hK:X.K=i.K)(he:PE X e (tE X i Φ m)):PI X tg e (tIt X i Φ (.seq m)) :=
 (EU he).imp fun σ H R ⟨env,G,QI,Em,p,w,c⟩=>by
  rw[Own.q_i_seq]at w;refine one p w fun v G1 H1 x k1 p1 r q=>?_;obtain⟨⟨st,xs⟩,e1,q2⟩:=go_some q;clear q;rw[hK];cases v with
  |tup ys =>
   cases e1;cases r with
   |tup hp hr=>exact⟨_,rfl,.inr ⟨⟨_,Zl hp⟩,c _ _ G1 H1 _ k1 p1.hp (it_tup hp hr) q2⟩⟩
  |scr ns =>
   cases e1;cases r with
   |scr h=>exact⟨_,rfl,.inl ⟨⟨_,Z1 h⟩,c _ _ G1 H1 _ k1 p1.hp (it_scr h) q2⟩⟩
  |ref a =>
   cases r.ref_inv;simp only[Own.itV]at e1;cases z:Own.lsOf (G1 a)with
   |none=>rw[z]at e1;cases e1
   |some ys =>rw[z]at e1;cases e1;obtain⟨vs,h1,h2⟩:=Zy p1.hp z;exact⟨a,rfl,.inl ⟨⟨vs,h1⟩,c _ _ G1 H1 _ k1 p1.hp it_lst q2⟩⟩
  |_=>cases e1
theorem Ux {tg a:Expr}{m:Own.E}{p pos:Pos}(hg:Gl X "range") (hm:X.mg "range" = none) (ha:PE X a (tE X i Φ m)) (hs:starEach [a] X.env=[(false,eval a X.env)]):PI X tg (.Call (.Name "range" p) [a] [] pos) (tIt X i Φ (.range m)) :=
 (NP hg hm (ZV ha pa_nil (by rw[hs];rfl)) hs).imp fun σ H R ⟨env,G,QI,Em,p,w,c⟩=>by rw[Own.q_i_range]at w;refine one p w fun v G1 H1 x k1 p1 r q=>?_;obtain⟨n,e1,q2⟩:=go_some q;clear q;cases ZJ e1;cases r.int_inv;exact⟨n,rfl,q2.1.1,q2.1.2,c _ _ G1 H1 _ k1 p1.hp (Of (by rw[Int.sub_zero])) q2.2⟩
theorem Nw {tg a b:Expr}{ma mb:Own.E}{p pos:Pos}(hg:Gl X "range") (hm:X.mg "range" = none) (ha:PE X a (tE X i Φ ma)) (hb:PE X b (tE X i Φ mb)) (hs:starEach [a,b] X.env=[(false,eval a X.env),(false,eval b X.env)]) (hs1:starEach [b] X.env=[(false,eval b X.env)]) :
  PI X tg (.Call (.Name "range" p) [a,b] [] pos) (tIt X i Φ (.range2 ma mb)) :=
 (NO hg hm (ZV ha (ZV hb pa_nil (by rw[hs1];rfl)) (by rw[hs,hs1])) hs hs1).imp fun σ H R ⟨env,G,QI,Em,p,w,c⟩=>by rw[Own.q_i_range2]at w;refine two p w fun v u G1 H1 x y k1 p1 rx ry q=>?_;obtain⟨n,e1,q1⟩:=go_some q;obtain⟨m,e2,q2⟩:=go_some q1;clear q q1;cases ZJ e1;cases ZJ e2;cases rx.int_inv;cases ry.int_inv;exact⟨n,m,rfl,q2.1,c _ _ G1 H1 _ k1 p1.hp (Of rfl) q2.2⟩
theorem E3{tg iter:Expr}{body:List Stmt}{q:Own.Pt}{mi:Own.It}{mb:Own.Ss}{pos:Pos}(hp:PassesOwn (model X.prog X.w) X.A X.env X.xe)(hc:X.calm=true)(hi:PI X tg iter (tIt X i Φ mi))(hg:PG X tg (gPt i q))(hb:PSs X body (tBl X i Φ mb))
  (hs:∀ x,foldedSetIterable iter X.env x=pure x):PS X (.For tg iter body [] pos) (tSt X i Φ (.for q mi mb)) :=
 (Eb hp hc hi hg hb hs).imp fun D σ H ⟨env,G,N,R,B,C,Xe,p,w,c⟩=>by
  rw[Own.q_s_for]at w;refine⟨env,G,_,Xe env,p.pre,w,fun st xs G1 H1 J k1 g1 it w1=>?_⟩;refine⟨fun n m σ' H'=>n+m=xs.length∧∃ env' G',Keep H1 H'∧RH i G' H'∧REn i.K H' env' σ'∧Own.wFor st (fun v e g K M=>Own.go (Own.bind q g v e) fun e2=>Own.wSs Φ mb e2 g K R M K Xe) N (xs.drop n) env' G',⟨xs.length,by omega,env,G1,Keep.refl _,g1,p.en.keep k1,by simpa using w1⟩,?_⟩;rintro n m σ' H' ⟨hnm,env',G',k2,g2,e2,w2⟩;by_cases hn:n<xs.length
  ·right;have hd:xs.drop n=xs[n]::xs.drop (n+1):=List.drop_eq_getElem_cons hn;rw[hd]at w2;obtain⟨s2,w2⟩:=w2;have hv:xs[n]?=some xs[n]:=qH hn;obtain⟨a1,a2⟩:=it.go n G' H' xs[n] k2 g2 s2 hv;refine⟨a1,fun σ3 H3=>∃ env3 G3,Keep H1 H3∧RH i G3 H3∧REn i.K H3 env3 σ3∧Own.wFor st (fun v e g K M=>Own.go (Own.bind q g v e) fun e2=>Own.wSs Φ mb e2 g K R M K Xe) N (xs.drop (n+1)) env3 G3,fun σ3 H3 h=>⟨m - 1,by omega,by omega,h⟩,fun x H3 hy=>?_⟩;obtain⟨k3,g3,r3⟩:=a2 x H3 hy;obtain⟨env4,e4,w4⟩:=go_some w2;refine⟨xs[n],env',G',env4,r3,g3,e2.keep k3,e4,fun σ4 h4=>?_⟩;have kk:Keep H H3:=(k1.trans k2).trans k3;refine⟨env4,G',_,R,N,_,Xe,p.go kk g3 h4,w4,⟨fun env5 σ5 G5 H5 k5 g5 e5 w5=>?_,(c.go kk).rt,(c.go kk).nx,fun env5 σ5 G5 H5 k5 g5 e5 w5=>?_⟩⟩
   ·exact⟨env5,G5,(k2.trans k3).trans k5,g5,e5,w5⟩
   ·exact⟨env5,G5,(k2.trans k3).trans k5,g5,e5,w5⟩
  ·left;have hd:xs.drop n=[]:=List.drop_eq_nil_of_le (by omega);rw[hd]at w2;exact⟨it.stop n G' H' k2 g2 w2.1 (by omega),c.nx env' σ' G' H' (k1.trans k2) g2 e2 w2.2⟩
theorem DV:BiOk i .len (fun xs H Q=>((∃ p ys,xs=[.ref p]∧(SqL i.K H p ys∨SqT i.K H p ys)∧Q (.int ys.length) H)∨∃ z,xs=[.str z]∧z.length≤sizeLine∧Q (.int z.length) H)∨∃ a kvs,xs=[V.ref a]∧H a=some (.dK kvs)∧Q (.int kvs.length) H):=by
 intro vs G H xs Q Qm g r w c;obtain⟨v,rfl,w⟩:=Yt w;obtain⟨x,rfl,rx⟩:=r.inv1;cases v with
 |ref a =>
  cases rx.ref_inv
  replace w:(match G a with|some (.lst xs)=>.val (.int xs.length)|some (.dct kvs)=>.val (.int kvs.length)|_=>.no:Own.Rs).wp G Qm:=w
  cases z:G a with
  |none=>rw[z]at w;exact(Zf w).elim
  |some o =>
   rw[z]at w;cases o with
   |lst ys =>obtain⟨us,h1,h2⟩:=g a _ z;refine .inl (.inl ⟨a,us,rfl,.inl (SqL.of h1),?_⟩);rw[←h2.length];exact c _ G H _ (Keep.refl H) g (.int _) (Zo w)
   |dct kvs =>obtain⟨ps,h1,h2⟩:=g a _ z;refine .inr ⟨a,ps,rfl,h1,?_⟩;rw[←h2.length];exact c _ G H _ (Keep.refl H) g (.int _) (Zo w)
   |_=>exact(Zf w).elim
 |tup ys =>
  cases rx with
  |tup hp hr =>refine .inl (.inl ⟨_,_,rfl,.inr (Zl hp),?_⟩);rw[←hr.length];exact c _ G H _ (Keep.refl H) g (.int _) (Zo w)
 |scr ns =>
  cases rx with
  |scr h =>refine .inl (.inl ⟨_,_,rfl,.inl (Z1 h),?_⟩);rw[qA];exact c _ G H _ (Keep.refl H) g (.int _) (Zo w)
 |str s =>cases rx.str_inv;obtain⟨hl,w⟩:=Yy w;refine .inl (.inr ⟨_,rfl,by rw[Zu];exact zE hl ZO,?_⟩);rw[Zu];exact c _ G H _ (Keep.refl H) g (.int _) (Zo w)
 |_=>exact(Zf w).elim
theorem AY:BiOk i .list (fun xs H Q=>∃ p ys,xs=[.ref p]∧(SqL i.K H p ys∨SqT i.K H p ys)∧∀ l,H l=none→Q (.ref l) (upd H l (.lst ys))):=by
 intro vs G H xs Q Qm g r w c;obtain⟨v,rfl,w⟩:=Yt w;obtain⟨x,rfl,rx⟩:=r.inv1;cases v with
 |ref a =>cases rx.ref_inv;obtain⟨ys,e,w⟩:=Kg (f:=fun xs=>.new (.lst xs)) w;obtain⟨us,h1,h2⟩:=g a _ e;exact⟨a,us,rfl,.inl (SqL.of h1),ZR g (Xd w) c fun p hp=>⟨_,upd_same,h2.keep (Keep.new hp)⟩⟩
 |tup ys =>
  cases rx with
  |tup hp hr=>exact⟨_,_,rfl,.inr (Zl hp),ZR g (Xd w) c fun p hp=>⟨_,upd_same,hr.keep (Keep.new hp)⟩⟩
 |_=>exact(Zf w).elim
theorem Np{K:PySem.W.Frag}{H:Hp}:∀ {xs:List Own.Val}{bs:List Bool}{vs:List V},Own.blsOf xs=some bs→RVs K H xs vs→vs=bs.map V.bl:=by
 intro xs;induction xs with
 |nil=>intro bs vs e r;cases e;cases r;rfl
 |cons v xs ih =>
  intro bs vs e r;cases v<;>first|(cases e;done)|skip
  case bl b =>
  simp only[Own.blsOf]at e;cases z:Own.blsOf xs with
  |none=>rw[z]at e;cases e
  |some ns=>rw[z]at e;cases e;cases r with|cons a t=>cases a.bl_inv;rw[ih z t];rfl
theorem Fd{o:Option Own.Val}{h:Own.Hs}{Q:Own.Q1}(w:(Own.Rs.ofO o).wp h Q):∃ v,o=some v∧Q v h:=by
 cases o with
 |none=>exact(Zf w).elim
 |some v=>exact⟨v,rfl,Zo w⟩
theorem D1:BiOk i .all (fun xs H Q=>∃ p,∃ bs:List Bool,xs=[.ref p]∧SqL i.K H p (bs.map V.bl)∧Q (.bl (bs.all id)) H):=by
 intro vs G H xs Q Qm g r w c;obtain⟨v,rfl,w⟩:=Yt w;obtain⟨x,rfl,rx⟩:=r.inv1;cases v with
 |ref a =>cases rx.ref_inv;obtain⟨v,e,w⟩:=Fd w;obtain⟨ys,z,e⟩:=q9.mp e;obtain⟨bs,z2,rfl⟩:=qD.mp e;obtain⟨us,h1,h2⟩:=Zy g z;have:=Np z2 h2;subst this;exact⟨a,bs,rfl,h1,c _ G H _ (Keep.refl H) g (.bl _) w⟩
 |_=>exact(Zf w).elim
set_option exponentiation.threshold 2000 in
theorem Ag{k:Int}(h:k.natAbs<10 ^ 200):k.natAbs.log2<1920:=by
 have e:(10:Nat) ^ 200<2 ^ 1920:=by decide
 by_cases h0:k.natAbs=0
 ·rw[h0];decide
 ·exact(Nat.log2_lt h0).mpr (Nat.lt_trans h e)
theorem Fi:BiOk i .str (fun xs H Q=>(∃ i,xs=[.int i]∧i.natAbs.log2<1920∧Q (.str (toString i)) H)∨∃ z,xs=[.str z]∧Q (.str z) H):=by
 intro vs G H xs Q Qm g r w c;obtain⟨v,rfl,w⟩:=Yt w;obtain⟨x,rfl,rx⟩:=r.inv1;cases v with
 |int a =>cases rx.int_inv;obtain⟨hl,w⟩:=Yy w;exact .inl ⟨a,rfl,Ag hl,c _ G H _ (Keep.refl H) g (.str _) (Zo w)⟩
 |str s=>cases rx.str_inv;exact .inr ⟨_,rfl,c _ G H _ (Keep.refl H) g (.str _) (Zo w)⟩
 |_=>exact(Zf w).elim
theorem Ol(ds:List Own.D)(d:Own.D):(toDs ds).any (fun e=>PyData.eqv e (toD d))=ds.any fun e=>Own.D.eqv e d:=by
 induction ds with
 |nil=>rfl
 |cons e es ih=>simp only[toDs,List.any_cons,ih,WS]
theorem M0{G:Own.Hs}{H:Hp}(g:RH i G H){v u:Own.Val}{x y:V}{ys:List Own.Val}{c:Bool}(rx:RV i.K H v x)(e:Own.inL G v ys=some c)(hy:∀ ds,ys.mapM (Own.dat G (Own.deep - 1))=some ds→IsD i.K H y (.tuple (toDs ds))∨IsD i.K H y (.list (toDs ds))) :
  ∃ ds d,(IsD i.K H y (.tuple ds)∨IsD i.K H y (.list ds))∧IsD i.K H x d∧PyData.canLayAll0 ds=true∧d.canLay0=true∧d.depth≤64∧ds.any (fun e=>PyData.eqv e d)=c:=by
 unfold Own.inL at e;cases z:Own.dat G Own.deep v with
 |none=>rw[z]at e;cases e
 |some d =>
  rw[z]at e;simp only[Option.bind_some]at e;cases z2:ys.mapM (Own.dat G (Own.deep - 1))with
  |none=>rw[z2]at e;cases e
  |some ds =>rw[z2]at e;cases e;exact⟨_,_,hy ds z2,Y6 g _ _ _ _ z rx,toDs_lay ds,Jw d,zE (Wz _ _ _ z) (by decide),Ol ds d⟩
theorem Mx{G:Own.Hs}{H:Hp}(g:RH i G H){u:Own.Val}{y:V}{ys:List Own.Val}(ry:RV i.K H u y)(hu:u=.tup ys∨∃ a,u=.ref a∧Own.lsOf (G a)=some ys):∀ ds,ys.mapM (Own.dat G (Own.deep - 1))=some ds→IsD i.K H y (.tuple (toDs ds))∨IsD i.K H y (.list (toDs ds)):=by
 intro ds hd;rcases hu with rfl|⟨a,rfl,hl⟩
 ·left;have:=Y6 g Own.deep (.tup ys) (.tup ds) y (by show Option.map _ (List.mapM (Own.dat G (Own.deep - 1)) ys)=_;rw[hd];rfl) ry;simpa[toD]using this
 ·right;have:=Y6 g Own.deep (.ref a) (.lst ds) y (by show(Own.lsOf (G a)).bind _=_;rw[hl];show Option.map _ (List.mapM (Own.dat G (Own.deep - 1)) ys)=_;rw[hd];rfl) ry;simpa[toD]using this
theorem DS(s t:String)(c:Char)(h:Own.oneC s=some c):(!(Builtin.Str.occurrences (Str.ofString t) (Str.ofString s) 0 (Str.ofString t).length 1).isEmpty)=decide (c∈t.toList):=by
 have e:Str.ofString s=⟨#[c.toNat]⟩:=by
  unfold Own.oneC at h;split at h
  ·rename_i d hd;cases h;rw[Str.ofString_eq_toList,hd];rfl
  ·cases h
 rw[e,StrLaws.found_one,Wu];have inj:∀ {a b:Char},a.toNat=b.toNat→a=b:=fun {a b} e=>Char.ext (UInt32.toNat.inj e);by_cases hc:c∈t.toList
 ·rw[qQ hc,decide_eq_true_eq];exact List.mem_map_of_mem hc
 ·rw[qP hc,decide_eq_false_iff_not];intro m;obtain⟨d,hd,he⟩:=qZ.mp m;exact hc (inj he▸hd)
noncomputable def Gq (K:PySem.W.Frag):R2:=fun x y H Q=>Ap false x y H Q∨Bq K false x y H Q∨∃ i j,x=.str i∧y=.str j∧Q (.bl (!(Builtin.Str.occurrences j i 0 j.length 1).isEmpty)) H
noncomputable def Ho (K:PySem.W.Frag):R2:=fun x y H Q=>Ap true x y H Q∨Bq K true x y H Q∨∃ i j,x=.str i∧y=.str j∧Q (.bl (!(!(Builtin.Str.occurrences j i 0 j.length 1).isEmpty))) H
theorem Lp(hu:X.A.units+65<cLine):OpR X (compareOp .In) (Gq X.K):=(DN (by omega)).or ((ER hu).or Nn)
theorem Lb(hu:X.A.units+65<cLine):OpR X (compareOp .NotIn) (Ho X.K):=(EO (by omega)).or ((NJ hu).or WV)
theorem CD{v u:Own.Val}{G:Own.Hs}{H:Hp}{x y:V}{b:Bool}(g:RH i G H)(rx:RV i.K H v x)(ry:RV i.K H u y)(e:Own.inV G v u=some b) :
  (∃ ds d,(IsD i.K H y (.tuple ds)∨IsD i.K H y (.list ds))∧IsD i.K H x d∧PyData.canLayAll0 ds=true∧d.canLay0=true∧d.depth≤64∧ds.any (fun e=>PyData.eqv e d)=b)∨
  (∃ j k,x=.str j∧y=.str k∧(!(Builtin.Str.occurrences k j 0 k.length 1).isEmpty)=b)∨∃ a o,y=.ref a∧DGet H a x o∧o.isSome=b:=by
 cases u with
 |tup ys=>exact .inl (M0 (u:=.tup ys) g rx e (Mx g ry (.inl rfl)))
 |ref a =>
  replace e:(match G a with|some (.lst xs)=>Own.inL G v xs|some (.dct kvs)=>if Own.isKey v then some (Own.hasK kvs v)else none|some (.frz kvs)=>if Own.isKey v then some (Own.hasK kvs v)else none|some (.dtp kvs)=>if Own.isKeyT v then some (Own.hasK kvs v)else none|_=>none)=some b:=e
  cases z:G a with
  |none=>rw[z]at e;cases e
  |some o =>
   rw[z]at e;cases o with
   |lst ys=>exact .inl (M0 (u:=.ref a) g rx e (Mx g ry (.inr ⟨a,rfl,by rw[z];rfl⟩)))
   |dct kvs =>obtain⟨hk,e⟩:=ZM (show(if Own.isKey v then some (Own.hasK kvs v)else none)=some b from e);cases e;obtain⟨ps,h1,h2⟩:=g a _ z;obtain⟨d,kr,rfl⟩:=key_of hk rx;exact .inr (.inr ⟨a,_,ry.ref_inv,DGet.k h1,by rw[h2.has kr,Yn]⟩)
   |frz kvs =>obtain⟨hk,e⟩:=ZM (show(if Own.isKey v then some (Own.hasK kvs v)else none)=some b from e);cases e;obtain⟨ob,ps,h1,h2⟩:=g a _ z;obtain⟨d,kr,rfl⟩:=key_of hk rx;exact .inr (.inr ⟨a,_,ry.ref_inv,.inl ⟨ps,d,.inr ⟨ob,h1⟩,rfl,rfl⟩,by rw[h2.has kr,Yn]⟩)
   |dtp kvs =>obtain⟨hk,e⟩:=ZM (show(if Own.isKeyT v then some (Own.hasK kvs v)else none)=some b from e);cases e;obtain⟨ps,h1,h2⟩:=g a _ z;obtain⟨k1,k2,d,rfl,rfl,hd⟩:=Jj hk rx;exact .inr (.inr ⟨a,_,ry.ref_inv,DGet.t h1 hd,by rw[h2.has,Yn]⟩)
   |_=>cases e
 |str t =>
  cases v with
  |str s =>obtain⟨c,z,rfl⟩:=qD.mp e;exact .inr (.inl ⟨_,_,rx.str_inv,ry.str_inv,DS s t c z⟩)
  |_=>cases e
 |_=>cases e
theorem Aw{o:Option Bool}{b:Bool}(e:o.map (!·)=some b):o=some (!b):=by obtain⟨c,z,rfl⟩:=qD.mp e;rw[z,Bool.not_not]
theorem Lj:ZQ i .isin (Gq i.K):=by
 intro v u G H x y c Q g rx ry e q;rcases CD g rx ry e with⟨ds,d,h1,h2,h3,h4,h5,h6⟩|⟨j,k,h1,h2,h3⟩|⟨a,o,h1,h2,h3⟩
 ·exact .inr (.inl ⟨ds,d,h1,h2,h3,h4,h5,by show Q (.bl (List.any _ _)) H;rw[h6];exact q⟩)
 ·exact .inr (.inr ⟨j,k,h1,h2,by rw[h3];exact q⟩)
 ·exact .inl ⟨a,o,h1,h2,by rw[h3,Bool.false_xor];exact q⟩
theorem Ie:ZQ i .notin (Ho i.K):=by
 intro v u G H x y c Q g rx ry e q;rcases CD g rx ry (Aw e)with⟨ds,d,h1,h2,h3,h4,h5,h6⟩|⟨j,k,h1,h2,h3⟩|⟨a,o,h1,h2,h3⟩
 ·exact .inr (.inl ⟨ds,d,h1,h2,h3,h4,h5,by show Q (.bl (!List.any _ _)) H;rw[h6,Bool.not_not];exact q⟩)
 ·exact .inr (.inr ⟨j,k,h1,h2,by rw[h3,Bool.not_not];exact q⟩)
 ·exact .inl ⟨a,o,h1,h2,by rw[h3,Bool.true_xor,Bool.not_not];exact q⟩
theorem AV{a b d:Expr}{ma mb md:Own.E}{op op':CmpOp}{cop cop':Own.Cop}{r r':R2}{pos:Pos}(ho:OpR X (compareOp op) r)(hr:ZQ i cop r)(ho':OpR X (compareOp op') r')(hr':ZQ i cop' r')(ha:PE X a (tE X i Φ ma))(hb:PE X b (tE X i Φ mb))(hd:PE X d (tE X i Φ md))(hm:lastMarks [op,op'] [b,d]=false) :
  PE X (.Compare a [op,op'] [b,d] pos) (tE X i Φ (.chain cop cop' ma mb md)) :=
 (OW ho ho' ha hb hd hm).imp fun σ H Q ⟨env,G,Qm,Em,p,w,k⟩=>by
  rw[Own.q_e_chain]at w;exact two p w fun v u G2 H2 x y k2 p2 rx ry q=>by
   obtain⟨c,e,q⟩:=go_some q;refine hr v u G2 H2 x y c _ p2.hp rx ry e ⟨c,rfl,?_⟩;cases c with
   |true =>
    rw[if_pos rfl]at q ⊢;exact one p2 q fun t G3 H3 z k3 p3 rz q=>by obtain⟨d2,e2,q⟩:=go_some q;exact hr' u t G3 H3 y z d2 Q p3.hp (ry.keep k3) rz e2 (k (.bl d2) G3 H3 (.bl d2) (k2.trans k3) p3.hp (.bl d2) q)
   |false =>rw[if_neg Bool.false_ne_true]at q ⊢;exact k _ G2 H2 _ k2 p2.hp (.bl _) q
theorem UJ{a b d:Expr}{ma mb md:Own.E}{op op':CmpOp}{cop cop':Own.Cop}{r r':R2}{pos:Pos}(ho:OpR X (compareOp op) r)(hr:ZQ i cop r)(ho':OpR X (compareOp op') r')(hr':ZQ i cop' r')(ha:PE X a (tE X i Φ ma))(hb:PE X b (tE X i Φ mb))(hd:PE X d (tE X i Φ md))(hm:lastMarks [op,op'] [b,d]=false) :
  PT X (.Compare a [op,op'] [b,d] pos) (tTt X i Φ (.val (.chain cop cop' ma mb md))) :=
 (Oj ho ho' ha hb hd hm).imp fun σ H Q ⟨env,G,Qm,Em,p,w,k⟩=>by
  rw[Own.q_t_val,Own.q_e_chain]at w;exact two p w fun v u G2 H2 x y k2 p2 rx ry q=>by
   obtain⟨c,e,q⟩:=go_some q;refine hr v u G2 H2 x y c _ p2.hp rx ry e ⟨c,rfl,?_⟩;cases c with
   |true =>
    rw[if_pos rfl]at q ⊢;exact one p2 q fun t G3 H3 z k3 p3 rz q=>by obtain⟨d2,e2,q⟩:=go_some q;obtain⟨d3,e3,q⟩:=go_some q;cases e3;exact hr' u t G3 H3 y z d2 _ p3.hp (ry.keep k3) rz e2 ⟨d2,rfl,k d2 G3 H3 (k2.trans k3) p3.hp q⟩
   |false =>rw[if_neg Bool.false_ne_true]at q ⊢;obtain⟨d3,e3,q⟩:=go_some q;cases e3;exact⟨false,rfl,k _ G2 H2 k2 p2.hp q⟩
theorem Ul{st:Stmt}:PS X st (tSt X i Φ .never):=fun pins s σ H D I ⟨env,G,N,R,B,C,Xe,p,w,c⟩=>by rw[Own.q_s_never]at w;exact w.elim
variable {i:Inf}{G:Own.Hs}{H:Hp}
theorem YU{n:Nat}(ih:∀ (v u:Own.Val) (x y:V),Own.sam G n v u=true→RV i.K H v x→RV i.K H u y→SamV i.K H n x y):∀ {vs us:List Own.Val}{xs ys:List V},Own.samL (Own.sam G n) vs us=true→RVs i.K H vs xs→RVs i.K H us ys→SamVs i.K H n xs ys
 |[],[],_,_,_,.nil,.nil=>.nil
 |v::vs,u::us,_,_,e,.cons r rs,.cons q qs=>by rw[Own.samL,bAq]at e;exact .cons (ih _ _ _ _ e.1 r q) (YU ih e.2 rs qs)
 |[],_::_,_,_,e,_,_=>by cases e
 |_::_,[],_,_,e,_,_=>by cases e
theorem Bj(g:RH i G H):∀ (n:Nat) (v u:Own.Val) (x y:V),Own.sam G n v u=true→RV i.K H v x→RV i.K H u y→SamV i.K H n x y:=by
 intro n;induction n with
 |zero =>
  intro v u x y e r q;cases v with
  |non=>cases u with
   |non=>cases r;cases q;exact .non
   |_=>cases e
  |bl b=>cases u with
   |bl c=>cases r;cases q;have:=eq_of_beq e;subst this;exact .bl _
   |_=>cases e
  |int b=>cases u with
   |int c=>cases r;cases q;have:=eq_of_beq e;subst this;exact .int _
   |_=>cases e
  |str b=>cases u with
   |str c=>cases r;cases q;have:=eq_of_beq e;subst this;exact .str _
   |_=>cases e
  |ref b=>cases u with
   |ref c=>cases r;cases q;have:=eq_of_beq e;subst this;exact .ref _
   |_=>cases e
  |_=>cases e
 |succ n ih =>
  intro v u x y e r q;cases v with
  |non=>cases u with
   |non=>cases r;cases q;exact .non
   |_=>cases e
  |bl b=>cases u with
   |bl c=>cases r;cases q;have:=eq_of_beq e;subst this;exact .bl _
   |_=>cases e
  |int b=>cases u with
   |int c=>cases r;cases q;have:=eq_of_beq e;subst this;exact .int _
   |_=>cases e
  |str b=>cases u with
   |str c=>cases r;cases q;have:=eq_of_beq e;subst this;exact .str _
   |_=>cases e
  |tup xs=>cases u with
   |tup ys =>
    cases r with
    |tup hp hr=>cases q with
     |tup hp2 hr2=>exact .tup (Zl hp) (Zl hp2) (YU ih e hr hr2)
   |_=>cases e
  |ref b=>cases u with
   |ref c =>
    cases r;cases q;rw[Own.sam,Bool.or_eq_true]at e;rcases e with e|e
    ·have:=eq_of_beq e;subst this;exact .ref _
    ·cases z:Own.lsOf (G b)with
     |none=>rw[z]at e;cases e
     |some xs =>
      cases z2:Own.lsOf (G c)with
      |none=>rw[z,z2]at e;cases e
      |some ys =>rw[z,z2]at e;obtain⟨vs,h1,h2⟩:=Zy g z;obtain⟨us,h3,h4⟩:=Zy g z2;exact .lst h1 h3 (YU ih e h2 h4)
   |_=>cases e
  |scr ns=>cases u<;>cases e
  |key _ _=>cases u<;>cases e
theorem WG(g:RH i G H){v:Own.Val}{x:V}{xs:List Own.Val}(r:RV i.K H v x)(e:Own.asLst G v=some xs):∃ a vs,x=.ref a∧SqL i.K H a vs∧RVs i.K H xs vs:=by
 cases v with
 |ref a =>cases r;obtain⟨vs,h1,h2⟩:=Zy g e;exact⟨a,vs,rfl,h1,h2⟩
 |_=>cases e
theorem JY(g:RH i G H){v u:Own.Val}{x y:V}(rx:RV i.K H v x)(ry:RV i.K H u y){c:Bool}{f:List Own.Val→List Own.Val→Option Bool}(e:((Own.asLst G v).bind fun xs=>(Own.asLst G u).bind fun ys=>f xs ys)=some c):∃ xs ys a b vs us,f xs ys=some c∧x=.ref a∧y=.ref b∧SqL i.K H a vs∧SqL i.K H b us∧RVs i.K H xs vs∧RVs i.K H ys us:=by
 cases z:Own.asLst G v with
 |none=>rw[z]at e;cases e
 |some xs =>
  cases z2:Own.asLst G u with
  |none=>rw[z,z2]at e;cases e
  |some ys =>rw[z,z2]at e;obtain⟨a,vs,h1,h2,h3⟩:=WG g rx z;obtain⟨b,us,k1,k2,k3⟩:=WG g ry z2;exact⟨xs,ys,a,b,vs,us,e,h1,k1,h2,k2,h3,k3⟩
theorem c_nes:ZQ i .nes (DG i.K):=by
 intro v u G H x y c Q g rx ry e q;obtain⟨xs,ys,a,b,vs,us,e,h1,h2,h3,h4,h5,h6⟩:=JY g rx ry e;split at e
 ·rename_i z;cases e;exact⟨a,b,vs,us,h1,h2,h3,h4,YU (Bj g 8) z h5 h6,q⟩
 ·cases e
theorem AA{xs:List Own.Val}{vs:List V}(h:RVs i.K H xs vs):vs.isEmpty=xs.isEmpty:=by cases h<;>rfl
theorem c_neE:ZQ i .neE (Hk i.K true):=by
 intro v u G H x y c Q g rx ry e q;obtain⟨xs,ys,a,b,vs,us,e,h1,h2,h3,h4,h5,h6⟩:=JY g rx ry e;split at e
 ·rename_i z;cases e;cases h6 with
  |nil=>exact⟨a,b,vs,h1,h2,h3,h4,by rw[AA h5,Bool.true_xor];exact q⟩
  |cons _ _=>cases z
 ·cases e
end Snd
namespace L2
open PySem PySem.Spec PyProof.Rows
variable {X:Cx}
def rD0:R2:=fun x y H Q=>∃ a,x=.ref a∧y=.ref a∧H a=some (.dK [])∧Q (.bl false) H
theorem BE(hu:X.A.units<cLine):OpR X (compareOp .NotEq) rD0:=by intro pins s σ H x y v u Q I rx ry h;obtain⟨a,rfl,rfl,ha,q⟩:=h;cases rx;cases ry;obtain⟨z,hd,vs,rel,dd⟩:=MA I.hok ha;cases rel;exact PySem.W.keq_ne (r:=true) hd hd dd dd hu (fun _=>.nil) ⟨.bl false,H,I,rfl,q⟩
def Hz (K:PySem.W.Frag):R2:=fun x y H Q=>DG K x y H Q∨Dr K x y H Q∨rD0 x y H Q
theorem Dn(hu:X.A.units+64<cLine):OpR X (compareOp .NotEq) (Hz X.K):=by
 intro pins s σ H x y v u Q I rx ry h;rcases h with h|h|h
 ·exact Dc hu pins s σ H x y v u Q I rx ry h
 ·exact Ua hu pins s σ H x y v u Q I rx ry h
 ·exact BE (by omega) pins s σ H x y v u Q I rx ry h
end L2
namespace Snd
open PySem L2
variable {i:Inf}
theorem c_neX:ZQ i .neX (Hz i.K):=by
 intro v u G H x y c Q g rx ry e q;change(if Own.sam0 G v u=true then some false else(Own.eqV G v u).map (!·))=some c at e;split at e
 ·rename_i z;cases e;unfold Own.sam0 at z;rw[Bool.or_eq_true]at z;rcases z with z|z
  ·cases z1:Own.asLst G v with
   |none=>rw[z1]at z;cases z
   |some xs =>
    cases z2:Own.asLst G u with
    |none=>rw[z1,z2]at z;cases z
    |some ys =>rw[z1,z2]at z;exact .inl (c_nes v u G H x y false Q g rx ry (by show(Own.asLst G v).bind _=_;rw[z1,z2];exact if_pos z) q)
  ·refine .inr (.inr ?_);cases v with
   |ref a=>cases u with
    |ref b =>
     cases rx.ref_inv;cases ry.ref_inv;change(a==b&&Own.noPairs (G a))=true at z;rw[bAq]at z;cases eq_of_beq z.1;have z:=z.2;cases w:G a with
     |none=>rw[w]at z;cases z
     |some o =>
      rw[w]at z;cases o with
      |dct kvs=>cases kvs with
       |nil =>obtain⟨us,h1,h2⟩:=g a _ w;cases h2;exact⟨a,rfl,rfl,h1,q⟩
       |cons _ _=>cases z
      |_=>cases z
    |_=>cases z
   |_=>cases u<;>cases z
 ·exact .inr (.inl (FV v u G H x y c Q g rx ry e q))
variable {i:Inf}{X:Cx}{Φ:Own.Fs}
theorem RVs.strs{K:PySem.W.Frag}{H:Hp}:∀ ss:List String,RVs K H (ss.map Own.Val.str) ((ss.map Str.ofString).map V.str)
 |[]=>.nil
 |s::ss=>.cons (.str s) (RVs.strs ss)
noncomputable def tPt (X:Cx) (i:Inf) (Φ:Own.Fs) (m:Own.E):TE:=fun σ H Q=>∃ env G Qm Em,Pre X i σ H env G Em∧Own.wE Φ m env G Qm Em∧∀ v G' H',Keep H H'→RH i G' H'→Qm v G'→∃ s,Own.fmtV v=some s∧s.length≤Own.lim∧Q (.str (Str.ofString s)) H'
noncomputable def tJs (X:Cx) (i:Inf) (Φ:Own.Fs) (ms:Own.Es):TJ:=fun σ H acc Q=>∃ env G a Qm Em,acc=Str.ofString a∧a.length≤Own.lim∧Pre X i σ H env G Em∧Own.wJ Φ ms env G a Qm Em∧∀ s G' H',Keep H H'→RH i G' H'→Qm s G'→Q (Str.ofString s) H'
theorem _root_.L2.PJ.imp{X:Cx}{vs:List Expr}{t t':TJ}(h:PJ X vs t)(f:∀ σ H acc Q,t' σ H acc Q→t σ H acc Q):PJ X vs t':=fun pins s σ H acc Q I q=>h pins s σ H acc Q I (f σ H acc Q q)
theorem Dy{e:Expr}{m:Own.E}{pos:Pos}(he:PE X e (tE X i Φ m)):PE X (.FormattedValue e (-1) none pos) (tPt X i Φ m) :=
 (B3 he).imp fun σ H Q ⟨env,G,Qm,Em,p,w,c⟩=>by
  refine⟨env,G,Qm,Em,p,w,fun v G1 H1 x k1 g1 r1 w1=>?_⟩;obtain⟨s,e1,hl,q⟩:=c v G1 H1 k1 g1 w1;cases v with
  |str t=>cases e1;cases r1.str_inv;exact .inr ⟨_,rfl,by rw[Zu];exact zE hl ZO,q⟩
  |int n =>
   cases r1.int_inv;simp only[Own.fmtV]at e1;split at e1
   ·rename_i hn;cases e1;exact .inl ⟨n,rfl,Ag hn,q⟩
   ·cases e1
  |_=>cases e1
theorem Fm{s:String}{j:Nat}{pos:Pos}:PE X (.Constant (.str (Str.ofString s)) j pos) (tPt X i Φ (.cst (.str s))) :=
 pe_str.imp fun σ H Q ⟨env,G,Qm,Em,p,w,c⟩=>by rw[Own.q_e_cst]at w;obtain⟨t,e1,hl,q⟩:=c _ G H (Keep.refl H) p.hp w;cases e1;exact q
theorem DH:PJ X [] (tJs X i Φ .nil):=pj_nil.imp fun σ H acc Q ⟨env,G,a,Qm,Em,e,hl,p,w,c⟩=>by rw[Own.q_j_nil]at w;subst e;exact⟨by rw[Zu];exact zE hl ZO,c a G H (Keep.refl H) p.hp w⟩
theorem M7{e:Expr}{es:List Expr}{m:Own.E}{ms:Own.Es}(he:PE X e (tPt X i Φ m))(hr:PJ X es (tJs X i Φ ms))(hs:evalEach (e::es) X.env=eval e X.env::evalEach es X.env):PJ X (e::es) (tJs X i Φ (.cons m ms)) :=
 (BS he hr hs).imp fun σ H acc Q ⟨env,G,a,Qm,Em,e,hl,p,w,c⟩=>by rw[Own.q_j_cons]at w;subst e;refine⟨env,G,_,Em,p,w,fun v G1 H1 k1 g1 w1=>?_⟩;obtain⟨s,e1,hl1,w2⟩:=go_some w1;clear w1;refine⟨s,e1,by omega,_,rfl,?_,env,G1,a++s,Qm,Em,(Ju a s).symm,by rw[String.length_append];exact hl1,p.go k1 g1,w2,fun t G2 H2 k2=>c t G2 H2 (k1.trans k2)⟩;rw[←Ju,Zu,String.length_append];exact zE hl1 ZO
theorem MY{G:Own.Hs}{H:Hp}{p:Addr}{o:HO}(g:RH i G H)(hp:H p=none):RH i G (upd H p o):=g.hid (Keep.new hp) fun b u e=>upd_ne (by rintro rfl;rw[g.free hp]at e;cases e)
noncomputable def tE0 (i:Inf) (Φ:Own.Fs) (m:Own.E):TE:=fun σ H Q=>∃ env G Qm,REn i.K H env σ∧RH i G H∧Own.wE Φ m env G Qm (fun _ _=>False)∧Cn i H Q Qm
noncomputable def tT0 (i:Inf) (Φ:Own.Fs) (m:Own.Tt):TT:=fun σ H Q=>∃ env G Qm,REn i.K H env σ∧RH i G H∧Own.wT Φ m env G Qm (fun _ _=>False)∧∀ b G' H',Keep H H'→RH i G' H'→Qm b G'→Q b H'
theorem MN{H:Hp}:XOk X i H (fun _ _=>False):=fun pins σ H0 s H' a cls s' I f ⟨_,_,_,_,_,_,_,z⟩=>z.elim
theorem pe0{e:Expr}{m:Own.E}(h:PE X e (tE X i Φ m)):PE X e (tE0 i Φ m):=h.imp fun σ H Q ⟨env,G,Qm,r,g,w,c⟩=>⟨env,G,Qm,_,⟨r,g,MN⟩,w,c⟩
theorem pt0{e:Expr}{m:Own.Tt}(h:PT X e (tTt X i Φ m)):PT X e (tT0 i Φ m):=h.imp fun σ H Q ⟨env,G,Qm,r,g,w,c⟩=>⟨env,G,Qm,_,⟨r,g,MN⟩,w,c⟩
theorem _root_.L2.PIfs.imp{X:Cx}{es:List Expr}{t t':TT}(h:PIfs X es t)(f:∀ σ H Q,t' σ H Q→t σ H Q):PIfs X es t':=fun pins s σ H Q I q=>h pins s σ H Q I (f σ H Q q)
theorem Et:PIfs X [] (tT0 i Φ .yes):=pifs_nil.imp fun σ H Q ⟨env,G,Qm,r,g,w,c⟩=>by rw[Own.q_t_yes]at w;exact c true G H (Keep.refl H) g w
theorem Bp{K:PySem.W.Frag}{H H':Hp}{env:Own.Env}{σ:St}{k:Nat}{caps:List Nat}(r:REn K H env σ)(kp:Keep H H'):REn K H' (List.replicate k none++caps.map fun j=>(env[j]?).getD none) (List.replicate k none++KC σ caps):=by
 refine⟨by simp[KC],fun n u e=>?_⟩;by_cases hn:n<k
 ·rw[List.getElem?_append_left (by rw[qX];exact hn),List.getElem?_replicate,if_pos hn]at e;cases e
 ·rw[List.getElem?_append_right (by rw[qX];omega),qX]at e ⊢;generalize n - k=n at e ⊢;simp only[qF]at e;cases z:caps[n]? with
  |none=>rw[z]at e;cases e
  |some j =>
   rw[z]at e;simp only[Option.map_some,Option.some.injEq]at e;cases z2:env[j]? with
   |none=>rw[z2]at e;cases e
   |some o =>rw[z2]at e;have e:o=some u:=e;subst e;obtain⟨y,h1,h2⟩:=r.get j u z2;exact⟨y,by unfold KC;rw[qF,z];show some ((σ[j]?).getD none)=_;rw[h1];rfl,h2.keep kp⟩
noncomputable def Me (k:Nat):Own.Pt→Bool
 |.one j=>decide (j<k)
 |.many js=>js.all fun j=>decide (j<k)
 |.nest _ _=>false
theorem WE{r:Own.Env}:∀ {js:List Nat}{vs:List Own.Val}{l env2:Own.Env},(js.all fun j=>decide (j<l.length))=true→Own.bindL js vs (l++r)=some env2→∃ l',env2=l'++r∧l'.length=l.length
 |[],[],l,_,_,e=>by cases e;exact⟨l,rfl,rfl⟩
 |j::js,v::vs,l,_,h,e=>by rw[List.all_cons,bAq,decide_eq_true_eq]at h;have e:Own.bindL js vs ((l++r).set j (some v))=_:=e;rw[List.set_append_left _ _ h.1]at e;obtain⟨l',h1,h2⟩:=WE (l:=l.set j (some v)) (by rw[List.length_set];exact h.2) e;exact⟨l',h1,by rw[h2,List.length_set]⟩
 |[],_::_,_,_,_,h=>by cases h
 |_::_,[],_,_,_,h=>by cases h
theorem Ow{p:Own.Pt}{G:Own.Hs}{v:Own.Val}{l r env2:Own.Env}(h:Me l.length p=true)(e:Own.bind p G v (l++r)=some env2):∃ l',env2=l'++r∧l'.length=l.length:=by
 cases p with
 |one j =>have e:some ((l++r).set j (some v))=some env2:=e;cases e;exact⟨l.set j (some v),by rw[List.set_append_left _ _ (of_decide_eq_true h)],List.length_set⟩
 |many js =>
  cases v with
  |tup vs=>exact WE h e
  |_=>cases e
 |nest j js=>cases h
theorem REn.pre{K:PySem.W.Frag}{H:Hp}{l r:Own.Env}{τ:St}(q:REn K H (l++r) τ):REn K H (List.replicate l.length none++r) τ:=by
 refine⟨by rw[←q.len];simp,fun n u e=>?_⟩;by_cases hn:n<l.length
 ·rw[List.getElem?_append_left (by rw[qX];exact hn),List.getElem?_replicate,if_pos hn]at e;cases e
 ·rw[List.getElem?_append_right (by rw[qX];omega),qX]at e;exact q.get n u (by rw[List.getElem?_append_right (by omega)];exact e)
theorem MJ{caps:List Nat}{k:Nat}{pt:Own.Pt}(hk:Me k pt=true){mi:Own.It}{mt:Own.Tt}{me:Own.E}:∀ σ H Q,tE X i Φ (.comp caps k pt mi mt me) σ H Q→Ab (tIt X i Φ mi) k caps (gPt i pt) (tT0 i Φ mt) (tE0 i Φ me) σ H Q:=fun σ H Q ⟨env,G,Qm,Em,p,w,c⟩=>by
 rw[Own.q_e_comp]at w;refine⟨env,G,_,Em,p,w,fun st xs G1 H1 J k1 g1 it w1=>?_⟩;obtain⟨hl,w1⟩:=w1;generalize hstep:(fun(v:Own.Val) (h2:Own.Hs) (K:Option Own.Val→Own.Hs→Prop) (X2:Own.XQ)=>Own.go (Own.bind pt h2 v (List.replicate k none++caps.map fun j=>(env[j]?).getD none)) fun env2 =>
       Own.wT Φ mt env2 h2 (fun k h3=>if k=true then Own.wE Φ me env2 h3 (fun u h4=>K (some u) h4) X2 else K none h3) X2)=step at w1
 refine⟨fun n m ys τ H'=>n+m=xs.length∧ys.length≤n∧REn i.K H' (List.replicate k none++caps.map fun j=>(env[j]?).getD none) τ∧∃ acc G',Keep H1 H'∧RH i G' H'∧RVs i.K H' acc ys∧Own.wComp st step (xs.drop n) acc G' (fun ys h5=>Own.new h5 (.lst ys) Qm) (fun _ _=>False),⟨xs.length,by omega,by simp,Bp p.en k1,[],G1,Keep.refl _,g1,.nil,by simpa using w1⟩,?_⟩;rintro n m ys τ H' ⟨hnm,hly,en2,acc,G',k2,g2,r2,w2⟩;refine⟨qR (qS (zE hly (by omega)) hl) ZO,?_⟩;by_cases hn:n<xs.length
 ·right;have hd:xs.drop n=xs[n]::xs.drop (n+1):=List.drop_eq_getElem_cons hn;rw[hd]at w2;obtain⟨s2,w2⟩:=w2;have hv:xs[n]?=some xs[n]:=qH hn;obtain⟨a1,a2⟩:=it.go n G' H' xs[n] k2 g2 s2 hv;refine⟨a1,fun ys3 τ3 H3=>ys3.length≤n+1∧REn i.K H3 (List.replicate k none++caps.map fun j=>(env[j]?).getD none) τ3∧∃ acc3 G3,Keep H1 H3∧RH i G3 H3∧RVs i.K H3 acc3 ys3∧Own.wComp st step (xs.drop (n+1)) acc3 G3 (fun ys h5=>Own.new h5 (.lst ys) Qm) (fun _ _=>False),fun ys3 τ3 H3 h=>⟨m - 1,by omega,by omega,h.1,h.2⟩,fun x H3 hy=>?_⟩;obtain⟨k3,g3,r3⟩:=a2 x H3 hy;rw[←hstep]at w2;obtain⟨env4,e4,w4⟩:=go_some w2;rw[hstep]at w4;obtain⟨l',e5,h5⟩:=Ow (l:=List.replicate k none) (by rw[qX];exact hk) e4;rw[qX]at h5;refine⟨xs[n],_,G',env4,r3,g3,en2.keep k3,e4,fun τ4 en4=>?_⟩;have back:REn i.K H3 (List.replicate k none++caps.map fun j=>(env[j]?).getD none) τ4:=by
   rw[e5]at en4;have:=en4.pre;rw[h5]at this;exact this
  refine⟨_,G',_,en4,g3,w4,fun d G5 H5 k5 g5 q5=>?_⟩;have kk:=(k2.trans k3).trans k5;cases d with
  |true =>refine⟨_,G5,_,en4.keep k5,g5,by simpa using q5,fun u G6 H6 y k6 g6 r6 q6=>?_⟩;exact⟨by simpa using hly,(back.keep k5).keep k6,_,G6,kk.trans k6,g6,((((r2.keep k3).keep k5).keep k6).append (.cons r6 .nil)),q6⟩
  |false =>rw[if_neg Bool.false_ne_true]at q5;change if false=true then _ else _;rw[if_neg Bool.false_ne_true];have q5:Own.wComp st step (xs.drop (n+1)) (acc++[]) G5 (fun ys h5=>Own.new h5 (.lst ys) Qm) (fun _ _=>False):=q5;rw[zB]at q5;exact⟨by omega,back.keep k5,acc,G5,kk,g5,(r2.keep k3).keep k5,q5⟩
 ·left;have hd:xs.drop n=[]:=List.drop_eq_nil_of_le (by omega);rw[hd]at w2;refine⟨it.stop n G' H' k2 g2 w2.1 (by omega),?_⟩;exact ZR g2 w2.2 ((c.go k1).go k2) fun q hq=>⟨_,upd_same,r2.keep (Keep.new hq)⟩
def FB (i:Inf) (m:Own.Bm) (r:V→List V→Hp→VK→Prop):Prop:=∀ (v:Own.Val) (vs:List Own.Val) (G:Own.Hs) (H:Hp) (x:V) (xs:List V) (t:Own.Val×Own.Hs) (Q:VK) (Qm:Own.Q1),
 RH i G H→RV i.K H v x→RVs i.K H vs xs→Own.bmV G m v vs=some t→Qm t.1 t.2→Cn i H Q Qm→r x xs H Q
def FY (i:Inf) (m:Own.Bm) (T:String):Prop:=∀ (v:Own.Val) (G:Own.Hs) (H:Hp) (x:V),RH i G H→RV i.K H v x→Own.bmTy G m v=true→tyV i.K T x H
theorem Lr {o e:Expr}{es:List Expr}{name:Str}{apos cpos:Pos}{T id:String}{r:V→List V→Hp→VK→Prop}{m:Own.Bm}{mo:Own.E}{ms:Own.Es}{n:Nat}(hK:X.K=i.K) (pa:PlainAttrs T) (slot:Slot T name id) (hty:typeOf (.builtin id)=pure (.type "method_descriptor")) (mt:MtR X id r) (hT:FY i m T) (hr:FB i m r)
  (ho:PE X o (tE X i Φ mo)) (ha:PA X (e::es) (tAr X i Φ ms n)) (hbase:attributeBase o name X.env (eval o X.env)=eval o X.env)
  (hfew:((backTo cpos (starEach (e::es) X.env)).all (fun x=>!x.1)&&(backToKw cpos (keywordEach [] X.env)).all (fun x=>x.1.isSome)&&decide ((e::es).length+([]:List Keyword).length+(if([]:List Keyword).isEmpty then 0 else 1)<30))=true)
  (hline:(apos.endLine==cpos.line)=true) (hs:starEach (e::es) X.env=(false,eval e X.env)::starEach es X.env) (hplain:(backTo cpos (starEach es X.env)).any (·.1)=false) :
  PE X (.Call (.Attribute o name apos) (e::es) [] cpos) (tE X i Φ (.bm m mo ms)) :=
 (Gu pa slot hty mt ho ha hbase hfew hline hs hplain).imp fun σ H Q ⟨env,G,Qm,Em,p,w,c⟩=>by
  rw[Own.q_e_bm]at w;refine one p w fun v G1 H1 x k1 p1 rv q=>⟨by rw[hK];exact hT v G1 H1 x p1.hp rv q.1,env,G1,_,Em,p1,q.2,fun vs G2 H2 xs k2 g2 r2 _ w2=>?_⟩
  obtain⟨t,e,w3⟩:=go_some w2;exact hr v vs G2 H2 x xs t Q Qm g2 (rv.keep k2) r2 e w3 ((c.go k1).go k2)
theorem Li {m:Own.Bm}(hm:m.ty=.l):FY i m "list":=fun v G H x g r h=>by
 unfold Own.bmTy at h;rw[hm]at h;cases v with
 |ref a =>cases r.ref_inv;obtain⟨xs,e⟩:=Kx (show Own.isLst (G a)=true from h);obtain⟨vs,h1,_⟩:=g a _ e;exact .inl ⟨rfl,vs,SqL.of h1⟩
 |_=>cases h
theorem Az{G:Own.Hs}{v:Own.Val}{f:Own.Ad→List Own.Val→Option (Own.Val×Own.Hs)}{t:Own.Val×Own.Hs}(e:Own.bmL G v f=some t):∃ a xs,v=.ref a∧G a=some (.lst xs)∧f a xs=some t:=by
 cases v with
 |ref a=>obtain⟨xs,h1,h2⟩:=O3 e;exact⟨a,xs,rfl,h1,h2⟩
 |_=>cases e
theorem IS{vs:List Own.Val}{α:Type}{f:Own.Val→Option α}{a:α}(e:(match vs with|[v]=>f v|_=>none)=some a):∃ v,vs=[v]∧f v=some a:=by
 cases vs with
 |nil=>cases e
 |cons v vs=>cases vs with
  |nil=>exact⟨v,rfl,e⟩
  |cons _ _=>cases e
theorem EH:FB i .append Mq:=fun v vs G H x xs t Q Qm g rx rs e q c=>by obtain⟨a,ys,rfl,e4,e3⟩:=Az e;obtain⟨u,rfl,e3⟩:=IS e3;obtain⟨hl,e3⟩:=ZM e3;cases e3;cases rx.ref_inv;obtain⟨y,rfl,ry⟩:=rs.inv1;obtain⟨us,h2,r2⟩:=g a _ e4;obtain⟨k3,g3⟩:=Nc (xs:=ys) g h2 (ys++[u]) (us++[y]) (r2.app1 ry);exact⟨a,us,y,rfl,rfl,h2,by rw[←r2.length];exact qR hl ZO,c _ _ _ _ k3 g3 .non q⟩
theorem RFs.look{K:PySem.W.Frag}{H:Hp}{f:String}:∀ {fs:List (String×Own.Val)}{ps:List (Str×V)},RFs K H fs ps→
  (∀ v,fs.lookup f=some v→∃ x,ps.lookup (Str.ofString f)=some x∧RV K H v x)∧(fs.lookup f=none→ps.lookup (Str.ofString f)=none)
 |_,_,.nil=>⟨fun v e=>(by cases e),fun _=>rfl⟩
 |_,_,.cons (f:=g) (v:=u) (x:=y) r t=>by
  have ih:=RFs.look (f:=f) t;rw[qO,qO];by_cases e:f=g
  ·subst e;rw[beq_self_eq_true,beq_self_eq_true];exact⟨fun v z=>(by cases z;exact⟨y,rfl,r⟩),fun z=>(by cases z)⟩
  ·rw[show(f==g)=false by simpa using e,show(Str.ofString f==Str.ofString g)=false by rw[beq_eq_false_iff_ne];exact fun z=>e (ofS_inj.mp z)];exact ih
theorem RFs.put{K:PySem.W.Frag}{H:Hp}{f:String}{v:Own.Val}{x:V}(q:RV K H v x):∀ {fs:List (String×Own.Val)}{ps:List (Str×V)},RFs K H fs ps→RFs K H (Own.putF fs f v) (L2.putF (Str.ofString f) x ps)
 |_,_,.nil=>.cons q .nil
 |_,_,.cons (f:=g) (v:=u) (x:=y) r t=>by
  unfold Own.putF L2.putF;by_cases e:g=f
  ·subst e;rw[if_pos rfl,if_pos rfl];exact .cons q t
  ·rw[if_neg e,if_neg fun z=>e (ofS_inj.mp z)];exact .cons r (RFs.put q t)
theorem RFs.length{K:PySem.W.Frag}{H:Hp}:∀ {fs:List (String×Own.Val)}{ps:List (Str×V)},RFs K H fs ps→fs.length=ps.length
 |_,_,.nil=>rfl
 |_,_,.cons _ t=>by rw[qB,qB,RFs.length t]
structure FldOk (i:Inf) (f:String):Prop where
 no:∀ C c,i.cl C c→KW i.K c (Str.ofString f)
structure ClsA (i:Inf):Prop where
 cls:∀ C c,i.ins C=true→i.cl C c→Cls i.K c
def Dfm (pr:Program) (w:World) (mg:Str→Option Value) (base:Heap) (i:Inf) (P:Own.Pg) (n:Nat) (f:String) (fa:Addr):Prop :=
 ∃ fd ps,FnOk pr w i.K mg base (CX1 pr w) (2*n) fa fd ps (spF i P n f)∧Binds i.K fd ps []
theorem Bx {P:Own.Pg}{n:Nat}{f:String}{p pos:Pos}(hK:X.K=i.K) (D:Dfo X.prog X.w X.mg X.base i P n f) (hr:Room (2*n) X.A) (hg:Gl X (Str.ofString f)) (hdb:(Str.ofString f==("__debug__" : Str))=false) :
  PE X (.Call (.Name (Str.ofString f) p) [] [] pos) (tE X i (Own.wF P n) (.call f .nil)):=by
 obtain⟨fa,fd,ps,F,hm,hk,hb⟩:=D;rw[←hK]at F hk hb;intro pins s σ H Q I h;obtain⟨env,G,Qm,Em,pr,w,c⟩:=h;rw[Own.q_e_call,Own.q_a_nil]at w;refine UK (E:=XK1 i H Em) F hr hg hm hk hb .nil (XW.passes pr.xo) hdb pins s σ H Q I ?_;exact⟨[],G,Qm,Em,.nil,pr.hp,w,c,fun cls d H' h=>h⟩
noncomputable def MX (X:Cx) (i:Inf) (Φ:Own.Fs):Own.Es→List (TE×TE)
 |.cons k (.cons v r)=>(tE X i Φ k,tE X i Φ v)::MX X i Φ r
 |_=>[]
noncomputable def XD:Own.Es→Bool
 |.nil=>true
 |.cons _ .nil=>false
 |.cons _ (.cons _ r)=>XD r
noncomputable def esL:Own.Es→Nat
 |.nil=>0
 |.cons _ es=>esL es+1
noncomputable def M8:List V→List (V×V)
 |x::y::r=>(x,y)::M8 r
 |_=>[]
theorem Kc:∀ (es:Own.Es),XD es=true→∀ {σ:St}{H:Hp}{env:Own.Env}{G:Own.Hs}{Qm:List Own.Val→Own.Hs→Prop}{Em:Own.XQ}{Q:List (V×V)→Hp→Prop},Pre X i σ H env G Em→Own.wA Φ es env G Qm Em→
  (∀ vs G' H' xs,Keep H H'→RH i G' H'→RVs i.K H' vs xs→xs.length=esL es→Qm vs G'→Q (M8 xs) H')→WP (MX X i Φ es) σ H Q
 |.nil,_,σ,H,env,G,Qm,Em,Q,p,w,c=>by rw[Own.q_a_nil]at w;exact c [] G H [] (Keep.refl H) p.hp .nil rfl w
 |.cons k .nil,h,_,_,_,_,_,_,_,_,_,_=>by cases h
 |.cons k (.cons v r),h,σ,H,env,G,Qm,Em,Q,p,w,c=>by rw[Own.q_a_cons]at w;refine one p w fun a G1 H1 x k1 p1 ra q=>?_;rw[Own.q_a_cons]at q;refine one p1 q fun b G2 H2 y k2 p2 rb q2=>?_;refine Kc r h p2 q2 fun vs G' H' xs k3 g3 rv hl hq=>?_;exact c (a::b::vs) G' H' (x::y::xs) ((k1.trans k2).trans k3) g3 (.cons ((ra.keep k2).keep k3) (.cons (rb.keep k3) rv)) (by rw[qB,qB,hl];rfl) hq
theorem X8{K:PySem.W.Frag}{H:Hp}:∀ {vs:List Own.Val}{xs:List V}{kvs:List (Own.Val×Own.Val)},RVs K H vs xs→Own.pairUp vs=some kvs→∃ ps:List (Key×V),M8 xs=ps.map (fun kv=>(kV kv.1,kv.2))∧RKs K H kvs ps∧2*ps.length=xs.length
 |_,_,_,.nil,e=>by cases e;exact⟨[],rfl,.nil,rfl⟩
 |_,_,_,.cons _ .nil,e=>by cases e
 |_,_,kvs,.cons (v:=a) (x:=x) ra (.cons (v:=b) (x:=y) rb t),e=>by
  unfold Own.pairUp at e;split at e
  ·rename_i hk;obtain⟨ks,e2,rfl⟩:=qD.mp e;obtain⟨ps,h1,h2,h3⟩:=X8 t e2;obtain⟨c,hc,rfl⟩:=key_of hk ra;refine⟨(c,y)::ps,?_,.cons hc rb h2,by rw[qB,qB,qB];omega⟩;show(kV c,y)::M8 _=_;rw[h1];rfl
  ·cases e
theorem RKs.merge{K:PySem.W.Frag}{H:Hp}:∀ {kvs:List (Own.Val×Own.Val)}{ps:List (Key×V)}{acc:List (Own.Val×Own.Val)}{bs:List (Key×V)},RKs K H acc bs→RKs K H kvs ps→RKs K H (Own.putAll acc kvs) (Yp bs ps)
 |_,_,_,_,r,.nil=>r
 |_,_,acc,bs,r,.cons (k:=k) (v:=v) (c:=c) (x:=x) (kvs:=kvs) (ps:=ps) a q t=>by show RKs K H (Own.putAll (Own.putK acc k v) kvs) (Yp (L2.putK bs c x) ps);exact RKs.merge (RKs.put a q r) t
theorem EV{pos:Pos}:PE X (.Dict [] [] pos) (tE X i Φ (.dct .nil)) :=
 pe_dnewK.imp fun σ H Q ⟨env,G,Qm,Em,p,w,c⟩=>by rw[Own.q_e_dct]at w;unfold Own.new at w;intro a ha;have w1:=w a (p.hp.free ha);obtain⟨a',e,w2⟩:=go_some w1;cases e;rw[Own.q_a_nil]at w2;obtain⟨ks,e2,_,w3⟩:=go_some w2;cases e2;rw[Own.upd_upd]at w3;have k:=Keep.new (o:=.dK []) ha;exact c _ _ _ _ k (p.hp.put (o:=.dct []) k ⟨[],upd_same,.nil⟩) (.ref a) w3
theorem Gv{es:Own.Es}{keys:List (Option Expr)}{values:List Expr}{pos:Pos}(he:XD es=true)(h30:esL es≤30)(h:PPs X pos keys values (MX X i Φ es))(hall:keys.all (·.isSome)=true)(hl:keys.length=values.length)(h0:keys≠[])(h15:keys.length≤15):PE X (.Dict keys values pos) (tE X i Φ (.dct es)) :=
 (Bw h hall hl h0 h15).imp fun σ H Q ⟨env,G,Qm,Em,p,w,c⟩=>by
  rw[Own.q_e_dct]at w;unfold Own.new at w;intro a ha;have w1:=w a (p.hp.free ha);obtain⟨a',e,w2⟩:=go_some w1;cases e;have k:=Keep.new (o:=.dK []) ha;have p2:Pre X i σ (upd H a (.dK [])) env (Own.upd G a (.dct [])) Em:=p.go k (p.hp.put (o:=.dct []) k ⟨[],upd_same,.nil⟩);refine Kc es he p2 w2 fun vs G' H' xs k2 g2 rv hl w3=>?_;obtain⟨ks,e2,e3,w4⟩:=go_some w3;obtain⟨ps,e4,r4⟩:=g2 a _ e3;cases r4;obtain⟨qs,h1,h2,h3⟩:=X8 rv e2;refine⟨e4,qs,h1,by omega,?_⟩;have k3:Keep H' (upd H' a (.dK (Yp [] qs))):=Keep.put (fun xs e=>by rw[e4]at e;cases e) fun p u e=>by rw[e4]at e;cases e
  exact c _ _ _ _ ((k.trans k2).trans k3) (g2.put (o:=.dct (Own.putAll [] ks)) k3 ⟨_,upd_same,(RKs.merge .nil h2).keep k3⟩) (.ref a) w4
end Snd
namespace L2
open PySem PySem.Spec PyProof.Rows
theorem FQ{k:Key}{u:Value}(h:X5 k u=true):RelV (kV k) u:=by
 rcases Zp h with⟨i,t,rfl,rfl⟩|⟨x,t,rfl,rfl⟩
 ·exact⟨t,rfl⟩
 ·exact⟨t,rfl⟩
theorem KV.at:∀ {ps:List (Key×V)}{vs:List (Key×Value)}{i:Nat}{k:Key}{x:V},KV ps vs→ps[i]?=some (k,x)→∃ u,vs[i]?=some (k,u)∧RelV x u:=by
 intro ps vs i k x r;unfold KV at r;induction r generalizing i with
 |nil=>intro h;simp at h
 |@cons p q ps qs h t ih =>
  intro e;cases i with
  |zero =>simp at e;subst e;obtain⟨q1,q2⟩:=q;obtain⟨h1,h2⟩:=h;have h1:k=q1:=h1;subst h1;exact⟨q2,rfl,h2⟩
  |succ i=>simpa using ih (by simpa using e)
def TupsH (I S:Addr) (items:Array Value) (val:Nat→List Int) (h:Heap):Prop:=∀ i v,items[i]?=some v→∃ a its,v=.ref a∧a≠I∧a≠S∧IsTup h a its∧IntsAre its.toList (val i)
theorem TupsH.keep{I S:Addr}{items:Array Value}{val:Nat→List Int}{h h':Heap}(t:TupsH I S items val h)(k:∀ b o,b≠I→b≠S→h.get? b=some o→h'.get? b=some o):TupsH I S items val h':=fun i v e=>by obtain⟨a,its,h1,h2,h3,⟨o,q1,q2⟩,h5⟩:=t i v e;exact⟨a,its,h1,h2,h3,⟨o,k a o h2 h3 q1,q2⟩,h5⟩
def btL (val:Nat→List Int) (i j:Nat):Bool:=HT.lexLt (val i) (val j)
section
variable {prog:Program}{w:World}{A:Around}{R:Result→Shared→Prop}{I l:Addr}{items:Array Value}{val:Nat→List Int}{kw:List (Str×Value)}{fp:List Addr}{St:Nat→Heap→Prop}
theorem ND(W:Walks prog w A.in1 I fp [I] items.size (fun i v=>items[i]?=some v) St)(hu:A.units+1<cLine)(S:Addr)(hSI:S≠I)(hSf:S∉fp) :
  ∀ (k j:Nat) (s:Shared) (vb:Value) (c:Nat),items.size - (j+1)=k→j+1≤items.size→St (j+1) s.heap→TupsH I S items val s.heap→items[argBest (btL val) j]?=some vb→
  s.heap.get? S=some {cls:=.type "list",dict:=none,data:=.seq #[vb,vb] c,slots:=#[]}→
  (∀ v h' tk,items[argBest (btL val) (items.size - 1)]?=some v→(∀ b o,b≠I→b≠S→s.heap.get? b=some o→h'.get? b=some o)→R (.ok (.ret v)) {s with heap:=h',toks:=tk})→
  codeAny (model prog w) A (.builtin "min.loop" ⟨[.ref I,.none,.ref S],kw⟩) R s:=by
 have hname:(toString "min" ++ toString ".loop" : String) = "min.loop":=by decide
 have hSw:S∉[I]:=by simp[hSI]
 intro k;induction k with
 |zero =>
  intro j s vb c hk hj hst hT hPb hS hR;have hin:j+1=items.size:=by omega
  refine codeAny_builtin PySem.F.entry_min_loop ?_;rw[Around.under_plainId PySem.F.plain_min_loop _];show wpAny _ A.in1 (seqItems? (.ref S) >>= _) _ _ s;refine wpAny_bind (wpAny_seqItems hS rfl ?_);show wpAny _ A.in1 (tryCatch (pyNext (.ref I)) _ >>= _) _ _ s;refine wpAny_bind (wpAny_tryCatch (W.done s _ _ (hin▸hst) fun h' tk hk'=>?_));have hS':=hk' S _ hSw hS;show wpAny _ A.in1 (updateSeq S (fun _=>#[]) >>= _) _ _ _;refine wpAny_bind ?_;refine wpAny_updateSeq hS' rfl (wpAny_bind (wpAny_letGo (wpAny_pure ?_)));refine hR vb _ tk (by rw[←hin];exact hPb) fun b o hbw hbS e=>(Heap.get?_update_other _ _ (Ne.symm hbS)).trans (hk' b o (by simpa using hbw) e)
 |succ k ih =>
  intro j s vb c hk hj hst hT hPb hS hR;have hlt:j+1<items.size:=by omega
  refine codeAny_builtin PySem.F.entry_min_loop ?_;rw[Around.under_plainId PySem.F.plain_min_loop _];show wpAny _ A.in1 (seqItems? (.ref S) >>= _) _ _ s;refine wpAny_bind (wpAny_seqItems hS rfl ?_);show wpAny _ A.in1 (tryCatch (pyNext (.ref I)) _ >>= _) _ _ s;refine wpAny_bind (wpAny_tryCatch (W.item (j+1) s _ _ hlt hst fun v h' tk hP hst' hk'=>?_));have hS':=hk' S _ hSw hS;have hT':TupsH I S items val h':=hT.keep fun b o h1 _ e=>hk' b o (by simpa using h1) e;have hP:items[j+1]?=some v:=hP;obtain⟨a,its,rfl,_,_,pa,ia⟩:=hT' _ _ hP;obtain⟨b0,its2,rfl,_,_,pb,ib⟩:=hT' _ _ hPb;show wpAny _ A.in1 (tryCatch (holding [.ref a,.ref a] (compareOp .Lt (.ref a) (.ref b0) >>= _)) _ >>= _) _ _ _;refine wpAny_bind (wpAny_tryCatch (wpAny_holding (wpAny_bind (HT.lt_tupInts pa pb ia ib hu ?_))));refine wpAny_bind (wpAny_holding (wpAny_truthy_bool ?_));refine wpAny_bind (wpAny_letGo (wpAny_pure ?_));cases hb:HT.lexLt (val (j+1)) (val (argBest (btL val) j))with
  |true =>
   have hb':btL val (j+1) (argBest (btL val) j)=true:=hb;simp only[if_true];refine wpAny_bind ?_;refine wpAny_updateSeq hS' rfl (wpAny_bind (wpAny_letGo ?_));rw[hname];refine wpAny_pure ⟨plainId_quiet PySem.F.plain_min_loop _,ih (j+1) _ (.ref a) _ (by omega) hlt (W.frame _ _ _ hst' fun b hbf o e=>?_) (hT'.keep fun b o _ h2 e=>(Heap.get?_update_other _ _ (Ne.symm h2)).trans e) (by simp only[argBest,hb',if_true];exact hP) (Heap.get?_update_self _ hS' rfl)
     fun v' h'' tk'' hP' hk''=>?_⟩
   ·exact(Heap.get?_update_other _ _ (fun h:S=b=>hSf (by rw[h];exact hbf))).trans e
   ·exact hR v' h'' tk'' hP' fun b o hbw hbS e=>hk'' b o hbw hbS ((Heap.get?_update_other _ _ (Ne.symm hbS)).trans (hk' b o (by simpa using hbw) e))
  |false =>have hb':btL val (j+1) (argBest (btL val) j)=false:=hb;simp only[Bool.false_eq_true,if_false];refine wpAny_bind (wpAny_letGo ?_);rw[hname];refine wpAny_pure ⟨plainId_quiet PySem.F.plain_min_loop _,ih (j+1) _ (.ref b0) c (by omega) hlt hst' hT' (by simp only[argBest,hb',Bool.false_eq_true,if_false];exact hPb) hS' fun v' h'' tk'' hP' hk''=>?_⟩;exact hR v' h'' tk'' hP' fun b o hbw hbS e=>hk'' b o hbw hbS (hk' b o (by simpa using hbw) e)
theorem KI(W:Walks prog w A.in1 I fp [I] items.size (fun i v=>items[i]?=some v) St)(hu:A.units+1<cLine)(S:Addr)(hSI:S≠I)(hSf:S∉fp)(hn:0<items.size){s:Shared}{c:Nat}(hst:St 0 s.heap)(hT:TupsH I S items val s.heap)
  (hS:s.heap.get? S=some {cls:=.type "list",dict:=none,data:=.seq #[] c,slots:=#[]})
  (hR:∀ v h' tk,items[argBest (btL val) (items.size - 1)]?=some v→(∀ b o,b≠I→b≠S→s.heap.get? b=some o→h'.get? b=some o)→R (.ok (.ret v)) {s with heap:=h',toks:=tk}) :
  codeAny (model prog w) A (.builtin "min.loop" ⟨[.ref I,.none,.ref S],kw⟩) R s:=by
 have hname:(toString "min" ++ toString ".loop" : String) = "min.loop":=by decide
 have hSw:S∉[I]:=by simp[hSI]
 refine codeAny_builtin PySem.F.entry_min_loop ?_;rw[Around.under_plainId PySem.F.plain_min_loop _];show wpAny _ A.in1 (seqItems? (.ref S) >>= _) _ _ s;refine wpAny_bind (wpAny_seqItems hS rfl ?_);show wpAny _ A.in1 (tryCatch (pyNext (.ref I)) _ >>= _) _ _ s;refine wpAny_bind (wpAny_tryCatch (W.item 0 s _ _ hn hst fun v h' tk hP hst' hk'=>?_));have hS':=hk' S _ hSw hS;have hT':TupsH I S items val h':=hT.keep fun b o h1 _ e=>hk' b o (by simpa using h1) e;show wpAny _ A.in1 (updateSeq S (fun _=>#[v,v]) >>= _) _ _ _;refine wpAny_bind ?_;refine wpAny_updateSeq hS' rfl ?_;rw[hname];refine wpAny_pure ⟨plainId_quiet PySem.F.plain_min_loop _,ND W hu S hSI hSf _ 0 _ v _ rfl hn (W.frame _ _ _ hst' fun b hbf o e=>?_) (hT'.keep fun b o _ h2 e=>(Heap.get?_update_other _ _ (Ne.symm h2)).trans e) hP (Heap.get?_update_self _ hS' rfl) fun v' h'' tk'' hP' hk''=>?_⟩
 ·exact(Heap.get?_update_other _ _ (fun h:S=b=>hSf (by rw[h];exact hbf))).trans e
 ·exact hR v' h'' tk'' hP' fun b o hbw hbS e=>hk'' b o hbw hbS ((Heap.get?_update_other _ _ (Ne.symm hbS)).trans (hk' b o (by simpa using hbw) e))
end
section
variable {X:Cx}
theorem KK (hc:X.calm=true) (hu:X.A.units+1<cLine):CallR X (.builtin "min") (fun xs H Q=>∃ p q,∃ ns ms:List Int,xs=[.ref p,.ref q]∧SqT X.K H p (ns.map V.int)∧SqT X.K H q (ms.map V.int)∧Q (if HT.lexLt ms ns=true then .ref q else .ref p) H):=by
 intro pins s σ H xs us Q I r h;obtain⟨p,q,ns,ms,rfl,hp,hq,q1⟩:=h;obtain⟨u,v,rfl,ru,rv⟩:=Mv r;cases ru;cases rv;have hname:(toString "min" ++ toString ".loop" : String) = "min.loop":=by decide
 refine call_function_tree PySem.F.kind_min PySem.F.plain_min PySem.F.entry_min (PySem.F.args_min2 _ _) ?_;show wpAny _ X.A.in1 (Builtin.Builtins.bindParams "min" ["key","default"] 0 ⟨[],[]⟩ >>= _) _ _ s;refine wpAny_bind (wpAny_of_eq (show Builtin.Builtins.bindParams "min" ["key","default"] 0 ⟨[],[]⟩=pure [none,none] from rfl) ?_);show wpAny _ X.A.in1 (newTuple [.ref p,.ref q] >>= _) _ _ s;refine wpAny_bind (wpAny_newObj_type ?_);have hT:(s.heap.push {cls:=.type "tuple",data:=.seq #[.ref p,.ref q]}).IsTuple s.heap.objs.size #[.ref p,.ref q]:=⟨_,Heap.get?_push_size _ rfl,rfl,0,rfl⟩
 refine wpAny_bind (wpAny_pyIter_tuple hT ?_);refine wpAny_bind (wpAny_newObj_type ?_);rw[hname];generalize hg1:s.heap.push {cls:=.type "tuple",data:=.seq #[.ref p,.ref q]}=g1 at hT ⊢;have z1:g1.objs.size=s.heap.objs.size+1:=by rw[←hg1];exact Heap.size_push ..
 have k1:∀ b o,s.heap.get? b=some o→g1.get? b=some o:=fun b o e=>by rw[←hg1];exact Heap.get?_push_of_some _ e
 generalize hg2:g1.push {cls:=.type "tuple_iterator",data:=.fields #[.ref s.heap.objs.size,.int 0 0]}=g2;have z2:g2.objs.size=g1.objs.size+1:=by rw[←hg2];exact Heap.size_push ..
 have k2:∀ b o,g1.get? b=some o→g2.get? b=some o:=fun b o e=>by rw[←hg2];exact Heap.get?_push_of_some _ e
 have i2:g2.get? g1.objs.size=some {cls:=.type "tuple_iterator",data:=.fields #[.ref s.heap.objs.size,.int 0 0]}:=by rw[←hg2];exact Heap.get?_push_size _ rfl
 refine wpAny_pure ⟨plainId_quiet PySem.F.plain_min_loop _,?_⟩;have old:∀ b o,s.heap.get? b=some o→b≠g1.objs.size∧b≠g2.objs.size:=fun b o e=>by have:=Heap.lt_size e;exact⟨zF (by rw[z1];exact Nat.lt_succ_of_lt this),zF (by rw[z2,z1];exact Nat.lt_succ_of_lt (Nat.lt_succ_of_lt this))⟩
 have n1:s.heap.objs.size≠g1.objs.size:=by rw[z1];exact zF (Nat.lt_succ_self _)
 have n2:g2.objs.size≠g1.objs.size:=by rw[z2];exact Nat.ne_of_gt (Nat.lt_succ_self _)
 have n3:g2.objs.size≠s.heap.objs.size:=by rw[z2,z1];exact Nat.ne_of_gt (Nat.lt_succ_of_lt (Nat.lt_succ_self _))
 refine KI (A:=X.A) (items:=#[.ref p,.ref q]) (val:=fun i=>[ns,ms].getD i []) (Walks.tuple (A:=X.A.in1) (I.ok.hd hc) g1.objs.size s.heap.objs.size n1 #[.ref p,.ref q]) hu g2.objs.size n2 (fun z=>(qE.mp z).elim n2 fun z=>n3 (zH.mp z)) (Nat.succ_pos _) ⟨⟨_,Heap.get?_push_of_some _ i2,rfl,rfl⟩,?_⟩ (fun i v e=>?_) (Heap.get?_push_size _ rfl) fun v h' tk hv hk=>?_
 ·obtain⟨o,e,r⟩:=hT;exact⟨o,Heap.get?_push_of_some _ (k2 _ _ e),r⟩
 ·have key:∀ a (ks:List Int),SqT X.K H a (ks.map V.int)→∃ b its,(Value.ref a)=.ref b∧b≠g1.objs.size∧b≠g2.objs.size∧IsTup (g2.push {cls:=.type "list",data:=.seq #[]}) b its∧IntsAre its.toList ks:=fun a ks ha=>by
   obtain⟨tt,r2,⟨o2,e2,rest⟩,_⟩:=I.tuple ha;exact⟨a,tt.toArray,rfl,(old a o2 e2).1,(old a o2 e2).2,⟨o2,Heap.get?_push_of_some _ (k2 _ _ (k1 _ _ e2)),rest⟩,Zz r2⟩
  match i,e with
  |0,e=>cases e;exact key p ns hp
  |1,e=>cases e;exact key q ms hq
  |i+2,e=>simp at e
 ·have eb:argBest (btL fun i=>[ns,ms].getD i []) 1=if HT.lexLt ms ns=true then 1 else 0:=rfl;have hv:(#[Value.ref p,Value.ref q]:Array Value)[argBest (btL fun i=>[ns,ms].getD i []) 1]?=some v:=hv;rw[eb]at hv;have I2:=I.kept (t':=tk) (h':=h') fun b o e=>hk b o (old b o e).1 (old b o e).2 (Heap.get?_push_of_some _ (k2 _ _ (k1 _ _ e)));by_cases hl:HT.lexLt ms ns=true
  ·rw[if_pos hl]at hv q1;have hv:some (Value.ref q)=some v:=hv;cases hv;exact⟨.ref q,H,I2,rfl,q1⟩
  ·rw[if_neg hl]at hv q1;have hv:some (Value.ref p)=some v:=hv;cases hv;exact⟨.ref p,H,I2,rfl,q1⟩
theorem Y7{P:Program}{w:World}:∀ {ns:List Int}{vs:List (Key×Value)}{acc:List Value},vs.map (·.1)=ns.map Sum.inl→acc.length=vs.length→(∀ (j:Nat) (v:Value),acc[j]?=some v→∃ (k:Key) (x:Value),vs[j]?=some (k,x)∧(Zg P w).is k v=true)→IntsAre acc ns
 |[],[],[],_,_,_=>.nil
 |[],_::_,_,h,_,_=>by cases h
 |_::_,[],_,h,_,_=>by cases h
 |[],[],_::_,_,h,_=>by cases h
 |_::_,_::_,[],_,h,_=>by cases h
 |n::ns,p::vs,u::acc,h1,h2,h3=>by rw[qG,qG]at h1;injection h1 with h1 h1';obtain⟨k,x,e1,e2⟩:=h3 0 u rfl;simp at e1;subst e1;have h1:k=Sum.inl n:=h1;subst h1;obtain⟨t,rfl⟩:∃ t,u=Value.int n t:=FQ (k:=Sum.inl n) (u:=u) e2;exact .cons n t (Y7 (P:=P) (w:=w) h1' (by simpa using h2) fun j v e=>by simpa using h3 (j+1) v (by simpa using e))
theorem Jk (hc:X.calm=true):CallR X (.builtin "sorted") (fun xs H Q=>∃ p kvs,∃ ns:List Int,xs=[.ref p]∧Rd H p (.dK kvs)∧kvs.map (·.1)=ns.map Sum.inl∧ns.length<64∧∀ l,H l=none→Q (.ref l) (upd H l (.lst ((sortI ns).map V.int)))):=by
 intro pins s σ H xs us Q I r h;obtain⟨p,kvs,ns,rfl,hp,hk,h64,q⟩:=h;obtain⟨u,rfl,rx⟩:=ZN r;cases rx;obtain⟨z,hsm,vs,rel,dd⟩:=XG I.hok hp;obtain⟨ep,da⟩:=dd.dictAt;have hlen:vs.length=ns.length:=by have:=congrArg List.length hk;simpa[rel.length]using this
 refine Calls.call_function_entry kind_sorted plain_sorted entry_sorted (args_sorted1 _) ?_;unfold Builtin.«sorted»;refine wpAny_bind (m:=checkCount "sorted" 1 1 _) (wpAny_pure ?_);refine wpAny_bind (PySem.W.kdu_collect (A:=X.A.in1) (PySem.W.kdl_dict (knd:=Zg X.prog X.w) (kvs:=vs) (ep:=ep) hsm) (I.ok.hd hc) da (by rw[←rel.length];exact z) fun h' tk acc hkeep hacc=>?_);have hl:acc.toList.length=vs.length:=by rw[zC];exact hacc.1
 refine wpAny_bind (wpAny_newList ?_ (by rw[hl,←rel.length];exact z));have hI:IntsAre acc.toList ns:=Y7 (P:=X.prog) (w:=X.w) (by rw[←rel.keys];exact hk) hl fun j v e=>hacc.2 j v (by rw[←Array.getElem?_toList];exact e);have hoL:(h'.push (seqObj "list" acc.toList.toArray 0)).get? h'.objs.size=some (seqObj "list" acc.toList.toArray 0):=Heap.get?_push_size _ rfl;have I1:Inv X pins σ H {s with heap:=h',toks:=tk}:=I.kept hkeep;refine wpAny_bind (wpAny_holding (wpAny_call_entry slot_list_sort ⟨_,hoL,rfl⟩ entry_list_sort (list_sort_tree hoL hI (by rw[hl,hlen];exact h64) fun out ns' a1 a2 a3=>⟨_,rfl,?_⟩) (args_list_sort _)));have e:=Yj a2 a3;subst e;obtain⟨n,he⟩:=sortedHeap_at (out:=out) hoL;refine wpAny_pure ⟨_,rfl,.ref h'.objs.size,_,I1.laid (a:=h'.objs.size) (o:=.lst ((sortI ns).map V.int)) (t':=tk) (fun b o e=>?_) (zG _) ?_,rfl,q _ (I1.hok.fresh (zG _))⟩
 ·have e:h'.get? b=some o:=e;have hb:=Heap.lt_size e;rw[sortedHeap_old (zF hb) (by rw[size_push'];exact Nat.lt_succ_of_lt hb)];exact Heap.get?_push_of_some _ e
 ·exact⟨by rw[qA,Yd];unfold sizeLine;omega,out.toList,n,Yk a1,by simpa[seqObj]using he⟩
end
end L2
namespace Srt
open PySem.W PyProof.Rows
def ok (n:Nat) (lt:Nat→Nat→Bool){α:Type}:KasT α→(α→Prop)→Prop
 |.ret a,Q=>Q a
 |.ask i j k,Q=>i<n∧j<n∧ok n lt (k (lt i j)) Q
section
variable {n:Nat}{lt:Nat→Nat→Bool}
def K (p:Array Nat) (k:Nat):Nat:=p.getD k 0
structure Good (n:Nat) (p:Array Nat):Prop where
 sz:p.size=n
 pm:p.toList.Perm (List.range n)
theorem Good.at{p:Array Nat}(g:Good n p)(h0:0<n)(k:Nat):K p k<n:=by
 unfold K;by_cases h:k<p.size
 ·have e:p.getD k 0=p[k]:=by simp[Array.getD,h]
  rw[e];have:p[k]∈List.range n:=g.pm.mem_iff.mp (by simp);exact List.mem_range.mp this
 ·have e:p.getD k 0=0:=by simp[Array.getD,h]
  rw[e];exact h0
theorem Good.rev{p:Array Nat}(g:Good n p)(i j:Nat):Good n (kas_rev p i j):=⟨(mirror_size ..).trans g.sz,(Array.perm_iff_toList_perm.mp (mirror_perm ..)).trans g.pm⟩
end
end Srt
namespace L2
open PySem PySem.Spec PyProof.Rows PySem.W
section
variable {prog:Program}{w:World}{A:Around}{E:Value→Shared→Prop}{s:Shared}
def RowsAt (h:Heap) (vs:List Value) (rows:List (List Int)):Prop:=rows.length=vs.length∧∀ i,i<vs.length→∃ p o its n,vs.getD i Value.none=.ref p∧h.get? p=some o∧o.cls=.type "tuple"∧o.data=.seq its n∧IntsAre its.toList (rows.getD i [])∧rows.getD i []≠[]
theorem RowsAt.keep {h h':Heap}{vs:List Value}{rows:List (List Int)}(r:RowsAt h vs rows) (k:∀ b o,h.get? b=some o→o.cls=.type "tuple"→h'.get? b=some o):RowsAt h' vs rows:=⟨r.1,fun i hi=>by
  obtain⟨p,o,its,n,h1,h2,h3,h4,h5⟩:=r.2 i hi
  exact⟨p,o,its,n,h1,k p o h2 h3,h3,h4,h5⟩⟩
end
end L2
namespace Snd
open PySem L2
variable {i:Inf}{X:Cx}{Φ:Own.Fs}
theorem Kh{H:Hp}:∀ {kvs:List (Own.Val×Own.Val)}{ps:List (Key×V)}{ns:List Int},RKs i.K H kvs ps→Own.keysOf kvs=some ns→ps.map (·.1)=ns.map Sum.inl
 |_,_,ns,.nil,e=>by have e:some []=some ns:=e;cases e;rfl
 |(k,v)::kvs,_,ns,.cons (c:=c) hk _ t,e=>by
  have e:Own.intsOf (k::kvs.map (·.1))=some ns:=e;cases k with
  |int j =>
   have e:(Own.intsOf (kvs.map (·.1))).map (j :: ·)=some ns:=e;obtain⟨ms,z,rfl⟩:=qD.mp e;have ih:=Kh (ns:=ms) t z;cases c with
   |inl l =>have hk:j=l:=hk;subst hk;rw[qG,qG,ih]
   |inr _=>exact(show False from hk).elim
  |_=>cases e
theorem RVs.perm{H:Hp}{vs:List Own.Val}{xs:List V}(r:RVs i.K H vs xs):∀ (ps:List Nat),(∀ k∈ps,k<vs.length)→RVs i.K H (ps.map fun k=>vs.getD k .non) (ps.map fun k=>xs.getD k .non)
 |[],_=>.nil
 |k::ps,h=>by have hk:=h k qT;obtain⟨x,h1,h2⟩:=r.get (qH hk);refine .cons ?_ (RVs.perm r ps fun j hj=>h j (qI _ hj));show RV i.K H (vs.getD k .non) (xs.getD k .non);rw[qN,qN,qH hk,h1];exact h2
theorem KM:BiOk i .sortedI (fun xs H Q=>(∃ p,∃ ns:List Int,xs=[.ref p]∧SqL i.K H p (ns.map V.int)∧ns.length<64∧∀ l,H l=none→Q (.ref l) (upd H l (.lst ((L2.sortI ns).map V.int))))∨
    (∃ p kvs,∃ ns:List Int,xs=[.ref p]∧Rd H p (.dK kvs)∧kvs.map (·.1)=ns.map Sum.inl∧ns.length<64∧∀ l,H l=none→Q (.ref l) (upd H l (.lst ((L2.sortI ns).map V.int))))):=by
 intro vs G H xs Q Qm g r w c;obtain⟨v,rfl,w⟩:=Yt w;obtain⟨x,rfl,rx⟩:=r.inv1;have key:∀ (ns:List Int),(if ns.length<64 then Own.Rs.new (.lst ((Own.sortI ns).map .int))else .no).wp G Qm→ns.length<64∧∀ l,H l=none→Q (.ref l) (upd H l (.lst ((L2.sortI ns).map V.int))):=fun ns w=>by
  split at w
  ·rename_i h64;exact⟨h64,ZR g (Xd w) c fun p hp=>⟨_,upd_same,RVs.ints _⟩⟩
  ·exact(Zf w).elim
 cases v with
 |ref a =>
  cases rx.ref_inv
  replace w:(Own.biSortedI G (.ref a)).wp G Qm:=w
  unfold Own.biSortedI Own.sortAny at w;dsimp only at w;cases z:G a with
  |none=>rw[z]at w;exact(Zf w).elim
  |some o =>
   rw[z]at w;cases o with
   |lst ys =>
    cases z2:Own.intsOf ys with
    |none=>simp only[z2]at w;exact(Zf w).elim
    |some ns =>simp only[z2]at w;obtain⟨us,h1,h2⟩:=g a _ z;have:=ZI z2 h2;subst this;exact .inl ⟨a,ns,rfl,SqL.of h1,key ns w⟩
   |dct kvs =>
    cases z2:Own.keysOf kvs with
    |none=>simp only[z2]at w;exact(Zf w).elim
    |some ns =>simp only[z2]at w;obtain⟨ps,h1,h2⟩:=g a _ z;exact .inr ⟨a,ps,ns,rfl,.inl h1,Kh h2 z2,key ns w⟩
   |_=>exact(Zf w).elim
 |scr ns =>
  cases rx with
  |scr h=>exact .inl ⟨_,ns,rfl,Z1 h,key ns w⟩
 |_=>exact(Zf w).elim
theorem Gh{e:Expr}{m:Own.E}{k:Nat}{p0 p1 p2 pos:Pos}(hK:X.K=i.K)(he:PE X e (tE X i Φ m)):PE X (.Subscript e (.Slice none none (some (.UnaryOp .USub (.Constant (.int 1) k p0) p1)) p2) pos) (tE X i Φ (.rev m)) :=
 (CP he).imp fun σ H Q ⟨env,G,Qm,Em,p,w,c⟩=>by
  rw[Own.q_e_rev]at w;exact one p w fun v G1 H1 x k1 p1 r q=>by obtain⟨a,e1,q1⟩:=go_some q;clear q;obtain⟨xs,e2,q2⟩:=go_some q1;clear q1;cases Kq e1;cases r.ref_inv;obtain⟨us,h1,h2⟩:=Zy p1.hp e2;exact⟨a,us,rfl,by rw[hK];exact h1,ZR p1.hp q2 (c.go k1) fun p hp=>⟨_,upd_same,(h2.reverse).keep (Keep.new hp)⟩⟩
end Snd
namespace Snd
open PySem L2 PyProof.Rows
variable {i:Inf}{X:Cx}{Φ:Own.Fs}
theorem Ws:∀ (ns:List Int) (a:Int),a∈Own.dedup ns↔a∈ns
 |[],a=>Iff.rfl
 |x::xs,a=>by
  have ih:=Ws xs a;unfold Own.dedup;simp only[qE,List.mem_filter,ih];constructor
  ·rintro(h|h)
   ·exact .inl h
   ·exact .inr h.1
  ·rintro(h|h)
   ·exact .inl h
   ·by_cases e:a=x
    ·exact .inl e
    ·exact .inr ⟨h,by simpa using e⟩
theorem Xi:∀ ns:List Int,(Own.dedup ns).Nodup
 |[]=>List.nodup_nil
 |x::xs=>by unfold Own.dedup;rw[List.nodup_cons];refine⟨fun h=>?_,List.Nodup.sublist List.filter_sublist (Xi xs)⟩;have:=(List.mem_filter.mp h).2;simp at this
theorem X6:∀ (ns acc:List Int),acc.Nodup→(ns.foldl step_dedup acc).Nodup∧∀ a,a∈ns.foldl step_dedup acc↔a∈acc∨a∈ns
 |[],acc,h=>⟨h,fun a=>by simp⟩
 |x::xs,acc,h=>by
  have h2:(step_dedup acc x).Nodup∧∀ a,a∈step_dedup acc x↔a∈acc∨a=x:=by
   unfold step_dedup;split
   ·rename_i hc;have hm:x∈acc:=by simpa using hc
    exact⟨h,fun a=>⟨.inl,fun z=>z.elim id fun e=>e▸hm⟩⟩
   ·rename_i hc;have hm:x∉acc:=by simpa using hc
    refine⟨?_,fun a=>by simp⟩;rw[List.nodup_append];refine⟨h,by simp,fun a ha b hb=>?_⟩;rw[zH.mp hb];exact fun e=>hm (e▸ha)
  obtain⟨h3,h4⟩:=X6 xs (step_dedup acc x) h2.1;refine⟨h3,fun a=>?_⟩;rw[List.foldl_cons,h4,h2.2,qE];constructor
  ·rintro((z|z)|z)
   ·exact .inl z
   ·exact .inr (.inl z)
   ·exact .inr (.inr z)
  ·rintro(z|z|z)
   ·exact .inl (.inl z)
   ·exact .inl (.inr z)
   ·exact .inr z
theorem J9(ns:List Int):(firstMet (fun i=>ns.getD i 0) ns.length).Perm (Own.dedup ns):=by
 have e:(List.range ns.length).map (fun i=>ns.getD i 0)=ns:=by
  apply List.ext_getElem
  ·simp
  ·intro k h1 h2;simp at h1;simp[h1]
 unfold firstMet;rw[e];obtain⟨h1,h2⟩:=X6 ns [] List.nodup_nil;refine(List.perm_ext_iff_of_nodup h1 (Xi ns)).mpr fun a=>?_;rw[h2,Ws];simp
theorem Bv(ns:List Int):(firstMet (fun i=>ns.getD i 0) ns.length).length=(Own.dedup ns).length:=(J9 ns).length_eq
theorem JE{G:Own.Hs}{H:Hp}{v:Own.Val}{x:V}{ns:List Int}(g:RH i G H)(r:RV i.K H v x)(e:Own.sortOf G v=some ns):∃ p,x=.ref p∧SqL i.K H p (ns.map V.int):=by
 cases v with
 |ref a =>obtain⟨ys,z1,z2⟩:=q9.mp (show(Own.lsOf (G a)).bind Own.intsOf=some ns from e);obtain⟨us,h1,h2⟩:=Zy g z1;have:=ZI z2 h2;subst this;exact⟨a,r.ref_inv,h1⟩
 |scr ms =>
  cases e;cases r with
  |scr h=>exact⟨_,rfl,Z1 h⟩
 |_=>cases e
theorem Wr:∀ {xs:List Own.Val}{k n:Nat}{v:Own.Val},(Own.enumL k xs)[n]?=some v→∃ x,xs[n]?=some x∧v=.tup [.int ((k+n:Nat):Int),x]
 |[],k,n,v,h=>by simp[Own.enumL]at h
 |x::xs,k,0,v,h=>by have h:some (Own.Val.tup [.int k,x])=some v:=h;cases h;exact⟨x,rfl,rfl⟩
 |x::xs,k,n+1,v,h=>by obtain⟨y,h1,h2⟩:=Wr (xs:=xs) (k:=k+1) (n:=n) (v:=v) (by simpa[Own.enumL]using h);refine⟨y,by simpa using h1,?_⟩;rw[h2,show k+1+n=k+(n+1) by omega]
theorem WA:∀ (xs:List Own.Val) (k:Nat),(Own.enumL k xs).length=xs.length
 |[],_=>rfl
 |x::xs,k=>by show(Own.enumL (k+1) xs).length+1=xs.length+1;rw[WA xs]
theorem UV{H0:Hp}{a:Addr}{xs:List Own.Val}{us:List V}(ha:H0 a=some (.tup us)∨KT i.K a us)(ra:RVs i.K H0 xs us):ItOk i H0 (Ite i.K a) (fun _=>True) (Own.enumL 0 xs) where
 go:=fun n G H v k g e hv=>by obtain⟨x,hx,rfl⟩:=Wr hv;have h1:SqT i.K H a us:=Zl (ha.imp (k.t _ _) id);obtain⟨x',h5,h6⟩:=(ra.keep k).get hx;refine⟨⟨us,x',h1,h5⟩,fun w H' ⟨p,e1,hp,e2⟩=>?_⟩;subst e1;have:=e2 us x' h1 h5;subst this;have k:=Keep.new (o:=.tup [.int n,x']) hp;refine⟨k,MY g hp,.tup (.inl upd_same) (.cons ?_ (.cons (h6.keep k) .nil))⟩;rw[Nat.zero_add];exact .int _
 stop:=fun n G H k g e hn=>by have h1:SqT i.K H a us:=Zl (ha.imp (k.t _ _) id);exact⟨us,h1,by rw[←ra.length,←WA xs 0];exact hn⟩
theorem Kj{v:Own.Val}{xs:List Own.Val}(h:Own.tupOf v=some xs):v=.tup xs:=by
 cases v with
 |tup ys=>cases h;rfl
 |_=>cases h
theorem BA {es:List Expr}{kk:Nat}{tp p pos:Pos}{e:Expr}{m:Own.E}(hK:X.K=i.K) (hg:Gl X "enumerate") (hm:X.mg "enumerate" = none) (he:PE X e (tE X i Φ m)) (hs:starEach [e] X.env=[(false,eval e X.env)]) :
  PI X (.Tuple es kk tp) (.Call (.Name "enumerate" p) [e] [] pos) (tIt X i Φ (.enum m)) :=
 (OH hg hm (ZV he pa_nil hs) hs).imp fun σ H R ⟨env,G,QI,Em,p,w,c⟩=>by
  rw[Own.q_i_enum]at w;change tE X i Φ m σ H _;refine one p w fun v G1 H1 x k1 p1 rx q=>?_;obtain⟨xs,e1,q2⟩:=go_some q;clear q;cases Kj e1;rw[hK];cases rx with
  |tup hp hr=>exact⟨_,rfl,⟨_,Zl hp⟩,c _ _ G1 H1 _ k1 p1.hp (UV hp hr) q2⟩
theorem OP {e:Expr}{m:Own.E}{p p2 pos pos2:Pos}(hc:X.calm=true) (hK:X.K=i.K) (he:PE X e (tE X i Φ m)) (hg:Gl X "len") (hm:X.mg "len" = none) (hg2:Gl X "set") (hm2:X.mg "set" = none) (hst:starEach [e] X.env=[(false,eval e X.env)]) :
  PE X (.Call (.Name "len" p) [.Call (.Name "set" p2) [e] [] pos2] [] pos) (tE X i Φ (.bi .lenSet (.cons m .nil))):=by
 refine(Z3 NM hg hm (by kernel_rfl) (ZV (Z0 UL hg2 hm2 (by kernel_rfl) (ZV he pa_nil hst) (he:=hst)) pa_nil)).imp fun σ H Q ⟨env,G,Qm,Em,p,w,c⟩=>?_;rw[Own.q_e_bi,Own.q_a_cons]at w;change tE X i Φ m σ H _;refine one p w fun v G1 H1 x k1 p1 r q=>?_;rw[Own.q_a_nil]at q
 replace q:(Own.biLenSet G1 v).wp G1 Qm:=q
 unfold Own.biLenSet at q;cases z:Own.sortOf G1 v with
 |none=>rw[z]at q;exact(Zf q).elim
 |some ns =>
  rw[z]at q;dsimp only at q;split at q
  ·rename_i h4;obtain⟨a,rfl,hs⟩:=JE p1.hp r z;refine⟨a,ns,rfl,by rw[hK];exact hs,h4,hc,fun l S n hl hn=>?_⟩;have hn2:=hn.trans (Bv ns);clear hn;subst hn2;have k2:Keep H1 (upd H1 l (.set S (Own.dedup ns).length)):=Keep.new hl;refine⟨l,S,_,rfl,upd_same,?_⟩;exact c _ G1 _ _ (k1.trans k2) (MY p1.hp hl) (.int _) (Zo q)
  ·exact(Zf q).elim
end Snd
namespace L2
open PySem PySem.Spec PyProof.Rows
open PySem.Builtin
theorem Jd:typeLookup (.type "list") "keys" = pure none:=by rw[typeLookup_type,builtinLookup_eq_fast];kernel_rfl
theorem Ym:entryFor table "dict.update.loop" = some Builtin.«dict.update.loop»:=entryFor_of_tree (by kernel_rfl)
theorem ZF:plainId "dict.update.loop" = true:=by decide +kernel
section
variable {prog:Program}{w:World}{A:Around}{E:Value→Shared→Prop}
theorem NF {s:Shared}{a:Addr}{xs:Array Value}{k:Nat}{Q:Option Value→Shared→Prop}(hx:s.heap.get? a=some {cls:=.type "list",data:=.seq xs k}) (hA:A.handled=none)
  (h:∀ h' tk,(∀ b o,s.heap.get? b=some o→h'.get? b=some o)→Q none {s with heap:=h',toks:=tk}) :
  wpAny (model prog w) A (getAttr? (.ref a) "keys") Q E s:=by
 obtain⟨hp,g,d,tk,os⟩:=s;have hT:∀ tk',(⟨hp,g,d,tk',os⟩:Shared).TypeIs (.ref a) "list":=fun _=>⟨_,hx,rfl⟩
 have f1:=sub_AttributeError;have f3:=F.slot_list_getattribute.lookup;have f4:=F.slot_list_getattribute.bind (.ref a);have f5:=am_list_getattr_none;unfold getAttr? getAttrBy? getAttrBy
 repeat (any_goals (first|assumption|exact hT _|((with_reducible show wpAny _ _ (call (Value.builtin "list.__getattribute__") _ _) _ _ _);refine call_meets F.slot_list_getattribute (hT _) am_entry_list_getattribute (F.args_list_getattribute_2 _ _) (meets_getattribute_miss_list a xs k _ "keys" _ Jd (by decide) (by size_fits)) ⟨hx,hA,fun h' tk' e hx'=>?_⟩)|wp_step))
 obtain⟨t',u',he⟩:=hx'.there;show wpAny _ _ (getattributeRaised _ _ _ _ _ _ _) _ _ _;unfold getattributeRaised
 repeat (any_goals (first|assumption|wp_step))
 exact h _ _ hx'.keeps
def PairsH (I d:Addr) (items:Array Value) (vals:List (Key×Value)) (prog:Program) (w:World) (h:Heap):Prop:=∀ (i:Nat) (v:Value),items[i]?=some v→∃ (a:Addr) (key:Value) (p:Key×Value),v=.ref a∧a≠I∧a≠d∧vals[i]?=some p∧IsTup h a #[key,p.2]∧(Zg prog w).is p.1 key=true
theorem PairsH.keep{I d:Addr}{items:Array Value}{vals:List (Key×Value)}{h h':Heap}(t:PairsH I d items vals prog w h)(k:∀ b o,b≠I→b≠d→h.get? b=some o→h'.get? b=some o):PairsH I d items vals prog w h':=fun i v e=>by obtain⟨a,key,p,h1,h2,h3,h4,⟨o,q1,q2⟩,h5⟩:=t i v e;exact⟨a,key,p,h1,h2,h3,h4,⟨o,k a o h2 h3 q1,q2⟩,h5⟩
theorem KO{R:Result→Shared→Prop}{I l d:Addr}{items:Array Value}{vals:List (Key×Value)}(hh:A.handled=none)(hlI:l≠I)(hdI:d≠I)(hdl:d≠l)(hv:vals.length=items.size) :
  ∀ (k j:Nat) (s:Shared) (acc:List (Key×Value)) (t:Tok),items.size - j=k→j≤items.size→(s.heap.IsListIter I l j∧s.heap.IsList l items)→PairsH I d items vals prog w s.heap→s.heap.DictOf (Zg prog w) d acc→acc.length+k≤sizeLine→
  (∀ h' tk,h'.DictOf (Zg prog w) d ((vals.drop j).foldl (fun m p=>stored m p.1 p.2) acc)→(∀ b o,b≠I→b≠d→s.heap.get? b=some o→h'.get? b=some o)→R (.ok (.ret .none)) {s with heap:=h',toks:=tk})→
  codeAny (model prog w) A (.builtin "dict.update.loop" ⟨[.ref d,.ref I,.int j t,.none],[]⟩) R s:=by
 have W:=Walks.list (prog:=prog) (w:=w) (A:=A.in1) hh I l hlI items;intro k;induction k with
 |zero =>
  intro j s acc t hk hj hst hT hd hz hR;have hin:j=items.size:=by omega
  refine codeAny_builtin Ym ?_;rw[Around.under_plainId ZF _];show wpAny _ A.in1 (pyNext (.ref I) >>= _) _ _ s;refine wpAny_bind (W.done s _ _ (hin▸hst) fun h' tk hk'=>?_);refine wpAny_pure ?_;refine hR h' tk ?_ fun b o h1 _ e=>hk' b o (by simpa using h1) e;rw[List.drop_eq_nil_of_le (by omega)];obtain⟨o,es,ep,ho,r⟩:=hd;exact⟨o,es,ep,hk' d o (by simpa using hdI) ho,r⟩
 |succ k ih =>
  intro j s acc t hk hj hst hT hd hz hR;have hlt:j<items.size:=by omega
  refine codeAny_builtin Ym ?_;rw[Around.under_plainId ZF _];show wpAny _ A.in1 (pyNext (.ref I) >>= _) _ _ s;refine wpAny_bind (W.item j s _ _ hlt hst fun v h' tk hP hst' hk'=>?_);have hT':PairsH I d items vals prog w h':=hT.keep fun b o h1 _ e=>hk' b o (by simpa using h1) e;have hd':h'.DictOf (Zg prog w) d acc:=by obtain⟨o,es,ep,ho,r⟩:=hd;exact⟨o,es,ep,hk' d o (by simpa using hdI) ho,r⟩
  obtain⟨a,key,p,rfl,haI,had,hp,⟨o,ho,hc,n,hdat⟩,hkey⟩:=hT' j v hP;show wpAny _ A.in1 (holding [.ref a] ((tryCatch (Dict.pairItems (.ref a)) _) >>= _) >>= _) _ _ _;refine wpAny_bind (wpAny_holding (wpAny_bind (wpAny_tryCatch ?_)));unfold Dict.pairItems;refine wpAny_bind (wpAny_typeOf (T:="tuple") ⟨o,ho,hc⟩ ?_);rw[if_pos (by decide)];refine wpAny_bind (wpAny_seqItems ho hdat (wpAny_pure ?_));show wpAny _ A.in1 (holding [key,p.2] (dictSet d key p.2)) _ _ _;refine wpAny_holding (wpAny_dictSet_pairs (hsz:=by omega) hkey hd' fun h'' hd'' hs''=>?_);have keep2:∀ b o,b≠I→b≠d→s.heap.get? b=some o→h''.get? b=some o:=fun b o h1 h2 e=>(hs''.2 b h2).trans (hk' b o (by simpa using h1) e);refine wpAny_pure ⟨plainId_quiet ZF _,ih (j+1) _ (stored acc p.1 p.2) 0 (by omega) hlt (W.frame _ _ _ hst' fun b hb o e=>?_) (hT.keep keep2) hd'' ?_ fun h3 tk3 hd3 hk3=>?_⟩
  ·refine(hs''.2 b ?_).trans e;simp only[qE,List.not_mem_nil,or_false]at hb;rcases hb with rfl|rfl
   ·exact Ne.symm hdI
   ·exact Ne.symm hdl
  ·have:=stored_length_le acc p.1 p.2;omega
  ·refine hR h3 tk3 ?_ fun b o h1 h2 e=>hk3 b o h1 h2 (keep2 b o h1 h2 e);have e:vals.drop j=p::vals.drop (j+1):=by
    rw[List.drop_eq_getElem_cons (by omega)];congr 1;exact Option.some.inj ((qH (by omega)).symm.trans hp)
   rw[e];exact hd3
end
def Ao (K:PySem.W.Frag) (H:Hp) (ys:List V) (kvs:List (Key×V)):Prop:=ys.length=kvs.length∧∀ (i:Nat) (y:V),ys[i]?=some y→∃ (a:Addr) (p:Key×V),y=.ref a∧kvs[i]?=some p∧SqT K H a [kV p.1,p.2]
theorem WC{X:Cx}{pins:List (Addr×Obj)}{σ:St}{H:Hp}{s:Shared}(I:Inv X pins σ H s){d J:Addr}(hJ:s.heap.objs.size≤J)(hd:s.heap.objs.size≤d):∀ {ys:List V}{kvs:List (Key×V)}{its:List Value},Vals ys its→ys.length=kvs.length→(∀ (i:Nat) (y:V),ys[i]?=some y→∃ (a:Addr) (p:Key×V),y=.ref a∧kvs[i]?=some p∧SqT X.K H a [kV p.1,p.2])→
  ∃ vals:List (Key×Value),KV kvs vals∧vals.length=its.length∧∀ (i:Nat) (v:Value),its[i]?=some v→∃ (a:Addr) (key:Value) (p:Key×Value),v=.ref a∧a≠J∧a≠d∧vals[i]?=some p∧IsTup s.heap a #[key,p.2]∧(Zg X.prog X.w).is p.1 key=true
 |[],[],[],_,_,_=>⟨[],.nil,rfl,fun i v e=>by simp at e⟩
 |_::_,[],_,_,h,_=>by cases h
 |[],_::_,_,_,h,_=>by cases h
 |y::ys,(k,x)::kvs,_,.cons (b:=u) (l₂:=its) r t,hl,h=>by
  obtain⟨a,p,rfl,e2,hq⟩:=h 0 y rfl;cases e2;obtain⟨vals,k1,k2,k3⟩:=WC I hJ hd t (by simpa using hl) fun i z e=>h (i+1) z (by simpa using e);obtain⟨tt,r2,pt,_⟩:=I.tuple hq;obtain⟨ku,xu,rfl,rk,rx⟩:=r2.two;cases (show u=Value.ref a from r);have hlt:a<s.heap.objs.size:=pt.lt;refine⟨(k,xu)::vals,.cons ⟨rfl,rx⟩ k1,by simp[k2],fun i v e=>?_⟩;cases i with
  |zero =>simp at e;subst e;exact⟨a,ku,(k,xu),rfl,zF (qR hlt hJ),zF (qR hlt hd),rfl,by simpa using pt,XM rk⟩
  |succ i=>simpa using k3 i v (by simpa using e)
theorem KV.all{kvs:List (Key×V)}{vals:List (Key×Value)}(r:KV kvs vals):∀ {m:List (Key×V)}{n:List (Key×Value)},KV m n→KV (kvs.foldl (fun m p=>putK m p.1 p.2) m) (vals.foldl (fun m p=>stored m p.1 p.2) n):=by
 unfold KV at r;induction r with
 |nil=>exact fun h=>h
 |cons q t ih =>intro m n h;rename_i a b l1 l2;obtain⟨k,x⟩:=a;obtain⟨k2,u⟩:=b;obtain⟨e,rx⟩:=q;cases (show k=k2 from e);exact ih (h.put k rx)
theorem BR(kvs:List (Key×V)):∀ m:List (Key×V),(kvs.foldl (fun m p=>putK m p.1 p.2) m).length≤m.length+kvs.length:=by
 induction kvs with
 |nil=>intro m;simp
 |cons p r ih =>intro m;have h1:=ih (putK m p.1 p.2);have h2:=Z8 m p.1 p.2;rw[List.foldl_cons,qB];omega
def UE (K:PySem.W.Frag):List V→Hp→VK→Prop:=fun xs H Q=>∃ p ys kvs,xs=[V.ref p]∧H p=some (.lst ys)∧Ao K H ys kvs∧∀ l,H l=none→Q (.ref l) (upd H l (.dK (kvs.foldl (fun m p=>putK m p.1 p.2) [])))
theorem Ku {X:Cx}(hc:X.calm=true):CallR X (.type "dict") (UE X.K):=by
 intro pins s σ H xs us Q I r h;obtain⟨p,ys,kvs,rfl,hp,⟨hl,hpair⟩,q⟩:=h;obtain⟨u,rfl,ru⟩:=ZN r;cases ru;obtain⟨hz,its,n,rv,hobj⟩:=(show ObjOk X.prog X.w H s.heap p (.lst ys) from I.hok p _ hp)
 have hlen:=rv.length;have hh:X.A.handled=none:=I.ok.hd hc;refine callType_codes (Q₁:=fun obj s₁=>obj=.ref s.heap.objs.size∧s₁={s with heap:=s.heap.push {cls:=.type "dict",data:=.dict #[]}}) F.kt_called_dict (F.kt_typeCall_dict_1 _) F.entry_dict_init (kt_code_dict_new _ ⟨rfl,rfl⟩) ?_;rintro obj s₁ ⟨rfl,rfl⟩;have hnew:(s.heap.push {cls:=.type "dict",data:=.dict #[]}).DictOf (Zg X.prog X.w) s.heap.objs.size []:=Heap.DictOf.new s.heap;have hobj1:(s.heap.push {cls:=.type "dict",data:=.dict #[]}).get? p=some {cls:=.type "list",data:=.seq its.toArray n}:=Heap.get?_push_of_some _ hobj;have hplt:p<s.heap.objs.size:=Heap.lt_size hobj;refine⟨hnew.typeIs,F.args_dict_init_2 _ _,?_⟩;unfold Builtin.«dict.__init__»;refine wpAny_bind ?_;unfold Builtin.Dict.selfAndRest;refine wpAny_bind (wpAny_notOrdered_dict hnew.typeIs ?_);show wpAny _ _ (pure (s.heap.objs.size,[Value.ref p])) _ _ _;refine wpAny_pure ?_;show wpAny _ _ (Builtin.Dict.updateFrom "dict.__init__" s.heap.objs.size (.ref p) [] .none) _ _ _;unfold Builtin.Dict.updateFrom;refine wpAny_bind (wpAny_typeOf (T:="list") ⟨_,hobj1,rfl⟩ ?_);rw[if_pos (by decide)];refine wpAny_bind (NF hobj1 hh fun h2 tk2 hk2=>?_);rw[if_pos (show(none:Option Value).isNone=true from rfl)];refine wpAny_bind (wpAny_rule ?_);have hobj2:=hk2 _ _ hobj1;have hl2:h2.IsList p its.toArray:=⟨_,hobj2,rfl,n,rfl⟩
 refine wpAny_bind (wpAny_pyIter_list hl2 ?_);have old2:∀ b o,s.heap.get? b=some o→h2.get? b=some o:=fun b o e=>hk2 b o (Heap.get?_push_of_some _ e);have hdo2:h2.DictOf (Zg X.prog X.w) s.heap.objs.size []:=by obtain⟨o,es,ep,ho,r⟩:=hnew;exact⟨o,es,ep,hk2 _ _ ho,r⟩
 have hsz2:s.heap.objs.size<h2.objs.size:=by obtain⟨o,es,ep,ho,r⟩:=hdo2;exact Heap.lt_size ho
 obtain⟨vals,k1,k2,k3⟩:=WC I (d:=s.heap.objs.size) (J:=h2.objs.size) (Nat.le_of_lt hsz2) (zG _) rv hl hpair;have old3:∀ b o,s.heap.get? b=some o→(h2.push {cls:=.type "list_iterator",data:=.fields #[.ref p,rawInt 0]}).get? b=some o:=fun b o e=>Heap.get?_push_of_some _ (old2 b o e);refine wpAny_pure ⟨plainId_quiet ZF _,?_⟩;refine KO (prog:=X.prog) (w:=X.w) (A:=X.A.in1) (I:=h2.objs.size) (l:=p) (d:=s.heap.objs.size) (items:=its.toArray) (vals:=vals) hh (zF (Nat.lt_trans hplt hsz2)) (zF hsz2) (Nat.ne_of_gt hplt) (by rw[k2];simp) _ 0 _ [] 0 rfl (Nat.zero_le _) ?_ (fun i v e=>?_) ?_ ?_ fun h3 tk3 hd3 hk3=>?_
 ·exact⟨⟨_,Heap.get?_push_size _ rfl,rfl,rfl⟩,⟨_,Heap.get?_push_of_some _ hobj2,rfl,n,rfl⟩⟩
 ·obtain⟨a,key,p2,e1,e2,e3,e4,⟨o,ho,r⟩,e6⟩:=k3 i v (by simpa using e);exact⟨a,key,p2,e1,e2,e3,e4,⟨o,old3 a o ho,r⟩,e6⟩
 ·exact hdo2.push _
 ·simp only[List.length_nil,qC];omega
 ·rw[List.drop_zero]at hd3;have hn:=I.hok.fresh (zG s.heap.objs.size);have hzz:(kvs.foldl (fun m p=>putK m p.1 p.2) []).length≤sizeLine:=by
   have:=BR kvs [];rw[←hl]at this;simp at this;omega
  refine⟨rfl,.ref s.heap.objs.size,upd H s.heap.objs.size (.dK (kvs.foldl (fun m p=>putK m p.1 p.2) [])),I.laid (t':=tk3) (fun b u e=>?_) (zG _) (W4 hzz (beq_eq_false_iff_ne.mpr (Ne.symm (zF I.big))) (k1.all .nil) hd3),rfl,q _ hn⟩;have hb:=Heap.lt_size e;exact hk3 b u (zF (Nat.lt_trans hb hsz2)) (zF hb) (old3 b u e)
theorem J6:entryFor table "list_reverseiterator.__next__" = some Builtin.«list_reverseiterator.__next__»:=entryFor_of_tree (by kernel_rfl)
theorem Ka (a:Value):argsOk "list_reverseiterator.__next__" ⟨[a],[]⟩:=by unfold argsOk;kernel_rfl
theorem slot_rnext:Slot "list_reverseiterator" "__next__" "list_reverseiterator.__next__" :=
 .of (owner:="list_reverseiterator") (n:="__next__") (by rw[typeLookup_type,builtinLookup_eq_fast];kernel_rfl) (by decide +kernel) (by decide +kernel) (by decide +kernel)
  (by first|exact .inl (by decide +kernel)|exact .inr (by decide +kernel)) (by rw[isSubtype_type];kernel_rfl)
theorem XF:Slot "list_reverseiterator" "__iter__" "list_reverseiterator.__iter__" :=
 .of (owner:="list_reverseiterator") (n:="__iter__") (by rw[typeLookup_type,builtinLookup_eq_fast];kernel_rfl) (by decide +kernel) (by decide +kernel) (by decide +kernel)
  (by first|exact .inl (by decide +kernel)|exact .inr (by decide +kernel)) (by rw[isSubtype_type];kernel_rfl)
theorem UI:entryFor table "list_reverseiterator.__iter__" = some Builtin.«dict_keyiterator.__iter__» :=
 entryFor_alias (id':="dict_keyiterator.__iter__") (by kernel_rfl) (by first|rfl|decide +kernel|(unfold String.splitOn;simp +decide [String.splitOnAux])) (by decide +kernel) (by kernel_rfl)
theorem Oo (a:Value):argsOk "list_reverseiterator.__iter__" ⟨[a],[]⟩:=by unfold argsOk;kernel_rfl
def RevIt (h:Heap) (it l:Addr) (k:Int):Prop:=∃ o,h.get? it=some o∧o.cls=.type "list_reverseiterator"∧o.data=.fields #[.ref l,.int k 0]
section
variable {prog:Program}{w:World}{A:Around}{E:Value→Shared→Prop}{s:Shared}
theorem RevIt.typeIs {it l:Addr}{k:Int}(h:RevIt s.heap it l k):s.TypeIs (.ref it) "list_reverseiterator":=by obtain⟨o,h1,h2,_⟩:=h;exact⟨o,h1,h2⟩
theorem UD{it l:Addr}{k:Nat}{items:Array Value}{x:Value}{Q:Option Value→Shared→Prop}(hit:RevIt s.heap it l k)(hl:s.heap.IsList l items)(hx:items[k]?=some x)
  (hQ:∀ h',RevIt h' it l ((k:Int) - 1)→Heap.SameBut it s.heap h'→Q (some x) {s with heap:=h'}):wpAny (model prog w) A (pyNext (.ref it)) Q E s:=by
 have hT:=hit.typeIs;obtain⟨o,ho,hc,hd⟩:=id hit;obtain⟨ol,hol,_,nl,hdl⟩:=hl;unfold pyNext;refine wpAny_bind (wpAny_attempt (wpAny_callSpecial?_slot (name:=Str.ofString "__next__") hT slot_rnext (wpAny_call_entry slot_rnext hT J6 ?_ (Ka _))));show wpAny _ _ (field (.ref it) 1 >>= _) _ _ s;refine wpAny_bind (wpAny_field ho hd (x:=.int k 0) rfl ?_);refine wpAny_ite_split (fun hab=>absurd hab (by omega)) (fun _=>?_);show wpAny _ _ (field (.ref it) 0 >>= _) _ _ s;refine wpAny_bind (wpAny_field ho hd (x:=.ref l) rfl ?_);show wpAny _ _ (seqItems? (.ref l) >>= _) _ _ s;refine wpAny_bind (wpAny_seqItems hol hdl ?_);simp only[Int.toNat_natCast,hx];refine wpAny_bind (wpAny_setField ho hd (by simp) (wpAny_pure ⟨x,rfl,wpAny_pure (hQ _ ?_ (Heap.SameBut.update ..))⟩));exact⟨_,Heap.get?_update_self _ ho (Obj.isFreed_of_fields (Obj.data_mapFields hd _)),(Obj.cls_mapFields ..).trans hc,by
   rw[Obj.data_mapFields hd];simp[rawInt]⟩
theorem AG {it l:Addr}{Q:Option Value→Shared→Prop}(hh:A.handled=none) (hit:RevIt s.heap it l (-1)) (hQ:∀ h',Heap.ExtBut it s.heap h'→Q none {s with heap:=h'}):wpAny (model prog w) A (pyNext (.ref it)) Q E s:=by have hT:=hit.typeIs;obtain⟨o,ho,hc,hd⟩:=id hit;unfold pyNext;refine wpAny_bind (wpAny_attempt (wpAny_callSpecial?_slot (name:=Str.ofString "__next__") hT slot_rnext (wpAny_call_entry slot_rnext hT J6 ?_ (Ka _))));show wpAny _ _ (field (.ref it) 1 >>= _) _ _ s;refine wpAny_bind (wpAny_field ho hd (x:=.int (-1) 0) rfl ?_);refine wpAny_ite_split (fun _=>?_) (fun hab=>absurd (by decide) hab);refine wpAny_bind (wpAny_rule ?_);refine wpAny_bind ?_;show wpAny _ _ (newExc (.type "StopIteration") [] >>= _) _ _ _;refine wpAny_bind ?_;simp only[newExc,newTuple];refine wpAny_bind (wpAny_newObj_type ?_ (by size_fits));refine wpAny_bind (m:=firstArgMember _ _) (wpAny_of_eq (a:=Value.none) (by first|rfl|(simp only[firstArgMember];rfl)) ?_);refine wpAny_newObj_type ?_ (by size_fits);simp only[raiseNew];refine wpAny_bind (wpAny_handled ?_);rw[show A.in1.handled=none from hh];refine wpAny_bind (wpAny_pure (wpAny_throw ?_));refine wpAny_bind (wpAny_isInstance (T:="StopIteration") (b:=true) ⟨_,Heap.get?_push_size _ rfl,rfl⟩ isSubtype_stop ?_);exact wpAny_pure (hQ _ (fun b o _ e=>Heap.get?_push_of_some _ (Heap.get?_push_of_some _ e)))
theorem Os {it l:Addr}{k:Int}{Q:Value→Shared→Prop}(hit:RevIt s.heap it l k) (h:Q (.ref it) s):wpAny (model prog w) A (pyIter (.ref it)) Q E s:=by have hT:=hit.typeIs;refine wpAny_pyIter_slot hT XF (wpAny_call_entry XF hT UI ?_ (Oo _));show wpAny _ _ (ret (.ref it)) _ _ s;exact wpAny_pure ⟨_,rfl,"list_reverseiterator",_,hT,slot_rnext.lookup,h⟩
end
theorem Walks.rev{prog:Program}{w:World}{A:Around}(hh:A.handled=none)(I ax:Addr)(hne:ax≠I)(items:Array Value) :
  Walks prog w A I [I,ax] [I] items.size (fun i v=>items[items.size - 1 - i]?=some v) (fun i h=>RevIt h I ax ((items.size:Int) - 1 - i)∧h.IsList ax items) where
 sub:=fun b hb=>by simp at hb;simp[hb]
 frame:=fun _ _ _ st hk=>⟨by obtain⟨o,h1,h2⟩:=st.1;exact⟨o,hk I (by simp) o h1,h2⟩,st.2.at fun o e=>hk ax (by simp) o e⟩
 item:=fun i s Q E hi st hQ=>by
  have e:(items.size:Int) - 1 - i=((items.size - 1 - i:Nat):Int):=by omega
  rw[e]at st;have hlt:items.size - 1 - i<items.size:=by omega
  refine UD st.1 st.2 (x:=items[items.size - 1 - i]) (by simp[hlt]) fun h' hit' hs'=>?_;exact hQ _ h' s.toks (by simp[hlt]) ⟨by rw[show(items.size:Int) - 1 - ((i+1:Nat):Int)=((items.size - 1 - i:Nat):Int) - 1 by omega];exact hit',st.2.extBut hs'.extBut hne⟩ fun b o hb e=>hs'.extBut b o (fun h=>hb (by simp[h])) e
 done:=fun s Q E st hQ=>by rw[show(items.size:Int) - 1 - (items.size:Nat)=-1 by omega]at st;exact AG hh st.1 fun h' he'=>hQ h' s.toks fun b o hb e=>he' b o (fun h=>hb (by simp[h])) e
 self:=fun _ _ _ _ st hQ=>Os st.1 hQ
end L2
namespace L2
open PySem PySem.Spec PyProof.Rows
theorem call_dictK {X:Cx}:CallR X (.type "dict") (fun xs H Q=>∃ a kvs,xs=[V.ref a]∧H a=some (.dK kvs)∧∀ l,H l=none→Q (.ref l) (upd H l (.dK kvs))):=by intro pins s σ H xs us Q I r h;obtain⟨a,kvs,rfl,ha,q⟩:=h;obtain⟨u,rfl,ru⟩:=ZN r;cases ru;obtain⟨z,hd,vs,rel,dd⟩:=MA I.hok ha;refine kt_call_dict (knd:=Zg X.prog X.w) hd dd (by rw[←rel.length];exact z) fun h' dd' hs=>?_;have hn:=I.hok.fresh (zG s.heap.objs.size);refine⟨.ref s.heap.objs.size,upd H s.heap.objs.size (.dK kvs),I.laid (t':=s.toks) (fun b u e=>?_) (zG _) (W4 z (beq_eq_false_iff_ne.mpr (Ne.symm (zF I.big))) rel dd'),rfl,q _ hn⟩;have hb:b≠s.heap.objs.size:=zF (Heap.lt_size e);rw[hs.2 b hb];exact Heap.get?_push_of_some _ e
end L2
namespace Snd
open PySem L2
variable {i:Inf}{X:Cx}
theorem X9{h:Own.Hs}{K:PySem.W.Frag}{H:Hp}:∀ {xs:List Own.Val}{kvs:List (Own.Val×Own.Val)}{vs:List V},Own.pairsOf h xs=some kvs→RVs K H xs vs→∃ ps,Ao K H vs ps∧∀ {m:List (Own.Val×Own.Val)}{m':List (Key×V)},RKs K H m m'→RKs K H (Own.putAll m kvs) (ps.foldl (fun m p=>L2.putK m p.1 p.2) m')
 |[],kvs,vs,e,r=>by cases e;cases r;exact⟨[],⟨rfl,fun i y e=>by simp at e⟩,fun h=>h⟩
 |v::xs,kvs,vs,e,r=>by
  unfold Own.pairsOf at e;split at e
  ·rename_i k x;obtain⟨hk,e⟩:=ZM e;obtain⟨rest,e1,rfl⟩:=qD.mp e;cases r with
   |cons ra t =>
    obtain⟨ps,⟨h1,h2⟩,h3⟩:=X9 e1 t;cases ra with
    |tup hp hr =>
     cases hr with
     |cons rk t2 =>
      cases t2 with
      |cons rx t3 =>
       cases t3;obtain⟨c,kr,rfl⟩:=key_of hk rk;refine⟨(c,_)::ps,⟨by simp[h1],fun i y e=>?_⟩,fun h=>h3 (h.put kr rx)⟩;cases i with
       |zero=>simp at e;subst e;exact⟨_,_,rfl,rfl,Zl hp⟩
       |succ i=>exact h2 i y (by simpa using e)
  ·cases e
theorem Bo:BiOk i .dict (fun xs H Q=>(∃ a kvs,xs=[V.ref a]∧H a=some (.dK kvs)∧∀ l,H l=none→Q (.ref l) (upd H l (.dK kvs)))∨UE i.K xs H Q):=by
 intro vs G H xs Q Qm g r w c;obtain⟨v,rfl,w⟩:=Yt w;obtain⟨x,rfl,rx⟩:=r.inv1;cases v with
 |ref a =>
  cases rx.ref_inv
  replace w:(match G a with|some (.dct kvs)=>Own.Rs.new (.dct kvs)|some (.lst xs)=>(match Own.pairsOf G xs with|some kvs=>Own.Rs.new (.dct (Own.putAll [] kvs))|none=>.no)|_=>.no).wp G Qm:=w
  cases z:G a with
  |none=>rw[z]at w;exact(Zf w).elim
  |some o =>
   rw[z]at w;cases o with
   |dct kvs =>obtain⟨ps,h1,h2⟩:=g a _ z;exact .inl ⟨a,ps,rfl,h1,ZR g (Xd w) c fun p hp=>⟨ps,upd_same,h2.keep (Keep.new hp)⟩⟩
   |lst ys =>
    obtain⟨us,h1,h2⟩:=g a _ z;dsimp only at w;cases z2:Own.pairsOf G ys with
    |none=>rw[z2]at w;exact(Zf w).elim
    |some kvs =>rw[z2]at w;obtain⟨ps,h3,h4⟩:=X9 z2 h2;exact .inr ⟨a,us,ps,rfl,h1,h3,ZR g (Xd w) c fun p hp=>⟨_,upd_same,(h4 .nil).keep (Keep.new hp)⟩⟩
   |_=>exact(Zf w).elim
 |_=>exact(Zf w).elim
end Snd
namespace L2
open PySem
abbrev Ris (xs:Array Nat):Prop:=xs.toList.Pairwise (· < ·)
def KG (xs:Array Nat) (j lo:Nat):Prop:=lo≤xs.size∧(∀ k x,k<lo→xs[k]?=some x→x<j)∧∀ k x,lo≤k→xs[k]?=some x→j≤x
theorem Y3{xs:Array Nat}(h:Ris xs){a b x y:Nat}(hab:a<b)(ha:xs[a]?=some x)(hb:xs[b]?=some y):x<y:=by rw[←Array.getElem?_toList]at ha hb;obtain⟨h1,rfl⟩:=qK.mp ha;obtain⟨h2,rfl⟩:=qK.mp hb;exact List.pairwise_iff_getElem.mp h a b h1 h2 hab
theorem X1{xs:Array Nat}(h:Ris xs){j:Nat}:∀ (f lo hi:Nat),hi - lo≤f→lo≤hi→hi≤xs.size→(∀ k x,k<lo→xs[k]?=some x→x<j)→(∀ k x,hi≤k→xs[k]?=some x→j≤x)→KG xs j (SetTable.below.go xs j f lo hi)
 |0,lo,hi,h1,h2,h3,h4,h5=>by
  have e:lo=hi:=by omega
  subst e;exact⟨h3,h4,h5⟩
 |f+1,lo,hi,h1,h2,h3,h4,h5=>by
  unfold SetTable.below.go;by_cases hl:lo<hi
  ·rw[if_pos hl];dsimp only;have hm:(lo+hi) / 2<xs.size:=by omega
   have hx:xs[(lo+hi) / 2]?=some xs[(lo+hi) / 2]:=Array.getElem?_eq_getElem hm;have hg:xs.getD ((lo+hi) / 2) j=xs[(lo+hi) / 2]:=by simp[Array.getD,hm]
   rw[hg];by_cases hc:xs[(lo+hi) / 2]<j
   ·rw[if_pos hc];refine X1 h f _ _ (by omega) (by omega) h3 (fun k x hk hkx=>?_) h5;by_cases hkm:k=(lo+hi) / 2
    ·subst hkm;rw[hx]at hkx;cases hkx;exact hc
    ·exact Nat.lt_trans (Y3 h (by omega) hkx hx) hc
   ·rw[if_neg hc];refine X1 h f _ _ (by omega) (by omega) (by omega) h4 fun k x hk hkx=>?_;by_cases hkm:k=(lo+hi) / 2
    ·subst hkm;rw[hx]at hkx;cases hkx;omega
    ·exact zE (Nat.not_lt.mp hc) (Nat.le_of_lt (Y3 h (by omega) hx hkx))
  ·rw[if_neg hl];have e:lo=hi:=by omega
   subst e;exact⟨h3,h4,h5⟩
theorem Jz{xs:Array Nat}(h:Ris xs)(j:Nat):KG xs j (SetTable.below xs j):=by unfold SetTable.below;refine X1 h xs.size 0 xs.size (by omega) (by omega) (by omega) (fun k x hk=>by omega) fun k x hk hkx=>?_;rw[Array.getElem?_eq_none hk]at hkx;cases hkx
theorem Uy{xs:Array Nat}{j a b:Nat}(ha:KG xs j a)(hb:KG xs j b):a=b:=by
 obtain⟨a1,a2,a3⟩:=ha;obtain⟨b1,b2,b3⟩:=hb;rcases Nat.lt_trichotomy a b with h|h|h
 ·have hx:=Array.getElem?_eq_getElem (xs:=xs) (i:=a) (by omega);have:=b2 a _ h hx;have:=a3 a _ (zG _) hx;omega
 ·exact h
 ·have hx:=Array.getElem?_eq_getElem (xs:=xs) (i:=b) (by omega);have:=a2 b _ h hx;have:=b3 b _ (zG _) hx;omega
theorem Nk{xs:Array Nat}(h:Ris xs){i x:Nat}(hx:xs[i]?=some x):KG xs (x+1) (i+1):=by
 have hi:i<xs.size:=(Array.getElem?_eq_some_iff.mp hx).1;refine⟨hi,fun k y hk hky=>?_,fun k y hk hky=>Y3 h (by omega) hx hky⟩;by_cases e:k=i
 ·subst e;rw[hx]at hky;cases hky;omega
 ·have:=Y3 h (show k<i by omega) hky hx;omega
theorem NI(xs:Array Nat):KG xs 0 0:=⟨Nat.zero_le _,fun k x hk=>by omega,fun _ _ _ _=>Nat.zero_le _⟩
theorem A4{xs:Array Nat}(h:Ris xs){j:Nat}(hn:xs[SetTable.below xs j]?≠some j):Ris (SetTable.insertAt xs (SetTable.below xs j) j):=by
 obtain⟨c1,c2,c3⟩:=Jz h j;generalize SetTable.below xs j=p at c1 c2 c3 hn;unfold Ris;rw[SetTable.toList_insertAt];have hs:(xs.toList.take p++xs.toList.drop p).Pairwise (· < ·):=by rw[List.take_append_drop];exact h
 obtain⟨h1,h2,h3⟩:=List.pairwise_append.mp hs;have hlo:∀ a∈xs.toList.take p,a<j:=fun a ha=>by obtain⟨k,hk,rfl⟩:=List.mem_take_iff_getElem.mp ha;refine c2 k _ (by omega) ?_;rw[←Array.getElem?_toList];exact qH _
 have hhi:∀ a∈xs.toList.drop p,j<a:=fun a ha=>by
  obtain⟨k,e⟩:=List.mem_iff_getElem?.mp ha;rw[List.getElem?_drop,Array.getElem?_toList]at e;have:=c3 (p+k) _ (by omega) e;rcases Nat.lt_or_ge j a with q|q
  ·exact q
  ·exfalso;have e2:a=j:=by omega
   subst e2;by_cases k0:k=0
   ·subst k0;exact hn e
   ·have hp:xs[p]?=some (xs[p]'(by have:=(Array.getElem?_eq_some_iff.mp e).1;omega)):=Array.getElem?_eq_getElem _;have:=Y3 h (show p<p+k by omega) hp e;have:=c3 p _ (zG _) hp;omega
 exact List.pairwise_append.mpr ⟨h1,List.pairwise_cons.mpr ⟨hhi,h2⟩,fun a ha b hb=>by
   rcases qE.mp hb with rfl|hb
   · exact hlo a ha
   · exact Nat.lt_trans (hlo a ha) (hhi b hb)⟩
structure Tb (b:Bool) (t:SetTable):Prop where
 led:b=false→t.led=true
 ris:Ris t.place
 dum:t.dummies=#[]
theorem JM{t:SetTable}{f:Nat→Int}{h:Int}(hd:t.dummies=#[]):∀ (n:Nat) (p:SetTable.Probe) (j:Nat) (d:Option Nat),p.dummy=none→SetTable.probe.go t f h n p=some (.empty j d)→t.slot j=.empty∧d=none
 |0,p,j,d,h0,e=>by unfold SetTable.probe.go at e;cases e
 |n+1,p,j,d,h0,e=>by
  unfold SetTable.probe.go at e;cases hs:t.slot p.j with
  |empty =>rw[hs]at e;dsimp only at e;injection e with e;injection e with e1 e2;subst e1;exact⟨hs,e2▸h0⟩
  |dummy =>
   exfalso;unfold SetTable.slot at hs;dsimp only at hs;split at hs
   ·cases hs
   ·rw[hd]at hs;simp[SetTable.has]at hs
  |live i =>
   rw[hs]at e;dsimp only at e;split at e
   ·cases e
   ·refine JM hd n _ j d ?_ e;unfold SetTable.advance;split
    ·exact h0
    ·exact h0
theorem BL{t:SetTable}(hd:t.dummies=#[]){h:Int}{j:Nat}{b:Bool}(e:t.freeSlot h=some (j,b)):t.place[SetTable.below t.place j]?≠some j:=by
 unfold SetTable.freeSlot at e;split at e
 ·rename_i k d hp;obtain⟨h1,h2⟩:=JM hd _ _ _ _ rfl hp;subst h2;injection e with e;injection e with e1 e2;have e1:k=j:=e1;subst e1;unfold SetTable.slot at h1;dsimp only at h1;split at h1
  ·cases h1
  ·rename_i hq;exact fun z=>hq (by rw[z];exact beq_self_eq_true _)
 ·cases e
theorem Y5{b:Bool}{t:SetTable}(h:Tb b t)(n:Nat):Tb b (t.standIn n) :=
 ⟨h.led,by show(Array.range n).toList.Pairwise _;rw[Array.toList_range];exact List.pairwise_lt_range,rfl⟩
theorem CO{b:Bool}{t:SetTable}(h:Tb b t)(es:Array (Int×Value))(k:Int)(x:Value):Tb b (layNew t es k x).2.1:=by
 unfold layNew;split
 ·rename_i slot wd hf;show Tb b (SetTable.orStandIn _ _);have hp:Tb b (t.put slot).1:=by
   refine⟨h.led,A4 h.ris (BL h.dum hf),?_⟩;show(if SetTable.has t.dummies slot then _ else t.dummies)=#[];rw[h.dum];simp[SetTable.has]
  unfold SetTable.orStandIn;split
  ·exact hp
  ·exact Y5 hp _
 ·exact Y5 h _
theorem Ov{b:Bool}{t:SetTable}(h:Tb b t)(es:Array (Int×Value))(n:Nat):Tb b (relayAll t es n).2.1:=by
 unfold relayAll;split
 ·rename_i t' order hr;dsimp only;split
  ·unfold SetTable.relaid SetTable.laid at hr;cases hl:SetTable.layClean (SetTable.sizeAbove n - 1) (es.map (·.1))with
   |none=>rw[hl]at hr;cases hr
   |some owner =>rw[hl]at hr;cases hr;refine⟨h.led,?_,rfl⟩;show List.Pairwise _ (List.toArray _).toList;refine List.pairwise_map.mpr (List.pairwise_filterMap.mpr ?_);refine List.pairwise_lt_range.imp fun {a c} hac x hx y hy=>?_;obtain⟨_,_,rfl⟩:=qD.mp hx;obtain⟨_,_,rfl⟩:=qD.mp hy;exact hac
  ·exact Y5 h _
 ·exact Y5 h _
end L2
namespace L2
open PySem PySem.Spec PyProof.Rows
section
variable (prog:Program) (w:World)
abbrev byT:Bool:=w.params.followText "set-order"
def SetI (h:Heap) (a:Addr) (l:List Int):Prop:=∃ o es ep t es0,h.get? a=some o∧o.ExactSet∧o.data=.set es ep t∧ElemsOf (intKind prog w) es.toList∧es.size<scanBound∧t.fits es.size=true∧
 Tb (byT w) t∧es.toList.Perm es0∧IntsAre (es0.map (·.2)) l
end
theorem YG:∀ {vs:List Value}{ns:List Int},IntsAre vs ns→vs.length=ns.length
 |_,_,.nil=>rfl
 |_,_,.cons _ _ r=>congrArg (· + 1) (YG r)
theorem M9:∀ {vs:List Value}{ns:List Int}(n:Int) (t:Tok),IntsAre vs ns→IntsAre (vs++[.int n t]) (ns++[n])
 |_,_,n,t,.nil=>.cons n t .nil
 |_,_,n,t,.cons m u r=>.cons m u (M9 n t r)
theorem KJ{P:Program}{w:World}{n:Int}:∀ {vs:List Value}{ns:List Int},IntsAre vs ns→(n∈ns↔∃ v∈vs,(intKind P w).is n v=true)
 |_,_,.nil=>by simp
 |_,_,.cons m u r=>by
  have h:=KJ (P:=P) (w:=w) (n:=n) r;have hk:(intKind P w).is n (.int m u)=decide (n=m):=KeyKind.is_eq_decide (intKind_is P w m u) n;rw[qE,h];constructor
  ·rintro(rfl|⟨v,hv,e⟩)
   ·exact⟨_,qT,by rw[hk];simp⟩
   ·exact⟨v,qI _ hv,e⟩
  ·rintro⟨v,hv,e⟩;rcases qE.mp hv with rfl|hv
   ·rw[hk]at e;exact .inl (by simpa using e)
   ·exact .inr ⟨v,hv,e⟩
theorem SetI.setOf{P:Program}{w:World}{h:Heap}{a:Addr}{l:List Int}(x:SetI P w h a l):h.SetOf (intKind P w) a (fun k=>decide (k∈l)) l.length:=by
 obtain⟨o,es,ep,t,es0,h1,h2,h3,h4,h5,h6,h7,h8,h9⟩:=x;refine⟨o,es,ep,t,h1,h2,h3,h4,fun k=>?_,h5,h6,?_⟩
 ·rw[decide_eq_true_iff,KJ (P:=P) (w:=w) h9];constructor
  ·rintro⟨v,hv,e⟩;obtain⟨x,hx,rfl⟩:=qZ.mp hv;exact⟨x,h8.mem_iff.mpr hx,e⟩
  ·rintro⟨x,hx,e⟩;exact⟨_,qZ.mpr ⟨x,h8.mem_iff.mp hx,rfl⟩,e⟩
 ·rw[←YG h9,qA,←h8.length_eq,zC]
section
variable {prog:Program}{w:World}{A:Around}{E:Value→Shared→Prop}{s:Shared}
theorem Mz{h:Heap}{a:Addr}{o:Obj}{es es':Array (Int×Value)}{ep:Nat}{t t':SetTable}(ho:h.get? a=some o)(hd:o.data=.set es ep t) :
  (h.update a (Obj.putSet es' t')).get? a=some {o with data:=.set es' (ep+1) t'}:=by
 have z:=Heap.get?_update_self (Obj.putSet es' t') ho (by rw[putSet_of es' t' hd];rfl)
 rwa [putSet_of es' t' hd]at z
theorem add_int{a:Addr}{l:List Int}{n:Int}{tk:Tok}{Q:Bool→Shared→Prop}(hS:SetI prog w s.heap a l)(hroom:l.length+1<scanBound)
  (k:∀ h' b,Heap.SameBut a s.heap h'→SetI prog w h' a (step_dedup l n)→Q b {s with heap:=h'}):wpAny (model prog w) A (setAddHashed a (.int n tk) ((intKind prog w).hash n)) Q E s:=by
 have hlen:=hS.setOf;obtain⟨o,es,ep,t,es0,ho,hex,hd,hel,hb,hf,ht,hp,hi⟩:=id hS;have hsz:es.size=l.length:=by rw[←YG hi,qA,←hp.length_eq,zC]
 have hkey:(intKind prog w).is n (.int n tk)=true:=intKind_is _ _ _ _;unfold setAddHashed setAddHashedIn;refine wpAny_holding (wpAny_bind (wpAny_setState_of ho hd hf ?_));dsimp only;rw[byScan_of rfl hb hel];simp only[↓reduceIte];unfold setAddByScan;refine wpAny_bind (wpAny_bind (wpAny_rule (wpAny_bind (wpAny_setScan_of hkey ho hd hf hel ?_))));have hm:n∈l↔∃ e∈es.toList,(intKind prog w).is n e.2=true:=by
  rw[KJ (P:=prog) (w:=w) hi];constructor
  ·rintro⟨v,hv,e⟩;obtain⟨x,hx,rfl⟩:=qZ.mp hv;exact⟨x,hp.mem_iff.mpr hx,e⟩
  ·rintro⟨x,hx,e⟩;exact⟨_,qZ.mpr ⟨x,hp.mem_iff.mp hx,rfl⟩,e⟩
 cases hr:List.findIdx? (fun e=>(intKind prog w).is n e.2) es.toList with
 |some j =>
  obtain⟨hj,hpj,_⟩:=List.findIdx?_eq_some_iff_getElem.mp hr;have hn:n∈l:=hm.mpr ⟨_,List.getElem_mem hj,hpj⟩;have e1:step_dedup l n=l:=by unfold step_dedup;rw[if_pos (List.any_eq_true.mpr ⟨n,hn,by simp⟩)]
  rw[e1]at k;exact wpAny_pure (wpAny_pure (k s.heap false (Heap.SameBut.refl a s.heap) hS))
 |none =>
  have hn:n∉l:=fun z=>by obtain⟨e,he,q⟩:=hm.mp z;have:=List.findIdx?_eq_none_iff.mp hr e he;rw[q]at this;cases this
  have e1:step_dedup l n=l++[n]:=by
   unfold step_dedup;rw[if_neg];intro z;obtain⟨m,hm,q⟩:=List.any_eq_true.mp z;have q:m=n:=by simpa using q
   exact hn (q▸hm)
  rw[e1]at k;have l1:=layNew_perm t es ((intKind prog w).hash n) (.int n tk);have l2:=layNew_fits t es ((intKind prog w).hash n) (.int n tk);have l3:=CO ht es ((intKind prog w).hash n) (.int n tk);dsimp only;generalize hL:layNew t es ((intKind prog w).hash n) (.int n tk)=L at l1 l2 l3 ⊢;obtain⟨es1,t1,wd,gv⟩:=L;dsimp only at l1 l2 l3 ⊢;rw[Array.toList_push]at l1;have i1:IntsAre ((es0++[((intKind prog w).hash n,Value.int n tk)]).map (·.2)) (l++[n]):=by rw[qJ];exact M9 n tk hi
  have p1:es1.toList.Perm (es0++[((intKind prog w).hash n,Value.int n tk)]):=l1.trans (hp.append_right _);have hel1:ElemsOf (intKind prog w) es1.toList:=(hel.push hkey rfl).perm l1;have hs1:es1.size=l.length+1:=by rw[←zC,l1.length_eq,qU,zC,hsz];rfl
  have fin:∀ (h':Heap) (o':Obj) (ep':Nat) (es':Array (Int×Value)) (t':SetTable),Heap.SameBut a s.heap h'→h'.get? a=some o'→o'.ExactSet→o'.data=.set es' ep' t'→es'.toList.Perm es1.toList→t'.fits es'.size=true→Tb (byT w) t'→∀ b,Q b {s with heap:=h'}:=fun h' o' ep' es' t' sb g1 g2 g3 g4 g5 g6 b=>by refine k h' b sb ⟨o',es',ep',t',_,g1,g2,g3,hel1.perm g4,?_,g5,g6,g4.trans p1,i1⟩;rw[←zC,g4.length_eq,zC,hs1];exact hroom
  have hz1:es1.size≤sizeLine:=fits_of_scanBound (by rw[hs1];exact hroom);have g0:∀ (b:Bool){s₁:Shared}{Q':Unit→Shared→Prop},Q' () s₁→wpAny (model prog w) A (match b with|true=>rule "set.scan.the-table-gave-way" | false=>pure ()) Q' E s₁ :=
   fun b s₁ Q' hq=>by cases b<;>first|exact wpAny_pure hq|exact wpAny_rule hq
  refine wpAny_bind (g0 _ ?_);have bv:hashByValue 8 (.int n tk)=(pure true:Sem Bool):=hashByValue_scannable 8 rfl;rw[bv,ite_self];refine wpAny_bind (wpAny_pure ?_);simp only[↓reduceIte];refine wpAny_bind (wpAny_storeSet_of ho hd ?_ hz1);have ho1:=Mz (es':=es1) (t':=t1) ho hd;have sb1:=Heap.SameBut.update s.heap a (Obj.putSet es1 t1);split
  ·have r1:=relayAll_perm t1 es1 (SetTable.grown es1.size);have r2:=relayAll_fits t1 es1 (SetTable.grown es1.size);have r3:=Ov l3 es1 (SetTable.grown es1.size);generalize relayAll t1 es1 (SetTable.grown es1.size)=R at r1 r2 r3 ⊢;obtain⟨es2,t2,gv2⟩:=R;dsimp only at r1 r2 r3 ⊢;refine wpAny_bind (g0 _ ?_);refine wpAny_bind (wpAny_storeSet_of ho1 rfl ?_ (by rw[←zC,r1.length_eq,zC];exact hz1));exact wpAny_pure (wpAny_pure (fin _ _ _ es2 t2 (sb1.trans (Heap.SameBut.update _ a _)) (Mz ho1 rfl) hex rfl r1 r2 r3 _))
  ·exact wpAny_pure (wpAny_pure (fin _ _ _ es1 t1 sb1 ho1 hex rfl .rfl l2 l3 _))
end
theorem SetI.at{P:Program}{w:World}{h h':Heap}{a:Addr}{l:List Int}(x:SetI P w h a l)(k:∀ o,h.get? a=some o→h'.get? a=some o):SetI P w h' a l:=by obtain⟨o,es,ep,t,es0,h1,h2⟩:=x;exact⟨o,es,ep,t,es0,k _ h1,h2⟩
section
variable {prog:Program}{w:World}{A:Around}{R:Result→Shared→Prop}{I:Addr}{fp wr:List Addr}{G:Array GenState→Array GenState→Prop}{n:Nat}{P:Nat→Value→Prop}{St:Nat→Shared→Prop}
theorem OI(W:WalksS prog w A.in1 I fp wr G n P St)(S:Addr)(hS:S∉fp)(val:Nat→Int)(hv:∀ i v,P i v→∃ t,v=.int (val i) t)(hb:n+1<scanBound) :
  ∀ (k i:Nat) (s:Shared),n - i=k→i≤n→St i s→SetI prog w s.heap S (firstMet val i)→(∀ s',Moved (S::wr) G s s'→SetI prog w s'.heap S (firstMet val n)→R (.ok (.ret .none)) s')→
   codeAny (model prog w) A (.builtin "set.update.loop" ⟨[.ref S,.ref I],[]⟩) R s:=by
 have nw:S∉wr:=fun z=>hS (W.sub _ z);intro k;induction k with
 |zero =>
  intro i s h1 h2 st x r;obtain rfl:i=n:=by omega
  refine codeAny_builtin F.entry_set_update_loop ?_;rw[Around.under_plainId F.plain_set_update_loop _];show wpAny _ A.in1 (pyNext (.ref I) >>= _) _ _ s;refine wpAny_bind (W.done s _ _ st fun s' m=>?_);exact wpAny_pure (r s' (m.mono fun b hb=>qI _ hb) (x.at fun o e=>m.heap S _ nw e))
 |succ k ih =>
  intro i s h1 h2 st x r;have hi:i<n:=by omega
  refine codeAny_builtin F.entry_set_update_loop ?_;rw[Around.under_plainId F.plain_set_update_loop _];show wpAny _ A.in1 (pyNext (.ref I) >>= _) _ _ s;refine wpAny_bind (W.item i s _ _ hi st fun v s' p st' m=>?_);obtain⟨t,rfl⟩:=hv i v p;show wpAny _ A.in1 (holding [Value.int (val i) t] (setAdd S (.int (val i) t)) >>= _) _ _ s';refine wpAny_bind (wpAny_holding ?_);unfold setAdd;refine wpAny_holding (wpAny_bind ((intKind prog w).pyHash (k:=val i) (intKind_is _ _ _ _) ?_));refine add_int (s:={s' with toks:=s'.toks+1}) (x.at fun o e=>m.heap S _ nw e) (by have:=firstMet_length_le val i;omega) fun h' b sb x'=>?_;rw[←firstMet_succ]at x';refine wpAny_pure ⟨plainId_quiet F.plain_set_update_loop _,ih (i+1) _ (by omega) hi (W.frame _ s' _ _ st' (Nat.le_succ _) fun b hb o e=>?_) x' fun s'' m'' x''=>r s'' ?_ x''⟩
  ·rw[sb.2 b fun z=>hS (z▸hb)];exact e
  ·refine Moved.trans W.gtrans ((m.mono fun b hb=>qI _ hb).then_heap (Nat.le_succ _) fun b o hb e=>?_) m'';rw[sb.2 b fun z=>hb (z▸qT)];exact e
end
section
variable {prog:Program}{w:World}{A:Around}{E:Value→Shared→Prop}{s:Shared}
abbrev XN (b:Bool):Obj:={cls:=.type "set",dict:=none,data:=.set #[] 0 (.fresh 0 0 !b)}
theorem Br(a:Value){Q:Value→Shared→Prop}(h:Q (.ref s.heap.objs.size) {s with heap:=s.heap.push (XN (byT w))}) :
  codeAny (model prog w) A (.call (.builtin "set.__new__") ⟨[.type "set",a],[]⟩) (wants Q E) s:=by
 refine codeAny_of_tree ?_;show wpAny _ A.in1 (do checkBuiltinCall "set.__new__" ⟨[.type "set",a],[]⟩;again (.builtin "set.__new__" ⟨[.type "set",a],[]⟩)) _ _ s;refine wpAny_bind (wpAny_of_eq (F.newCall_set_1 a) (wpAny_pure ⟨plainId_quiet F.plain_set_new _,codeAny_builtin F.entry_set_new ?_⟩));rw[Around.under_plainId F.plain_set_new _];unfold Builtin.«set.__new__» Builtin.Frozenset.newClass;have hsub:=sub_set_self;obtain⟨hp,g,d,tk,os⟩:=s;dsimp only
 wp_walk
 refine wpAny_askSetting (wpAny_pure ?_);dsimp only;simp only[newObj];exact wpAny_bind (wpAny_alloc (wpAny_pure (wpAny_pure h)))
theorem O0{l:Addr}{items:Array Value}{ns:List Int}{Q:Value→Shared→Prop}(hh:A.handled=none)(hl:s.heap.IsList l items)(hi:IntsAre items.toList ns)(hb:items.size+1<scanBound)
  (h:∀ (h':Heap) (tk:Nat),SetI prog w h' s.heap.objs.size (firstMet (fun i=>ns.getD i 0) items.size)→(∀ b o,s.heap.get? b=some o→h'.get? b=some o)→Q (.ref s.heap.objs.size) {s with heap:=h',toks:=tk}) :
  wpAny (model prog w) A (call (.type "set") [.ref l]) Q E s:=by
 obtain⟨c,tl,hmro⟩:=F.called_set.mro;have hmade:=F.called_set.made;have hsub:=F.called_set.sub;have h1:=F.called_set.notType;have h2:=F.called_set.canCreate;have hct:=F.typeCall_set_1 (.ref l);refine wpAny_call (codeAny_of_tree ?_);show wpAny _ _ (callAny (.type "set") _) _ _ _;refine wpAny_pure ⟨Code.quiet_builtin _ (by decide +kernel),codeAny_builtin F.entry_type_call ?_⟩;rw[Around.under_plain (weight_type_call_type "set" [.ref l] []) rfl]
 repeat (any_goals (first|assumption|wp_step))
 refine codeAny_mono (Br (.ref l) (E:=E) (Q:=fun v s1=>v=.ref s.heap.objs.size∧s1={s with heap:=s.heap.push (XN (byT w))}) ⟨rfl,rfl⟩) fun r s1 hr=>?_;cases r with
 |error e=>exact hr
 |ok fl =>
  cases fl with
  |ret obj =>
   obtain⟨rfl,rfl⟩:=hr;have hS:(s.heap.push (XN (byT w))).get? s.heap.objs.size=some (XN (byT w)):=Heap.get?_push_size _ rfl;have hT:Shared.TypeIs {s with heap:=s.heap.push (XN (byT w))} (.ref s.heap.objs.size) "set":=⟨_,hS,rfl⟩
   have hli:=F.called_set.init.lookup;have hbi:=F.called_set.init.bind (.ref s.heap.objs.size)
   repeat (any_goals (first|assumption|wp_step))
   refine codeAny_mono (codeAny_call_builtin (R:=wants (fun r s2=>r=.none∧∃ h' tk,s2={ s with heap:=h',toks:=tk }∧SetI prog w h' s.heap.objs.size (firstMet (fun i=>ns.getD i 0) items.size)∧∀ b o,s.heap.get? b=some o→h'.get? b=some o) E)
     F.called_set.init.plain F.entry_set_init (check_set_init_1 hT ?_)) fun r s2 hr=>?_
   ·have hlS:l<s.heap.objs.size:=by obtain⟨_,e,_⟩:=hl;exact Heap.lt_size e
    have hl1:(s.heap.push (XN (byT w))).IsList l items:=hl.push _;obtain⟨ol,hol,hcl,nl,hdl⟩:=id hl1;obtain⟨ocls,odict,odata,oslots⟩:=ol;simp only at hcl hdl;subst hcl hdl;have hsls:=F.sub_list_set;have hslf:=F.sub_list_frozenset;have hne:(Value.type "list" == Value.type "dict")=false:=by decide
    unfold Builtin.«set.__init__» noKeywords Builtin.Frozenset.updateFrom;generalize hPI:pyIter=PI
    wp_walk
    subst hPI;refine wpAny_pyIter_list hl1 (wpAny_bind (wpAny_runValue ?_));have hh3:A.in1.in1.in1.handled=none:=by simp[hh]
    have zs:(s.heap.push (XN (byT w))).objs.size=s.heap.objs.size+1:=Heap.size_push ..;refine OI ((Walks.list hh3 _ l (by rw[zs];exact zF (Nat.lt_succ_of_lt hlS)) items).toS) s.heap.objs.size (by rw[zs];simp only[qE,List.not_mem_nil,or_false,not_or];exact⟨zF (Nat.lt_succ_self _),Nat.ne_of_gt hlS⟩) (fun i=>ns.getD i 0) (fun i v hv=>IntsAre.int_at hi i v (by rw[Array.getElem?_toList];exact hv)) hb (items.size - 0) 0 _ (by omega) (Nat.zero_le _)
     ⟨⟨_,Heap.get?_push_size _ rfl,rfl,rfl⟩,hl1.push _⟩ ?_ ?_
    ·refine⟨_,#[],0,_,[],Heap.get?_push_of_some _ hS,⟨rfl,rfl,rfl⟩,rfl,fun e he=>by simp at he,by show 0<scanBound;unfold scanBound;omega,rfl,⟨fun z=>by show(!byT w)=true;rw[z];rfl,.nil,rfl⟩,.nil,.nil⟩
    ·intro s' m x;obtain⟨h',g',d',tk',os'⟩:=s';have eg:g'=s.gens:=m.gens;have ed:d'=s.drawn:=m.drawn;have eo:os'=s.os:=m.os;subst eg ed eo;refine wpAny_pure ?_;show wpAny _ _ (ret Value.none) _ _ _;refine wpAny_pure ⟨rfl,h',tk',rfl,x,fun b o e=>?_⟩;have hb:=Heap.lt_size e;exact m.heap b o (by rw[zs];simp only[qE,List.not_mem_nil,or_false,not_or];exact⟨zF hb,zF (Nat.lt_succ_of_lt hb)⟩) (Heap.get?_push_of_some _ (Heap.get?_push_of_some _ e))
   ·cases r with
    |error e=>exact hr
    |ok fl =>
     cases fl with
     |ret r =>
      obtain⟨rfl,h',tk,rfl,x,hk⟩:=hr
      repeat (any_goals (first|assumption|wp_step))
      exact h _ _ x hk
     |_=>exact hr.elim
  |_=>exact hr.elim
end
end L2
namespace L2
open PySem PySem.Spec PyProof.Rows
open PySem.Builtin
theorem Oh:entryFor table "set.__iter__" = some Builtin.«frozenset.__iter__»:=entryFor_alias (id':="frozenset.__iter__") (by kernel_rfl) rfl (by decide +kernel) (by kernel_rfl)
theorem UB:entryFor table "set_iterator.__next__" = some Builtin.«set_iterator.__next__»:=entryFor_of_tree (by kernel_rfl)
theorem Ac (a:Value):argsOk "set_iterator.__next__" ⟨[a],[]⟩:=by unfold argsOk;kernel_rfl
theorem slot_snext:Slot "set_iterator" "__next__" "set_iterator.__next__" :=
 .of (owner:="set_iterator") (n:="__next__") (by rw[typeLookup_type,builtinLookup_eq_fast];kernel_rfl) (by decide +kernel) (by decide +kernel) (by decide +kernel)
  (by first|exact .inl (by decide +kernel)|exact .inr (by decide +kernel)) (by rw[isSubtype_type];kernel_rfl)
theorem XH:Slot "set_iterator" "__iter__" "set_iterator.__iter__" :=
 .of (owner:="set_iterator") (n:="__iter__") (by rw[typeLookup_type,builtinLookup_eq_fast];kernel_rfl) (by decide +kernel) (by decide +kernel) (by decide +kernel)
  (by first|exact .inl (by decide +kernel)|exact .inr (by decide +kernel)) (by rw[isSubtype_type];kernel_rfl)
theorem Um:entryFor table "set_iterator.__iter__" = some Builtin.«dict_keyiterator.__iter__»:=entryFor_alias (id':="dict_keyiterator.__iter__") (by kernel_rfl) rfl (by decide +kernel) (by kernel_rfl)
theorem Uj (a:Value):argsOk "set_iterator.__iter__" ⟨[a],[]⟩:=by unfold argsOk;kernel_rfl
theorem YA{α:Type}:∀ {l:List α}{i:Nat}(h:i<l.length),(l[i]::l.eraseIdx i).Perm l
 |a::l,0,h=>.rfl
 |a::l,i+1,h=>(List.Perm.swap a _ _).trans ((YA (l:=l) (Nat.lt_of_succ_lt_succ h)).cons a)
theorem MC{α:Type}(f:Nat→Nat):∀ (n k:Nat) (l:List α) (out:Array α),l.length=n→(pickOrder.go f n k l out).toList.Perm (out.toList++l)
 |0,k,l,out,h=>by
  cases l with
  |nil=>unfold pickOrder.go;simp
  |cons _ _=>cases h
 |n+1,k,l,out,h=>by unfold pickOrder.go;have hlt:f k % l.length<l.length:=Nat.mod_lt _ (by omega);rw[qH hlt];dsimp only;refine(MC f n (k+1) _ _ (by rw[List.length_eraseIdx_of_lt hlt];omega)).trans ?_;rw[Array.toList_push,List.append_assoc];exact(YA hlt).append_left _
theorem NG{α:Type}(f:Nat→Nat)(xs:Array α):(pickOrder f xs).toList.Perm xs.toList:=by unfold pickOrder;simpa using MC f xs.size 0 xs.toList #[] (by simp)
section
variable {prog:Program}{w:World}{A:Around}{E:Value→Shared→Prop}{s:Shared}
theorem Ni{src:Source}{n:Nat}{Q:Nat→Shared→Prop}(hn:0<n)(h:∀ k d,k<n→Q k {s with drawn:=d}):wpAny (model prog w) A (choose src n) Q E s :=
 fun _ _ _=>⟨Nat.ne_of_gt hn,h _ _ (Nat.mod_lt _ hn)⟩
theorem JU{α:Type}:∀ (n:Nat) (xs:List α){s:Shared}{Q:List α→Shared→Prop},xs.length=n→(∀ ys d,ys.Perm xs→Q ys {s with drawn:=d})→wpAny (model prog w) A (drawOrder n xs) Q E s
 |0,[],s,Q,_,h=>by unfold drawOrder;exact wpAny_pure (h [] s.drawn .nil)
 |0,_::_,_,_,h,_=>by cases h
 |n+1,[],_,_,h,_=>by cases h
 |n+1,x::xs,s,Q,hl,h=>by unfold drawOrder;refine wpAny_bind (Ni (by simp) fun k d hk=>?_);rw[qH hk];dsimp only;refine wpAny_bind (JU n _ (by rw[List.length_eraseIdx_of_lt hk];omega) fun ys d2 hp=>wpAny_pure (h _ d2 ?_));exact(hp.cons _).trans (YA hk)
def SetIt (h:Heap) (it a:Addr) (f:Value) (i n ep:Nat):Prop:=∃ o,h.get? it=some o∧o.cls=.type "set_iterator"∧o.data=.fields #[f,.int i 0,.ref a,.int n 0,.int ep 0]
theorem SetIt.typeIs {it a:Addr}{f:Value}{i n ep:Nat}(h:SetIt s.heap it a f i n ep):s.TypeIs (.ref it) "set_iterator":=by obtain⟨o,h1,h2,_⟩:=h;exact⟨o,h1,h2⟩
structure SetO (h:Heap) (a:Addr) (o:Obj) (es:Array (Int×Value)) (ep:Nat) (t:SetTable):Prop where
 at_:h.get? a=some o
 dat:o.data=.set es ep t
 fit:t.fits es.size=true
theorem J0 {it a:Addr}{f:Value}{i n ep:Nat}{Q:Value→Shared→Prop}(hit:SetIt s.heap it a f i n ep) (h:Q (.ref it) s):wpAny (model prog w) A (pyIter (.ref it)) Q E s:=by have hT:=hit.typeIs;refine wpAny_pyIter_slot hT XH (wpAny_call_entry XH hT Um ?_ (Uj _));show wpAny _ _ (ret (.ref it)) _ _ s;exact wpAny_pure ⟨_,rfl,"set_iterator",_,hT,slot_snext.lookup,h⟩
theorem MG{Q:Option Value→Shared→Prop}{A:Around}(hh:A.handled=none)(hQ:∀ h',(∀ b o,s.heap.get? b=some o→h'.get? b=some o)→Q none {s with heap:=h'}) :
  wpAny (model prog w) A (do raiseNew (←newExc (.type "StopIteration") []):Sem Fin) (fun _ _=>False) (fun e s'=>∃ h',(∀ b o,s.heap.get? b=some o→h'.get? b=some o)∧s'={s with heap:=h'}∧s'.TypeIs e "StopIteration") s:=by
 show wpAny _ _ (newExc (.type "StopIteration") [] >>= _) _ _ _;refine wpAny_bind ?_;simp only[newExc,newTuple];refine wpAny_bind (wpAny_newObj_type ?_ (by size_fits));refine wpAny_bind (m:=firstArgMember _ _) (wpAny_of_eq (a:=Value.none) (by first|rfl|(simp only[firstArgMember];rfl)) ?_);refine wpAny_newObj_type ?_ (by size_fits);simp only[raiseNew];refine wpAny_bind (wpAny_handled ?_);rw[hh];refine wpAny_bind (wpAny_pure (wpAny_throw ?_));exact⟨_,fun b o e=>Heap.get?_push_of_some _ (Heap.get?_push_of_some _ e),rfl,_,Heap.get?_push_size _ rfl,rfl⟩
theorem Xy {it:Addr}{Q:Option Value→Shared→Prop}(hT:s.TypeIs (.ref it) "set_iterator")
  (h:wpAny (model prog w) A.in1 (Builtin.«set_iterator.__next__» ⟨[.ref it],[]⟩) (fun fin s'=>∃ v,fin=.done (.ret v)∧Q (some v) s') (fun e s'=>s'.TypeIs e "StopIteration"∧Q none s') s):wpAny (model prog w) A (pyNext (.ref it)) Q E s:=by
 unfold pyNext;refine wpAny_bind (wpAny_attempt (wpAny_callSpecial?_slot (name:=Str.ofString "__next__") hT slot_snext (wpAny_call_entry slot_snext hT UB ?_ (Ac _))));refine wpAny_mono h (fun fin s' ⟨v,e,q⟩=>⟨v,e,wpAny_pure q⟩) fun e s' ⟨t,q⟩=>?_;refine wpAny_bind (wpAny_isInstance (T:="StopIteration") (b:=true) t isSubtype_stop ?_);exact wpAny_pure q
def NX (prog:Program) (w:World) (a:Addr) (o:Obj) (ep:Nat) (f:Nat→Nat) (ord:List Value):Prop :=
 ∀ (A:Around) (s:Shared) (Q:Option (Value×Nat)→Shared→Prop) (E:Value→Shared→Prop) (i:Nat),i≤ord.length→s.heap.get? a=some o→Q (ord[i]?.map (·,f (i+1))) s→wpAny (model prog w) A (setNext a (f i) i ep) Q E s
theorem W1 {h:Heap}{it:Addr}{o:Obj}{vs:Array Value}{k:Nat}{x:Value}(ho:h.get? it=some o) (hc:o.cls=.type "set_iterator") (hd:o.data=.fields vs) :
  ∃ o',(h.update it (Obj.mapFields (·.setIfInBounds k x))).get? it=some o'∧o'.cls=.type "set_iterator"∧o'.data=.fields (vs.setIfInBounds k x) :=
 ⟨_,Heap.get?_update_self _ ho (Obj.isFreed_of_fields (Obj.data_mapFields hd _)),(Obj.cls_mapFields ..).trans hc,Obj.data_mapFields hd _⟩
end
theorem Walks.setT{prog:Program}{w:World}{A:Around}(hh:A.handled=none)(I a:Addr)(hne:a≠I){o:Obj}{es:Array (Int×Value)}{ep:Nat}{t:SetTable}{f:Nat→Nat}{ord:List Value}(hl:ord.length=es.size)(nx:NX prog w a o ep f ord) :
  Walks prog w A I [I,a] [I] es.size (fun i v=>ord[i]?=some v) (fun i h=>SetIt h I a (.int (f i) 0) i es.size ep∧SetO h a o es ep t) where
 sub:=fun b hb=>by simp at hb;simp[hb]
 frame:=fun _ _ _ st hk=>⟨by obtain⟨o,h1,h2⟩:=st.1;exact⟨o,hk I (by simp) o h1,h2⟩,hk a (by simp) _ st.2.at_,st.2.dat,st.2.fit⟩
 item:=fun i s Q E hi st hQ=>by obtain⟨st,so⟩:=st;refine Xy st.typeIs ?_;obtain⟨oi,h1,h2,h3⟩:=st;show wpAny _ _ (fieldsOf (.ref I) >>= _) _ _ s;refine wpAny_bind (wpAny_fieldsOf h1 h3 ?_);dsimp only;refine wpAny_bind (wpAny_setEntries_of so.at_ so.dat so.fit ?_);refine wpAny_ite_split (fun z=>absurd z (by simp)) fun _=>?_;rw[Int.toNat_natCast,Int.toNat_natCast,Int.toNat_natCast];have hx:ord[i]?=some ord[i]:=qH (by omega);refine wpAny_bind (nx _ s _ _ i (by omega) so.at_ ?_);rw[hx];dsimp only[Option.map];refine wpAny_bind (wpAny_setField h1 h3 (by simp) ?_);obtain⟨o2,g1,g2,g3⟩:=W1 (k:=0) (x:=rawInt (f (i+1))) h1 h2 h3;refine wpAny_bind (wpAny_setField g1 g3 (by simp) ?_);obtain⟨o4,g4,g5,g6⟩:=W1 (k:=1) (x:=rawInt ((i:Int)+1)) g1 g2 g3;have sb:=(Heap.SameBut.update s.heap I (Obj.mapFields (·.setIfInBounds 0 (rawInt (f (i+1)))))).trans (Heap.SameBut.update _ I (Obj.mapFields (·.setIfInBounds 1 (rawInt ((i:Int)+1)))));refine wpAny_pure ⟨_,rfl,hQ _ _ s.toks hx ⟨⟨o4,g4,g5,by rw[g6];simp[rawInt]⟩,?_,so.dat,so.fit⟩ fun b ob hb e=>sb.extBut b ob (fun z=>hb (by simp[z])) e⟩;exact sb.extBut a _ hne so.at_
 done:=fun s Q E st hQ=>by
  obtain⟨st,so⟩:=st;refine Xy st.typeIs ?_;obtain⟨oi,h1,h2,h3⟩:=st;show wpAny _ _ (fieldsOf (.ref I) >>= _) _ _ s;refine wpAny_bind (wpAny_fieldsOf h1 h3 ?_);dsimp only;refine wpAny_bind (wpAny_setEntries_of so.at_ so.dat so.fit ?_);refine wpAny_ite_split (fun z=>absurd z (by simp)) fun _=>?_;rw[Int.toNat_natCast,Int.toNat_natCast,Int.toNat_natCast];refine wpAny_bind (nx _ s _ _ es.size (by omega) so.at_ ?_);rw[List.getElem?_eq_none (by omega)];dsimp only[Option.map];refine wpAny_bind (wpAny_setField h1 h3 (by simp) ?_);refine wpAny_mono (MG (A:=A.in1) (Q:=Q) hh fun h' hk=>?_) (fun _ _ z=>z.elim) fun e s' ⟨h',hk,e2,tt⟩=>⟨tt,?_⟩
  ·exact hQ h' s.toks fun b ob hb e=>hk b ob ((Heap.SameBut.update s.heap I _).extBut b ob (fun z=>hb (by simp[z])) e)
  ·subst e2;exact hQ h' s.toks fun b ob hb e=>hk b ob ((Heap.SameBut.update s.heap I _).extBut b ob (fun z=>hb (by simp[z])) e)
 self:=fun _ _ _ _ st hQ=>J0 st.1 hQ
theorem Walks.setD{prog:Program}{w:World}{A:Around}(hh:A.handled=none)(I a T:Addr)(hne:a≠I)(hnT:T≠I){o oT:Obj}{es:Array (Int×Value)}{ep:Nat}{t:SetTable}{ks:List Nat}(hl:ks.length=es.size)(hk:∀ k∈ks,k<es.size)
  (hT:oT.data=.seq (ks.map fun(k:Nat)=>rawInt k).toArray) :
  Walks prog w A I [I,a,T] [I] es.size (fun i v=>(ks.map fun k=>(es.getD k (0,.none)).2)[i]?=some v) (fun i h=>SetIt h I a (.ref T) i es.size ep∧SetO h a o es ep t∧h.get? T=some oT) where
 sub:=fun b hb=>by simp at hb;simp[hb]
 frame:=fun _ _ _ st hk=>⟨by obtain⟨o,h1,h2⟩:=st.1;exact⟨o,hk I (by simp) o h1,h2⟩,⟨hk a (by simp) _ st.2.1.at_,st.2.1.dat,st.2.1.fit⟩,hk T (by simp) _ st.2.2⟩
 item:=fun i s Q E hi st hQ=>by
  obtain⟨st,so,sT⟩:=st;refine Xy st.typeIs ?_;obtain⟨oi,h1,h2,h3⟩:=st;show wpAny _ _ (fieldsOf (.ref I) >>= _) _ _ s;refine wpAny_bind (wpAny_fieldsOf h1 h3 ?_);dsimp only;refine wpAny_bind (wpAny_setEntries_of so.at_ so.dat so.fit ?_);refine wpAny_ite_split (fun z=>absurd z (by simp)) fun _=>?_;refine wpAny_bind (wpAny_seqItems sT hT ?_);have hi':i<ks.length:=by omega
  have hx:ks[i]?=some ks[i]:=qH hi';have hki:=hk ks[i] (List.getElem_mem hi');have hp:((ks.map fun(k:Nat)=>rawInt k).toArray)[(i:Int).toNat]?=some (.int (ks[i]:Nat) 0):=by rw[Int.toNat_natCast];simp[hx,rawInt]
  dsimp only;rw[hp];dsimp only;rw[Int.toNat_natCast,Int.toNat_natCast];unfold setNextDrawn;refine wpAny_bind (wpAny_bind (wpAny_setState_of so.at_ so.dat so.fit ?_));dsimp only;refine wpAny_ite_split (fun z=>absurd z (by simp)) fun _=>?_;have he:es[ks[i]]?=some es[ks[i]]:=Array.getElem?_eq_getElem hki;rw[he];dsimp only;refine wpAny_pure ?_;refine wpAny_bind (wpAny_setField h1 h3 (by simp) ?_);obtain⟨o4,g4,g5,g6⟩:=W1 (k:=1) (x:=rawInt ((i:Int)+1)) h1 h2 h3;have sb:=Heap.SameBut.update s.heap I (Obj.mapFields (·.setIfInBounds 1 (rawInt ((i:Int)+1))));refine wpAny_pure ⟨_,rfl,hQ _ _ s.toks ?_ ⟨⟨o4,g4,g5,by rw[g6];simp[rawInt]⟩,⟨sb.extBut a _ hne so.at_,so.dat,so.fit⟩,sb.extBut T _ hnT sT⟩ fun b ob hb e=>sb.extBut b ob (fun z=>hb (by simp[z])) e⟩;rw[qF,hx];simp[Array.getD,hki]
 done:=fun s Q E st hQ=>by
  obtain⟨st,so,sT⟩:=st;refine Xy st.typeIs ?_;obtain⟨oi,h1,h2,h3⟩:=st;show wpAny _ _ (fieldsOf (.ref I) >>= _) _ _ s;refine wpAny_bind (wpAny_fieldsOf h1 h3 ?_);dsimp only;refine wpAny_bind (wpAny_setEntries_of so.at_ so.dat so.fit ?_);refine wpAny_ite_split (fun z=>absurd z (by simp)) fun _=>?_;refine wpAny_bind (wpAny_seqItems sT hT ?_);have hp:((ks.map fun(k:Nat)=>rawInt k).toArray)[(es.size:Int).toNat]?=none:=by rw[Int.toNat_natCast];simp[hl]
  dsimp only;rw[hp];dsimp only;refine wpAny_bind (wpAny_setField h1 h3 (by simp) ?_);obtain⟨o4,g4,g5,g6⟩:=W1 (k:=0) (x:=rawInt 0) h1 h2 h3;refine wpAny_bind (wpAny_setField g4 g6 (by simp) ?_);refine wpAny_mono (MG (A:=A.in1) (Q:=fun _ _=>True) hh fun _ _=>trivial) (fun _ _ z=>z.elim) fun e s' ⟨h',hk,e2,tt⟩=>⟨tt,?_⟩
  subst e2;exact hQ h' s.toks fun b ob hb e=>hk b ob ((Heap.SameBut.update _ I _).extBut b ob (fun z=>hb (by simp[z])) ((Heap.SameBut.update s.heap I _).extBut b ob (fun z=>hb (by simp[z])) e))
 self:=fun _ _ _ _ st hQ=>J0 st.1 hQ
section
variable {prog:Program}{w:World}{a:Addr}{o:Obj}{es:Array (Int×Value)}{ep:Nat}{t:SetTable}
theorem BK (hb:byT w=true) (hd:o.data=.set es ep t) (hf:t.fits es.size=true):NX prog w a o ep (fun _=>0) ((pickOrder (w.params.setOrder a ep) es).toList.map (·.2)):=fun A s Q E i hil ho h=>by unfold setNext;refine wpAny_bind (wpAny_setState_of ho hd hf ?_);dsimp only;unfold setsByText;refine wpAny_bind (wpAny_bind (wpAny_askSetting (wpAny_pure ?_)));have hb':(model prog w).w.params.followText "set-order" = true:=hb;dsimp only;rw[hb'];simp only[↓reduceIte,bne_self_eq_false,Bool.false_eq_true];refine wpAny_bind ?_;unfold setWalk setsByText;refine wpAny_bind (wpAny_setState_of ho hd hf ?_);dsimp only;refine wpAny_bind (wpAny_bind (wpAny_askSetting (wpAny_pure ?_)));dsimp only;rw[hb'];simp only[↓reduceIte];refine wpAny_bind (wpAny_askSetting (wpAny_pure (wpAny_pure ?_)));dsimp only;rw[qF,Array.getElem?_toList,Option.map_map]at h;exact h
theorem Ed(hb:byT w=false)(tb:Tb (byT w) t)(hpl:(!t.plain&&decide (es.size > 1))=false)(hd:o.data=.set es ep t)(hf:t.fits es.size=true) :
  NX prog w a o ep (fun i=>match i with|0=>0|k+1=>t.place.getD k 0+1) (es.toList.map (·.2)):=fun A s Q E i hil ho h=>by
 have e0:∀ slot,setNext a slot i ep=(do
     let (es,epoch,t)←setState a
     if←setsByText then
       if epoch != ep then unsupported "set_iterator.__next__:elements-changed"
       return ((←setWalk a)[i]?).map fun e=>(e.2,slot)
     if(!t.plain&&decide (es.size > 1))then unsupported "set_iterator.__next__:the-table-is-plain-no-more"
     (do if !t.led && !es.isEmpty then unsupported "set:maker-not-led")
     let i:=SetTable.below t.place slot
     return match es[i]?,t.place[i]? with
       |some (_,x),some j=>some (x,j+1)
       | _,_=>none):=fun _=>rfl
 rw[e0];refine wpAny_bind (wpAny_setState_of ho hd hf ?_);dsimp only;unfold setsByText;refine wpAny_bind (wpAny_bind (wpAny_askSetting (wpAny_pure ?_)));have hb':(model prog w).w.params.followText "set-order" = false:=hb;have hled:=tb.led hb;dsimp only;rw[hb',hpl,hled];simp only[Bool.false_eq_true,↓reduceIte,Bool.not_true,Bool.false_and];refine wpAny_pure ?_;have hsz:t.place.size=es.size:=by simp only[SetTable.fits,bAq,beq_iff_eq,decide_eq_true_eq]at hf;exact hf.1
 have fin:∀ slot,i≤es.size→KG t.place slot i→Q (match es[SetTable.below t.place slot]?,t.place[SetTable.below t.place slot]? with|some (_,x),some j=>some (x,j+1)|_,_=>none) s:=fun slot hi hc=>by
  rw[Uy (Jz tb.ris slot) hc];rw[qF,Array.getElem?_toList]at h;by_cases hlt:i<es.size
  ·have h1:es[i]?=some es[i]:=Array.getElem?_eq_getElem hlt;have h2:t.place[i]?=some (t.place[i]'(by omega)):=Array.getElem?_eq_getElem _;rw[h1]at h ⊢;rw[h2];have h3:t.place.getD i 0=t.place[i]'(by omega):=by simp[Array.getD,show i<t.place.size by omega]
   dsimp only[Option.map]at h ⊢;rw[h3]at h;exact h
  ·have h1:es[i]?=none:=Array.getElem?_eq_none (by omega);rw[h1]at h ⊢;exact h
 cases i with
 |zero=>exact fin 0 (Nat.zero_le _) (NI _)
 |succ k =>
  have hk:k<t.place.size:=by simp at hil;omega
  refine fin _ (by omega) (Nk tb.ris ?_);rw[Array.getElem?_eq_getElem hk];simp[Array.getD,hk]
end
structure Near (s s':Shared):Prop where
 heap:∀ b o,s.heap.get? b=some o→s'.heap.get? b=some o
 gens:s'.gens=s.gens
 os:s'.os=s.os
theorem B7:∀ {vs us:List Value}{ns:List Int},vs.Perm us→IntsAre us ns→∃ ms,ms.Perm ns∧IntsAre vs ms:=by
 intro vs us ns h;induction h generalizing ns with
 |nil=>exact fun r=>by cases r;exact⟨[],.nil,.nil⟩
 |cons x _ ih =>
  intro r;cases r with
  |cons n t r=>obtain⟨ms,h1,h2⟩:=ih r;exact⟨n::ms,h1.cons n,.cons n t h2⟩
 |swap x y l =>
  intro r;cases r with
  |cons n t r=>cases r with
   |cons m u r=>exact⟨m::n::_,.swap _ _ _,.cons m u (.cons n t r)⟩
 |trans _ _ ih1 ih2 =>intro r;obtain⟨ms,h1,h2⟩:=ih2 r;obtain⟨ks,h3,h4⟩:=ih1 h2;exact⟨ks,h3.trans h1,h4⟩
section
variable {prog:Program}{w:World}{A:Around}{E:Value→Shared→Prop}{s:Shared}
theorem Uz {r:Addr}{Q:Bool→Shared→Prop}(hT:s.TypeIs (.ref r) "set") (h:Q false s):wpAny (model prog w) A (Builtin.List.listLengthHint (.ref r)) Q E s:=by
 unfold Builtin.List.listLengthHint;refine wpAny_bind (wpAny_specialOf hT PySem.F.slot_set_len.lookup ?_);generalize hid:("set.__len__" : String)=id0
 wp_delta
 rw[show splitId id0=some ("set","__len__") from by subst hid;decide +kernel];subst hid;refine wpAny_bind (wpAny_isInstance (T:="set") (b:=true) hT (by rw[isSubtype_type];kernel_rfl) ?_);refine wpAny_ite_split (fun hab=>absurd hab (by decide)) (fun _=>?_);refine wpAny_ite_split (fun _=>?_) (fun hab=>absurd (by decide +kernel) hab);exact wpAny_bind (wpAny_typeOf hT (wpAny_pure h))
theorem U7{a:Addr}{l:List Int}{Q:Value→Shared→Prop}(hh:A.handled=none)(hS:SetI prog w s.heap a l)
  (h:∀ s' I fp St vs ms,Near s s'→s.heap.objs.size≤I→(∀ b∈fp,b=a∨s.heap.objs.size≤b)→ms.Perm l→IntsAre vs ms→Walks prog w A I fp [I] l.length (fun i v=>vs[i]?=some v) St→St 0 s'.heap→Q (.ref I) s') :
  wpAny (model prog w) A (pyIter (.ref a)) Q E s:=by
 obtain⟨o,es,ep,t,es0,ho,hex,hd,hel,hb,hf,ht,hp,hi⟩:=id hS;have hsz:es.size=l.length:=by rw[←YG hi,qA,←hp.length_eq,zC]
 rw[←hsz]at h;have hT:s.TypeIs (.ref a) "set":=⟨o,ho,hex.1⟩
 have hlt:=Heap.lt_size ho;refine wpAny_pyIter_slot hT F.slot_set_iter (wpAny_call_entry F.slot_set_iter hT Oh ?_ (F.args_set_iter_1 _));have e0:Builtin.«frozenset.__iter__» ⟨[.ref a],[]⟩=(do
     let n←Frozenset.sizeOf a
     let d←(do
       let (es,_,t)←setState a
       let byText←setsByText
       return !byText&&(!t.plain&&decide (es.size > 1)))
     let first←if d then newTuple ((←drawOrder n (List.range n)).map fun(i:Nat)=>rawInt i)else pure (rawInt 0)
     ret (←newFields "set_iterator" [first,rawInt 0,.ref a,rawInt n,rawInt (←setEpoch a)])):=rfl
 rw[e0];unfold Frozenset.sizeOf;refine wpAny_bind (wpAny_bind (wpAny_setEntries_of ho hd hf (wpAny_pure ?_)));refine wpAny_bind (wpAny_bind (wpAny_setState_of ho hd hf ?_));dsimp only;unfold setsByText;refine wpAny_bind (wpAny_bind (wpAny_askSetting (wpAny_pure (wpAny_pure ?_))));have ebt:(model prog w).w.params.followText "set-order" = byT w:=rfl;dsimp only;rw[ebt];have mapP:∀ es':List (Int×Value),es'.Perm es.toList→∃ ms,ms.Perm l∧IntsAre (es'.map (·.2)) ms:=fun es' q=>B7 ((q.trans hp).map _) hi;by_cases hdr:(!byT w&&(!t.plain&&decide (es.size > 1)))=true
 ·rw[if_pos hdr];refine wpAny_bind (JU es.size (List.range es.size) (by simp) fun ks d hks=>wpAny_bind ?_);have hkl:ks.length=es.size:=by rw[hks.length_eq,List.length_range]
  refine wpAny_newTuple ?_ (by rw[qA,hkl];exact fits_of_scanBound hb);refine wpAny_bind (wpAny_setEpoch_of (Heap.get?_push_of_some _ ho) hd hf ?_);refine wpAny_bind (wpAny_newObj_type (wpAny_pure ⟨_,rfl,"set_iterator",_,⟨_,Heap.get?_push_size _ rfl,rfl⟩,slot_snext.lookup,?_⟩));have zs:(s.heap.push { cls:=.type "tuple",dict:=none,data:=.seq (List.map (fun(i:Nat)=>rawInt i) ks).toArray }).objs.size=s.heap.objs.size+1:=Heap.size_push ..;obtain⟨ms,m1,m2⟩:=mapP (ks.map fun k=>es.getD k (0,.none)) (by
    refine(hks.map _).trans (List.Perm.of_eq ?_)
    refine List.ext_getElem (by simp) fun i h1 h2=>?_
    have hi:i<es.size:=by simpa using h1
    simp[Array.getD,hi])
  rw[List.map_map]at m2;refine h _ _ [_,a,s.heap.objs.size] _ _ ms ⟨fun b o e=>Heap.get?_push_of_some _ (Heap.get?_push_of_some _ e),rfl,rfl⟩ (by rw[zs];exact Nat.le_succ _) (fun b hb=>?_) m1 m2
   (Walks.setD (o:=o) (oT:={cls:=.type "tuple",dict:=none,data:=.seq (List.map (fun(i:Nat)=>rawInt i) ks).toArray}) (es:=es) (ep:=ep) (t:=t) (ks:=ks) hh _ a s.heap.objs.size (by rw[zs];exact zF (Nat.lt_succ_of_lt hlt)) (by rw[zs];exact zF (Nat.lt_succ_self _)) hkl (fun k hk=>List.mem_range.mp (hks.mem_iff.mp hk)) rfl)
   ⟨⟨_,Heap.get?_push_size _ rfl,rfl,rfl⟩,⟨Heap.get?_push_of_some _ (Heap.get?_push_of_some _ ho),hd,hf⟩,Heap.get?_push_of_some _ (Heap.get?_push_size _ rfl)⟩
  simp only[qE,List.not_mem_nil,or_false]at hb;rcases hb with rfl|rfl|rfl
  ·exact .inr (by rw[zs];exact Nat.le_succ _)
  ·exact .inl rfl
  ·exact .inr (zG _)
 ·rw[if_neg hdr];refine wpAny_bind (wpAny_pure ?_);refine wpAny_bind (wpAny_setEpoch_of ho hd hf ?_);refine wpAny_bind (wpAny_newObj_type (wpAny_pure ⟨_,rfl,"set_iterator",_,⟨_,Heap.get?_push_size _ rfl,rfl⟩,slot_snext.lookup,?_⟩));have go:∀ (f:Nat→Nat) (es':List (Int×Value)),f 0=0→es'.Perm es.toList→NX prog w a o ep f (es'.map (·.2))→Q (.ref s.heap.objs.size) {s with heap:=s.heap.push {cls:=.type "set_iterator",dict:=none,data:=.fields [rawInt 0,rawInt 0,.ref a,rawInt es.size,rawInt ep].toArray}}:=fun f es' f0 hes nx=>by
   obtain⟨ms,m1,m2⟩:=mapP es' hes;have hl:(es'.map (·.2)).length=es.size:=by rw[qA,hes.length_eq,zC]
   refine h _ _ [_,a] _ _ ms ⟨fun b o e=>Heap.get?_push_of_some _ e,rfl,rfl⟩ (zG _) (fun b hb=>?_) m1 m2 (Walks.setT (t:=t) hh _ a (zF hlt) hl nx) ⟨⟨_,Heap.get?_push_size _ rfl,rfl,by rw[f0];rfl⟩,Heap.get?_push_of_some _ ho,hd,hf⟩;simp only[qE,List.not_mem_nil,or_false]at hb;rcases hb with rfl|rfl
   ·exact .inr (zG _)
   ·exact .inl rfl
  cases hbt:byT w with
  |true=>exact go _ _ rfl (NG _ es) (BK hbt hd hf)
  |false =>rw[hbt]at hdr;exact go (fun i=>match i with|0=>0|k+1=>t.place.getD k 0+1) _ rfl .rfl (Ed hbt ht (by simpa using hdr) hd hf)
end
end L2
namespace L2
open PySem PySem.Spec PyProof.Rows
theorem Near.trans{a b c:Shared}(h:Near a b)(k:Near b c):Near a c:=⟨fun x o e=>k.heap x o (h.heap x o e),k.gens.trans h.gens,k.os.trans h.os⟩
theorem OO{vs:List Value}{acc:Array Value}{n:Nat}(h:ItemsOf (fun i v=>vs[i]?=some v) acc n)(hn:vs.length=n):acc.toList=vs:=by
 refine List.ext_getElem? fun i=>?_;rw[Array.getElem?_toList];by_cases hi:i<acc.size
 ·rw[Array.getElem?_eq_getElem hi];exact(h.2 i _ (Array.getElem?_eq_getElem hi)).symm
 ·rw[Array.getElem?_eq_none (by omega),List.getElem?_eq_none (by have:=h.1;omega)]
section
variable {prog:Program}{w:World}{A:Around}{E:Value→Shared→Prop}{s:Shared}
theorem AL {a:Addr}{l:List Int}(hh:A.handled=none) (hS:SetI prog w s.heap a l) (S:Addr) (hSa:S≠a) (hs:s.heap.get? S=some {cls:=.type "list",data:=.seq #[] 0}){R:Result→Shared→Prop}
  (h:∀ s' vs ms c,s'.gens=s.gens→s'.os=s.os→(∀ b o,b≠S→s.heap.get? b=some o→s'.heap.get? b=some o)→ms.Perm l→IntsAre vs ms→s'.heap.get? S=some {cls:=.type "list",dict:=none,data:=.seq vs.toArray c,slots:=#[]}→R (.ok (.ret (.ref S))) s') :
  wpAny (model prog w) A.in1 (Builtin.List.listExtendWith (.ref S) (.ref a) (.ref S)) (fun fin s'=>match fin with|.done f=>R (.ok f) s'|.again c'=>c'.quiet=true∧codeAny (model prog w) A c' R s') (fun e s'=>R (.error e) s') s:=by
 have hl:=hS.setOf;obtain⟨o,es,ep,t,es0,ho,hex,hd,hel,hb,hf,ht,hp,hi⟩:=id hS;have hsz:l.length≤sizeLine:=fits_of_scanBound (by rw[←YG hi,qA,←hp.length_eq,zC];exact hb);have hT:s.TypeIs (.ref a) "set":=⟨o,ho,hex.1⟩
 have hSs:S<s.heap.objs.size:=Heap.lt_size hs;unfold Builtin.List.listExtendWith;refine wpAny_bind (wpAny_typeOf (T:="set") hT ?_);have h1:Builtin.List.listSameRef (.ref S) (.ref a)=false:=by simp[Builtin.List.listSameRef,hSa]
 have h2:(Value.type "set" == Value.type "list")=false:=by decide
 have h3:(Value.type "set" == Value.type "tuple")=false:=by decide
 simp only[h1,h2,h3,Bool.or_false,Bool.false_eq_true,if_false];refine wpAny_bind (U7 (A:=A.in1) hh hS fun s1 I fp St vs ms ne hI hfp pm ia W st=>?_);have hsf:S∉fp:=fun z=>by
  rcases hfp S z with q|q
  ·exact hSa q
  ·exact zK _ (qR hSs q)
 have hvl:vs.length=l.length:=(YG ia).trans pm.length_eq;have key:∀ (h':Heap) (c tk:Nat),St 0 h'→(∀ b o,b≠S→s1.heap.get? b=some o→h'.get? b=some o)→h'.get? S=some {cls:=.type "list",data:=.seq #[] c}→codeAny (model prog w) A (.builtin "list.extend.loop" ⟨[.ref S,.ref I,.ref S],[]⟩) R {s1 with heap:=h',toks:=tk}:=by
  intro h' c tk st' hk hS1;refine codeAny_extend_loopS W.toS hsz S hsf (.ref S) l.length 0 _ #[] c rfl (Nat.zero_le _) st' hS1 (ItemsOf.nil _) fun s2 acc c2 hm hS2 hacc=>?_;have ev:acc.toList=vs:=OO hacc hvl;refine h s2 vs ms c2 (hm.gens.trans ne.gens) (hm.os.trans ne.os) (fun b o hb e=>?_) pm ia (by rw[←ev];simpa using hS2);refine hm.heap b o (fun z=>?_) (hk b o hb (ne.heap b o e));rcases qE.mp z with q|z
  ·exact hb q
  ·have z:b=I:=by simpa using z
   subst z;exact zK _ (qR (Heap.lt_size e) hI)
 have hS1:=ne.heap S _ hs;refine wpAny_bind (wpAny_holding (Uz ⟨o,ne.heap a o ho,hex.1⟩ ?_));refine wpAny_ite_split (fun _=>?_) fun _=>wpAny_pure ⟨plainId_quiet PySem.F.plain_extend_loop _,key _ 0 _ st (fun b o _ e=>e) hS1⟩;refine wpAny_bind (wpAny_rule ?_);refine wpAny_bind ?_;show wpAny _ _ (updateSeq S (·.push .none) >>= fun _=>updateSeq S (·.pop)) _ _ _;refine wpAny_bind (wpAny_updateSeq hS1 rfl ?_);have hS2:=Heap.get?_update_self (Obj.mapSeq (·.push Value.none)) hS1 rfl;refine wpAny_updateSeq (hz:=by seq_fits) hS2 rfl ?_;have hS3:=Heap.get?_update_self (Obj.mapSeq (·.pop)) hS2 rfl;refine wpAny_pure ⟨plainId_quiet PySem.F.plain_extend_loop _,key _ _ _ ?_ (fun b o hb e=>?_) hS3⟩
 ·refine W.frame 0 _ _ st fun b hb o e=>?_;have hbS:b≠S:=fun z=>hsf (z▸hb);exact(Heap.get?_update_other _ _ hbS.symm).trans ((Heap.get?_update_other _ _ hbS.symm).trans e)
 ·exact(Heap.get?_update_other _ _ hb.symm).trans ((Heap.get?_update_other _ _ hb.symm).trans e)
theorem JX{a:Addr}{l:List Int}{Q:List Value→Shared→Prop}(hh:A.handled=none)(hS:SetI prog w s.heap a l)(h:∀ s' vs ms,Near s s'→ms.Perm l→IntsAre vs ms→Q vs s'):wpAny (model prog w) A (collect (.ref a)) Q E s:=by
 have hlt:a<s.heap.objs.size:=by obtain⟨_,_,_,_,_,e,_⟩:=hS;exact Heap.lt_size e
 unfold collect;refine wpAny_bind (wpAny_runValue (codeAny_builtin F.entry_proto_collect ?_));rw[Around.under_plainId F.plain_proto_collect _];show wpAny _ A.in1 (newList [] >>= fun l=>again (.builtin "list.__iadd__" ⟨[l,.ref a],[]⟩)) _ _ s;refine wpAny_bind (wpAny_newObj_type ?_);refine wpAny_pure ⟨plainId_quiet F.plain_list_iadd _,codeAny_builtin F.entry_list_iadd ?_⟩;rw[Around.under_plainId F.plain_list_iadd _];show wpAny _ A.in1 (Builtin.List.listExtendWith (.ref s.heap.objs.size) (.ref a) (.ref s.heap.objs.size)) _ _ _;have fin:∀ (q:Result) (s':Shared),(∃ vs ms c,q=.ok (.ret (.ref s.heap.objs.size))∧Near s s'∧ms.Perm l∧IntsAre vs ms∧s'.heap.get? s.heap.objs.size=some {cls:=.type "list",dict:=none,data:=.seq vs.toArray c,slots:=#[]})→
   wants (fun(a:Value) s'=>wpAny (model prog w) A (match a with
     |.ref a=>do
       match (←load a).data with
       |.seq xs _=>pure xs.toList
       |_=>unsupported "internal:collect"
     | _=>unsupported "internal:collect") Q E s') E q s':=fun q s' ⟨vs,ms,c,e,ne,pm,ia,hg⟩=>by
  subst e;show wpAny _ A (load s.heap.objs.size >>= _) _ _ _;refine wpAny_bind (wpAny_load hg (wpAny_pure ?_));exact h s' _ ms ne pm (by simpa using ia)
 refine wpAny_mono (AL (A:=A) (s:={ s with heap:=s.heap.push { cls:=.type "list",data:=.seq ([]:List Value).toArray } }) (R:=fun q s'=>∃ vs ms c,q=.ok (.ret (.ref s.heap.objs.size))∧Near s s'∧ms.Perm l∧IntsAre vs ms∧s'.heap.get? s.heap.objs.size=some { cls:=.type "list",dict:=none,data:=.seq vs.toArray c,slots:=#[] })
   hh (hS.at fun o e=>Heap.get?_push_of_some _ e) s.heap.objs.size (Nat.ne_of_gt hlt) (Heap.get?_push_size _ rfl) fun s' vs ms c g1 g2 g3 pm ia hg=>⟨vs,ms,c,rfl,⟨fun b o e=>g3 b o (zF (Heap.lt_size e)) (Heap.get?_push_of_some _ e),g1,g2⟩,pm,ia,hg⟩) (fun f s' z=>?_) fun e s' z=>?_
 ·cases f with
  |done f=>exact fin _ _ z
  |again c=>exact⟨z.1,codeAny_mono z.2 fun q s2 y=>fin q s2 y⟩
 ·exact fin _ _ z
end
variable {X:Cx}
theorem Inv.near{pins:List (Addr×Obj)}{σ:St}{H:Hp}{s s':Shared}(I:Inv X pins σ H s)(ne:Near s s'):Inv X pins σ H s':=by have J:Inv X pins σ H {s with heap:=s'.heap,toks:=s'.toks}:=I.kept ne.heap;exact⟨J.ok,ne.os.trans J.os,by rw[ne.gens];exact J.bare,J.base,J.loc,J.cell,J.free,J.freeC,J.pin,J.hok,J.len⟩
def tSS (K:PySem.W.Frag) (te:TE):TE:=fun σ H Q=>CG te DE σ H fun vs H1=>∃ p,∃ ns:List Int,vs=[.ref p]∧SqL K H1 p (ns.map V.int)∧ns.length<64∧∀ l,H1 l=none→Q (.ref l) (upd H1 l (.lst ((sortI (firstMet (fun i=>ns.getD i 0) ns.length)).map V.int)))
theorem Jo {e:Expr}{te:TE}{p p2 pos pos2:Pos}(hc:X.calm=true) (hg:Gl X "sorted") (hm:X.mg "sorted" = none) (hg2:Gl X "set") (hm2:X.mg "set" = none) (he:PE X e te) (hs:starEach [e] X.env=[(false,eval e X.env)]) :
  PE X (.Call (.Name "sorted" p) [.Call (.Name "set" p2) [e] [] pos2] [] pos) (tSS X.K te):=by
 intro pins s σ H Q I h;refine wpAny_Call_Name_kw (Yr (u:=.builtin "sorted") I hg hm (by kernel_rfl) ?_);refine PyProof.Rows.callWith_builtin1 ?_ rfl rfl;show wpAny _ _ (spliced ((false,eval (.Call (.Name "set" p2) [e] [] pos2) X.env)::[])) _ _ _;refine Calls.spliced_cons ?_;refine wpAny_Call_Name_kw (Yr (u:=.type "set") I hg2 hm2 (by kernel_rfl) ?_ (by decide) (by decide));refine callWith_type1 (thn ((ZV he pa_nil hs) pos2 pins s σ H _ I h) fun us s1 ⟨vs,H1,I1,r1,q1⟩=>?_) hs rfl;obtain⟨a,ns,e1,hq,h64,q⟩:=q1;subst e1;obtain⟨u,rfl,ru⟩:=ZN r1;cases ru;obtain⟨its,rv,pl,hz⟩:=I1.list hq;have hlen:=rv.length;rw[qA]at hlen;refine O0 (I1.ok.hd hc) pl.isList (by simpa using Zz rv) (by rw[qC];show its.length+1<4096;omega) fun h' tk x hk=>Calls.spliced_nil ?_
 replace x:SetI X.prog X.w h' s1.heap.objs.size (firstMet (fun i=>ns.getD i 0) ns.length):=by rw[hlen];rw[show its.toArray.size=its.length from qC]at x;exact x
 have I2:Inv X pins σ H1 {s1 with heap:=h',toks:=tk}:=I1.kept hk;refine Calls.call_function_entry kind_sorted plain_sorted entry_sorted (args_sorted1 _) ?_;unfold Builtin.«sorted»;refine wpAny_bind (m:=checkCount "sorted" 1 1 _) (wpAny_pure ?_);refine wpAny_bind (JX (A:=X.A.in1) (I1.ok.hd hc) x fun s3 vs ms ne pm ia=>?_);have I3:=I2.near ne;have hvl:vs.length<64:=by rw[YG ia,pm.length_eq];exact qS (firstMet_length_le _ _) (by omega)
 refine wpAny_bind (wpAny_newList ?_ (by unfold sizeLine;omega));have hoL:(s3.heap.push (seqObj "list" vs.toArray 0)).get? s3.heap.objs.size=some (seqObj "list" vs.toArray 0):=Heap.get?_push_size _ rfl;refine wpAny_bind (wpAny_holding (wpAny_call_entry slot_list_sort ⟨_,hoL,rfl⟩ entry_list_sort (list_sort_tree hoL ia hvl fun out ns' a1 a2 a3=>⟨_,rfl,?_⟩) (args_list_sort _)));have e:=Yj (a2.trans pm) a3;subst e;obtain⟨n,hat⟩:=sortedHeap_at (out:=out) hoL;refine wpAny_pure ⟨_,rfl,.ref s3.heap.objs.size,_,I3.laid (a:=s3.heap.objs.size) (o:=.lst ((sortI (firstMet (fun i=>ns.getD i 0) ns.length)).map V.int)) (t':=s3.toks) (fun b o e=>?_) (zG _) ?_,rfl,q _ (I3.hok.fresh (zG _))⟩
 ·have hb:=Heap.lt_size e;rw[sortedHeap_old (zF hb) (by rw[size_push'];exact Nat.lt_succ_of_lt hb)];exact Heap.get?_push_of_some _ e
 ·exact⟨by rw[qA,Yd];have:=firstMet_length_le (fun i=>ns.getD i 0) ns.length;unfold sizeLine;omega,out.toList,n,Yk a1,by simpa[seqObj]using hat⟩
end L2
namespace Snd
open PySem L2
variable {i:Inf}{X:Cx}{Φ:Own.Fs}
theorem JI {e:Expr}{m:Own.E}{p p2 pos pos2:Pos}(hc:X.calm=true) (hK:X.K=i.K) (he:PE X e (tE X i Φ m)) (hg:Gl X "sorted") (hm:X.mg "sorted" = none) (hg2:Gl X "set") (hm2:X.mg "set" = none) (hst:starEach [e] X.env=[(false,eval e X.env)]) :
  PE X (.Call (.Name "sorted" p) [.Call (.Name "set" p2) [e] [] pos2] [] pos) (tE X i Φ (.bi .sortedSet (.cons m .nil))):=by
 refine(Jo hc hg hm hg2 hm2 he hst).imp fun σ H Q ⟨env,G,Qm,Em,p,w,c⟩=>?_;rw[Own.q_e_bi,Own.q_a_cons]at w;change tE X i Φ m σ H _;refine one p w fun v G1 H1 x k1 p1 r q=>?_;rw[Own.q_a_nil]at q
 replace q:(Own.biSortedSet G1 v).wp G1 Qm:=q
 unfold Own.biSortedSet at q;cases z:Own.sortOf G1 v with
 |none=>rw[z]at q;exact(Zf q).elim
 |some ns =>
  rw[z]at q;dsimp only at q;split at q
  ·rename_i h4;obtain⟨a,rfl,hs⟩:=JE p1.hp r z;refine⟨a,ns,rfl,by rw[hK];exact hs,h4,?_⟩;rw[Wg (J9 ns)];exact ZR p1.hp (Xd q) (c.go k1) fun p hp=>⟨_,upd_same,RVs.ints _⟩
  ·exact(Zf q).elim
section
variable {K:PySem.W.Frag}{H H':Hp}
theorem RKs.len:∀ {kvs:List (Own.Val×Own.Val)}{ps:List (Key×V)},RKs K H kvs ps→kvs.length=ps.length
 |_,_,.nil=>rfl
 |_,_,.cons _ _ t=>by rw[qB,qB,RKs.len t]
theorem RKs.at:∀ {kvs:List (Own.Val×Own.Val)}{ps:List (Key×V)}{n:Nat}{c:Key}{x:V},RKs K H kvs ps→ps[n]?=some (c,x)→∃ k v,kvs[n]?=some (k,v)∧XB k c∧RV K H v x
 |_,_,n,_,_,.nil,e=>by simp at e
 |_,_,0,_,_,.cons hk r _,e=>by simp at e;obtain⟨rfl,rfl⟩:=e;exact⟨_,_,rfl,hk,r⟩
 |_,_,n+1,_,_,.cons _ _ t,e=>by obtain⟨k,v,h1,h2⟩:=RKs.at (n:=n) t (by simpa using e);exact⟨k,v,by simpa using h1,h2⟩
end
theorem BI:BiOk i .min2 (fun xs H Q=>(∃ i j,xs=[.int i,.int j]∧Q (.int (if j<i then j else i)) H)∨∃ p q,∃ ns ms:List Int,xs=[.ref p,.ref q]∧SqT i.K H p (ns.map V.int)∧SqT i.K H q (ms.map V.int)∧Q (if HT.lexLt ms ns=true then .ref q else .ref p) H):=by
 intro vs G H xs Q Qm g r w c;obtain⟨v,u,rfl,w2⟩:=OV w;clear w;have w:(Own.min2V v u).wp G Qm:=w2;clear w2;obtain⟨x,y,rfl,rx,ry⟩:=r.inv2;cases v with
 |int a =>
  cases u with
  |int b =>cases rx.int_inv;cases ry.int_inv;exact .inl ⟨a,b,rfl,c _ G H _ (Keep.refl H) g (.int _) (Zo w)⟩
  |_=>exact(Zf w).elim
 |tup vs =>
  cases u with
  |tup us =>
   have w:(match Own.intsOf vs,Own.intsOf us with|some ns,some ms=>.val (if Own.lexI ms ns=true then .tup us else .tup vs)|_,_=>.no:Own.Rs).wp G Qm:=w;cases z1:Own.intsOf vs with
   |none=>rw[z1]at w;exact(Zf w).elim
   |some ns =>
    cases z2:Own.intsOf us with
    |none=>rw[z1,z2]at w;exact(Zf w).elim
    |some ms =>
     rw[z1,z2]at w;have w:=Zo w;cases rx with
     |tup hp hr =>
      cases ry with
      |tup hq hs =>
       have rp:=RV.tup hp hr;have rq:=RV.tup hq hs;cases ZI z1 hr;cases ZI z2 hs;refine .inr ⟨_,_,ns,ms,rfl,Zl hp,Zl hq,?_⟩;rw[←WW];by_cases hl:Own.lexI ms ns=true
       ·rw[if_pos hl]at w ⊢;exact c _ G H _ (Keep.refl H) g rq w
       ·rw[if_neg hl]at w ⊢;exact c _ G H _ (Keep.refl H) g rp w
  |_=>exact(Zf w).elim
 |_=>cases u<;>exact(Zf w).elim
structure Md where
 N:List Str
 sc:Scope
 cs:List (String×Own.Val)
 fs:List String
 cm:Bool
 cl:List String
 ms:List (String×String)
 fl:List String
 xs:List String
noncomputable def Md.nmOf (c:Md) (j:Nat):Str:=c.N.getD j Str.empty
noncomputable def Md.vis (c:Md) (x:Str):Bool:=match c.sc.names.lookup x with
 |some .local=>true
 |some .cell=>true
 |some .free=>true
 |_=>false
noncomputable def Md.loc (c:Md) (x:Str):Bool:=c.sc.names.lookup x==some .local||c.sc.names.lookup x==some .cell
noncomputable def Md.gl (c:Md) (x:Str):Bool:=c.sc.names.lookup x==some .globalImplicit
noncomputable def nm (x:Str):Bool:=!(x==("__debug__" : Str)) && !(x==("__classdict__" : Str)) && !(x==("__name__" : Str))
noncomputable def dE:Expr:=.Name Str.empty ⟨0,0,0,0⟩
noncomputable def mix:List (Option Expr)→List Expr→List Expr
 |k::ks,v::vs=>k.getD dE::v::mix ks vs
 |_,_=>[]
noncomputable def sub:Expr→List Expr
 |.BoolOp _ xs _=>xs
 |.BinOp a _ b _=>[a,b]
 |.UnaryOp _ a _=>[a]
 |.IfExp a b c _=>[a,b,c]
 |.Compare a _ bs _=>a::bs
 |.Call f as ks _=>f::(as++ks.map (·.value))
 |.FormattedValue a _ _ _=>[a]
 |.JoinedStr vs _=>vs
 |.Attribute a _ _=>[a]
 |.Subscript a b _=>[a,b]
 |.List es _=>es
 |.Tuple es _ _=>es
 |.Slice a b c _=>[a.getD dE,b.getD dE,c.getD dE]
 |.ListComp e gs _ _=>e::gs.flatMap fun g=>g.target::g.iter::g.ifs
 |.Dict ks vs _=>mix ks vs
 |_=>[]
noncomputable def kid (x:Expr) (j:Nat):Expr:=(sub x).getD j dE
noncomputable def num:Expr→Nat
 |.Constant _ k _=>k
 |.Tuple _ k _=>k
 |_=>0
noncomputable def scp:Expr→Scope
 |.ListComp _ _ s _=>s
 |_=>default
noncomputable def kwp:Expr→Pos
 |.Call _ _ (k::_) _=>k.pos
 |_=>⟨0,0,0,0⟩
noncomputable def Oy:Own.Bop→Operator
 |.add=>.Add
 |.sub=>.Sub
 |.mul=>.Mult
 |.fdiv=>.FloorDiv
 |.mod=>.Mod
 |.pow=>.Pow
noncomputable def Xo:Own.Cop→CmpOp
 |.eq=>.Eq
 |.ne=>.NotEq
 |.lt=>.Lt
 |.le=>.LtE
 |.gt=>.Gt
 |.ge=>.GtE
 |.isin=>.In
 |.notin=>.NotIn
 |.is=>.Is
 |.isnot=>.IsNot
 |.nes=>.NotEq
 |.neX=>.NotEq
 |.eqE=>.Eq
 |.neE=>.NotEq
 |.ntT=>.IsNot
noncomputable def FI:Own.Val→Const
 |.non=>.none
 |.bl b=>.bool b
 |.int i=>.int i
 |.str s=>.str (Str.ofString s)
 |_=>.ellipsis
noncomputable def Cb:Own.Val→Bool
 |.non=>true
 |.bl _=>true
 |.int _=>true
 |.str _=>true
 |_=>false
noncomputable def ZL:Own.E→Bool
 |.and _ _=>true
 |_=>false
noncomputable def Yb:Own.E→Bool
 |.or _ _=>true
 |_=>false
noncomputable def Zq:Own.Tt→Bool
 |.and _ _=>true
 |_=>false
noncomputable def ZA:Own.Tt→Bool
 |.or _ _=>true
 |_=>false
noncomputable def rest (b:Bool) (x:Expr):Expr:=match b,x with
 |true,.BoolOp op (_::xs) p=>.BoolOp op xs p
 |_,x=>kid x 1
noncomputable def YJ (b:Bool) (x:Expr):List Expr:=match b with
 |true=>sub x
 |false=>[x]
noncomputable def Z5:Own.Bi→Str
 |.len=>"len"
 |.int=>"int"
 |.str=>"str"
 |.bool=>"bool"
 |.abs=>"abs"
 |.min2=>"min"
 |.max2=>"max"
 |.minL=>"min"
 |.maxL=>"max"
 |.minD=>"min"
 |.sum=>"sum"
 |.all=>"all"
 |.any=>"any"
 |.sorted=>"sorted"
 |.sortedI=>"sorted"
 |.sortedSet=>"sorted"
 |.lenSet=>"len"
 |.list=>"list"
 |.tuple=>"tuple"
 |.dict=>"dict"
 |.isi _=>"isinstance"
 |.isx _=>"isinstance"
 |.repr=>"repr"
 |.listRev=>"list"
 |.listRange=>"list"
 |.tupRange=>"tuple"
 |.dictEnum=>"dict"
noncomputable def FT:Own.Bi→Option Str
 |.sortedSet=>some "set"
 |.lenSet=>some "set"
 |.listRev=>some "reversed"
 |.listRange=>some "range"
 |.tupRange=>some "range"
 |.dictEnum=>some "enumerate"
 |_=>none
noncomputable def FL (Ts:List String) (x:Expr):Expr:=match Ts with
 |[T]=>.Name (Str.ofString T) x.pos
 |Ts=>.Tuple (Ts.zipIdx.map fun p=>.Name (Str.ofString p.1) (kid x p.2).pos) (num x) x.pos
noncomputable def D8 (f:Own.Bi) (as:List Expr) (x:Expr):List Expr:=match FT f with
 |some y=>[.Call (.Name y (kid (kid x 1) 0).pos) as [] (kid x 1).pos]
 |none=>match f with
  |.isi Ts=>as++[FL Ts (kid x 2)]
  |.isx Ts=>as++[FL Ts (kid x 2)]
  |_=>as
noncomputable def MT (f:Own.Bi) (x:Expr):List Expr:=match FT f with
 |some _=>(sub (kid x 1)).tail
 |none=>(sub x).tail
noncomputable def Ic (f:Own.Bi) (x:Expr):List Keyword:=match f with
 |.minD=>[⟨some "default",.Constant .none (num (kid x 2)) (kid x 2).pos,kwp x⟩]
 |_=>[]
noncomputable def E7:Own.Bm→Str
 |.append=>"append"
 |.extend=>"extend"
 |.pop=>"pop"
 |.popAt=>"pop"
 |.insert=>"insert"
 |.remove=>"remove"
 |.clear=>"clear"
 |.reverse=>"reverse"
 |.index=>"index"
 |.count=>"count"
 |.dget=>"get"
 |.dgetD=>"get"
 |.dpop=>"pop"
 |.dpopD=>"pop"
 |.setdefault=>"setdefault"
 |.join=>"join"
 |.split=>"split"
 |.replace=>"replace"
 |.upper=>"upper"
 |.partition=>"partition"
 |.sidx=>"index"
noncomputable def YX:List Expr→List (Option Expr)
 |k::_::r=>some k::YX r
 |_=>[]
noncomputable def Ai:List Expr→List Expr
 |_::v::r=>v::Ai r
 |_=>[]
noncomputable def toP (p:Own.Pt) (c:Md) (x:Expr):Expr:=match p with
 |.one j=>.Name (c.nmOf j) x.pos
 |.many js=>.Tuple (js.zipIdx.map fun p=>.Name (c.nmOf p.1) (kid x p.2).pos) (num x) x.pos
 |.nest j js=>.Tuple [.Name (c.nmOf j) (kid x 0).pos,.Tuple (js.zipIdx.map fun p=>.Name (c.nmOf p.1) (kid (kid x 1) p.2).pos) (num (kid x 1)) (kid x 1).pos] (num x) x.pos
noncomputable def nmX:Expr→Str
 |.Name x _=>x
 |_=>Str.empty
noncomputable def Yh:Expr→List Str
 |.Tuple es _ _=>es.map nmX
 |x=>[nmX x]
noncomputable def Md.blk (c:Md) (sc:Scope) (x:List Str) (caps:List Nat):Md :=
 {N:=x++caps.map (fun j=>c.N.getD j Str.empty),sc:={sc with names:=sc.names.map fun(n,k)=>if(k == .free&&c.sc.kind == .function&&c.sc.names.lookup n==some .cell)then(n,.cell)else(n,k)},cs:=c.cs,fs:=c.fs,cm:=c.cm,cl:=c.cl,ms:=c.ms,fl:=c.fl,xs:=c.xs}
noncomputable def NA:Own.E→Bool
 |.cst (.str _)=>true
 |_=>false
mutual
noncomputable def toX:Own.E→Md→Expr→Expr
 |.cst v,_,x=>.Constant (FI v) (num x) x.pos
 |.var j,c,x=>.Name (c.nmOf j) x.pos
 |.glob y _,_,x=>.Name (Str.ofString y) x.pos
 |.bin o a b,c,x=>.BinOp (toX a c (kid x 0)) (Oy o) (toX b c (kid x 1)) x.pos
 |.neg a,c,x=>.UnaryOp .USub (toX a c (kid x 0)) x.pos
 |.not a,c,x=>.UnaryOp .Not (toX a c (kid x 0)) x.pos
 |.and a b,c,x=>.BoolOp .And (toX a c (kid x 0)::YJ (ZL b) (toX b c (rest (ZL b) x))) x.pos
 |.or a b,c,x=>.BoolOp .Or (toX a c (kid x 0)::YJ (Yb b) (toX b c (rest (Yb b) x))) x.pos
 |.cmp o a b,c,x=>.Compare (toX a c (kid x 0)) [Xo o] [toX b c (kid x 1)] x.pos
 |.chain o1 o2 a b d,c,x=>.Compare (toX a c (kid x 0)) [Xo o1,Xo o2] [toX b c (kid x 1),toX d c (kid x 2)] x.pos
 |.call f as,c,x=>.Call (.Name (Str.ofString f) (kid x 0).pos) (toA as c (sub x).tail) [] x.pos
 |.make C as,c,x=>.Call (.Name (Str.ofString C) (kid x 0).pos) (toA as c (sub x).tail) [] x.pos
 |.meth _ m o as,c,x=>.Call (.Attribute (toX o c (kid (kid x 0) 0)) (Str.ofString m) (kid x 0).pos) (toA as c (sub x).tail) [] x.pos
 |.fld o f,c,x=>.Attribute (toX o c (kid x 0)) (Str.ofString f) x.pos
 |.bi f as,c,x=>.Call (.Name (Z5 f) (kid x 0).pos) (D8 f (toA as c (MT f x)) x) (Ic f x) x.pos
 |.bm m o as,c,x=>.Call (.Attribute (toX o c (kid (kid x 0) 0)) (E7 m) (kid x 0).pos) (toA as c (sub x).tail) [] x.pos
 |.idx a b,c,x=>.Subscript (toX a c (kid x 0)) (toX b c (kid x 1)) x.pos
 |.slc a lo hi,c,x=>.Subscript (toX a c (kid x 0)) (.Slice (toO lo c (kid (kid x 1) 0)) (toO hi c (kid (kid x 1) 1)) none (kid x 1).pos) x.pos
 |.rev a,c,x=>.Subscript (toX a c (kid x 0)) (.Slice none none (some (.UnaryOp .USub (.Constant (.int 1) (num (kid (kid (kid x 1) 2) 0)) (kid (kid (kid x 1) 2) 0).pos) (kid (kid x 1) 2).pos)) (kid x 1).pos) x.pos
 |.tup es,c,x=>.Tuple (toA es c (sub x)) (num x) x.pos
 |.key es,c,x=>.Tuple (toA es c (sub x)) (num x) x.pos
 |.dctP,c,x=>.Dict [] [] x.pos
 |.lst es,c,x=>.List (toA es c (sub x)) x.pos
 |.dct es,c,x=>.Dict (YX (toA es c (sub x))) (Ai (toA es c (sub x))) x.pos
 |.ife t a b,c,x=>.IfExp (toT t c (kid x 0)) (toX a c (kid x 1)) (toX b c (kid x 2)) x.pos
 |.comp caps _ p it t e,c,x=>.ListComp (toX e (c.blk (scp x) (Yh (kid x 1)) caps) (kid x 0)) [⟨toP p (c.blk (scp x) (Yh (kid x 1)) caps) (kid x 1),toI it c (kid x 2),toF t (c.blk (scp x) (Yh (kid x 1)) caps) (kid x 3),0⟩] (scp x) x.pos
 |.fstr es,c,x=>.JoinedStr (toJ es c (sub x)) x.pos
 |.split o a,c,x=>.Call (.Attribute (toX o c (kid (kid x 0) 0)) "split" (kid x 0).pos) [toX a c (kid x 1)] [] x.pos
 |.repl o y z,c,x=>.Call (.Attribute (toX o c (kid (kid x 0) 0)) "replace" (kid x 0).pos) [.Constant (.str (Str.ofString y)) (num (kid x 1)) (kid x 1).pos,.Constant (.str (Str.ofString z)) (num (kid x 2)) (kid x 2).pos] [] x.pos
noncomputable def toA:Own.Es→Md→List Expr→List Expr
 |.nil,_,_=>[]
 |.cons e es,c,xs=>toX e c (xs.headD dE)::toA es c xs.tail
noncomputable def toJ:Own.Es→Md→List Expr→List Expr
 |.nil,_,_=>[]
 |.cons e es,c,xs=>(if NA e then toX e c (xs.headD dE)else .FormattedValue (toX e c (kid (xs.headD dE) 0)) (-1) none (xs.headD dE).pos)::toJ es c xs.tail
noncomputable def toO:Own.Oe→Md→Expr→Option Expr
 |.none,_,_=>none
 |.some e,c,x=>some (toX e c x)
noncomputable def toT:Own.Tt→Md→Expr→Expr
 |.yes,_,x=>x
 |.val e,c,x=>toX e c x
 |.not t,c,x=>.UnaryOp .Not (toT t c (kid x 0)) x.pos
 |.and a b,c,x=>.BoolOp .And (toT a c (kid x 0)::YJ (Zq b) (toT b c (rest (Zq b) x))) x.pos
 |.or a b,c,x=>.BoolOp .Or (toT a c (kid x 0)::YJ (ZA b) (toT b c (rest (ZA b) x))) x.pos
noncomputable def toF:Own.Tt→Md→Expr→List Expr
 |.yes,_,_=>[]
 |.val e,c,x=>[toX e c x]
 |.not t,c,x=>[.UnaryOp .Not (toT t c (kid x 0)) x.pos]
 |.and a b,c,x=>[.BoolOp .And (toT a c (kid x 0)::YJ (Zq b) (toT b c (rest (Zq b) x))) x.pos]
 |.or a b,c,x=>[.BoolOp .Or (toT a c (kid x 0)::YJ (ZA b) (toT b c (rest (ZA b) x))) x.pos]
noncomputable def toI:Own.It→Md→Expr→Expr
 |.seq e,c,x=>toX e c x
 |.chars e,c,x=>toX e c x
 |.range a,c,x=>.Call (.Name "range" (kid x 0).pos) [toX a c (kid x 1)] [] x.pos
 |.range2 a b,c,x=>.Call (.Name "range" (kid x 0).pos) [toX a c (kid x 1),toX b c (kid x 2)] [] x.pos
 |.enum e,c,x=>.Call (.Name "enumerate" (kid x 0).pos) [toX e c (kid x 1)] [] x.pos
 |.zip a b,c,x=>.Call (.Name "zip" (kid x 0).pos) [toX a c (kid x 1),toX b c (kid x 2)] [] x.pos
 |.items e,c,x=>toX e c x
 |.rev e,c,x=>.Call (.Name "reversed" (kid x 0).pos) [toX e c (kid x 1)] [] x.pos
end
noncomputable def blts:List Str:=["isinstance","int","bool","str","list","tuple","dict","max","min","range","len","sorted","set","all","any","sum","enumerate","zip","reversed","abs","repr","ValueError"]
structure Kls (X:Cx) (i:Inf) (P:Own.Pg) (n:Nat) (c:Md):Prop where
 A:ClsA i
 F:∀ f,c.fl.contains f=true→FldOk i f
 mkc:∀ C,c.cl.contains C=true→∃ a f,i.ins C=true∧i.cl C a∧Mk i.K a f∧X.mg (Str.ofString C)=some (.ref a)∧Dfm X.prog X.w X.mg X.base i P n (C ++ ".__init__") f
 mth:∀ C m,c.ms.contains (C,m)=true→∃ a f,(∀ b,i.cl C b→b=a)∧Cls i.K a∧Meth i.K a (Str.ofString m) f∧Dfm X.prog X.w X.mg X.base i P n (C ++ "." ++ m) f
structure Xls (X:Cx) (i:Inf) (c:Md):Prop where
 xc:∀ C a,i.xc C a→XCls i.K a∧PySem.W.kitOne i.K (.ref a) (.type "ValueError")=some true
 rs:∀ C,c.xs.contains C=true→∃ a,i.xc C a∧PyProof.Rows.OwnCls (Str.ofString C) a [.type "ValueError",.type "Exception",.type "BaseException",.type "object"] "ValueError.__new__" X.mg X.base
 kn:∀ T,(c.xs.contains T||T == "ShutError")=true→∃ D,X.mg (Str.ofString T)=some (.ref D)∧∀ C a,i.xc C a→PySem.W.kitOne i.K (.ref a) (.ref D)=some (Own.excSub C T)∧(Own.excSub C T=true→PySem.W.exmOne i.K (.ref a) (.ref D)=some true)
structure Gd (X:Cx) (i:Inf) (P:Own.Pg) (n:Nat) (c:Md):Prop where
 K:X.K=i.K
 N:X.N=c.N
 sc:X.env.scope=c.sc
 nd:c.N.Nodup
 un:X.A.units+200<cLine
 calm:c.cm=true→X.calm=true
 room:c.cm=true→Room (2*n+1) X.A
 bl:∀ x∈blts,X.mg x=none
 dfs:∀ f,c.fs.contains f=true→Dfo X.prog X.w X.mg X.base i P n f
 cst:∀ x v,c.cs.lookup x=some v→∃ u y,X.mg (Str.ofString x)=some u∧RelV y u∧∀ H,RV i.K H v y
 kl:Kls X i P n c
 xl:c.xs≠[]→Xls X i c
variable {X:Cx}{i:Inf}{P:Own.Pg}{n:Nat}{c:Md}
theorem Gd.gl(g:Gd X i P n c){x:Str}(h:c.gl x=true):Gl X x:=by show X.env.scope.names.lookup x=_;rw[g.sc];exact eq_of_beq h
theorem Gd.vis(g:Gd X i P n c){x:Str}(h:c.vis x=true):Vis X.env.scope x:=by
 unfold Vis;rw[g.sc];unfold Md.vis at h;split at h
 ·exact .inl (by assumption)
 ·exact .inr (.inl (by assumption))
 ·exact .inr (.inr (by assumption))
 ·cases h
theorem Gd.loc(g:Gd X i P n c){x:Str}(h:c.loc x=true):L2.Loc X.env.scope x:=by
 unfold L2.Loc;rw[g.sc];rcases (Bool.or_eq_true ..).mp h with h|h
 ·exact .inl (eq_of_beq h)
 ·exact .inr (eq_of_beq h)
theorem Gd.rm(g:Gd X i P n c)(h:c.cm=true):Room (2*n) X.A:=(g.room h).mono (Nat.le_succ _)
theorem UH {x:Str}(h:nm x=true):(x==("__debug__" : Str))=false∧(x==("__classdict__" : Str))=false∧x≠"__name__":=by simp only[nm,bAq,Bool.not_eq_true']at h;exact⟨h.1.1,h.1.2,by simpa using h.2⟩
theorem Zw(e:Own.E)(c:Md)(x:Expr)(es:List Expr)(env:Env):starEach (toX e c x::es) env=(false,eval (toX e c x) env)::starEach es env:=by cases e<;>rfl
theorem UW(e:Own.E)(c:Md)(x:Expr):W8 (toX e c x):=by intro o j;cases e<;>rfl
theorem NT{op:CmpOp}(e:Own.E)(c:Md)(x:Expr):behindInMarks op (toX e c x)=false:=by cases e<;>rfl
theorem EY(e:Own.E)(c:Md)(x:Expr)(env:Env):∀ y,foldedSetIterable (toX e c x) env y=pure y:=by intro y;cases e<;>rfl
noncomputable def KZ:Expr→Bool
 |.Call (.Name _ _) [] _ _=>false
 |_=>true
theorem Wy{e:Expr}(h:KZ e=true)(f:Str)(env:Env):attributeBase e f env (eval e env)=eval e env:=by
 cases e with
 |Call g as ks p =>
  cases as with
  |cons _ _=>cases g<;>rfl
  |nil=>cases g with
   |Name x q=>cases h
   |_=>rfl
 |_=>rfl
noncomputable def Zi:Own.Es→Nat
 |.nil=>0
 |.cons _ es=>Zi es+1
theorem Xr:∀ (es:Own.Es) (c:Md) (xs:List Expr),(toA es c xs).length=Zi es
 |.nil,_,_=>rfl
 |.cons _ es,c,xs=>by show(toA es c xs.tail).length+1=_;rw[Xr es];rfl
theorem YV(env:Env)(pos:Pos):∀ (es:Own.Es) (c:Md) (xs:List Expr),(backTo pos (starEach (toA es c xs) env)).any (·.1)=false
 |.nil,_,_=>rfl
 |.cons e es,c,xs=>by show(backTo pos (starEach (toX e c (xs.headD dE)::toA es c xs.tail) env)).any (·.1)=false;rw[Zw];show(false||(backTo pos (starEach (toA es c xs.tail) env)).any (·.1))=false;rw[YV env pos es];rfl
theorem JP(env:Env)(pos:Pos):∀ (es:Own.Es) (c:Md) (xs:List Expr),(backTo pos (starEach (toA es c xs) env)).all (fun x=>!x.1)=true
 |.nil,_,_=>rfl
 |.cons e es,c,xs=>by show(backTo pos (starEach (toX e c (xs.headD dE)::toA es c xs.tail) env)).all (fun x=>!x.1)=true;rw[Zw];show(true&&(backTo pos (starEach (toA es c xs.tail) env)).all (fun x=>!x.1))=true;rw[JP env pos es];rfl
noncomputable def ZC:Own.Pt→Bool
 |.one _=>true
 |_=>false
theorem KN(p:Own.Pt)(x:Expr):((!ZC p)=true→∃ es k q,toP p c x=.Tuple es k q)∧((!ZC p)=false→∃ y q,toP p c x=.Name y q):=by
 cases p with
 |one j=>exact⟨fun z=>(by cases z),fun _=>⟨_,_,rfl⟩⟩
 |many js=>exact⟨fun _=>⟨_,_,_,rfl⟩,fun z=>(by cases z)⟩
 |nest j js=>exact⟨fun _=>⟨_,_,_,rfl⟩,fun z=>(by cases z)⟩
def UQ (X:Cx) (c:Md) (j:Nat):Prop:=X.N[j]?=some (c.nmOf j)∧L2.Loc X.env.scope (c.nmOf j)∧(X.fn (c.nmOf j)=true∨X.env.scope.names.lookup (c.nmOf j)=some .local)
def CI (q:Nat→Prop):Own.Pt→Prop
 |.one j=>q j
 |.many js=>∀ j∈js,q j
 |.nest j js=>q j∧∀ k∈js,q k
theorem Jq{X:Cx}{c:Md}(nd:X.N.Nodup)(f:Nat→Pos):∀ (js:List Nat) (k:Nat),(∀ j∈js,UQ X c j)→
  PGs X ((js.zipIdx k).map fun p=>.Name (c.nmOf p.1) (f p.2)) (OX i js)∧(assignEach ((js.zipIdx k).map fun p=>.Name (c.nmOf p.1) (f p.2)) X.env).length=js.length∧(assignEach ((js.zipIdx k).map fun p=>.Name (c.nmOf p.1) (f p.2)) X.env).findIdx? (·.1)=none
 |[],_,_=>⟨BP,rfl,rfl⟩
 |j::js,k,h=>by
  obtain⟨h1,h2,h3⟩:=h j (by simp);obtain⟨a1,a2,a3⟩:=Jq nd f js (k+1) fun l hl=>h l (by simp[hl]);rw[List.zipIdx_cons,qG];refine⟨Ut nd h1 h2 h3 a1 rfl,?_,?_⟩
  ·show(assignEach ((js.zipIdx (k+1)).map _) X.env).length+1=js.length+1;rw[a2]
  ·show List.findIdx? (·.1) ((false,assign (.Name (c.nmOf j) (f k)) X.env)::assignEach _ X.env)=none;rw[List.findIdx?_cons];simp[a3]
theorem B9{X:Cx}{c:Md}(hK:X.K=i.K)(nd:X.N.Nodup)(hc:X.calm=true){p:Own.Pt}{x:Expr}(h:CI (UQ X c) p):PG X (toP p c x) (gPt i p):=by
 cases p with
 |one j=>exact K5 nd h.1 h.2.1 h.2.2
 |many js =>obtain⟨a1,a2,a3⟩:=Jq nd (fun k=>(kid x k).pos) js 0 h;exact MQ hK hc a1 a2 a3
 |nest j js =>obtain⟨h0,h⟩:=h;obtain⟨a1,a2,a3⟩:=Jq nd (fun k=>(kid (kid x 1) k).pos) js 0 h;exact B2 hK hc (K5 nd h0.1 h0.2.1 h0.2.2) (MQ hK hc a1 a2 a3)
theorem FK(g:Gd X i P n c){Φ:Own.Fs}{o:Own.Bop}{a b:Own.E}{l r:Expr}{pos:Pos}(ha:PE X l (tE X i Φ a))(hb:PE X r (tE X i Φ b)):PE X (.BinOp l (Oy o) r pos) (tE X i Φ (.bin o a b)):=by
 cases o with
 |add=>exact WM FX (by rw[g.K];exact b_add) ha hb
 |sub=>exact WM Fa b_sub ha hb
 |mul=>exact WM GK b_mul ha hb
 |fdiv=>exact WM AS b_fdiv ha hb
 |mod=>exact WM De b_mod ha hb
 |pow=>exact WM Fr b_pow ha hb
noncomputable def Y4:Own.Cop→Bool
 |.is=>true
 |.isnot=>true
 |.ntT=>true
 |.eqE=>true
 |.nes=>true
 |_=>false
theorem K1(g:Gd X i P n c){o:Own.Cop}(h:Y4 o=false):∃ r,OpR X (compareOp (Xo o)) r∧ZQ i o r:=by
 have u65:X.A.units+65<cLine:=by have:=g.un;omega
 have u64:X.A.units+64<cLine:=by have:=g.un;omega
 have u0:X.A.units<cLine:=by have:=g.un;omega
 cases o with
 |eq=>exact⟨_,Dg u64,by rw[g.K];exact HQ⟩
 |ne=>exact⟨_,Ua u64,by rw[g.K];exact FV⟩
 |lt=>exact⟨_,Ia u0,by rw[g.K];exact c_lt⟩
 |le=>exact⟨_,GA,c_le⟩
 |gt=>exact⟨_,Lc u0,by rw[g.K];exact c_gt⟩
 |ge=>exact⟨_,HE,c_ge⟩
 |isin=>exact⟨_,Lp u65,by rw[g.K];exact Lj⟩
 |notin=>exact⟨_,Lb u65,by rw[g.K];exact Ie⟩
 |neX=>exact⟨_,Dn u64,by rw[g.K];exact c_neX⟩
 |neE=>exact⟨_,O2 u64,by rw[g.K];exact c_neE⟩
 |_=>cases h
theorem DK{Φ:Own.Fs}{v:Own.Val}{j:Nat}{pos:Pos}(h:Cb v=true):PE X (.Constant (FI v) j pos) (tE X i Φ (.cst v)):=by
 cases v with
 |non=>exact Xw C4 fun _=>.non
 |bl b=>exact Xw GE fun _=>.bl _
 |int k=>exact Xw Ug fun _=>.int _
 |str s=>exact Xw pe_str fun _=>.str _
 |_=>cases h
noncomputable def Kf:Own.E→Bool
 |.cst .non=>true
 |_=>false
theorem BY{e:Own.E}(h:Kf e=true):e=.cst .non:=by
 cases e with
 |cst v=>cases v with
  |non=>rfl
  |_=>cases h
 |_=>cases h
theorem XX{Φ:Own.Fs}{o:Own.Cop}{op:CmpOp}{a:Own.E}{l y:Expr}{pos:Pos}(hn:∀ G v d,Own.cmpV G o v .non≠some d)(ha:PE X l (tE X i Φ a))(hb:PE X y (tE X i Φ (.cst .non)))(hm:behindInMarks op y=false) :
  PE X (.Compare l [op] [y] pos) (tE X i Φ (.cmp o a (.cst .non)))∧PT X (.Compare l [op] [y] pos) (tTt X i Φ (.val (.cmp o a (.cst .non)))):=by
 have ho:OpR X (compareOp op) fun _ _ _ _=>False:=fun _ _ _ _ _ _ _ _ _ _ _ _ h=>h.elim;refine⟨(Ms ho ha hb hm).imp fun σ H Q ⟨env,G,Qm,Em,p,w,c⟩=>?_,(MZ ho ha hb hm).imp fun σ H Q ⟨env,G,Qm,Em,p,w,c⟩=>?_⟩
 ·rw[Own.q_e_cmp]at w;refine one p w fun v G1 H1 x k1 p1 r q=>?_;rw[Own.q_e_cst]at q;obtain⟨d,e,_⟩:=go_some q;exact absurd e (hn G1 v d)
 ·rw[Own.q_t_val,Own.q_e_cmp]at w;refine one p w fun v G1 H1 x k1 p1 r q=>?_;rw[Own.q_e_cst]at q;obtain⟨d,e,_⟩:=go_some q;exact absurd e (hn G1 v d)
theorem JS(g:Gd X i P n c){Φ:Own.Fs}{o:Own.Cop}{a b:Own.E}{l x:Expr}{pos:Pos}(h:(!Y4 o||Kf b)=true)(ha:PE X l (tE X i Φ a))(hb:PE X (toX b c x) (tE X i Φ b)) :
  PE X (.Compare l [Xo o] [toX b c x] pos) (tE X i Φ (.cmp o a b))∧PT X (.Compare l [Xo o] [toX b c x] pos) (tTt X i Φ (.val (.cmp o a b))):=by
 cases z:Y4 o with
 |false =>obtain⟨r,h1,h2⟩:=K1 g z;exact⟨Ga h1 h2 ha hb (NT _ _ _),El h1 h2 ha hb (NT _ _ _)⟩
 |true =>
  rw[z]at h;cases BY h;cases o with
  |is=>exact⟨Hx ha,Fj ha⟩
  |isnot=>exact⟨ET ha,AJ ha⟩
  |ntT=>exact XX (fun G v d e=>by cases v<;>simp[Own.cmpV,Own.asLst]at e) ha hb (NT _ _ _)
  |eqE=>exact XX (fun G v d e=>by cases v<;>simp[Own.cmpV,Own.asLst]at e) ha hb (NT _ _ _)
  |nes=>exact XX (fun G v d e=>by cases v<;>simp[Own.cmpV,Own.asLst]at e) ha hb (NT _ _ _)
  |_=>cases z
theorem XI(g:Gd X i P n c){Φ:Own.Fs}{o1 o2:Own.Cop}{a b d:Own.E}{l y x:Expr}{pos:Pos}(h1:Y4 o1=false)(h2:Y4 o2=false)(ha:PE X l (tE X i Φ a))(hb:PE X y (tE X i Φ b))(hd:PE X (toX d c x) (tE X i Φ d)) :
  PE X (.Compare l [Xo o1,Xo o2] [y,toX d c x] pos) (tE X i Φ (.chain o1 o2 a b d))∧PT X (.Compare l [Xo o1,Xo o2] [y,toX d c x] pos) (tTt X i Φ (.val (.chain o1 o2 a b d))):=by
 obtain⟨r1,a1,a2⟩:=K1 g h1;obtain⟨r2,b1,b2⟩:=K1 g h2;have hm:lastMarks [Xo o1,Xo o2] [y,toX d c x]=false:=NT _ _ _;exact⟨AV a1 a2 b1 b2 ha hb hd hm,UJ a1 a2 b1 b2 ha hb hd hm⟩
theorem Fk{Φ:Own.Fs}{e:Expr}{m:Own.E}(h:PE X e (tE X i Φ m))(he:∀ whole,isTrue e X.env whole=(do let v←whole;standAt e.pos;holding [v] (truthy v)))(hK:X.K=i.K):PT X e (tTt X i Φ (.val m)):=by
 refine(Oz h he).imp fun σ H Q ⟨env,G,Qm,Em,p,w,c⟩=>?_;rw[Own.q_t_val]at w;refine one p w fun v G1 H1 x k1 p1 r q=>?_;obtain⟨d,e1,q2⟩:=go_some q;clear q;refine⟨d,?_,c d G1 H1 k1 p1.hp q2⟩;cases v with
 |non=>cases r;cases e1;rfl
 |bl b=>cases r;cases e1;rfl
 |int b =>
  cases r;cases e1;show decide (b≠0)=(b != 0)
  by_cases e:b=0<;>simp[e]
 |key _ _=>cases e1
 |str b =>
  cases r;obtain⟨hl,e1⟩:=ZM e1;cases e1;refine⟨by rw[Zu];exact zE hl ZO,?_⟩;rw[Zu];by_cases e:b.length=0
  ·rw[e];rfl
  ·rw[qQ e];symm;simpa using (by omega:¬ ((b.length:Int)=0))
 |tup xs =>
  cases e1;cases r with
  |tup hp hr =>refine .inr (.inl ⟨_,by rw[hK];exact Zl hp,?_⟩);cases hr<;>rfl
 |scr ns =>
  cases e1;cases r with
  |scr h =>refine .inl ⟨_,by rw[hK];exact Z1 h,?_⟩;cases ns<;>rfl
 |ref a =>
  cases r.ref_inv
  replace e1:(match G1 a with|some (.lst xs)=>some (!xs.isEmpty)|some (.dct kvs)=>some (!kvs.isEmpty)|_=>none)=some d:=e1
  cases z:G1 a with
  |none=>rw[z]at e1;cases e1
  |some o =>
   rw[z]at e1;cases o with
   |lst xs =>cases e1;obtain⟨vs,h1,h2⟩:=p1.hp a _ z;refine .inl ⟨vs,SqL.of h1,?_⟩;cases h2<;>rfl
   |dct kvs =>cases e1;obtain⟨ps,h1,h2⟩:=p1.hp a _ z;refine .inr (.inr ⟨ps,h1,?_⟩);cases h2<;>rfl
   |_=>cases e1
noncomputable def Md.gn (c:Md) (y:String):Bool:=c.gl (Str.ofString y)&&nm (Str.ofString y)
noncomputable def YO:Own.Bi→Bool
 |.len=>true
 |.int=>true
 |.str=>true
 |.min2=>true
 |.max2=>true
 |.all=>true
 |.list=>true
 |.tuple=>true
 |.dict=>true
 |.sortedI=>true
 |_=>false
noncomputable def Bf:Own.Bi→Option String
 |.isi [T]=>some T
 |_=>none
noncomputable def Bs:Own.Bi→Option (List String)
 |_=>none
noncomputable def YY:Own.Bi→Bool
 |.lenSet=>true
 |_=>false
noncomputable def Xu:Own.Bi→Bool
 |.sortedSet=>true
 |_=>false
noncomputable def U6:Own.Bi→Str
 |.listRev=>"reversed"
 |.sortedSet=>"set"
 |_=>"range"
noncomputable def Mj:Own.Bi→Bool
 |_=>false
noncomputable def Jc:Own.Bi→Bool
 |_=>false
noncomputable def An:Own.Bi→Option (List String)
 |_=>none
noncomputable def Md.xn (c:Md) (T:String):Bool:=(c.xs.contains T||T == "ShutError")&&c.gn T
noncomputable def Xa:Own.Bi→Bool
 |.len=>true
 |.int=>true
 |.str=>true
 |.list=>true
 |.tuple=>true
 |_=>false
noncomputable def CN (c:Md) (Ts:List String):Bool:=match Ts with
 |[T]=>c.xn T||(T == "ValueError" && c.gl (Str.ofString T))
 |Ts=>Ts.all c.xn&&decide (Ts.length≤20)
noncomputable def UY:Own.Bm→Option Nat
 |.append=>some 1
 |_=>none
noncomputable def ME:Own.Tt→Bool
 |.yes=>true
 |_=>false
noncomputable def KF:Own.E→Bool
 |.var _=>true
 |.call _ _=>true
 |.meth _ _ _ _=>true
 |.bi _ _=>true
 |.bm _ _ _=>true
 |.idx _ _=>true
 |.fld _ _=>true
 |.glob _ _=>true
 |_=>false
noncomputable def F3:Own.E→Bool
 |.cmp _ _ _=>true
 |.chain _ _ _ _ _=>true
 |_=>false
mutual
noncomputable def okE:Own.E→Md→Expr→Bool
 |.cst v,_,_=>Cb v
 |.var j,c,_=>decide (j<c.N.length)&&c.vis (c.nmOf j)&&nm (c.nmOf j)
 |.glob y v,c,_=>c.gn y&&decide (c.cs.lookup y=some v)
 |.bin _ a b,c,x=>okE a c (kid x 0)&&okE b c (kid x 1)
 |.neg a,c,x=>okE a c (kid x 0)
 |.not a,c,x=>okE a c (kid x 0)
 |.and a b,c,x=>okE a c (kid x 0)&&okE b c (rest (ZL b) x)&&(!ZL b||(rest (ZL b) x).pos==x.pos)
 |.or a b,c,x=>okE a c (kid x 0)&&okE b c (rest (Yb b) x)&&(!Yb b||(rest (Yb b) x).pos==x.pos)
 |.cmp o a b,c,x=>okE a c (kid x 0)&&okE b c (kid x 1)&&(!Y4 o||Kf b)
 |.chain o1 o2 a b d,c,x=>okE a c (kid x 0)&&okE b c (kid x 1)&&okE d c (kid x 2) && !Y4 o1 && !Y4 o2
 |.call f as,c,x=>c.gn f&&c.fs.contains f&&c.cm&&okA as c (sub x).tail
 | .bi f as,c,x=>(match Bf f with
   |some T=>decide (Zi as=1)&&kinds.contains T&&c.gl "isinstance" && c.gl (Str.ofString T)
   |none=>match Bs f with
     |some Ts=>decide (Zi as=1)&&c.gl "isinstance" && !c.xs.isEmpty&&CN c Ts
     |none=>match An f with
       |some Ts=>decide (Zi as=1)&&c.gl "isinstance" && Ts.all (fun T=>kinds.contains T&&c.gl (Str.ofString T))&&decide (Ts.length≤20)
       | none=>if YY f then decide (Zi as=1)&&c.gl "len" && c.gl "set" && c.cm else if Xu f then decide (Zi as=1)&&c.gl (Z5 f)&&c.gl (U6 f)&&c.cm else if Jc f then decide (Zi as=1)&&c.gl "min" && c.cm else if Mj f then decide (Zi as=1)&&c.gl "dict" && c.gl "enumerate" && c.cm else YO f&&c.gl (Z5 f)&&decide (Zi as≠0)&&(c.cm||Xa f))&&okA as c (MT f x)
 |.bm m o as,c,x=>decide (UY m=some (Zi as))&&okE o c (kid (kid x 0) 0)&&KZ (toX o c (kid (kid x 0) 0))&&((kid x 0).pos.endLine==x.pos.line)&&okA as c (sub x).tail
 |.idx a b,c,x=>okE a c (kid x 0)&&okE b c (kid x 1)
 |.slc a lo hi,c,x=>okE a c (kid x 0)&&okO lo c (kid (kid x 1) 0)&&okO hi c (kid (kid x 1) 1)
 |.tup es,c,x=>okA es c (sub x)&&decide (Zi es≤1000)
 |.lst es,c,x=>okA es c (sub x)&&decide (Zi es≤1000)
 |.rev a,c,x=>okE a c (kid x 0)
 |.dct es,c,x=>okA es c (sub x)&&XD es&&decide (esL es≤30)
 |.comp caps m p it t e,c,x=>(Me m p&&(Yh (kid x 1)).length==m)&&c.cm&&Z7 (scp x) c.sc c.N (Yh (kid x 1)) caps&&(scp x).kind == .function&&okI it c (kid x 2) (!ZC p)&&okE e (c.blk (scp x) (Yh (kid x 1)) caps) (kid x 0)&&(ME t||okT t (c.blk (scp x) (Yh (kid x 1)) caps) (kid x 3))
 |_,_,_=>false
noncomputable def okA:Own.Es→Md→List Expr→Bool
 |.nil,_,_=>true
 |.cons e es,c,xs=>okE e c (xs.headD dE)&&okA es c xs.tail
noncomputable def okJ:Own.Es→Md→List Expr→Bool
 |.nil,_,_=>true
 |.cons e es,c,xs=>(NA e||okE e c (kid (xs.headD dE) 0))&&okJ es c xs.tail
noncomputable def okO:Own.Oe→Md→Expr→Bool
 |.none,_,_=>true
 |.some e,c,x=>okE e c x
noncomputable def okT:Own.Tt→Md→Expr→Bool
 |.yes,_,_=>false
 |.val e,c,x=>okE e c x&&(KF e||F3 e)
 |.not t,c,x=>okT t c (kid x 0)
 |.and a b,c,x=>okT a c (kid x 0)&&okT b c (rest (Zq b) x)&&(!Zq b||(rest (Zq b) x).pos==x.pos)
 |.or a b,c,x=>okT a c (kid x 0)&&okT b c (rest (ZA b) x)&&(!ZA b||(rest (ZA b) x).pos==x.pos)
noncomputable def okI:Own.It→Md→Expr→Bool→Bool
 |.seq e,c,x,_=>okE e c x
 |.range a,c,x,_=>c.gl "range" && okE a c (kid x 1)
 |.range2 a b,c,x,_=>c.gl "range" && okE a c (kid x 1)&&okE b c (kid x 2)
 |.enum e,c,x,t=>t&&c.gl "enumerate" && okE e c (kid x 1)
 |_,_,_,_=>false
end
variable {X:Cx}{i:Inf}{P:Own.Pg}{n:Nat}{c:Md}
theorem A8(g:Gd X i P n c){f:Own.Bi}(hp:YO f=true)(hcm:(c.cm||Xa f)=true){e:Expr}{es:List Expr}{as:Own.Es}{q p:Pos}{l:Nat}(hg:Gl X (Z5 f))(ha:PA X (e::es) (tAr X i (Own.wF P n) as l))
  (he:starEach (e::es) X.env=(false,eval e X.env)::starEach es X.env) (hpl:(backTo p (starEach es X.env)).any (·.1)=false):PE X (.Call (.Name (Z5 f) q) (e::es) [] p) (tE X i (Own.wF P n) (.bi f as)):=by
 have hc:Xa f=false→X.calm=true:=fun z=>g.calm (by rw[z,Bool.or_false]at hcm;exact hcm);cases f with
 |len=>exact(Z3 ((call_len_seq.or WN).or N0) hg (g.bl _ (by simp[blts,Z5])) (by kernel_rfl) ha (he:=he) (hpl:=hpl)).imp (Yw (by rw[g.K];exact DV))
 |int=>exact(Z0 (call_int1.or Wk) hg (g.bl _ (by simp[blts,Z5])) (by kernel_rfl) ha (he:=he) (hpl:=hpl)).imp (Yw Eo)
 |str=>exact(Z0 (call_str_int.or WY) hg (g.bl _ (by simp[blts,Z5])) (by kernel_rfl) ha (he:=he) (hpl:=hpl)).imp (Yw Fi)
 |min2=>exact(Z3 ((N4 (hc rfl)).or (KK (hc rfl) (by have:=g.un;omega))) hg (g.bl _ (by simp[blts,Z5])) (by kernel_rfl) ha (he:=he) (hpl:=hpl)).imp (Yw (by rw[g.K];exact BI))
 |max2=>exact(Z3 (Nv (hc rfl)) hg (g.bl _ (by simp[blts,Z5])) (by kernel_rfl) ha (he:=he) (hpl:=hpl)).imp (Yw B6)
 |all=>exact(Z3 (UU (hc rfl)) hg (g.bl _ (by simp[blts,Z5])) (by kernel_rfl) ha (he:=he) (hpl:=hpl)).imp (Yw (by rw[g.K];exact D1))
 |list=>exact(Z0 Ji hg (g.bl _ (by simp[blts,Z5])) (by kernel_rfl) ha (he:=he) (hpl:=hpl)).imp (Yw (by rw[g.K];exact AY))
 |dict=>exact(Z0 (call_dictK.or (Ku (hc rfl))) hg (g.bl _ (by simp[blts,Z5])) (by kernel_rfl) ha (he:=he) (hpl:=hpl)).imp (Yw (by rw[g.K];exact Bo))
 |sortedI=>exact(Z3 (call_sorted.or (Jk (hc rfl))) hg (g.bl _ (by simp[blts,Z5])) (by kernel_rfl) ha (he:=he) (hpl:=hpl)).imp (Yw (by rw[g.K];exact KM))
 |tuple=>exact(Z0 Wf hg (g.bl _ (by simp[blts,Z5])) (by kernel_rfl) ha (he:=he) (hpl:=hpl)).imp (Yw (by rw[g.K];exact O4))
 |_=>cases hp
theorem Ek{f:Own.Bi}{T:String}(h:Bf f=some T):f=.isi [T]:=by
 cases f with
 |isi Ts =>
  cases Ts with
  |nil=>cases h
  |cons a r=>cases r with
   |nil=>cases h;rfl
   |cons _ _=>cases h
 |_=>cases h
theorem UZ (g:Gd X i P n c){T:String}{e:Expr}{m:Own.E}{p p2 pos:Pos}(hT:T∈kinds) (h2:c.gl "isinstance" = true) (h5:c.gl (Str.ofString T)=true) (he:PE X e (tE X i (Own.wF P n) m)) (hst:starEach [e,.Name (Str.ofString T) p2] X.env=(false,eval e X.env)::starEach [.Name (Str.ofString T) p2] X.env) :
  PE X (.Call (.Name "isinstance" p) [e,.Name (Str.ofString T) p2] [] pos) (tE X i (Own.wF P n) (.bi (.isi [T]) (.cons m .nil))):=by
 have hT':=hT;simp only[kinds,qE,List.not_mem_nil,or_false]at hT';refine Go hT he g.K (g.gl h2) (g.bl _ (by simp[blts])) (g.gl h5) ?_ ?_ ?_ ?_ hst
 ·rcases hT' with rfl|rfl|rfl|rfl|rfl|rfl<;>exact g.bl _ (by simp[blts])
 ·rcases hT' with rfl|rfl|rfl|rfl|rfl|rfl<;>kernel_rfl
 ·rcases hT' with rfl|rfl|rfl|rfl|rfl|rfl<;>decide
 ·rcases hT' with rfl|rfl|rfl|rfl|rfl|rfl<;>decide
theorem Og(g:Gd X i P n c){m:Own.Bm}(h:UY m=some 0){o:Expr}{mo:Own.E}{apos cpos:Pos}(ho:PE X o (tE X i (Own.wF P n) mo))(hb:∀ f,attributeBase o f X.env (eval o X.env)=eval o X.env)(hl:(apos.endLine==cpos.line)=true) :
  PE X (.Call (.Attribute o (E7 m) apos) [] [] cpos) (tE X i (Own.wF P n) (.bm m mo .nil)):=by
 cases m with
 |_=>cases h
theorem A7(g:Gd X i P n c){m:Own.Bm}{k:Nat}(h:UY m=some (k+1)){o e:Expr}{es:List Expr}{mo:Own.E}{ms:Own.Es}{l:Nat}{apos cpos:Pos}(ho:PE X o (tE X i (Own.wF P n) mo))(ha:PA X (e::es) (tAr X i (Own.wF P n) ms l))(hb:∀ f,attributeBase o f X.env (eval o X.env)=eval o X.env)(hl:(apos.endLine==cpos.line)=true)
  (hfew:((backTo cpos (starEach (e::es) X.env)).all (fun x=>!x.1)&&(backToKw cpos (keywordEach [] X.env)).all (fun x=>x.1.isSome)&&decide ((e::es).length+([]:List Keyword).length+(if([]:List Keyword).isEmpty then 0 else 1)<30))=true)
  (hs:starEach (e::es) X.env=(false,eval e X.env)::starEach es X.env) (hpl:(backTo cpos (starEach es X.env)).any (·.1)=false) :
  PE X (.Call (.Attribute o (E7 m) apos) (e::es) [] cpos) (tE X i (Own.wF P n) (.bm m mo ms)):=by
 have u1:X.A.units+1<cLine:=by have:=g.un;omega
 cases m with
 |append=>exact Lr g.K PySem.F.plainAttrs_list PySem.F.slot_list_append PySem.F.type_list_append Nl (Li rfl) EH ho ha (hb _) hfew hl hs hpl
 |_=>cases h
theorem Gd.blk(g:Gd X i P n c){sc:Scope}{x:List Str}{caps:List Nat}(hb:Z7 sc c.sc c.N x caps=true)(hk:sc.kind=.function)(cl:List (Str×Addr))(C:Addr)(s:Shared)(H:Hp)(ex:List Addr) :
  Gd (Zr X sc (ZZ X x caps) cl C s H ex) i P n (c.blk sc x caps) where
 K:=g.K
 N:=by show ZZ X x caps=_;unfold ZZ;rw[g.N];rfl
 sc:=by show relabel sc X.env=_;unfold relabel Env.kindOf;rw[g.sc];rfl
 nd:=by have B:=K9 g.sc g.N hk hb;have:=B.nd;unfold ZZ at this;rw[g.N]at this;exact this
 un:=g.un
 calm:=g.calm
 room:=g.room
 bl:=g.bl
 dfs:=g.dfs
 cst:=g.cst
 kl:=⟨g.kl.A,g.kl.F,g.kl.mkc,g.kl.mth⟩
 xl:=fun h=>⟨(g.xl h).xc,(g.xl h).rs,(g.xl h).kn⟩
theorem Gd.pt(g:Gd X i P n c)(hcm:c.cm=true){sc:Scope}{xs:List Str}{caps:List Nat}(hb:Z7 sc c.sc c.N xs caps=true)(hk:sc.kind=.function){p:Own.Pt}(hp:Me xs.length p=true)(x:Expr)(cl:List (Str×Addr))(C:Addr)(s:Shared)(H:Hp)(ex:List Addr) :
  PG (Zr X sc (ZZ X xs caps) cl C s H ex) (toP p (c.blk sc xs caps) x) (gPt i p):=by
 have B:=K9 g.sc g.N hk hb;have G:=g.blk hb hk cl C s H ex;have key:∀ j,j<xs.length→UQ (Zr X sc (ZZ X xs caps) cl C s H ex) (c.blk sc xs caps) j:=fun j hj=>by
  have e:(c.blk sc xs caps).nmOf j=xs[j]:=by unfold Md.nmOf Md.blk;show(xs++_).getD j _=_;rw[qN,List.getElem?_append_left hj,qH hj];rfl
  have lo:=lookup_relabel_local (env:=X.env) (B.own xs[j] (List.getElem_mem hj));unfold UQ;rw[e];refine⟨?_,.inl lo,.inr lo⟩;show(xs++_)[j]?=_;rw[List.getElem?_append_left hj,qH hj]
 refine B9 G.K (by rw[G.N];exact G.nd) (g.calm hcm) ?_;cases p with
 |one j=>exact key j (of_decide_eq_true hp)
 |many js=>exact fun j hj=>key j (of_decide_eq_true (List.all_eq_true.mp hp j hj))
 |nest j js=>cases hp
theorem MW{b:Own.E}(h:ZL b=true):∃ a d,b=.and a d:=by
 cases b with
 |and a d=>exact⟨a,d,rfl⟩
 |_=>cases h
theorem Ae{b:Own.E}(h:Yb b=true):∃ a d,b=.or a d:=by
 cases b with
 |or a d=>exact⟨a,d,rfl⟩
 |_=>cases h
theorem Uq{b:Own.Tt}(h:Zq b=true):∃ a d,b=.and a d:=by
 cases b with
 |and a d=>exact⟨a,d,rfl⟩
 |_=>cases h
theorem AN{b:Own.Tt}(h:ZA b=true):∃ a d,b=.or a d:=by
 cases b with
 |or a d=>exact⟨a,d,rfl⟩
 |_=>cases h
theorem Jl{b:Bool}{p q:Pos}(h:(!b||p==q)=true)(hb:b=true):p=q:=by rw[hb]at h;exact eq_of_beq h
theorem Ub{Φ:Own.Fs}{b:Own.E}{x:Expr}(hp:(!ZL b||(rest (ZL b) x).pos==x.pos)=true)(h:PE X (toX b c (rest (ZL b) x)) (tE X i Φ b)):PE X (.BoolOp .And (YJ (ZL b) (toX b c (rest (ZL b) x))) x.pos) (tE X i Φ b):=by
 cases z:ZL b with
 |false=>rw[z]at h;exact Us h
 |true =>have e:=Jl hp z;rw[z]at e h;obtain⟨a,d,rfl⟩:=MW z;show PE X (.BoolOp .And (sub (.BoolOp .And _ (rest true x).pos)) x.pos) _;rw[←e];exact h
theorem BV{Φ:Own.Fs}{b:Own.E}{x:Expr}(hp:(!Yb b||(rest (Yb b) x).pos==x.pos)=true)(h:PE X (toX b c (rest (Yb b) x)) (tE X i Φ b)):PE X (.BoolOp .Or (YJ (Yb b) (toX b c (rest (Yb b) x))) x.pos) (tE X i Φ b):=by
 cases z:Yb b with
 |false=>rw[z]at h;exact Us h
 |true =>have e:=Jl hp z;rw[z]at e h;obtain⟨a,d,rfl⟩:=Ae z;show PE X (.BoolOp .Or (sub (.BoolOp .Or _ (rest true x).pos)) x.pos) _;rw[←e];exact h
theorem Wx(b:Bool){e:Own.E}{x:Expr}(h:b=ZL e∨b=Yb e):∃ y ys,YJ b (toX e c x)=y::ys:=by
 cases b with
 |false=>exact⟨_,_,rfl⟩
 |true =>
  rcases h with h|h
  ·obtain⟨a,d,rfl⟩:=MW h.symm;exact⟨_,_,rfl⟩
  ·obtain⟨a,d,rfl⟩:=Ae h.symm;exact⟨_,_,rfl⟩
variable {i:Inf}{P:Own.Pg}{n:Nat}
theorem Ny{X:Cx}{c:Md}{Φ:Own.Fs}{b:Own.Tt}{x:Expr}(hp:(!Zq b||(rest (Zq b) x).pos==x.pos)=true)(h:PT X (toT b c (rest (Zq b) x)) (tTt X i Φ b))(h2:(Zq b||ZA b)=true→PW X (toT b c (rest (Zq b) x)) (tTt X i Φ b)) :
  ∃ y ys,YJ (Zq b) (toT b c (rest (Zq b) x))=y::ys∧PW X (.BoolOp .And (y::ys) x.pos) (tTt X i Φ b):=by
 cases z:Zq b with
 |false=>rw[z]at h;exact⟨_,_,rfl,B1 h⟩
 |true =>have e:=Jl hp z;rw[z]at e h2;obtain⟨a,d,rfl⟩:=Uq z;refine⟨_,_,rfl,?_⟩;rw[←e];exact h2 rfl
theorem OG{X:Cx}{c:Md}{Φ:Own.Fs}{b:Own.Tt}{x:Expr}(hp:(!ZA b||(rest (ZA b) x).pos==x.pos)=true)(h:PT X (toT b c (rest (ZA b) x)) (tTt X i Φ b))(h2:(Zq b||ZA b)=true→PW X (toT b c (rest (ZA b) x)) (tTt X i Φ b)) :
  ∃ y ys,YJ (ZA b) (toT b c (rest (ZA b) x))=y::ys∧PW X (.BoolOp .Or (y::ys) x.pos) (tTt X i Φ b):=by
 cases z:ZA b with
 |false=>rw[z]at h;exact⟨_,_,rfl,Da h⟩
 |true =>have e:=Jl hp z;rw[z]at e h2;obtain⟨a,d,rfl⟩:=AN z;refine⟨_,_,rfl,?_⟩;rw[←e];exact h2 rfl
theorem HU{e:Own.E}(h:NA e=true):∃ s,e=.cst (.str s):=by
 cases e with
 |cst v=>cases v with
  |str s=>exact⟨s,rfl⟩
  |_=>cases h
 |_=>cases h
theorem Wq{X:Cx}{c:Md}(g:Gd X i P n c){caps:List Nat}{p:Own.Pt}{it:Own.It}{mt:Own.Tt}{me:Own.E}{elt iter tgt:Expr}{x:List Str}{pos:Pos}{ifs:List Expr}{sc:Scope}(hcm:c.cm=true)(h1:Z7 sc c.sc c.N x caps=true)(hk:sc.kind=.function)(hp:Me x.length p=true)
  (hi:PI X tgt iter (tIt X i (Own.wF P n) it)) (hs:∀ y,foldedSetIterable iter X.env y=pure y) (hG:∀ cl C s H ex,PG (Zr X sc (ZZ X x caps) cl C s H ex) tgt (gPt i p))
  (hE:∀ cl C s H ex,PE (Zr X sc (ZZ X x caps) cl C s H ex) elt (tE0 i (Own.wF P n) me)) (hI:∀ cl C s H ex,PIfs (Zr X sc (ZZ X x caps) cl C s H ex) ifs (tT0 i (Own.wF P n) mt)) :
  PE X (.ListComp elt [⟨tgt,iter,ifs,0⟩] sc pos) (tE X i (Own.wF P n) (.comp caps x.length p it mt me))∧
   ∀ (y:Str) (py spos:Pos) (j:Nat),X.N[j]?=some y→L2.Loc X.env.scope y→(X.fn y=true∨X.env.scope.names.lookup y=some .local)→swapsWith (.ListComp elt [⟨tgt,iter,ifs,0⟩] sc pos) (some (.Name y py)) spos.line X.env=pure true→PS X (.Assign [.Name y py] (.ListComp elt [⟨tgt,iter,ifs,0⟩] sc pos) spos) (tSt X i (Own.wF P n) (.set (.one j) (.comp caps x.length p it mt me))):=by
 have B:=K9 g.sc g.N hk h1;have hc:=g.calm hcm;refine⟨(UN hc B hi hG hI hE hs).imp (MJ hp),fun y py spos j hj hl hf hsw=>?_⟩;refine(Ox (by rw[g.N];exact g.nd) hj hl hc B hi hG hI hE hs hsw hf).imp fun D σ H ⟨env,G,N,R,Bk,Ct,Xe,p,w,e⟩=>?_;rw[Own.q_s_set]at w;refine MJ hp σ H _ ⟨env,G,_,Xe env,p.pre,w,fun v G1 H1 x k1 g1 r1 w1=>?_⟩;obtain⟨env2,e2,w2⟩:=go_some w1;clear w1;cases e2;exact e.nx _ _ G1 H1 k1 g1 ((p.en.keep k1).set r1 j) w2
theorem OM{X:Cx}{c:Md}{j:Nat}(hN:X.N=c.N)(h:j<c.N.length):X.N[j]?=some (c.nmOf j):=by rw[hN];unfold Md.nmOf;rw[qN,qH h];rfl
theorem HH{X:Cx}{c:Md}{m:Own.Tt}{x:Expr}(h:ME m=false→PT X (toT m c x) (tTt X i (Own.wF P n) m)):PIfs X (toF m c x) (tT0 i (Own.wF P n) m):=by
 cases m with
 |yes=>exact Et
 |val e=>exact Y1 (pt0 (h rfl))
 |not t=>exact Y1 (pt0 (h rfl))
 |and a b=>exact Y1 (pt0 (h rfl))
 |or a b=>exact Y1 (pt0 (h rfl))
theorem JA(c:Md):∀ (es:Own.Es) (xs:List Expr),XD es=true→(YX (toA es c xs)).all (·.isSome)=true∧(YX (toA es c xs)).length=(Ai (toA es c xs)).length∧2*(YX (toA es c xs)).length=esL es
 |.nil,_,_=>⟨rfl,rfl,rfl⟩
 |.cons _ .nil,_,h=>by cases h
 |.cons k (.cons v r),xs,h=>by
  obtain⟨h1,h2,h3⟩:=JA c r xs.tail.tail h;refine⟨?_,?_,?_⟩
  ·show(true&&(YX (toA r c xs.tail.tail)).all (·.isSome))=true;rw[h1];rfl
  ·show(YX (toA r c xs.tail.tail)).length+1=(Ai (toA r c xs.tail.tail)).length+1;rw[h2]
  ·show 2*((YX (toA r c xs.tail.tail)).length+1)=esL r+1+1;omega
mutual
theorem eE:∀ (m:Own.E) (X:Cx) (c:Md) (x:Expr),Gd X i P n c→okE m c x=true→PE X (toX m c x) (tE X i (Own.wF P n) m)
 |.cst v,X,c,x,g,h=>DK h
 |.var j,X,c,x,g,h=>by have h:(decide (j<c.N.length)&&c.vis (c.nmOf j)&&nm (c.nmOf j))=true:=h;rw[bAq,bAq,decide_eq_true_eq]at h;obtain⟨q1,q2,_⟩:=UH h.2;exact FE (OM g.N h.1.1) (g.vis h.1.2) q1 q2
 |.glob y v,X,c,x,g,h=>by have h:((c.gl (Str.ofString y)&&nm (Str.ofString y))&&decide (c.cs.lookup y=some v))=true:=h;rw[bAq,bAq,decide_eq_true_eq]at h;obtain⟨q1,q2,_⟩:=UH h.1.2;obtain⟨u,z,e1,e2,e3⟩:=g.cst _ _ h.2;exact Ev (AO (g.gl h.1.1) e1 e2 q1) e3
 |.bin o a b,X,c,x,g,h=>by have h:(okE a c (kid x 0)&&okE b c (kid x 1))=true:=h;rw[bAq]at h;exact FK g (eE a X c _ g h.1) (eE b X c _ g h.2)
 |.neg a,X,c,x,g,h=>FM (eE a X c _ g h)
 |.not a,X,c,x,g,h=>HD (eE a X c _ g h)
 |.and a b,X,c,x,g,h=>by have h:(okE a c (kid x 0)&&okE b c (rest (ZL b) x)&&(!ZL b||(rest (ZL b) x).pos==x.pos))=true:=h;rw[bAq,bAq]at h;have h2:=Ub h.2 (eE b X c _ g h.1.2);obtain⟨y,ys,e⟩:=Wx (c:=c) (ZL b) (e:=b) (x:=rest (ZL b) x) (.inl rfl);show PE X (.BoolOp .And (toX a c (kid x 0)::YJ (ZL b) (toX b c (rest (ZL b) x))) x.pos) _;rw[e]at h2 ⊢;exact Ht (eE a X c _ g h.1.1) h2
 |.or a b,X,c,x,g,h=>by have h:(okE a c (kid x 0)&&okE b c (rest (Yb b) x)&&(!Yb b||(rest (Yb b) x).pos==x.pos))=true:=h;rw[bAq,bAq]at h;have h2:=BV h.2 (eE b X c _ g h.1.2);obtain⟨y,ys,e⟩:=Wx (c:=c) (Yb b) (e:=b) (x:=rest (Yb b) x) (.inr rfl);show PE X (.BoolOp .Or (toX a c (kid x 0)::YJ (Yb b) (toX b c (rest (Yb b) x))) x.pos) _;rw[e]at h2 ⊢;exact HS (eE a X c _ g h.1.1) h2
 |.cmp o a b,X,c,x,g,h=>by have h:(okE a c (kid x 0)&&okE b c (kid x 1)&&(!Y4 o||Kf b))=true:=h;rw[bAq,bAq]at h;exact(JS g h.2 (eE a X c _ g h.1.1) (eE b X c _ g h.1.2)).1
 |.chain o1 o2 a b d,X,c,x,g,h=>by have h:(okE a c (kid x 0)&&okE b c (kid x 1)&&okE d c (kid x 2) && !Y4 o1 && !Y4 o2)=true:=h;rw[bAq,bAq,bAq,bAq,Bool.not_eq_true',Bool.not_eq_true']at h;obtain⟨⟨⟨⟨h1,h2⟩,h3⟩,h4⟩,h5⟩:=h;exact(XI g h4 h5 (eE a X c _ g h1) (eE b X c _ g h2) (eE d X c _ g h3)).1
 |.call f as,X,c,x,g,h=>by
  have h:((c.gl (Str.ofString f)&&nm (Str.ofString f))&&c.fs.contains f&&c.cm&&okA as c (sub x).tail)=true:=h;rw[bAq,bAq,bAq,bAq]at h;obtain⟨⟨⟨⟨h1,h2⟩,h3⟩,h4⟩,h5⟩:=h;obtain⟨q1,_,_⟩:=UH h2;have ha:=eA as X c _ g h5;cases as with
  |nil=>exact Bx g.K (g.dfs _ h3) (g.rm h4) (g.gl h1) q1
  |cons a as=>exact EZ g.K (g.dfs _ h3) (g.rm h4) (g.gl h1) q1 ha (Zw ..) (YV ..)
 |.make C as,X,c,x,g,h=>nomatch h
 |.meth C m o as,X,c,x,g,h=>nomatch h
 |.fld o f,X,c,x,g,h=>nomatch h
 |.bi f as,X,c,x,g,h=>by
  have h:((match Bf f with
    |some T=>decide (Zi as=1)&&kinds.contains T&&c.gl "isinstance" && c.gl (Str.ofString T)
    |none=>match Bs f with
      |some Ts=>decide (Zi as=1)&&c.gl "isinstance" && !c.xs.isEmpty&&CN c Ts
      |none=>match An f with
        |some Ts=>decide (Zi as=1)&&c.gl "isinstance" && Ts.all (fun T=>kinds.contains T&&c.gl (Str.ofString T))&&decide (Ts.length≤20)
        | none=>if YY f then decide (Zi as=1)&&c.gl "len" && c.gl "set" && c.cm else if Xu f then decide (Zi as=1)&&c.gl (Z5 f)&&c.gl (U6 f)&&c.cm else if Jc f then decide (Zi as=1)&&c.gl "min" && c.cm else if Mj f then decide (Zi as=1)&&c.gl "dict" && c.gl "enumerate" && c.cm else YO f&&c.gl (Z5 f)&&decide (Zi as≠0)&&(c.cm||Xa f))&&okA as c (MT f x))=true:=h
  rw[bAq]at h;cases z:Bf f with
  |some T =>
   have h1:=h.1;rw[z]at h1;rw[bAq,bAq,bAq,decide_eq_true_eq]at h1;obtain⟨⟨⟨h1,h2⟩,h3⟩,h4⟩:=h1;cases Ek z;cases as with
   |nil=>cases h1
   |cons a as=>cases as with
    |nil =>have h5:(okE a c _&&true)=true:=h.2;rw[bAq]at h5;exact UZ g (List.contains_iff_mem.mp h2) h3 h4 (eE a X c _ g h5.1) (Zw ..)
    |cons b as=>exact absurd h1 (by simp[Zi])
  |none =>
   have h1:=h.1;rw[z]at h1
   replace h1:(match Bs f with
     |some Ts=>decide (Zi as=1)&&c.gl "isinstance" && !c.xs.isEmpty&&CN c Ts
     |none=>match An f with
       |some Ts=>decide (Zi as=1)&&c.gl "isinstance" && Ts.all (fun T=>kinds.contains T&&c.gl (Str.ofString T))&&decide (Ts.length≤20)
       | none=>if YY f then decide (Zi as=1)&&c.gl "len" && c.gl "set" && c.cm else if Xu f then decide (Zi as=1)&&c.gl (Z5 f)&&c.gl (U6 f)&&c.cm else if Jc f then decide (Zi as=1)&&c.gl "min" && c.cm else if Mj f then decide (Zi as=1)&&c.gl "dict" && c.gl "enumerate" && c.cm else YO f&&c.gl (Z5 f)&&decide (Zi as≠0)&&(c.cm||Xa f))=true:=h1
   cases zx:Bs f with
   |some Ts=>cases zx
   |none =>
    rw[zx]at h1
    replace h1:(match An f with
      |some Ts=>decide (Zi as=1)&&c.gl "isinstance" && Ts.all (fun T=>kinds.contains T&&c.gl (Str.ofString T))&&decide (Ts.length≤20)
      | none=>if YY f then decide (Zi as=1)&&c.gl "len" && c.gl "set" && c.cm else if Xu f then decide (Zi as=1)&&c.gl (Z5 f)&&c.gl (U6 f)&&c.cm else if Jc f then decide (Zi as=1)&&c.gl "min" && c.cm else if Mj f then decide (Zi as=1)&&c.gl "dict" && c.gl "enumerate" && c.cm else YO f&&c.gl (Z5 f)&&decide (Zi as≠0)&&(c.cm||Xa f))=true:=h1
    cases zl:An f with
    |some Ts=>cases zl
    |none =>
     rw[zl]at h1;dsimp only at h1;split at h1
     ·rename_i hls;have hf:f=.lenSet:=by cases f<;>first|rfl|cases hls
      subst hf;rw[bAq,bAq,bAq,decide_eq_true_eq]at h1;obtain⟨⟨⟨h1,h2⟩,h3⟩,h4⟩:=h1;cases as with
      |nil=>cases h1
      |cons a as=>cases as with
       |nil =>have h6:(okE a c _&&true)=true:=h.2;rw[bAq]at h6;exact OP (g.calm h4) g.K (eE a X c _ g h6.1) (g.gl h2) (g.bl _ (by simp[blts])) (g.gl h3) (g.bl _ (by simp[blts])) (by rw[Zw];rfl)
       |cons b as=>exact absurd h1 (by simp[Zi])
     split at h1
     ·rename_i _ hls;have hf:f=.sortedSet:=by cases f<;>first|rfl|cases hls
      rw[bAq,bAq,bAq,decide_eq_true_eq]at h1;obtain⟨⟨⟨h1,h2⟩,h3⟩,h4⟩:=h1;cases as with
      |nil=>cases h1
      |cons a as=>cases as with
       |nil =>
        rcases hf with rfl
        ·have h6:(okE a c _&&true)=true:=h.2;rw[bAq]at h6;exact JI (g.calm h4) g.K (eE a X c _ g h6.1) (g.gl h2) (g.bl _ (by simp[blts])) (g.gl h3) (g.bl _ (by simp[blts,U6])) (by rw[Zw];rfl)
       |cons b as=>exact absurd h1 (by simp[Zi])
     split at h1
     ·rename_i _ _ hls;exact absurd (show false=true from hls) (by decide)
     split at h1
     ·rename_i _ _ _ hls;exact absurd (show false=true from hls) (by decide)
     rw[bAq,bAq,bAq,decide_eq_true_eq]at h1;obtain⟨⟨⟨h1,h2⟩,h3⟩,h4⟩:=h1;have ha:=eA as X c _ g h.2;cases as with
     |nil=>exact absurd rfl h3
     |cons a as =>
      have e1:toX (.bi f (.cons a as)) c x=.Call (.Name (Z5 f) (kid x 0).pos) (toA (.cons a as) c (MT f x)) [] x.pos:=by cases f<;>first|(cases h1;done)|rfl
      rw[e1];exact A8 g h1 h4 (g.gl h2) ha (Zw ..) (YV ..)
 |.bm m o as,X,c,x,g,h=>by
  have h:(decide (UY m=some (Zi as))&&okE o c (kid (kid x 0) 0)&&KZ (toX o c (kid (kid x 0) 0))&&((kid x 0).pos.endLine==x.pos.line)&&okA as c (sub x).tail)=true:=h;rw[bAq,bAq,bAq,bAq,decide_eq_true_eq]at h;obtain⟨⟨⟨⟨h1,h2⟩,h3⟩,h4⟩,h5⟩:=h;have ha:=eA as X c _ g h5;have ho:=eE o X c _ g h2;cases as with
  |nil=>exact Og g h1 ho (fun f=>Wy h3 f _) h4
  |cons a as =>
   refine A7 g h1 ho ha (fun f=>Wy h3 f _) h4 ?_ (Zw ..) (YV ..);rw[bAq,bAq,decide_eq_true_eq];refine⟨⟨JP X.env x.pos (.cons a as) c (sub x).tail,rfl⟩,?_⟩;have e2:(toA (.cons a as) c (sub x).tail).length=Zi (.cons a as):=Xr ..;have e3:Zi (.cons a as)≤2:=by
    have:∀ m:Own.Bm,∀ k,UY m=some k→k≤2:=by intro m k;cases m<;>intro z<;>first|(cases z;done)|(cases z;decide)
    exact this m _ h1
   show(toA (.cons a as) c (sub x).tail).length+0+0<30;omega
 |.idx a b,X,c,x,g,h=>by have h:(okE a c (kid x 0)&&okE b c (kid x 1))=true:=h;rw[bAq]at h;exact Hb (ix_seq.or (A2 (by have:=g.un;omega))) (by rw[g.K];exact GI) (eE a X c _ g h.1) (eE b X c _ g h.2) (UW _ _ _)
 |.slc a lo hi,X,c,x,g,h=>by have h:(okE a c (kid x 0)&&okO lo c (kid (kid x 1) 0)&&okO hi c (kid (kid x 1) 1))=true:=h;rw[bAq,bAq]at h;exact G0 IZ (by rw[g.K];exact Gb) (eE a X c _ g h.1.1) (eO lo X c _ g h.1.2) (eO hi X c _ g h.2)
 |.tup es,X,c,x,g,h=>by have h:(okA es c (sub x)&&decide (Zi es≤1000))=true:=h;rw[bAq,decide_eq_true_eq]at h;exact FS (by rw[Xr];exact h.2) (eA es X c _ g h.1)
 |.key es,X,c,x,g,h=>nomatch h
 |.dctP,X,c,x,g,h=>nomatch h
 |.lst es,X,c,x,g,h=>by have h:(okA es c (sub x)&&decide (Zi es≤1000))=true:=h;rw[bAq,decide_eq_true_eq]at h;exact GQ (by rw[Xr];exact h.2) (eA es X c _ g h.1)
 |.dct es,X,c,x,g,h=>by
  have h:(okA es c (sub x)&&XD es&&decide (esL es≤30))=true:=h;rw[bAq,bAq,decide_eq_true_eq]at h;obtain⟨⟨h1,h2⟩,h3⟩:=h;have hp:=eD es X c (sub x) x.pos g h1 h2;cases es with
  |nil=>exact EV
  |cons k r=>cases r with
   |nil=>cases h2
   |cons v r =>obtain⟨q1,q2,q3⟩:=JA c (.cons k (.cons v r)) (sub x) h2;refine Gv h2 h3 hp q1 q2 (by intro z;cases z) (by rw[←q3]at h3;omega)
 |.ife t a b,X,c,x,g,h=>nomatch h
 |.comp caps m p it t e,X,c,x,g,h=>by
  have h:((Me m p&&(Yh (kid x 1)).length == m)&&c.cm&&Z7 (scp x) c.sc c.N (Yh (kid x 1)) caps&&(scp x).kind == .function&&okI it c (kid x 2) (!ZC p)&&okE e (c.blk (scp x) (Yh (kid x 1)) caps) (kid x 0)&&(ME t||okT t (c.blk (scp x) (Yh (kid x 1)) caps) (kid x 3)))=true:=h;rw[bAq,bAq,bAq,bAq,bAq,bAq]at h;obtain⟨⟨⟨⟨⟨⟨h1,h2⟩,h3⟩,h4⟩,h5⟩,h6⟩,h7⟩:=h;rw[bAq,beq_iff_eq]at h1;obtain⟨h1,rfl⟩:=h1;have hk:=eq_of_beq h4;obtain⟨t1,t2⟩:=KN (c:=c.blk (scp x) (Yh (kid x 1)) caps) p (kid x 1);obtain⟨a1,a2⟩:=eI it X c (kid x 2) (toP p (c.blk (scp x) (Yh (kid x 1)) caps) (kid x 1)) g (!ZC p) t1 t2 h5;exact(Wq g h2 h3 hk h1 a1 a2 (g.pt h2 h3 hk h1 _)
    (fun cl C s H ex=>pe0 (eE e _ _ _ (g.blk h3 hk cl C s H ex) h6)) (fun cl C s H ex=>HH fun z=>(eT t _ _ _ (g.blk h3 hk cl C s H ex) (by rw[z]at h7;exact h7)).1)).1
 |.fstr es,X,c,x,g,h=>nomatch h
 |.repl _ _ _,X,c,x,g,h=>nomatch h
 |.split o a,X,c,x,g,h=>nomatch h
 |.rev a,X,c,x,g,h=>Gh g.K (eE a X c _ g h)
theorem eD:∀ (es:Own.Es) (X:Cx) (c:Md) (xs:List Expr) (pos:Pos),Gd X i P n c→okA es c xs=true→XD es=true→PPs X pos (YX (toA es c xs)) (Ai (toA es c xs)) (MX X i (Own.wF P n) es)
 |.nil,X,c,xs,pos,g,h,he=>A1
 |.cons k .nil,X,c,xs,pos,g,h,he=>by cases he
 |.cons k (.cons v r),X,c,xs,pos,g,h,he=>by have h:(okE k c (xs.headD dE)&&(okE v c (xs.tail.headD dE)&&okA r c xs.tail.tail))=true:=h;rw[bAq,bAq]at h;exact Om (eE k X c _ g h.1) (eE v X c _ g h.2.1) (eD r X c _ pos g h.2.2 he)
theorem eA:∀ (ms:Own.Es) (X:Cx) (c:Md) (xs:List Expr),Gd X i P n c→okA ms c xs=true→PA X (toA ms c xs) (tAr X i (Own.wF P n) ms (toA ms c xs).length)
 |.nil,X,c,xs,g,h=>DY
 |.cons a as,X,c,xs,g,h=>by have h:(okE a c (xs.headD dE)&&okA as c xs.tail)=true:=h;rw[bAq]at h;exact Bh (eE a X c _ g h.1) (eA as X c _ g h.2) (Zw ..)
theorem eJ:∀ (ms:Own.Es) (X:Cx) (c:Md) (xs:List Expr),Gd X i P n c→okJ ms c xs=true→PJ X (toJ ms c xs) (tJs X i (Own.wF P n) ms)
 |.nil,X,c,xs,g,h=>DH
 |.cons a as,X,c,xs,g,h=>by
  have h:((NA a||okE a c (kid (xs.headD dE) 0))&&okJ as c xs.tail)=true:=h;rw[bAq]at h;have hr:=eJ as X c _ g h.2;show PJ X ((if NA a then toX a c (xs.headD dE)else .FormattedValue (toX a c (kid (xs.headD dE) 0)) (-1) none (xs.headD dE).pos)::toJ as c xs.tail) _;cases z:NA a with
  |true =>obtain⟨s,rfl⟩:=HU z;exact M7 Fm hr rfl
  |false =>rw[z]at h;exact M7 (Dy (eE a X c _ g h.1)) hr rfl
theorem eO:∀ (m:Own.Oe) (X:Cx) (c:Md) (x:Expr),Gd X i P n c→okO m c x=true→PO X (toO m c x) (tOx X i (Own.wF P n) m)
 |.none,X,c,x,g,h=>Ba
 |.some e,X,c,x,g,h=>Bu (eE e X c _ g h)
theorem eT:∀ (m:Own.Tt) (X:Cx) (c:Md) (x:Expr),Gd X i P n c→okT m c x=true→PT X (toT m c x) (tTt X i (Own.wF P n) m)∧((Zq m||ZA m)=true→PW X (toT m c x) (tTt X i (Own.wF P n) m))
 |.yes,X,c,x,g,h=>nomatch h
 |.val e,X,c,x,g,h=>by
  refine⟨?_,fun z=>(by cases z)⟩;have h:(okE e c x&&(KF e||F3 e))=true:=h;rw[bAq]at h;have he:=eE e X c x g h.1;cases z:KF e with
  |true=>exact Fk he (by cases e<;>first|(cases z;done)|exact fun _=>rfl) g.K
  |false =>
   have h2:=h.2;rw[z]at h2;cases e with
   |cmp o a b =>have h:(okE a c (kid x 0)&&okE b c (kid x 1)&&(!Y4 o||Kf b))=true:=h.1;rw[bAq,bAq]at h;exact(JS g h.2 (eE a X c _ g h.1.1) (eE b X c _ g h.1.2)).2
   |chain o1 o2 a b d =>have h:(okE a c (kid x 0)&&okE b c (kid x 1)&&okE d c (kid x 2) && !Y4 o1 && !Y4 o2)=true:=h.1;rw[bAq,bAq,bAq,bAq,Bool.not_eq_true',Bool.not_eq_true']at h;obtain⟨⟨⟨⟨h1,h2⟩,h3⟩,h4⟩,h5⟩:=h;exact(XI g h4 h5 (eE a X c _ g h1) (eE b X c _ g h2) (eE d X c _ g h3)).2
   |_=>cases h2
 |.not t,X,c,x,g,h=>⟨C2 (eT t X c _ g h).1,fun z=>(by cases z)⟩
 |.and a b,X,c,x,g,h=>by
  have h:(okT a c (kid x 0)&&okT b c (rest (Zq b) x)&&(!Zq b||(rest (Zq b) x).pos==x.pos))=true:=h;rw[bAq,bAq]at h;have h2:=eT b X c _ g h.1.2;obtain⟨y,ys,e,h3⟩:=Ny h.2 h2.1 h2.2;have h4:PW X (toT (.and a b) c x) (tTt X i (Own.wF P n) (.and a b)):=by show PW X (.BoolOp .And (toT a c (kid x 0)::YJ (Zq b) (toT b c (rest (Zq b) x))) x.pos) _;rw[e];exact E9 (eT a X c _ g h.1.1).1 h3
  exact⟨h4.pt,fun _=>h4⟩
 |.or a b,X,c,x,g,h=>by
  have h:(okT a c (kid x 0)&&okT b c (rest (ZA b) x)&&(!ZA b||(rest (ZA b) x).pos==x.pos))=true:=h;rw[bAq,bAq]at h;have h2:=eT b X c _ g h.1.2;obtain⟨y,ys,e,h3⟩:=OG h.2 h2.1 h2.2;have h4:PW X (toT (.or a b) c x) (tTt X i (Own.wF P n) (.or a b)):=by show PW X (.BoolOp .Or (toT a c (kid x 0)::YJ (ZA b) (toT b c (rest (ZA b) x))) x.pos) _;rw[e];exact Fu (eT a X c _ g h.1.1).1 h3
  exact⟨h4.pt,fun _=>h4⟩
theorem eI:∀ (m:Own.It) (X:Cx) (c:Md) (x tg:Expr),Gd X i P n c→∀ (b:Bool),(b=true→∃ es k p,tg=.Tuple es k p)→(b=false→∃ y p,tg=.Name y p)→okI m c x b=true→PI X tg (toI m c x) (tIt X i (Own.wF P n) m)∧∀ y,foldedSetIterable (toI m c x) X.env y=pure y
 |.seq e,X,c,x,tg,g,b,t1,t2,h=>⟨Dq g.K (eE e X c _ g h),EY _ _ _ _⟩
 |.chars e,X,c,x,tg,g,b,t1,t2,h=>nomatch h
 |.range a,X,c,x,tg,g,b,t1,t2,h=>by have h:(c.gl "range" && okE a c (kid x 1))=true:=h;rw[bAq]at h;exact⟨Ux (g.gl h.1) (g.bl _ (by simp[blts])) (eE a X c _ g h.2) (Zw ..),fun _=>rfl⟩
 |.range2 a d,X,c,x,tg,g,b,t1,t2,h=>by have h:(c.gl "range" && okE a c (kid x 1)&&okE d c (kid x 2))=true:=h;rw[bAq,bAq]at h;exact⟨Nw (g.gl h.1.1) (g.bl _ (by simp[blts])) (eE a X c _ g h.1.2) (eE d X c _ g h.2) (by rw[Zw,Zw];rfl) (Zw ..),fun _=>rfl⟩
 |.zip a d,X,c,x,tg,g,b,t1,t2,h=>nomatch h
 |.enum e,X,c,x,tg,g,b,t1,t2,h=>by have h:(b&&c.gl "enumerate" && okE e c (kid x 1))=true:=h;rw[bAq,bAq]at h;obtain⟨es,k,p,rfl⟩:=t1 h.1.1;exact⟨BA g.K (g.gl h.1.2) (g.bl _ (by simp[blts])) (eE e X c _ g h.2) (by rw[Zw];rfl),fun _=>rfl⟩
 |.items e,X,c,x,tg,g,b,t1,t2,h=>nomatch h
 |.rev e,_,_,_,_,_,_,_,_,h=>nomatch h
end
theorem NN{X:Cx}{c:Md}(g:Gd X i P n c){caps:List Nat}{m:Nat}{p:Own.Pt}{it:Own.It}{t:Own.Tt}{e:Own.E}{x:Expr}(h:okE (.comp caps m p it t e) c x=true) :
  PE X (toX (.comp caps m p it t e) c x) (tE X i (Own.wF P n) (.comp caps m p it t e))∧
   ∀ (y:Str) (py spos:Pos) (j:Nat),X.N[j]?=some y→L2.Loc X.env.scope y→(X.fn y=true∨X.env.scope.names.lookup y=some .local)→swapsWith (toX (.comp caps m p it t e) c x) (some (.Name y py)) spos.line X.env=pure true→PS X (.Assign [.Name y py] (toX (.comp caps m p it t e) c x) spos) (tSt X i (Own.wF P n) (.set (.one j) (.comp caps m p it t e))):=by
 have h:((Me m p&&(Yh (kid x 1)).length==m)&&c.cm&&Z7 (scp x) c.sc c.N (Yh (kid x 1)) caps&&(scp x).kind == .function&&okI it c (kid x 2) (!ZC p)&&okE e (c.blk (scp x) (Yh (kid x 1)) caps) (kid x 0)&&(ME t||okT t (c.blk (scp x) (Yh (kid x 1)) caps) (kid x 3)))=true:=h;rw[bAq,bAq,bAq,bAq,bAq,bAq]at h;obtain⟨⟨⟨⟨⟨⟨h1,h2⟩,h3⟩,h4⟩,h5⟩,h6⟩,h7⟩:=h;rw[bAq,beq_iff_eq]at h1;obtain⟨h1,rfl⟩:=h1;have hk:=eq_of_beq h4;obtain⟨t1,t2⟩:=KN (c:=c.blk (scp x) (Yh (kid x 1)) caps) p (kid x 1);obtain⟨a1,a2⟩:=eI it X c (kid x 2) (toP p (c.blk (scp x) (Yh (kid x 1)) caps) (kid x 1)) g (!ZC p) t1 t2 h5;exact Wq g h2 h3 hk h1 a1 a2 (g.pt h2 h3 hk h1 _)
  (fun cl C s H ex=>pe0 (eE e _ _ _ (g.blk h3 hk cl C s H ex) h6)) (fun cl C s H ex=>HH fun z=>(eT t _ _ _ (g.blk h3 hk cl C s H ex) (by rw[z]at h7;exact h7)).1)
noncomputable def dS:Stmt:=.Pass ⟨0,0,0,0⟩
noncomputable def stE:Stmt→List Expr
 |.Assign ts v _=>v::ts
 |.AugAssign t _ v _=>[v,t]
 |.For t it _ _ _=>[t,it]
 |.While t _ _ _=>[t]
 |.If t _ _ _=>[t]
 |.Expr e _=>[e]
 |.Return (some e) _=>[e]
 |.Raise (some e) _ _=>[e]
 |_=>[]
noncomputable def ke (s:Stmt) (j:Nat):Expr:=(stE s).getD j dE
noncomputable def stB:Stmt→List Stmt
 |.For _ _ b _ _=>b
 |.While _ b _ _=>b
 |.If _ b _ _=>b
 |.Try b _ _ _ _=>b
 |_=>[]
noncomputable def stO:Stmt→List Stmt
 |.If _ _ b _=>b
 |_=>[]
noncomputable def stH:Stmt→List ExceptHandler
 |.Try _ hs _ _ _=>hs
 |_=>[]
noncomputable def dH:ExceptHandler:=.ExceptHandler none none [] ⟨0,0,0,0⟩
noncomputable def hT:ExceptHandler→Expr
 |.ExceptHandler (some e) _ _ _=>e
 |_=>dE
noncomputable def hB:ExceptHandler→List Stmt
 |.ExceptHandler _ _ b _=>b
noncomputable def hP:ExceptHandler→Pos
 |.ExceptHandler _ _ _ p=>p
noncomputable def Md.hot (c:Md):Md:={c with cm:=false}
noncomputable def IX (t:Option Nat) (e:Own.E) (c:Md) (y:Stmt):Stmt:=match t with
 |none=>.Expr (toX e c (ke y 0)) y.pos
 |some j=>.Assign [.Name (c.nmOf j) (ke y 1).pos] (toX e c (ke y 0)) y.pos
mutual
noncomputable def toS:Own.S→Md→Stmt→Stmt
 |.set p a,c,s=>.Assign [toP p c (ke s 1)] (toX a c (ke s 0)) s.pos
 |.setIdx a j e,c,s=>.Assign [.Subscript (toX a c (kid (ke s 1) 0)) (toX j c (kid (ke s 1) 1)) (ke s 1).pos] (toX e c (ke s 0)) s.pos
 |.setPair a i b j e,c,s=>.Assign [.Tuple [.Subscript (toX a c (kid (kid (ke s 1) 0) 0)) (toX i c (kid (kid (ke s 1) 0) 1)) (kid (ke s 1) 0).pos,.Subscript (toX b c (kid (kid (ke s 1) 1) 0)) (toX j c (kid (kid (ke s 1) 1) 1)) (kid (ke s 1) 1).pos] (num (ke s 1)) (ke s 1).pos] (toX e c (ke s 0)) s.pos
 |.setFld o f e,c,s=>.Assign [.Attribute (toX o c (kid (ke s 1) 0)) (Str.ofString f) (ke s 1).pos] (toX e c (ke s 0)) s.pos
 |.augVar j op e,c,s=>.AugAssign (.Name (c.nmOf j) (ke s 1).pos) (Oy op) (toX e c (ke s 0)) s.pos
 |.augFld o f op n,c,s=>.AugAssign (.Attribute (toX o c (kid (ke s 1) 0)) (Str.ofString f) (ke s 1).pos) (Oy op) (.Constant (.int n) (num (ke s 0)) (ke s 0).pos) s.pos
 |.augIdx a j op n,c,s=>.AugAssign (.Subscript (toX a c (kid (ke s 1) 0)) (toX j c (kid (ke s 1) 1)) (ke s 1).pos) (Oy op) (.Constant (.int n) (num (ke s 0)) (ke s 0).pos) s.pos
 |.expr e,c,s=>.Expr (toX e c (ke s 0)) s.pos
 |.ret e,c,s=>.Return (some (toX e c (ke s 0))) s.pos
 |.retN,_,s=>.Return none s.pos
 |.ite t a b,c,s=>.If (toT t c (ke s 0)) (toSs a c (stB s)) (toSs b c (stO s)) s.pos
 |.whl t b,c,s=>.While (toT t c (ke s 0)) (toSs b c (stB s)) [] s.pos
 |.for p it b,c,s=>.For (toP p c (ke s 0)) (toI it c (ke s 1)) (toSs b c (stB s)) [] s.pos
 |.forI true p e b,c,s=>.For (toP p c (ke s 0)) (toX e c (ke s 1)) (toSs b c (stB s)) [] s.pos
 |.forI false p e b,c,s=>.For (toP p c (ke s 0)) (.Call (.Attribute (toX e c (kid (kid (ke s 1) 0) 0)) "items" (kid (ke s 1) 0).pos) [] [] (ke s 1).pos) (toSs b c (stB s)) [] s.pos
 |.brk,_,s=>.Break s.pos
 |.cnt,_,s=>.Continue s.pos
 |.pass,_,s=>.Pass s.pos
 |.raise C as,c,s=>.Raise (some (.Call (.Name (Str.ofString C) (kid (ke s 0) 0).pos) (toA as c (sub (ke s 0)).tail) [] (ke s 0).pos)) none s.pos
 |.try t e hs,c,s=>.Try [IX t e c ((stB s).headD dS)] (toH hs c (stH s)) [] [] s.pos
 |_,_,s=>s
noncomputable def toH:Own.Hn→Md→List ExceptHandler→List ExceptHandler
 |.nil,_,_=>[]
 |.cons K nm b r,c,xs=>.ExceptHandler (some (.Name (Str.ofString K) (hT (xs.headD dH)).pos)) (nm.map c.nmOf) (toSs b c.hot (hB (xs.headD dH))) (hP (xs.headD dH))::toH r c xs.tail
noncomputable def toSs:Own.Ss→Md→List Stmt→List Stmt
 |.nil,_,_=>[]
 |.cons m ms,c,xs=>toS m c (xs.headD dS)::toSs ms c xs.tail
end
noncomputable def Kb (c:Md) (j:Nat):Bool:=decide (j<c.N.length)&&c.loc (c.nmOf j)
noncomputable def okP (p:Own.Pt) (c:Md):Bool:=match p with
 |.one j=>Kb c j
 |.many js=>js.all (Kb c)
 |.nest j js=>Kb c j&&js.all (Kb c)
noncomputable def UF:Own.E→Bool
 |.tup _=>true
 |.key _=>true
 |_=>false
noncomputable def Mh:Own.E→Bool
 |.comp _ _ _ _ _ _=>true
 |_=>false
noncomputable def swT (c:Md) (tg v:Expr):Bool:=match v,tg with
 |.ListComp _ _ s pos,.Name t p=>(if c.sc.kind.isAnnotationScope then ScopeKind.function else c.sc.kind) == .function&&c.sc.names.lookup t==some .local&&p.line==pos.line && !(s.names.any fun(n,k)=>n==t&&(k == .local||k == .cell))
 |_,_=>false
noncomputable def IV (c:Md) (j:Nat):Bool:=decide (j<c.N.length)&&c.sc.names.lookup (c.nmOf j)==some .local
noncomputable def Ln (c:Md):Option Nat→Bool
 |none=>true
 |some j=>IV c j
noncomputable def Hq:Own.Ss→Bool
 |.nil=>false
 |_=>true
noncomputable def FU:Own.Hn→Bool
 |.nil=>true
 |_=>false
mutual
noncomputable def okS:Own.S→Md→Stmt→Bool
 |.set p a,c,s=>okP p c&&okE a c (ke s 0)&&(ZC p || !UF a)&&(ZC p||c.cm)
 |.setIdx a j e,c,s=>okE e c (ke s 0)&&okE a c (kid (ke s 1) 0)&&okE j c (kid (ke s 1) 1)
 |.expr e,c,s=>okE e c (ke s 0) && !Mh e
 |.ret e,c,s=>okE e c (ke s 0)
 |.ite t a b,c,s=>okT t c (ke s 0)&&okSs a c (stB s)&&okSs b c (stO s)
 |.for p it b,c,s=>okP p c&&okI it c (ke s 1) (!ZC p)&&okSs b c (stB s)&&c.cm
 |.never,_,_=>true
 |_,_,_=>false
noncomputable def okH:Own.Hn→Md→List ExceptHandler→Bool
 |.nil,_,_=>false
 |.cons K nm b r,c,xs=>(c.xs.contains K||K == "ShutError")&&c.gn K && !c.xs.isEmpty&&Ln c nm&&Hq b&&okSs b c.hot (hB (xs.headD dH))&&FU r
noncomputable def okSs:Own.Ss→Md→List Stmt→Bool
 |.nil,_,_=>true
 |.cons m ms,c,xs=>okS m c (xs.headD dS)&&okSs ms c xs.tail
end
structure Gs (X:Cx) (i:Inf) (P:Own.Pg) (n:Nat) (c:Md):Prop extends Gd X i P n c where
 fn:∀ x,c.loc x=true→X.fn x=true∨X.env.scope.names.lookup x=some .local
 own:c.cm=true→PassesOwn (model X.prog X.w) X.A X.env X.xe
 stk:c.cm=true→X.stack=X.env::X.outer
variable {X:Cx}{i:Inf}{P:Own.Pg}{n:Nat}{c:Md}
theorem Gs.nm1(g:Gs X i P n c){j:Nat}(h:Kb c j=true):X.N[j]?=some (c.nmOf j)∧L2.Loc X.env.scope (c.nmOf j)∧(X.fn (c.nmOf j)=true∨X.env.scope.names.lookup (c.nmOf j)=some .local):=by unfold Kb at h;rw[bAq,decide_eq_true_eq]at h;exact⟨OM g.N h.1,g.loc h.2,g.fn _ h.2⟩
theorem HA(g:Gs X i P n c){p:Own.Pt}(h:okP p c=true):CI (UQ X c) p:=by
 cases p with
 |one j=>exact g.nm1 h
 |many js=>exact fun j hj=>g.nm1 (List.all_eq_true.mp h j hj)
 |nest j js =>have h:(Kb c j&&js.all (Kb c))=true:=h;rw[bAq]at h;exact⟨g.nm1 h.1,fun k hk=>g.nm1 (List.all_eq_true.mp h.2 k hk)⟩
theorem CA(g:Gs X i P n c)(hcm:c.cm=true){p:Own.Pt}{x:Expr}(h:okP p c=true):PG X (toP p c x) (gPt i p):=B9 g.K (by rw[g.N];exact g.nd) (g.calm hcm) (HA g h)
theorem WQ{l:Nat}{env:Env}{tg:Expr}(a:Own.E)(x:Expr)(hs:env.scope=c.sc):swapsWith (toX a c x) (some tg) l env=pure (swT c tg (toX a c x)):=by
 cases a with
 |comp caps m p it t e =>
  cases tg with
  |Name t q =>unfold swapsWith swT Env.blockKind Env.kindOf;rw[hs];rfl
  |_=>rfl
 |_=>rfl
theorem CY(p:Own.Pt)(a:Own.E)(x y:Expr)(env:Env)(h:(ZC p || !UF a)=true):swappedStores [toP p c x] (toX a c y) env=pure none:=by
 cases p with
 |one j=>cases a<;>rfl
 |many js=>cases a<;>first|rfl|cases h
 |nest j js=>cases a<;>first|rfl|cases h
theorem UM(p:Own.Pt)(x:Expr)(env:Env):(assignEach [toP p c x] env).map (·.2)=[assign (toP p c x) env]:=by cases p<;>rfl
theorem DQ{a:Own.E}{tg x:Expr}(h:swT c tg (toX a c x)=true):∃ caps m p it t e,a=.comp caps m p it t e:=by
 cases a with
 |comp caps m p it t e=>exact⟨_,_,_,_,_,_,rfl⟩
 |_=>cases h
theorem Bb(y:Own.E){x b:Expr}{pos:Pos}{env:Env}:∀ v,assign (.Subscript b (toX y c x) pos) env v=(do
    let ov←holding [v] (eval b env)
    let iv←holding [v,ov] (eval (toX y c x) env)
    standAt pos
    holding [v,ov,iv] (setItem ov iv v)
    release [v,ov,iv] []):=by
 intro v;cases y<;>rfl
theorem PGet.or{r r':R2}(h:PGet X r)(h':PGet X r'):PGet X (fun x y H Q=>r x y H Q∨r' x y H Q):=fun pins s σ H o j ov jv Q I ro rj q=>by
 rcases q with q|q
 ·exact h pins s σ H o j ov jv Q I ro rj q
 ·exact h' pins s σ H o j ov jv Q I ro rj q
theorem AQ(t v:Expr)(p:Pos)(env:Env)(h:(∃ a b q,t=.Subscript a b q)∨(∃ a b q,t=.Attribute a b q)):swappedStores [t] v env=pure none:=by rcases h with⟨a,b,q,rfl⟩|⟨a,b,q,rfl⟩<;>rfl
theorem BO{a:Own.E}{x:Expr}{t:Option Expr}{l:Nat}{env:Env}(h:(!Mh a)=true):swapsWith (toX a c x) t l env=pure false:=by
 cases a with
 |comp caps m p it tt e=>cases h
 |_=>rfl
theorem Ez{a:Own.E}{tg x:Expr}(h:∀ y q,tg≠.Name y q):swT c tg (toX a c x)=false:=by
 cases a with
 |comp caps m p it tt e =>
  cases tg with
  |Name y q=>exact absurd rfl (h y q)
  |_=>rfl
 |_=>rfl
theorem Dz(g:Gs X i P n c){p:Own.Pt}{x:Expr}(hc:(ZC p||c.cm)=true)(h:okP p c=true):PG X (toP p c x) (gPt i p):=by
 by_cases hcm:c.cm=true
 ·exact CA g hcm h
 ·cases p with
  |one j =>obtain⟨h1,h2,h3⟩:=g.nm1 h;exact K5 (by rw[g.N];exact g.nd) h1 h2 h3
  |many js=>exact absurd hc hcm
  |nest j js=>exact absurd hc hcm
theorem Gd.nox(g:Gd X i P n c):Gd X.nox i P n c :=
 ⟨g.K,g.N,g.sc,g.nd,g.un,g.calm,g.room,g.bl,g.dfs,g.cst,⟨g.kl.A,g.kl.F,g.kl.mkc,g.kl.mth⟩,fun h=>⟨(g.xl h).xc,(g.xl h).rs,(g.xl h).kn⟩⟩
theorem Gs.hot(g:Gs X i P n c)(a:Addr):Gs (X.caught a) i P n c.hot :=
 {K:=g.K,N:=g.N,sc:=g.sc,nd:=g.nd,un:=g.un,calm:=fun z=>(by cases z),room:=fun z=>(by cases z),bl:=g.bl,dfs:=g.dfs,cst:=g.cst,kl:=⟨g.kl.A,g.kl.F,g.kl.mkc,g.kl.mth⟩,xl:=fun h=>⟨(g.xl h).xc,(g.xl h).rs,(g.xl h).kn⟩,fn:=g.fn,own:=fun z=>(by cases z),stk:=fun z=>(by cases z)}
mutual
theorem sS:∀ (m:Own.S) (X:Cx) (c:Md) (s:Stmt),Gs X i P n c→okS m c s=true→PS X (toS m c s) (tSt X i (Own.wF P n) m)
 |.set p a,X,c,s,g,h=>by
  have h:(okP p c&&okE a c (ke s 0)&&(ZC p || !UF a)&&(ZC p||c.cm))=true:=h;rw[bAq,bAq,bAq]at h;obtain⟨⟨⟨h1,h2⟩,h3⟩,h4⟩:=h;by_cases hsw:swT c (toP p c (ke s 1)) (toX a c (ke s 0))=true
  ·obtain⟨caps,k,pt,it,tt,e,rfl⟩:=DQ hsw;cases p with
   |one j =>obtain⟨q1,q2,q3⟩:=g.nm1 h1;exact(NN g.toGd h2).2 _ _ _ j q1 q2 q3 (by rw[←hsw];exact WQ (c:=c) (.comp caps k pt it tt e) (ke s 0) g.sc)
   |many js=>cases hsw
   |nest j js=>cases hsw
  ·have hp:PG X (toP p c (ke s 1)) (gPt i p):=Dz g h4 h1;exact CT (eE a X c _ g.toGd h2) hp (by rw[swapsWithSole,WQ a _ g.sc,Bool.eq_false_iff.mpr hsw]) (CY p a _ _ _ h3) (UM p _ _)
 |.setIdx a j e,X,c,s,g,h=>by have h:(okE e c (ke s 0)&&okE a c (kid (ke s 1) 0)&&okE j c (kid (ke s 1) 1))=true:=h;rw[bAq,bAq]at h;have ha:=eE a X c _ g.toGd h.1.2;have hj:=eE j X c _ g.toGd h.2;exact NB g.K (eE e X c _ g.toGd h.1.1) ha hj (Fq ha hj (PSet.or OS (OZ (by have:=g.un;omega))) (Bb j)) (by rw[swapsWithSole,WQ e _ g.sc,Ez (fun y q z=>(by cases z))]) (AQ _ _ (ke s 1).pos _ (.inl ⟨_,_,_,rfl⟩)) rfl
 |.setPair a j b k e,X,c,s,g,h=>nomatch h
 |.setFld o f e,X,c,s,g,h=>nomatch h
 |.augVar j op e,X,c,s,g,h=>nomatch h
 |.augFld o f op k,X,c,s,g,h=>nomatch h
 |.expr e,X,c,s,g,h=>by have h:(okE e c (ke s 0) && !Mh e)=true:=h;rw[bAq]at h;exact AM (eE e X c _ g.toGd h.1) (BO h.2)
 |.ret e,X,c,s,g,h=>E2 (eE e X c _ g.toGd h)
 |.retN,X,c,s,g,h=>nomatch h
 |.ite t a b,X,c,s,g,h=>by have h:(okT t c (ke s 0)&&okSs a c (stB s)&&okSs b c (stO s))=true:=h;rw[bAq,bAq]at h;exact Dl (eT t X c _ g.toGd h.1.1).1 (sSs a X c _ g h.1.2) (sSs b X c _ g h.2)
 |.whl t b,X,c,s,g,h=>nomatch h
 |.for p it b,X,c,s,g,h=>by have h:(okP p c&&okI it c (ke s 1) (!ZC p)&&okSs b c (stB s)&&c.cm)=true:=h;rw[bAq,bAq,bAq]at h;obtain⟨⟨⟨h1,h2⟩,h3⟩,h4⟩:=h;obtain⟨t1,t2⟩:=KN (c:=c) p (ke s 0);obtain⟨a1,a2⟩:=eI it X c (ke s 1) (toP p c (ke s 0)) g.toGd (!ZC p) t1 t2 h2;exact E3 (g.own h4) (g.calm h4) a1 (CA g h4 h1) (sSs b X c _ g h3) a2
 |.forI true p e b,X,c,s,g,h=>nomatch h
 |.forI false p e b,X,c,s,g,h=>nomatch h
 |.never,X,c,s,g,h=>Ul
 |.brk,X,c,s,g,h=>nomatch h
 |.cnt,X,c,s,g,h=>nomatch h
 |.pass,X,c,s,g,h=>nomatch h
 |.raise C as,X,c,s,g,h=>nomatch h
 |.try t e (.cons K nm b .nil),X,c,s,g,h=>nomatch h
 |.try t e (.cons K nm b (.cons _ _ _ _)),X,c,s,g,h=>nomatch h
 |.try t e .nil,X,c,s,g,h=>nomatch h
 |.augIdx a j op k,X,c,s,g,h=>nomatch h
theorem sSs:∀ (ms:Own.Ss) (X:Cx) (c:Md) (xs:List Stmt),Gs X i P n c→okSs ms c xs=true→PSs X (toSs ms c xs) (tBl X i (Own.wF P n) ms)
 |.nil,X,c,xs,g,h=>Du
 |.cons m ms,X,c,xs,g,h=>by have h:(okS m c (xs.headD dS)&&okSs ms c xs.tail)=true:=h;rw[bAq]at h;exact AI (sS m X c _ g h.1) (sSs ms X c _ g h.2)
end
noncomputable def KQ (N ps:List Str) (sc:Scope):Bool :=
 sc.kind == .function && !sc.isCoroutine && !sc.isGenerator&&decide N.Nodup&&(N.take ps.length==ps)&&ps.all (fun x=>sc.names.lookup x==some .local||sc.names.lookup x==some .cell)&&sc.names.all fun y=>y.2 != .free
theorem HI{N ps:List Str}{sc:Scope}(h:KQ N ps sc=true):FnScope N ps sc:=by
 simp only[KQ,bAq,Bool.not_eq_true',decide_eq_true_eq,List.all_eq_true]at h;obtain⟨⟨⟨⟨⟨⟨h1,h2⟩,h3⟩,h4⟩,h5⟩,h6⟩,h7⟩:=h;refine⟨eq_of_beq h1,h2,h3,h4,eq_of_beq h5,fun x hx=>?_,fun y hy=>?_⟩
 ·simpa using h6 x hx
 ·simpa using h7 y hy
structure Ds where
 st:Stmt
 N:List Str
 ps:List Str
 d:Own.Fn
structure Mt where
 C:String
 m:String
 qual:String
 x:Ds
structure Tb where
 fs:List (String×Ds)
 ms:List Mt
 cs:List (String×Own.Val)
 cl:List String
 fl:List String
 xs:List String
noncomputable def Tb.md (T:Tb) (x:Ds):Md:={N:=x.N,sc:=Zn x.st,cs:=T.cs,fs:=T.fs.map (·.1),cm:=true,cl:=T.cl,ms:=T.ms.map fun y=>(y.C,y.m),fl:=T.fl,xs:=T.xs}
noncomputable def Ds.test (T:Tb) (x:Ds):Bool :=
 KQ x.N x.ps (Zn x.st)&&okSs x.d.body (T.md x) (ZH x.st)&&x.ps.length==x.d.ar&&x.N.length==x.d.sz&&decide (x.d.ar≤x.d.sz)
structure Ds.Ok (T:Tb) (x:Ds):Prop where
 ok:x.test T=true
 eq:toSs x.d.body (T.md x) (ZH x.st)=ZH x.st
variable {pr:Program}{wd:World}{mg:Str→Option Value}{base:Heap}{i:Inf}{P:Own.Pg}{T:Tb}
def Dst (K:PySem.W.Frag) (mg:Str→Option Value) (f:String) (x:Ds):Prop:=∃ fa fd qual,Fun K (Str.ofString f) qual x.st fa fd∧mg (Str.ofString f)=some (.ref fa)∧Binds K fd x.ps []
structure Mst (i:Inf) (mg:Str→Option Value) (y:Mt) (a fa:Addr):Prop where
 cl:mg (Str.ofString y.C)=some (.ref a)
 fn:∃ fd,Fun i.K (Str.ofString y.m) (Str.ofString y.qual) y.x.st fa fd∧Binds i.K fd y.x.ps []
 at_:Meth i.K a (Str.ofString y.m) fa
theorem Mi{f:String}{fa:Addr}{fd:FuncData}{ps:List Str}:FnOk pr wd i.K mg base (CX1 pr wd) 0 fa fd ps (spF i P 0 f):=by
 refine⟨fun vs H Q E h=>?_,fun A outer s H args us vs Q E hr he hb hv h=>?_⟩
 ·obtain⟨_,_,_,_,_,_,w,_⟩:=h;rw[Own.wF_eq]at w;exact w.elim
 ·obtain⟨_,_,_,_,_,_,w,_⟩:=h;rw[Own.wF_eq]at w;exact w.elim
theorem UR{n:Nat}{f:String}{vs:List Own.Val}{h:Own.Hs}{Q:Own.Q1}{E:Own.XQ}(q:Own.wF P (n+1) f vs h Q E):∃ d,P f=some d∧vs.length=d.ar∧Own.wSs (Own.wF P n) d.body (d.env vs) h (fun _ g=>Q .non g) Q (fun _ _=>False) (fun _ _=>False) fun _ c g=>E c g:=by rw[Own.wF_eq]at q;obtain⟨d,e,q1,q2⟩:=go_some q;exact⟨d,e,q1,by rw[Own.wF_eq];exact q2⟩
structure Modu (mg:Str→Option Value) (base:Heap) (i:Inf) (T:Tb):Prop where
 bl:∀ x∈blts,mg x=none
 cst:∀ x v,T.cs.lookup x=some v→∃ u y,mg (Str.ofString x)=some u∧RelV y u∧∀ H,RV i.K H v y
 A:ClsA i
 F:∀ f,T.fl.contains f=true→FldOk i f
 cl:∀ C a,i.cl C a→mg (Str.ofString C)=some (.ref a)
 mkc:∀ C,T.cl.contains C=true→∃ a y f,i.ins C=true∧i.cl C a∧Mk i.K a f∧y∈T.ms∧y.C=C∧y.m = "__init__"∧Mst i mg y a f
 fs:∀ f x,(f,x)∈T.fs→Dst i.K mg f x
 ms:∀ y,y∈T.ms→∃ a f,Mst i mg y a f∧Cls i.K a
 xc:T.xs≠[]→∀ C a,i.xc C a→XCls i.K a∧PySem.W.kitOne i.K (.ref a) (.type "ValueError")=some true
 rs:T.xs≠[]→∀ C,T.xs.contains C=true→∃ a,i.xc C a∧PyProof.Rows.OwnCls (Str.ofString C) a [.type "ValueError",.type "Exception",.type "BaseException",.type "object"] "ValueError.__new__" mg base
 kn:T.xs≠[]→∀ T',(T.xs.contains T'||T' == "ShutError")=true→∃ D,mg (Str.ofString T')=some (.ref D)∧∀ C a,i.xc C a→PySem.W.kitOne i.K (.ref a) (.ref D)=some (Own.excSub C T')∧(Own.excSub C T'=true→PySem.W.exmOne i.K (.ref a) (.ref D)=some true)
structure Held (pr:Program) (wd:World) (mg:Str→Option Value) (base:Heap) (i:Inf) (P:Own.Pg) (T:Tb) (n:Nat):Prop where
 fs:∀ f x,(f,x)∈T.fs→Dfo pr wd mg base i P n f
 ms:∀ y a f,y∈T.ms→Mst i mg y a f→Dfm pr wd mg base i P n (y.C ++ "." ++ y.m) f
theorem fn_succ{n:Nat}{f:String}{x:Ds}{fa:Addr}{fd:FuncData}{nm qual:Str}(M:Modu mg base i T)(hn:Held pr wd mg base i P T n)(F:Fun i.K nm qual x.st fa fd)(hP:P f=some x.d)(ht:x.Ok T):FnOk pr wd i.K mg base (CX1 pr wd) (2*(n+1)) fa fd x.ps (spF i P (n+1) f):=by
 obtain⟨ht,heq⟩:=ht;simp only[Ds.test,bAq,decide_eq_true_eq]at ht;obtain⟨⟨⟨⟨h1,h2⟩,h3⟩,h4⟩,h5⟩:=ht;have h3:=eq_of_beq h3;have h4:=eq_of_beq h4;have S:=HI h1;refine F.ok1 (k:=2*n+1) S (fun vs H Q E h=>?_) (fun cdv A outer s H vs Q E hr hsp hw=>?_)
 ·obtain⟨args,G,Qm,Em,r,g,w,_⟩:=h;obtain⟨d,e,q,_⟩:=UR w;rw[hP]at e;cases e;rw[←r.length,q,h3]
 ·obtain⟨args,G,Qm,Em,r,g,w,cn,ex⟩:=hsp;obtain⟨d,e,q,w⟩:=UR w;rw[hP]at e;cases e;have gd:Gs (We (CX1 pr wd) pr wd i.K mg base x.N qual (Zn x.st) fa cdv A outer s H E) i P n (T.md x) :=
   { K:=rfl,N:=rfl,sc:=rfl,nd:=S.nd,un:=(by have:=hr.un;show(A.deeper _).units+200<cLine;omega),calm:=fun _=>rfl,room:=fun _=>hr,bl:=M.bl
     dfs:=fun g hg=>(by
       obtain⟨p,hy,e⟩:=qZ.mp (List.contains_iff_mem.mp hg)
       subst e
       exact hn.fs p.1 p.2 hy)
     cst:=M.cst
     kl:=⟨M.A,M.F,fun C hC=>(by
       obtain⟨a,y,f,q1,q2,q3,q4,rfl,q6,q7⟩:=M.mkc C hC
       refine⟨a,f,q1,q2,q3,M.cl _ _ q2,?_⟩
       have:=hn.ms y a f q4 q7
       rw[q6]at this
       rwa [show y.C ++ ".__init__" = y.C ++ "." ++ "__init__" by rw[String.append_assoc];rfl]),fun C m hC=>(by
       obtain⟨y,hy,e⟩:=qZ.mp (List.contains_iff_mem.mp hC)
       cases e
       obtain⟨a,f,q1,q2⟩:=M.ms y hy
       refine⟨a,f,fun b hb=>?_,q2,q1.at_,hn.ms y a f hy q1⟩
       have e1:=M.cl _ _ hb
       rw[q1.cl]at e1
       cases e1
       rfl)⟩
     xl:=fun h=>⟨M.xc h,M.rs h,M.kn h⟩
     fn:=fun _ _=>.inl rfl
     own:=fun _=>PassesOwn.leaving
     stk:=fun _=>rfl }
  have hb:=sSs x.d.body _ _ _ gd h2;rw[heq]at hb;refine⟨_,hb,?_⟩;refine⟨x.d.env args,G,(fun _ g=>Qm .non g),Qm,(fun _ _=>False),(fun _ _=>False),(fun _ c g=>Em c g),?_,w,?_⟩
  ·refine⟨?_,g,?_⟩
   ·have:=REn.start (n:=x.d.sz - x.d.ar) r;unfold L2.start;have e1:x.N.length - vs.length=x.d.sz - x.d.ar:=by rw[h4,←r.length,q]
    rw[e1];exact this
   ·intro pins σ H0 s0 H' a cls s' I fl hx;obtain⟨e,c,G',ad,q1,q2,q3,q4,q5⟩:=hx;exact hw pins σ H0 s0 H' a cls s' I fl (ex _ _ _ ⟨c,G',ad,q1,q2,q3,q4,q5⟩)
  ·refine⟨?_,?_,?_,?_⟩
   ·intro env' σ' G' H' k g' e w';exact cn .non G' H' .non k g' .non w'
   ·intro v G' H' y k g' rv w';exact cn v G' H' y k g' rv w'
   ·intro _ _ _ _ _ _ _ z;exact z.elim
   ·intro _ _ _ _ _ _ _ z;exact z.elim
theorem held_all (M:Modu mg base i T) (hP:∀ f x,(f,x)∈T.fs→P f=some x.d) (hPm:∀ y,y∈T.ms→P (y.C ++ "." ++ y.m)=some y.x.d) (ht:∀ f x,(f,x)∈T.fs→x.Ok T) (htm:∀ y,y∈T.ms→y.x.Ok T):∀ n,Held pr wd mg base i P T n:=by
 intro n;induction n with
 |zero =>
  refine⟨fun f x h=>?_,fun y a f hy S=>?_⟩
  ·obtain⟨fa,fd,qual,F,hm,hb⟩:=M.fs f x h;exact⟨fa,fd,x.ps,Mi,hm,F.kp,hb⟩
  ·obtain⟨fd,F,hb⟩:=S.fn;exact⟨fd,y.x.ps,Mi,hb⟩
 |succ n ih =>
  refine⟨fun f x h=>?_,fun y a f hy S=>?_⟩
  ·obtain⟨fa,fd,qual,F,hm,hb⟩:=M.fs f x h;exact⟨fa,fd,x.ps,fn_succ M ih F (hP f x h) (ht f x h),hm,F.kp,hb⟩
  ·obtain⟨fd,F,hb⟩:=S.fn;exact⟨fd,y.x.ps,fn_succ M ih F (hPm y hy) (htm y hy),hb⟩
end Snd
namespace Hd
open PySem PySem.W PyProof.Rows
noncomputable def Xx (st:SharedT→Thread→Option (SharedT×Thread)) (ok th:Thread→Bool):Nat→SharedT→Thread→Option SharedT
 |0,_,_=>none
 |n+1,s,t=>match th t with
  |true=>some s
  |false=>match ok t with
   |false=>none
   |true=>match st s t with
    |some (s',t')=>Xx st ok th n s' t'
    |none=>none
theorem XT{tb:String→Option Builtin}{p:Program}{w:World}{n₀:Nat}{ann:Option Value}:∀ {n:Nat}{s s':SharedT}{t:Thread},Xx (stepT (denote tb) p w) (stepOk n₀ ann) through n s t=some s'→topRun tb p w n₀ ann n s.abs t=some s'.abs
 |0,_,_,_,h=>by cases h
 |n+1,s,s',t,h=>by
  unfold Xx at h;unfold topRun;cases ht:through t with
  |true=>rw[ht]at h;cases h;rfl
  |false =>
   rw[ht]at h;dsimp only at h ⊢;cases hk:stepOk n₀ ann t with
   |false=>rw[hk]at h;cases h
   |true =>
    rw[hk]at h;dsimp only at h ⊢;cases hs:stepT (denote tb) p w s t with
    |none=>rw[hs]at h;cases h
    |some r =>obtain⟨s2,t2⟩:=r;rw[hs]at h;rw[stepT_spec hs];exact XT h
noncomputable def XY (P:Params):BT :=
 .node (boot_o_0 P) (.node (boot_o_1 P) (.node (boot_o_3 P) (.node (boot_o_7 P) .nil .nil) .nil) (.node (boot_o_5 P) (.node (boot_o_9 P) .nil .nil) .nil))
  (.node (boot_o_2 P) (.node (boot_o_4 P) (.node (boot_o_8 P) .nil .nil) .nil) (.node (boot_o_6 P) (.node (boot_o_10 P) .nil .nil) .nil))
theorem OF(P:Params):absHeap (XY P) 11 {}=boot_heap P:=by kernel_rfl
theorem No (P:Params):((boot_heap P).isNs mainGlobals&&(Array.mk []:Array GenState).size==0,(boot_heap P).objs.size,(boot_heap P).nsMap mainGlobals "__annotations__")=(true,11,some (.ref 6)):=by
 rw[show @Heap.nsMap=_ from Fast.te8920871248978507458]
 kernel_rfl
noncomputable def Cy:=Fast.tw10156331382660048174
noncomputable def Mn:=Fast.tw11892475500146522536
noncomputable def U0:=Fast.tw14364793385576792824
noncomputable def okY:=Fast.tw6613529449190102663
noncomputable def Ck:=Fast.tw4187177175401517315
noncomputable def OK:=Fast.tw5923862056798008813
noncomputable def MB {α:Type}(p q:Program) (loose:List Str) (Xt:Shared→Bool) (Yf:Shared→α) (h0:Heap) (s:SharedT) :=
 ((staticsOk (OK p.main.body) h0 s.abs.heap&&namesBound p s.abs.heap&&gensDone s.abs&&laidKept h0 s.abs.heap),Ck q loose (OK p.main.body) Xt true s.abs,Yf s.abs)
theorem left_of{p q:Program}{loose:List Str}{Xt:Shared→Bool}{α:Type}{Yf:Shared→α}{Ya:World→α}{N:Nat}(e:opening p=plainProg p.main.scope.names)(hN:Nat.ble 600 N=true)(f:∀ s,fenceModules? p s=some s)
  (one:∀ (w:World) (os:OsState),(Xx (Cy (Mn U0) p w) (okY 11 (some (.ref 6))) through N ⟨XY w.params,11,{},Array.mk [],boot_drawn,boot_toks,os⟩ (topStub p)).map (MB p q loose Xt Yf (boot_heap w.params))=some (true,openGood q loose,Ya w)) :
  LeftO p q loose Xt Yf Ya N:=by
 intro w;obtain⟨⟨h,gs,d,k,os⟩,e1,e2⟩:=qD.mp (boot_open e hN f w);obtain⟨rfl,rfl,rfl,rfl⟩:h=boot_heap w.params∧gs=Array.mk []∧d=boot_drawn∧k=boot_toks:=by simpa using e2
 obtain⟨s,r,z⟩:=qD.mp (one w os);obtain⟨z1,z2,z3⟩:_∧_∧_:=by simpa only[Prod.mk.injEq]using No w.params
 obtain⟨l1,l2,l3⟩:_∧_∧_:=by simpa only[MB,Prod.mk.injEq]using z
 unfold Cy Mn U0 okY at r;rw[←Fast.te10156331382660048174,←Fast.te11892475500146522536,←Fast.te14364793385576792824,←Fast.te6613529449190102663]at r;unfold OK at l1 l2;unfold Ck at l2;rw[←Fast.te5923862056798008813]at l1 l2;rw[←Fast.te4187177175401517315]at l2;have r2:=XT r;have ea:(SharedT.mk (XY w.params) 11 {} (Array.mk []) boot_drawn boot_toks os).abs=⟨boot_heap w.params,Array.mk [],boot_drawn,boot_toks,os⟩:=by show Shared.mk (absHeap _ _ _) _ _ _ _=_;rw[OF]
 rw[ea]at r2;have t:topFrom treeTable p w N ⟨boot_heap w.params,Array.mk [],boot_drawn,boot_toks,os⟩=some s.abs:=by unfold topFrom;dsimp only;rw[z1,z2,z3,r2];show(match staticsOk (importedModules p.main.body) (boot_heap w.params) s.abs.heap&&namesBound p s.abs.heap&&gensDone s.abs&&laidKept (boot_heap w.params) s.abs.heap with|true=>_|false=>_)=_;rw[l1]
 unfold openEnds;rw[e1];show(topFrom treeTable p w N _).map _=_;rw[t];exact congrArg some (Prod.ext l2 l3)
end Hd
namespace Hd
open PySem PySem.W PyProof.Rows L2
noncomputable def Wm:Nat→List Obj→Frag
 |_,[]=>[]
 |i,o::r=>match o with
  |⟨_,_,.freed,_⟩=>Wm (i+1) r
  |o=>(i,o)::Wm (i+1) r
noncomputable def Zv (g:Heap):Frag:=Wm 0 g.objs.toList
theorem JB:∀ (l:List Obj) (i a:Nat) (o:Obj),(Wm i l).lookup a=some o→i≤a∧l[a - i]?=some o∧(match some o with|some ⟨_,_,.freed,_⟩=>none|o=>o)=some o
 |[],_,_,_,h=>by cases h
 |x::r,i,a,o,h=>by
  have rec1:(Wm (i+1) r).lookup a=some o→i≤a∧(x::r)[a - i]?=some o∧(match some o with|some ⟨_,_,.freed,_⟩=>none|o=>o)=some o:=fun q=>by obtain⟨h1,h2,h3⟩:=JB r (i+1) a o q;refine⟨by omega,?_,h3⟩;rw[show a - i=(a - (i+1))+1 by omega,List.getElem?_cons_succ];exact h2
  unfold Wm at h;split at h
  ·exact rec1 h
  ·rename_i c hne;rw[qO]at h;split at h
   ·rename_i e;cases h;have e:=eq_of_beq e;subst e;refine⟨zG _,by rw[Nat.sub_self];rfl,?_⟩;split
    ·rename_i d1 d2 d3 d4;cases d4;exact(hne _ _ _ rfl).elim
    ·rfl
   ·exact rec1 h
theorem KE{g:Heap}{a:Addr}{o:Obj}(h:(Zv g).lookup a=some o):g.get? a=some o:=by obtain⟨_,h2,h3⟩:=JB _ _ _ _ h;unfold Heap.get?;rw[Nat.sub_zero,Array.getElem?_toList]at h2;rw[h2];exact h3
noncomputable def Ue (K:Frag) (nm:Str):Option (FuncData×Bool×Bool):=match nsIn K mainGlobals nm with
 |some (some (.ref f))=>match K.lookup f with
  |some ⟨_,_,.func fd,_⟩=>some ({fd with kwdefaults:=.none,doc:=.none,pyModule:=.none,annotations:=none,code:=.none,closureTuple:=.none},codeIn K fd.code fd.qualname,keepIn K (.ref f))
  |_=>none
 |_=>none
noncomputable def Uh (nm:Str) (st:Stmt):Option (FuncData×Bool×Bool):=some (fnOf nm nm (Yg st) (ZH st) (Zn st) .none .none .none .none none .none .none,true,true)
theorem E4{K:Frag}{nm:Str}{st:Stmt}(e:Ue K nm=Uh nm st):∃ fa fd,Fun K nm nm st fa fd∧nsIn K mainGlobals nm=some (some (.ref fa)):=by
 unfold Ue at e;split at e
 ·rename_i f hf;split at e
  ·rename_i oc od fd sl hl;simp only[Uh,Option.some.injEq,Prod.mk.injEq]at e;obtain⟨e1,e2,e3⟩:=e;obtain⟨n1,n2,n3,n4,n5,n6,n7,n8,n9,n10,n11,n12,n13,n14,n15⟩:=fd;simp only[fnOf,FuncData.mk.injEq]at e1;obtain⟨rfl,rfl,rfl,rfl,rfl,rfl,rfl,rfl,-,-,-,-,-,-,rfl⟩:=e1;exact⟨f,_,Af hl e2 e3,hf⟩
  ·cases e
 ·cases e
noncomputable def Ch (K:Frag) (y:Str):Bool:=match nsIn K mainGlobals y with
 |some none=>true
 |_=>false
theorem Av{l:OpenLaw}{n k:Nat}{q:Program}{loose:List Str}{XP:(Str→Option Value)→Heap→Prop}{YP:World→Heap→Prop}{d:DefRec}{CX:World→CXT}{x:Str}
  (hn:l.most=some n) (hn2:n≤sizeLine) (hdf:d.params.defaults=[]) (hr:Room k callerA)
  (F:∀ (w:World) (mg:Str→Option Value) (fa:Addr) (h:Heap),YP w h→h.Ns mainGlobals mg→mg d.name=some (.ref fa)→∃ (K:Frag) (sp:Sp),K.In h∧
    (∃ fd:FuncData,(∀ (s:Shared) (u:Value),BindsTo s fd ⟨[u],[]⟩ [(x,u)])∧∀ base:Heap,K.In base→base.Ns mainGlobals mg→FnOk l.prog w K mg base (CX w) k fa fd [x] sp)∧
    ∀ (H:Hp) (a:Addr) (ns:List Int),ns.length≤n→C9 H→SqL K H a (ns.map V.int)→sp [.ref a] H (fun v _=>v=.bl true) fun _ _ _=>False)
  (hCX:∀ (w:World) (H:Hp) (s:Shared) (e:Value) (s':Shared),CX w [] H s (fun _ _ _=>False) e s'→False) :
  WalkO q loose XP YP l.row.toRowW d [] (fun f vs=>PySem.call f vs):=by
 refine Att.attach_call hn hdf fun w s₀ s₁ mg mb fa o pm cd doc a vs ns G Y ho hd hcd hmg hobj hints hlen hg=>?_;obtain⟨K,sp,KX,⟨fd,hb,hF⟩,hsp⟩:=F w mg fa _ Y G.T.g hmg;exact OE KX G.T.g G.T.b G.T.builtins G.T.nolimit hg hobj hints (zE hlen hn2) hr hF hb (fun H hO hS=>hsp H a ns hlen hO hS) fun H e s'=>hCX w H s₁ e s'
noncomputable def Bz (f:Value→Own.Val→Bool):List Value→List Own.Val→Bool
 |[],[]=>true
 |u::us,x::xs=>f u x&&Bz f us xs
 |_,_=>false
noncomputable def Cc (K:Frag):Value→Option (List Value)
 |.ref a=>match K.lookup a with
  |some ⟨.type n,_,.seq us _,_⟩=>if n == "tuple" && decide (us.size≤sizeLine)then some us.toList else none
  |_=>none
 |_=>none
noncomputable def Ax (K:Frag):Nat→Value→Own.Val→Bool
 |0,_,_=>false
 |n+1,u,v=>match v with
  |.non=>(match u with|.none=>true|_=>false)
  |.bl b=>(match u with|.bool a=>a==b|_=>false)
  |.int j=>(match u with|.int i _=>i==j|_=>false)
  |.str t=>(match u with|.str s _=>Fast.sEq s (Str.ofString t)|_=>false)
  |.tup xs=>(match Cc K u with|some us=>Bz (Ax K n) us xs|none=>false)
  |_=>false
theorem Uk{K:Frag}{f:Value→Own.Val→Bool}(hf:∀ u v,f u v=true→∃ z,RelV z u∧∀ H,Snd.RV K H v z):∀ (us:List Value) (xs:List Own.Val),Bz f us xs=true→∃ zs,Vals zs us∧∀ H,Snd.RVs K H xs zs
 |[],[],_=>⟨[],.nil,fun _=>.nil⟩
 |u::us,x::xs,h=>by rw[Bz,bAq]at h;obtain⟨z,r,q⟩:=hf u x h.1;obtain⟨zs,rs,qs⟩:=Uk hf us xs h.2;exact⟨z::zs,.cons r rs,fun H=>.cons (q H) (qs H)⟩
 |[],_::_,h=>by cases h
 |_::_,[],h=>by cases h
theorem OJ{K:Frag}:∀ (n:Nat) (u:Value) (v:Own.Val),Ax K n u v=true→∃ z,RelV z u∧∀ H,Snd.RV K H v z
 |0,_,_,h=>by cases h
 |n+1,u,v,h=>by
  unfold Ax at h;cases v with
  |non =>
   dsimp only at h;split at h
   ·exact⟨.non,rfl,fun _=>.non⟩
   ·cases h
  |bl b =>
   dsimp only at h;split at h
   ·cases eq_of_beq h;exact⟨.bl b,rfl,fun _=>.bl b⟩
   ·cases h
  |int j =>
   dsimp only at h;split at h
   ·cases eq_of_beq h;exact⟨.int j,⟨_,rfl⟩,fun _=>.int j⟩
   ·cases h
  |str t =>
   dsimp only at h;split at h
   ·cases Fast.sEq_iff.mp h;exact⟨.str (Str.ofString t),⟨_,rfl⟩,fun _=>.str t⟩
   ·cases h
  |tup xs =>
   dsimp only at h;split at h
   ·rename_i us hu;obtain⟨zs,rs,qs⟩:=Uk (fun u v=>OJ n u v) us xs h;unfold Cc at hu;split at hu
    ·rename_i a;split at hu
     ·rename_i nm od its k sl hl;split at hu
      ·rename_i hc;rw[bAq,decide_eq_true_eq]at hc;cases eq_of_beq hc.1;cases hu;exact⟨.ref a,rfl,fun H=>.tup (.inr ⟨_,its,k,hl,rfl,rfl,hc.2,rs⟩) (qs H)⟩
      ·cases hu
     ·cases hu
    ·cases hu
   ·cases h
  |ref a=>cases h
  |scr ns=>cases h
  |key i j=>cases h
noncomputable def ON (K:Frag) (p:String×Own.Val):Bool:=match nsIn K mainGlobals (Str.ofString p.1)with
 |some (some u)=>Ax K 4 u p.2
 |_=>false
theorem XE{α β:Type}[BEq α][LawfulBEq α]{a:α}{b:β}:∀ {l:List (α×β)},l.lookup a=some b→(a,b)∈l
 |[],h=>by cases h
 |(x,y)::r,h=>by
  rw[qO]at h;split at h
  ·rename_i e;cases h;cases eq_of_beq e;exact .head _
  ·exact .tail _ (XE h)
theorem DD{K:Frag}{mg:Str→Option Value}{h:Heap}{x:Str}{C:Addr}{bmB:List Value}{id:String}(X:K.In h)(hm:mg x=some (.ref C))(q:excIn K C bmB id=true):PyProof.Rows.OwnCls x C bmB id mg h:=by
 constructor
 ·exact hm
 have z:=q;unfold excIn at z;split at z
 next dd cd sl ho =>
  split at z
  next C1 bm k0 k1 k2 k3 n k5 em es =>
   rw[bAq,bAq,bAq,bAq,bAq]at z;obtain⟨⟨⟨⟨⟨z1,z2⟩,z3⟩,z4⟩,z5⟩,z6⟩:=z;have z1:=eq_of_beq z1;have z2:=eq_of_beq z2;have z6:=eq_of_beq z6;subst z1 z2;have z3b:cd.hasDel=false:=by
    cases e:cd.hasDel with
    |false=>rfl
    |true=>rw[e]at z3;cases z3
   have es':sl=#[k0,k1,k2,k3,some (.builtin n),k5]:=Array.toList_inj.mp es;have nN:=nsMap_none_of_in X z5 z6;have nI:=Heap.Ns.of_isNs (isNs_of_in X z5);have tI:=tail_of_in X z4;cases cd;dsimp only at em z3b nN nI;subst em z3b es';exact⟨bm,_,_,_,_,_,_,_,_,_,dd,k0,k1,k2,k3,k5,_,X _ _ ho,nI,nN,tI⟩
  next=>cases z
 next=>cases z
noncomputable def DC (K:Frag) (f:Addr):Option (FuncData×Bool×Bool):=match K.lookup f with
 |some ⟨_,_,.func fd,_⟩=>some ({fd with kwdefaults:=.none,doc:=.none,pyModule:=.none,annotations:=none,code:=.none,closureTuple:=.none},codeIn K fd.code fd.qualname,keepIn K (.ref f))
 |_=>none
noncomputable def Kr (nm qual:Str) (st:Stmt):Option (FuncData×Bool×Bool):=some (fnOf nm qual (Yg st) (ZH st) (Zn st) .none .none .none .none none .none .none,true,true)
theorem D3{K:Frag}{nm qual:Str}{st:Stmt}{f:Addr}(e:DC K f=Kr nm qual st):∃ fd,Fun K nm qual st f fd:=by
 unfold DC at e;split at e
 ·rename_i oc od fd sl hl;simp only[Kr,Option.some.injEq,Prod.mk.injEq]at e;obtain⟨e1,e2,e3⟩:=e;obtain⟨n1,n2,n3,n4,n5,n6,n7,n8,n9,n10,n11,n12,n13,n14,n15⟩:=fd;simp only[fnOf,FuncData.mk.injEq]at e1;obtain⟨rfl,rfl,rfl,rfl,rfl,rfl,rfl,rfl,-,-,-,-,-,-,rfl⟩:=e1;exact⟨_,Af hl e2 e3⟩
 ·cases e
noncomputable def XS (K:Frag) (C:String):Option Addr:=match nsIn K mainGlobals (Str.ofString C)with
 |some (some (.ref a))=>some a
 |_=>none
theorem Xs{K:Frag}{C:String}{a:Addr}(h:XS K C=some a):nsIn K mainGlobals (Str.ofString C)=some (some (.ref a)):=by
 unfold XS at h;split at h
 ·cases h;assumption
 ·cases h
structure CV where
 pg:Bool
 hd:Bool
 po:Bool
 sa:Option (Option Value)
noncomputable def BF (K:Frag) (a:Addr):CV:=⟨plainGet K a Str.empty,hasDictIn K a,plainOver K a,findIn K (.ref a) "__setattr__"⟩
noncomputable def M3:CV:=⟨true,true,true,some (some (.builtin "object.__setattr__"))⟩
theorem U8{K:Frag}{a:Addr}(h:BF K a=M3):Cls K a:=by simp only[BF,M3,CV.mk.injEq]at h;exact⟨h.1,h.2.1,h.2.2.1,h.2.2.2⟩
structure MV where
 fn:Option (FuncData×Bool×Bool)
 isf:Bool
 cv:CV
noncomputable def OL (K:Frag) (y:Snd.Mt):Option MV:=match XS K y.C with
 |some a=>match findIn K (.ref a) (Str.ofString y.m)with
  |some (some (.ref f))=>some ⟨DC K f,isFn K (.ref f),BF K a⟩
  |_=>none
 |none=>none
noncomputable def Ah (y:Snd.Mt):Option MV:=some ⟨Kr (Str.ofString y.m) (Str.ofString y.qual) y.x.st,true,M3⟩
theorem F9{K:Frag}{y:Snd.Mt}(e:OL K y=Ah y):∃ a f fd,nsIn K mainGlobals (Str.ofString y.C)=some (some (.ref a))∧Fun K (Str.ofString y.m) (Str.ofString y.qual) y.x.st f fd∧Meth K a (Str.ofString y.m) f∧Cls K a:=by
 unfold OL at e;split at e
 ·rename_i a ha;split at e
  ·rename_i f hf;simp only[Ah,Option.some.injEq,MV.mk.injEq]at e;obtain⟨e1,e2,e3⟩:=e;obtain⟨fd,F⟩:=D3 e1;exact⟨a,f,fd,Xs ha,F,⟨hf,e2,F.kp⟩,U8 e3⟩
  ·cases e
 ·cases e
structure QV where
 mks:Bool
 kp:Bool
 cv:CV
 fl:List (Option (Option Value))
noncomputable def UA (K:Frag) (fl:List String) (C:String):Option QV:=match XS K C with
 |some a=>some ⟨makesIn K a,keepIn K (.ref a),BF K a,fl.map fun f=>findIn K (.ref a) (Str.ofString f)⟩
 |none=>none
noncomputable def Uo (fl:List String):Option QV:=some ⟨true,true,M3,fl.map fun _=>some none⟩
theorem CF{K:Frag}{fl:List String}{C:String}(e:UA K fl C=Uo fl):∃ a,nsIn K mainGlobals (Str.ofString C)=some (some (.ref a))∧makesIn K a=true∧keepIn K (.ref a)=true∧Cls K a∧∀ f∈fl,KW K a (Str.ofString f):=by
 unfold UA at e;split at e
 ·rename_i a ha;simp only[Uo,Option.some.injEq,QV.mk.injEq]at e;obtain⟨e1,e2,e3,e4⟩:=e;exact⟨a,Xs ha,e1,e2,U8 e3,fun f hf=>List.map_inj_left.mp e4 f hf⟩
 ·cases e
structure XV where
 ex:Bool
 f1:Option (Option Value)
 f2:Option (Option Value)
 f3:Option (Option Value)
 m1:Option Bool
 m2:Option Bool
 ci:Bool
 ve:Option Bool
 ks:List (Option (Option Bool×Option Bool))
noncomputable def OQ (K:Frag) (xs:List String) (C:String):Option XV:=match XS K C with
 |some a=>some ⟨excIn K a [.type "ValueError",.type "Exception",.type "BaseException",.type "object"] "ValueError.__new__",findIn K (.ref a) "__getattribute__",findIn K (.ref a) "__getattr__",findIn K (.ref a) "__class__",mroIn K a (.type "object"),mroIn K a (.type "BaseException"),(clsIn K a).isSome,kitOne K (.ref a) (.type "ValueError"),("ShutError" :: xs).map fun T=>(XS K T).map fun D=>(kitOne K (.ref a) (.ref D),exmOne K (.ref a) (.ref D))⟩
 |none=>none
noncomputable def Od (xs:List String) (C:String):Option XV:=some ⟨true,some (some (.builtin "BaseException.__getattribute__")),some none,some (some (.builtin "object.__class__")),some true,some true,true,some true,("ShutError" :: xs).map fun T=>some (some (Own.excSub C T),some (Own.excSub C T))⟩
theorem UO {K:Frag}{xs:List String}{C:String}(e:OQ K xs C=Od xs C):∃ a,nsIn K mainGlobals (Str.ofString C)=some (some (.ref a))∧excIn K a [.type "ValueError",.type "Exception",.type "BaseException",.type "object"] "ValueError.__new__" = true∧XCls K a∧kitOne K (.ref a) (.type "ValueError")=some true∧
  ∀ T∈"ShutError" :: xs,∃ D,nsIn K mainGlobals (Str.ofString T)=some (some (.ref D))∧kitOne K (.ref a) (.ref D)=some (Own.excSub C T)∧exmOne K (.ref a) (.ref D)=some (Own.excSub C T):=by
 unfold OQ at e;split at e
 ·rename_i a ha;simp only[Od,Option.some.injEq,XV.mk.injEq]at e;obtain⟨e1,e2,e3,e4,e5,e6,e7,e8,e9⟩:=e;refine⟨a,Xs ha,e1,⟨e2,e3,e4,e5,e6,e7⟩,e8,fun T hT=>?_⟩;have:=List.map_inj_left.mp e9 T hT;cases z:XS K T with
  |none=>rw[z]at this;cases this
  |some D =>rw[z]at this;simp only[Option.map_some,Option.some.injEq,Prod.mk.injEq]at this;exact⟨D,Xs z,this.1,this.2⟩
 ·cases e
structure View where
 fs:List (Option (FuncData×Bool×Bool))
 ms:List (Option MV)
 cl:List (Option QV)
 xs:List (Option XV)
 ok:Bool
noncomputable def view (T:Snd.Tb) (K:Frag):View:=⟨T.fs.map fun p=>Ue K (Str.ofString p.1),T.ms.map (OL K),T.cl.map (UA K T.fl),T.xs.map (OQ K T.xs),T.cs.all (ON K)&&Snd.blts.all (Ch K)⟩
noncomputable def due (T:Snd.Tb):View:=⟨T.fs.map fun p=>Uh (Str.ofString p.1) p.2.st,T.ms.map Ah,T.cl.map fun _=>Uo T.fl,T.xs.map (Od T.xs),true⟩
noncomputable def hook (T:Snd.Tb):Hook where
 α:=View
 obs:=fun s=>view T (Zv s.heap)
 val:=fun _=>due T
 says:=fun _ h=>∃ g:Heap,view T (Zv g)=due T∧∀ b o,g.get? b=some o→h.get? b=some o
 of:=fun _ s e=>⟨s.heap,e,fun _ _ x=>x⟩
 keeps:=fun _ _ _ ⟨g,e,k⟩ k2=>⟨g,e,fun b o x=>k2 b o (k b o x)⟩
def Bd (nm qual:Str) (x:Snd.Ds):Prop:=∀ (kV doc pm:Value) (an:Option Addr) (cdv ct:Value) (us:List Value),us.length=x.ps.length→bindArgs (fnOf nm qual (Yg x.st) (ZH x.st) (Zn x.st) .none kV doc pm an cdv ct) ⟨us,[]⟩=pure (x.ps.zip us)
noncomputable def AT (T:Snd.Tb):Bool:=T.cl.all fun C=>T.ms.any fun y=>y.C==C&&y.m == "__init__"
theorem law_walk{l:OpenLaw}{q:Program}{loose:List Str}{XP:(Str→Option Value)→Heap→Prop}{d:DefRec}{T:Snd.Tb}{pg:Own.Pg}{k:Nat}{xl:Snd.Ds}
  (hn:l.most=some 63) (hdf:d.params.defaults=[]) (hdn:d.name=Str.ofString "law") (hr:Room (2*(k+1)) callerA) (hlaw:("law",xl)∈T.fs) (hps:xl.ps=[Str.ofString "script"]) (hin:AT T=true)
  (tab_pg:∀ f x,(f,x)∈T.fs→pg f=some x.d) (tab_pm:∀ y,y∈T.ms→pg (y.C ++ "." ++ y.m)=some y.x.d) (tab_ok:∀ f x,(f,x)∈T.fs→x.Ok T) (tab_om:∀ y,y∈T.ms→y.x.Ok T)
  (tab_bd:∀ f x,(f,x)∈T.fs→Bd (Str.ofString f) (Str.ofString f) x) (tab_bm:∀ y,y∈T.ms→Bd (Str.ofString y.m) (Str.ofString y.qual) y.x)
  (ok:∀ ns:List Int,ns.length≤63→Own.wF pg (k+1) "law" [.scr ns] (fun _=>none) (fun v _=>v=.bl true) fun _ _=>False) :
  WalkO q loose XP (hook T).says l.row.toRowW d [] (fun f vs=>PySem.call f vs):=by
 refine Av (n:=63) (k:=2*(k+1)) (x:=Str.ofString "script") (CX:=fun w=>CX1 l.prog w) hn (by decide) hdf hr (fun w mg fa h Y G hmg=>?_) fun _ _ _ _ _ ⟨_,_,_,_,_,z⟩=>z;obtain⟨g,e,keep⟩:=Y;have X:(Zv g).In h:=fun a o z=>keep a o (KE z);simp only[view,due,View.mk.injEq]at e;obtain⟨e1,e3,e4,e5,e2⟩:=e;rw[bAq,List.all_eq_true,List.all_eq_true]at e2
 let i:Snd.Inf:=⟨Zv g,fun C a=>T.cl.contains C=true∧mg (Str.ofString C)=some (.ref a),fun C=>T.cl.contains C,fun C a=>T.xs.contains C=true∧mg (Str.ofString C)=some (.ref a)⟩
 have hF:∀ f x,(f,x)∈T.fs→∃ fa fd,Fun (Zv g) (Str.ofString f) (Str.ofString f) x.st fa fd∧mg (Str.ofString f)=some (.ref fa):=fun f x hx=>by obtain⟨fa,fd,F,z⟩:=E4 (List.map_inj_left.mp e1 (f,x) hx);exact⟨fa,fd,F,mg_of X G z⟩
 have hcl:∀ C a,i.cl C a→makesIn (Zv g) a=true∧keepIn (Zv g) (.ref a)=true∧Cls (Zv g) a∧∀ f∈T.fl,KW (Zv g) a (Str.ofString f):=fun C a ⟨hc,hm⟩=>by obtain⟨b,z,q⟩:=CF (List.map_inj_left.mp e4 C (List.contains_iff_mem.mp hc));have:=mg_of X G z;rw[hm]at this;cases this;exact q
 have hms:∀ y,y∈T.ms→∃ a f,Snd.Mst i mg y a f∧Cls i.K a:=fun y hy=>by obtain⟨a,f,fd,z,F,M,A⟩:=F9 (List.map_inj_left.mp e3 y hy);exact⟨a,f,⟨mg_of X G z,⟨fd,F,F.binds (tab_bm y hy)⟩,M⟩,A⟩
 have hxc:∀ C a,i.xc C a→excIn (Zv g) a [.type "ValueError",.type "Exception",.type "BaseException",.type "object"] "ValueError.__new__" = true∧XCls (Zv g) a∧kitOne (Zv g) (.ref a) (.type "ValueError")=some true∧
   ∀ T'∈"ShutError" :: T.xs,∃ D,nsIn (Zv g) mainGlobals (Str.ofString T')=some (some (.ref D))∧kitOne (Zv g) (.ref a) (.ref D)=some (Own.excSub C T')∧exmOne (Zv g) (.ref a) (.ref D)=some (Own.excSub C T'):=fun C a ⟨hc,hm⟩=>by
  obtain⟨b,z,q⟩:=UO (List.map_inj_left.mp e5 C (List.contains_iff_mem.mp hc));have:=mg_of X G z;rw[hm]at this;cases this;exact q
 have mod:∀ base:Heap,(Zv g).In base→Snd.Modu mg base i T:=fun base Xb =>
  { bl:=fun y hy=>by
      have:=e2.2 y hy
      unfold Ch at this
      split at this
      · rename_i z;exact mg_none_of X G z
      · cases this
    cst:=fun y v hv=>by
      have:=e2.1 _ (XE hv)
      unfold ON at this
      split at this
      · rename_i u z
        obtain⟨x,r,rv⟩:=OJ 4 u v this
        exact⟨u,x,mg_of X G z,r,rv⟩
      · cases this
    A:=⟨fun C a _ z=>(hcl C a z).2.2.1⟩
    F:=fun f hf=>⟨fun C a z=>(hcl C a z).2.2.2 f (List.contains_iff_mem.mp hf)⟩
    cl:=fun C a z=>z.2
    mkc:=fun C hC=>by
      obtain⟨a,z,_⟩:=CF (List.map_inj_left.mp e4 C (List.contains_iff_mem.mp hC))
      have hi:i.cl C a:=⟨hC,mg_of X G z⟩
      obtain⟨y,hy,e⟩:=List.any_eq_true.mp (List.all_eq_true.mp hin C (List.contains_iff_mem.mp hC))
      rw[bAq]at e
      obtain⟨b,f,S,A⟩:=hms y hy
      have h1:=eq_of_beq e.1
      have h2:=eq_of_beq e.2
      have hb:=S.cl
      rw[h1,hi.2]at hb
      cases hb
      refine⟨a,y,f,hC,hi,⟨(hcl C a hi).1,?_,S.at_.fn,(hcl C a hi).2.1⟩,hy,h1,h2,S⟩
      have:=S.at_.at_
      rw[h2]at this
      exact this
    fs:=fun f x hx=>by
      obtain⟨fa,fd,F,m⟩:=hF f x hx
      exact⟨fa,fd,_,F,m,F.binds (tab_bd f x hx)⟩
    ms:=hms
    xc:=fun _ C a z=>⟨(hxc C a z).2.1,(hxc C a z).2.2.1⟩
    rs:=fun _ C hC=>by
      obtain⟨a,z,q1,_⟩:=UO (List.map_inj_left.mp e5 C (List.contains_iff_mem.mp hC))
      exact⟨a,⟨hC,mg_of X G z⟩,DD Xb (mg_of X G z) q1⟩
    kn:=fun hne T' hT=>by
      have hT2:T'∈"ShutError" :: T.xs:=by
        rcases (Bool.or_eq_true ..).mp hT with z|z
        · exact .tail _ (List.contains_iff_mem.mp z)
        · cases eq_of_beq z;exact .head _
      obtain⟨C0,hC0⟩:=List.exists_mem_of_ne_nil _ hne
      obtain⟨a0,z0,_,_,_,q0⟩:=UO (List.map_inj_left.mp e5 C0 hC0)
      obtain⟨D,zD,_⟩:=q0 T' hT2
      refine⟨D,mg_of X G zD,fun C a z=>?_⟩
      obtain⟨D2,z2,k1,k2⟩:=(hxc C a z).2.2.2 T' hT2
      rw[zD]at z2
      cases z2
      exact⟨k1,fun e=>by rw[k2,e]⟩ }
 obtain⟨fl,fd,F,m⟩:=hF "law" xl hlaw;have ef:=hmg.symm.trans (hdn▸m);cases ef;refine⟨Zv g,Snd.spF i pg (k+1) "law",X,⟨fd,fun s u=>?_,fun base Xb _=>?_⟩,fun H a ns hl hO hS=>?_⟩
 ·have B:=F.ex;obtain⟨oc,od,kV,dc,pm,an,cdv,ct,sl,rfl,lk,hcd⟩:=B;have:=tab_bd "law" xl hlaw kV dc pm an cdv ct [u] (by rw[hps];rfl);rw[hps]at this;exact .of_eq this
 ·have M:=mod base Xb;have:=Snd.fn_succ (i:=i) (pr:=l.prog) (wd:=w) (base:=base) (mg:=mg) (P:=pg) (n:=k) M (Snd.held_all M tab_pg tab_pm tab_ok tab_om k) F (tab_pg "law" xl hlaw) (tab_ok "law" xl hlaw);rw[hps]at this;exact this
 ·refine⟨[.scr ns],fun _=>none,fun v _=>v=.bl true,fun _ _=>False,.cons (.scr ?_) .nil,fun _ _ e=>(by cases e),ok ns hl,?_,?_⟩
  ·rcases hS with(h|⟨o,h⟩)|h
   ·rcases hO a with z|⟨o,xs,z⟩
    ·rw[h]at z;cases z
    ·rw[h]at z;cases z
   ·exact .inl ⟨o,h⟩
   ·exact .inr h
  ·intro v G' H' x _ _ r e;subst e;exact r.bl_inv
  ·rintro cls d H' ⟨_,_,_,_,_,_,_,z⟩;exact z
end Hd
set_option maxRecDepth 20000
set_option maxHeartbeats 2000000
namespace Own
abbrev B0 (P:Pg) (n:Nat) (d:Fn) (e:Env) (h:Hs) (Q:Q1) (X:XQ):Prop:=wSs (wF P n) d.body e h (fun _ g=>Q .non g) Q (fun _ _=>False) (fun _ _=>False) fun _ c g=>X c g
variable {P:Pg}{n:Nat}{a0 a1 a2 a3 a4 a5 a6 a7:Val}{h:Hs}{Q:Q1}{X:XQ}
noncomputable abbrev LT:Fn:={ ar:=1,sz:=1,body:=(.cons (.ret (.and (.bi (.isi ["int"]) (.cons (.var 0) .nil)) (.not (.bi (.isi ["bool"]) (.cons (.var 0) .nil)))))
    .nil) }
noncomputable abbrev LV:Fn:={ ar:=3,sz:=3,body:=(.cons (.ret (.and (.call "is_whole" (.cons (.var 0) .nil)) (.chain .le .le (.var 1) (.var 0) (.var 2))))
    .nil) }
noncomputable abbrev PX:Fn:={ ar:=2,sz:=2,body:=(.cons (.ite (.or (.not (.val (.bi (.isi ["list"]) (.cons (.var 0) .nil)))) (.not (.val (.bi (.isi ["list"]) (.cons (.var 1) .nil))))) (.cons .never
    .nil) .nil)
    (.cons (.ite (.not (.val (.chain .le .le (.cst (.int 1)) (.bi .len (.cons (.var 0) .nil)) (.glob "MOST_BRIDGES" (.int 10))))) (.cons .never
    .nil) .nil)
    (.cons (.ite (.val (.cmp .gt (.bi .len (.cons (.var 1) .nil)) (.glob "MOST_TIES" (.int 16)))) (.cons .never
    .nil) .nil)
    (.cons (.ite (.not (.val (.call "are_bridges" (.cons (.var 0) .nil)))) (.cons .never
    .nil) .nil)
    (.cons (.ite (.not (.val (.bi .all (.cons (.comp [0] 1 (.one 0) (.seq (.var 1)) .yes (.call "is_tie" (.cons (.var 0) (.cons (.var 1) .nil)))) .nil)))) (.cons .never
    .nil) .nil)
    (.cons (.ret (.tup (.cons (.bi .tuple (.cons (.bi .sortedI (.cons (.var 0) .nil)) .nil)) (.cons (.bi .tuple (.cons (.comp [] 1 (.one 0) (.seq (.var 1)) .yes (.call "lesser_end_first" (.cons (.var 0) .nil))) .nil)) .nil))))
    .nil)))))) }
noncomputable abbrev LZ:Fn:={ ar:=1,sz:=1,body:=(.cons (.ite (.not (.val (.bi .all (.cons (.comp [] 1 (.one 0) (.seq (.var 0)) .yes (.call "is_whole_between" (.cons (.var 0) (.cons (.cst (.int 0)) (.cons (.glob "GREATEST_NUMBER" (.int 999)) .nil))))) .nil)))) (.cons (.ret (.cst (.bl false)))
    .nil) .nil)
    (.cons (.ret (.cmp .eq (.bi .lenSet (.cons (.var 0) .nil)) (.bi .len (.cons (.var 0) .nil))))
    .nil)) }
noncomputable abbrev LW:Fn:={ ar:=2,sz:=2,body:=(.cons (.ite (.or (.not (.val (.bi (.isi ["tuple"]) (.cons (.var 0) .nil)))) (.val (.cmp .ne (.bi .len (.cons (.var 0) .nil)) (.cst (.int 3))))) (.cons (.ret (.cst (.bl false)))
    .nil) .nil)
    (.cons (.ite (.or (.not (.val (.call "is_whole" (.cons (.idx (.var 0) (.cst (.int 0))) .nil)))) (.not (.val (.call "is_whole" (.cons (.idx (.var 0) (.cst (.int 1))) .nil))))) (.cons (.ret (.cst (.bl false)))
    .nil) .nil)
    (.cons (.ite (.or (.val (.cmp .notin (.idx (.var 0) (.cst (.int 0))) (.var 1))) (.val (.cmp .notin (.idx (.var 0) (.cst (.int 1))) (.var 1)))) (.cons (.ret (.cst (.bl false)))
    .nil) .nil)
    (.cons (.ret (.and (.cmp .ne (.idx (.var 0) (.cst (.int 0))) (.idx (.var 0) (.cst (.int 1)))) (.call "is_whole_between" (.cons (.idx (.var 0) (.cst (.int 2))) (.cons (.cst (.int 1)) (.cons (.glob "GREATEST_COST" (.int 1000)) .nil))))))
    .nil)))) }
noncomputable abbrev PY:Fn:={ ar:=1,sz:=1,body:=(.cons (.ret (.tup (.cons (.bi .min2 (.cons (.idx (.var 0) (.cst (.int 0))) (.cons (.idx (.var 0) (.cst (.int 1))) .nil))) (.cons (.bi .max2 (.cons (.idx (.var 0) (.cst (.int 0))) (.cons (.idx (.var 0) (.cst (.int 1))) .nil))) (.cons (.idx (.var 0) (.cst (.int 2))) .nil)))))
    .nil) }
noncomputable abbrev LX:Fn:={ ar:=3,sz:=9,body:=(.cons (.ite (.or (.not (.val (.bi (.isi ["list"]) (.cons (.var 2) .nil)))) (.not (.val (.bi .all (.cons (.comp [0] 1 (.one 0) (.seq (.var 2)) .yes (.call "is_rank" (.cons (.var 1) (.cons (.var 0) .nil)))) .nil))))) (.cons (.ret (.cst (.bl false)))
    .nil) .nil)
    (.cons (.set (.one 3) (.comp [] 1 (.one 0) (.seq (.var 2)) .yes (.idx (.var 0) (.cst (.int 0)))))
    (.cons (.ite (.val (.cmp .ne (.var 3) (.bi .sortedSet (.cons (.var 3) .nil)))) (.cons (.ret (.cst (.bl false)))
    .nil) .nil)
    (.cons (.set (.one 4) (.comp [] 3 (.many [0,1,2]) (.seq (.var 1)) .yes (.var 1)))
    (.cons (.ite (.val (.cmp .ne (.bi .lenSet (.cons (.var 4) .nil)) (.bi .len (.cons (.var 4) .nil)))) (.cons (.ret (.cst (.bl false)))
    .nil) .nil)
    (.cons (.set (.one 5) (.dct .nil))
    (.cons (.for (.many [6,7,8]) (.seq (.var 2)) (.cons (.setIdx (.var 5) (.var 6) (.tup (.cons (.var 7) (.cons (.var 8) .nil))))
    .nil))
    (.cons (.ret (.bi .all (.cons (.comp [0,5] 1 (.one 0) (.seq (.var 1)) .yes (.call "is_way_ranked" (.cons (.var 1) (.cons (.var 0) (.cons (.var 2) .nil))))) .nil)))
    .nil)))))))) }
noncomputable abbrev LY:Fn:={ ar:=2,sz:=2,body:=(.cons (.ite (.or (.not (.val (.bi (.isi ["tuple"]) (.cons (.var 1) .nil)))) (.val (.cmp .ne (.bi .len (.cons (.var 1) .nil)) (.cst (.int 3))))) (.cons (.ret (.cst (.bl false)))
    .nil) .nil)
    (.cons (.ret (.and (.bi .all (.cons (.comp [] 1 (.one 0) (.seq (.var 1)) .yes (.call "is_whole" (.cons (.var 0) .nil))) .nil)) (.cmp .isin (.idx (.var 1) (.cst (.int 0))) (.idx (.var 0) (.cst (.int 0))))))
    .nil)) }
noncomputable abbrev LU:Fn:={ ar:=3,sz:=8,body:=(.cons (.set (.many [3,4,5]) (.var 1))
    (.cons (.ite (.or (.val (.cmp .notin (.var 4) (.var 2))) (.val (.cmp .notin (.var 5) (.var 2)))) (.cons (.ret (.cst (.bl false)))
    .nil) .nil)
    (.cons (.set (.many [6,7]) (.idx (.var 2) (.var 5)))
    (.cons (.ret (.cmp .eq (.idx (.var 2) (.var 4)) (.tup (.cons (.var 6) (.cons (.bin .add (.var 7) (.idx (.idx (.idx (.var 0) (.cst (.int 1))) (.var 3)) (.cst (.int 2)))) .nil)))))
    .nil)))) }
noncomputable abbrev L1:Fn:={ ar:=2,sz:=2,body:=(.cons (.ite (.val (.cmp .lt (.var 1) (.bi .len (.cons (.var 0) .nil)))) (.cons (.ret (.idx (.var 0) (.var 1)))
    .nil) .nil)
    (.cons (.ret (.cst (.int 0)))
    .nil)) }
noncomputable abbrev L7:Fn:={ ar:=1,sz:=1,body:=(.cons (.ret (.lst (.cons (.var 0) (.cons (.bin .mod (.var 0) (.cst (.int 2147483587))) .nil))))
    .nil) }
noncomputable abbrev L9:Fn:={ ar:=2,sz:=3,body:=(.cons (.ite (.val (.cmp .gt (.idx (.var 0) (.cst (.int 0))) (.bin .pow (.cst (.int 10)) (.cst (.int 18))))) (.cons (.set (.one 2) (.bin .mod (.idx (.var 0) (.cst (.int 0))) (.var 1)))
    (.cons (.setIdx (.var 0) (.cst (.int 0)) (.bin .fdiv (.idx (.var 0) (.cst (.int 0))) (.var 1)))
    (.cons (.ret (.var 2))
    .nil))) .nil)
    (.cons (.setIdx (.var 0) (.cst (.int 1)) (.bin .mod (.bin .add (.bin .add (.bin .mul (.idx (.var 0) (.cst (.int 1))) (.idx (.var 0) (.cst (.int 1)))) (.bin .mul (.cst (.int 69621)) (.idx (.var 0) (.cst (.int 1))))) (.cst (.int 12345))) (.cst (.int 2147483587))))
    (.cons (.ret (.bin .mod (.bin .fdiv (.idx (.var 0) (.cst (.int 1))) (.cst (.int 8))) (.var 1)))
    .nil))) }
noncomputable abbrev L6:Fn:={ ar:=1,sz:=9,body:=(.cons (.set (.one 1) (.bin .add (.cst (.int 1)) (.call "_law_take" (.cons (.var 0) (.cons (.cst (.int 6)) .nil)))))
    (.cons (.set (.one 2) (.idx (.lst (.cons (.cst (.int 1)) (.cons (.cst (.int 3)) (.cons (.cst (.int 10)) (.cons (.cst (.int 100)) .nil))))) (.call "_law_take" (.cons (.var 0) (.cons (.cst (.int 4)) .nil)))))
    (.cons (.set (.one 4) (.comp [0,2] 1 (.one 0) (.range (.var 1)) .yes (.bin .add (.bin .mul (.var 2) (.bin .add (.var 0) (.call "_law_take" (.cons (.var 1) (.cons (.cst (.int 2)) .nil))))) (.idx (.lst (.cons (.cst (.int 0)) (.cons (.cst (.int 7)) .nil))) (.bin .fdiv (.var 2) (.cst (.int 100)))))))
    (.cons (.set (.one 4) (.bi .sortedSet (.cons (.var 4) .nil)))
    (.cons (.set (.one 5) (.lst .nil))
    (.cons (.for (.one 3) (.range (.call "_law_take" (.cons (.var 0) (.cons (.cst (.int 10)) .nil)))) (.cons (.set (.one 6) (.idx (.var 4) (.call "_law_take" (.cons (.var 0) (.cons (.bi .len (.cons (.var 4) .nil)) .nil)))))
    (.cons (.set (.one 7) (.idx (.var 4) (.call "_law_take" (.cons (.var 0) (.cons (.bi .len (.cons (.var 4) .nil)) .nil)))))
    (.cons (.set (.one 8) (.idx (.lst (.cons (.cst (.int 1)) (.cons (.cst (.int 1)) (.cons (.cst (.int 2)) (.cons (.bin .add (.cst (.int 1)) (.call "_law_take" (.cons (.var 0) (.cons (.cst (.int 4)) .nil)))) (.cons (.bin .add (.cst (.int 1)) (.call "_law_take" (.cons (.var 0) (.cons (.cst (.int 1000)) .nil)))) .nil)))))) (.call "_law_take" (.cons (.var 0) (.cons (.cst (.int 5)) .nil)))))
    (.cons (.ite (.val (.cmp .ne (.var 6) (.var 7))) (.cons (.expr (.bm .append (.var 5) (.cons (.tup (.cons (.var 6) (.cons (.var 7) (.cons (.var 8) .nil)))) .nil)))
    .nil) .nil)
    .nil)))))
    (.cons (.for (.one 3) (.range2 (.cst (.int 1)) (.bi .len (.cons (.var 4) .nil))) (.cons (.ite (.val (.cmp .gt (.call "_law_take" (.cons (.var 0) (.cons (.cst (.int 4)) .nil))) (.cst (.int 0)))) (.cons (.expr (.bm .append (.var 5) (.cons (.tup (.cons (.idx (.var 4) (.call "_law_take" (.cons (.var 0) (.cons (.var 3) .nil)))) (.cons (.idx (.var 4) (.var 3)) (.cons (.bin .add (.cst (.int 1)) (.call "_law_take" (.cons (.var 0) (.cons (.cst (.int 3)) .nil)))) .nil)))) .nil)))
    .nil) .nil)
    .nil))
    (.cons (.ret (.call "make_net" (.cons (.var 4) (.cons (.var 5) .nil))))
    .nil)))))))) }
noncomputable abbrev L5:Fn:={ ar:=2,sz:=8,body:=(.cons (.set (.one 2) (.lst .nil))
    (.cons (.set (.one 3) (.call "_law_take" (.cons (.var 0) (.cons (.cst (.int 4)) .nil))))
    (.cons (.for (.many [4,5]) (.enum (.idx (.var 1) (.cst (.int 1)))) (.cons (.ite (.val (.cmp .eq (.call "_law_take" (.cons (.var 0) (.cons (.cst (.int 2)) .nil))) (.cst (.int 0)))) (.cons (.set (.one 6) (.lst (.cons (.idx (.var 5) (.cst (.int 0))) (.cons (.idx (.var 5) (.cst (.int 1))) .nil))))
    (.cons (.set (.one 7) (.call "_law_take" (.cons (.var 0) (.cons (.cst (.int 2)) .nil))))
    (.cons (.ite (.or (.val (.cmp .eq (.var 3) (.cst (.int 0)))) (.val (.cmp .notin (.idx (.var 6) (.var 7)) (.comp [] 1 (.one 0) (.seq (.var 2)) .yes (.idx (.var 0) (.cst (.int 1))))))) (.cons (.expr (.bm .append (.var 2) (.cons (.tup (.cons (.var 4) (.cons (.idx (.var 6) (.var 7)) (.cons (.idx (.var 6) (.bin .sub (.cst (.int 1)) (.var 7))) .nil)))) .nil)))
    .nil) .nil)
    .nil))) .nil)
    .nil))
    (.cons (.ret (.var 2))
    .nil)))) }
noncomputable abbrev L4:Fn:={ ar:=3,sz:=11,body:=(.cons (.set (.one 4) (.bi .dict (.cons (.comp [0] 1 (.one 0) (.seq (.idx (.var 1) (.cst (.int 0)))) .yes (.tup (.cons (.var 0) (.cons (.bin .sub (.call "_law_take" (.cons (.var 1) (.cons (.cst (.int 6)) .nil))) (.cst (.int 2))) .nil)))) .nil)))
    (.cons (.for (.one 5) (.range (.bin .mul (.call "_law_take" (.cons (.var 0) (.cons (.cst (.int 4)) .nil))) (.cst (.int 2)))) (.cons (.for (.many [6,7,8]) (.seq (.var 2)) (.cons (.setIdx (.var 4) (.var 7) (.bin .add (.idx (.var 4) (.var 8)) (.idx (.idx (.idx (.var 1) (.cst (.int 1))) (.var 6)) (.cst (.int 2)))))
    .nil))
    .nil))
    (.cons (.set (.one 9) (.bin .sub (.call "_law_take" (.cons (.var 0) (.cons (.cst (.int 1000)) .nil))) (.cst (.int 300))))
    (.cons (.set (.one 10) (.lst .nil))
    (.cons (.for (.one 3) (.seq (.idx (.var 1) (.cst (.int 0)))) (.cons (.expr (.bm .append (.var 10) (.cons (.tup (.cons (.var 3) (.cons (.bin .add (.var 9) (.bi .int (.cons (.cmp .eq (.call "_law_take" (.cons (.var 0) (.cons (.cst (.int 12)) .nil))) (.cst (.int 0))) .nil))) (.cons (.idx (.var 4) (.var 3)) .nil)))) .nil)))
    .nil))
    (.cons (.ret (.var 10))
    .nil)))))) }
noncomputable abbrev L8:Fn:={ ar:=3,sz:=7,body:=(.cons (.set (.one 3) (.call "_law_take" (.cons (.var 0) (.cons (.bi .len (.cons (.var 2) .nil)) .nil))))
    (.cons (.set (.one 4) (.idx (.var 2) (.var 3)))
    (.cons (.set (.one 5) (.lst (.cons (.tup (.cons (.idx (.var 4) (.cst (.int 0))) (.cons (.cst (.bl true)) (.cons (.idx (.var 4) (.cst (.int 2))) .nil)))) (.cons (.tup (.cons (.idx (.var 4) (.cst (.int 0))) (.cons (.cst (.str "1")) (.cons (.idx (.var 4) (.cst (.int 2))) .nil)))) (.cons (.cst .non) (.cons (.slc (.var 4) .none (.some (.cst (.int 2)))) (.cons (.bin .add (.var 4) (.tup (.cons (.cst (.int 0)) .nil))) (.cons (.bi .list (.cons (.var 4) .nil)) (.cons (.tup (.cons (.idx (.var 4) (.cst (.int 0))) (.cons (.idx (.var 4) (.cst (.int 1))) (.cons (.cst .non) .nil)))) .nil)))))))))
    (.cons (.set (.one 5) (.bin .add (.var 5) (.lst (.cons (.tup (.cons (.bin .add (.idx (.var 4) (.cst (.int 0))) (.cst (.int 1))) (.cons (.idx (.var 4) (.cst (.int 1))) (.cons (.idx (.var 4) (.cst (.int 2))) .nil)))) (.cons (.tup (.cons (.neg (.cst (.int 1))) (.cons (.cst (.int 0)) (.cons (.cst (.int 0)) .nil)))) (.cons (.tup (.cons (.cst (.bl true)) (.cons (.idx (.var 4) (.cst (.int 1))) (.cons (.idx (.var 4) (.cst (.int 2))) .nil)))) .nil))))))
    (.cons (.set (.one 6) (.call "_law_take" (.cons (.var 0) (.cons (.cst (.int 6)) .nil))))
    (.cons (.ite (.val (.cmp .eq (.var 6) (.cst (.int 0)))) (.cons (.ret (.bin .add (.slc (.var 2) .none (.some (.var 3))) (.slc (.var 2) (.some (.bin .add (.var 3) (.cst (.int 1)))) .none)))
    .nil) .nil)
    (.cons (.ite (.val (.cmp .eq (.var 6) (.cst (.int 1)))) (.cons (.ret (.bin .add (.bin .add (.slc (.var 2) .none (.some (.var 3))) (.lst (.cons (.idx (.var 5) (.call "_law_take" (.cons (.var 0) (.cons (.cst (.int 10)) .nil)))) .nil))) (.slc (.var 2) (.some (.bin .add (.var 3) (.cst (.int 1)))) .none)))
    .nil) .nil)
    (.cons (.ite (.val (.cmp .eq (.var 6) (.cst (.int 2)))) (.cons (.ret (.bin .add (.bin .add (.slc (.var 2) .none (.some (.var 3))) (.lst (.cons (.var 4) .nil))) (.slc (.var 2) (.some (.var 3)) .none)))
    .nil) .nil)
    (.cons (.ite (.val (.cmp .eq (.var 6) (.cst (.int 3)))) (.cons (.ret (.rev (.var 2)))
    .nil) .nil)
    (.cons (.ret (.var 2))
    .nil)))))))))) }
noncomputable abbrev PZ:Fn:={ ar:=1,sz:=1,body:=(.cons (.ret (.and (.bi (.isi ["int"]) (.cons (.var 0) .nil)) (.not (.bi (.isi ["bool"]) (.cons (.var 0) .nil)))))
    .nil) }
noncomputable abbrev L3:Fn:={ ar:=3,sz:=9,body:=(.cons (.set (.one 3) (.dct .nil))
    (.cons (.set (.one 4) (.lst .nil))
    (.cons (.for (.one 5) (.seq (.var 2)) (.cons (.ite (.or (.not (.val (.bi (.isi ["tuple"]) (.cons (.var 5) .nil)))) (.or (.val (.cmp .ne (.bi .len (.cons (.var 5) .nil)) (.cst (.int 3)))) (.val (.cmp .neE (.comp [] 1 (.one 0) (.seq (.var 5)) (.not (.val (.call "_law_whole" (.cons (.var 0) .nil)))) (.var 0)) (.lst .nil))))) (.cons (.ret (.cst (.bl false)))
    .nil) .nil)
    (.cons (.ite (.or (.val (.cmp .notin (.idx (.var 5) (.cst (.int 0))) (.idx (.var 0) (.cst (.int 0))))) (.and (.val (.cmp .neE (.var 4) (.lst .nil))) (.val (.cmp .ge (.idx (.var 4) (.neg (.cst (.int 1)))) (.idx (.var 5) (.cst (.int 0))))))) (.cons (.ret (.cst (.bl false)))
    .nil) .nil)
    (.cons (.expr (.bm .append (.var 4) (.cons (.idx (.var 5) (.cst (.int 0))) .nil)))
    (.cons (.setIdx (.var 3) (.idx (.var 5) (.cst (.int 0))) (.slc (.var 5) (.some (.cst (.int 1))) .none))
    .nil)))))
    (.cons (.ite (.val (.cmp .lt (.bi .lenSet (.cons (.comp [] 1 (.one 0) (.seq (.var 1)) .yes (.idx (.var 0) (.cst (.int 1)))) .nil)) (.bi .len (.cons (.var 1) .nil)))) (.cons (.ret (.cst (.bl false)))
    .nil) .nil)
    (.cons (.for (.many [6,7,8]) (.seq (.var 1)) (.cons (.ite (.or (.val (.cmp .notin (.var 7) (.var 3))) (.or (.val (.cmp .notin (.var 8) (.var 3))) (.val (.cmp .ne (.idx (.idx (.var 3) (.var 7)) (.cst (.int 0))) (.idx (.idx (.var 3) (.var 8)) (.cst (.int 0))))))) (.cons (.ret (.cst (.bl false)))
    .nil) .nil)
    (.cons (.ite (.val (.cmp .ne (.bin .sub (.idx (.idx (.var 3) (.var 7)) (.cst (.int 1))) (.idx (.idx (.var 3) (.var 8)) (.cst (.int 1)))) (.idx (.idx (.idx (.var 0) (.cst (.int 1))) (.var 6)) (.cst (.int 2))))) (.cons (.ret (.cst (.bl false)))
    .nil) .nil)
    .nil)))
    (.cons (.ret (.cst (.bl true)))
    .nil)))))) }
noncomputable abbrev L0:Fn:={ ar:=1,sz:=8,body:=(.cons (.for (.one 1) (.seq (.bin .add (.slc (.var 0) .none (.some (.cst (.int 30)))) (.lst (.cons (.cst (.int 0)) .nil)))) (.cons (.set (.one 2) (.call "_law_row" (.cons (.var 1) .nil)))
    (.cons (.set (.one 3) (.call "_law_net" (.cons (.var 2) .nil)))
    (.cons (.set (.one 4) (.call "_law_made_ways" (.cons (.var 2) (.cons (.var 3) .nil))))
    (.cons (.set (.one 5) (.call "_law_spoilt" (.cons (.var 2) (.cons (.var 3) (.cons (.call "_law_fitted" (.cons (.var 2) (.cons (.var 3) (.cons (.var 4) .nil)))) .nil)))))
    (.cons (.set (.one 6) (.tup (.cons (.bi .list (.cons (.var 4) .nil)) (.cons (.bi .list (.cons (.var 5) .nil)) .nil))))
    (.cons (.set (.one 7) (.call "is_ranked" (.cons (.var 3) (.cons (.idx (.var 6) (.cst (.int 0))) (.cons (.idx (.var 6) (.cst (.int 1))) .nil)))))
    (.cons (.ite (.or (.not (.val (.bi (.isi ["bool"]) (.cons (.var 7) .nil)))) (.or (.val (.cmp .ne (.var 7) (.call "_law_due" (.cons (.var 3) (.cons (.var 4) (.cons (.var 5) .nil)))))) (.val (.cmp .ne (.var 6) (.tup (.cons (.var 4) (.cons (.var 5) .nil))))))) (.cons (.ret (.cst (.bl false)))
    .nil) .nil)
    .nil))))))))
    (.cons (.ret (.cst (.bl true)))
    .nil)) }
class Al (P:Pg):Prop where
 c0:P "is_whole" = some LT
 c1:P "is_whole_between" = some LV
 c2:P "make_net" = some PX
 c3:P "are_bridges" = some LZ
 c4:P "is_tie" = some LW
 c5:P "lesser_end_first" = some PY
 c6:P "is_ranked" = some LX
 c7:P "is_rank" = some LY
 c8:P "is_way_ranked" = some LU
 c9:P "_law_cell_at" = some L1
 c10:P "_law_row" = some L7
 c11:P "_law_take" = some L9
 c12:P "_law_net" = some L6
 c13:P "_law_made_ways" = some L5
 c14:P "_law_fitted" = some L4
 c15:P "_law_spoilt" = some L8
 c16:P "_law_whole" = some PZ
 c17:P "_law_due" = some L3
 c18:P "law" = some L0
theorem YC [I:Al P] (q:B0 P n LT [some a0] h Q X):wF P (n+1) "is_whole" [a0] h Q X:=ZP I.c0 rfl q
theorem YE [I:Al P] (q:B0 P n LV [some a0,some a1,some a2] h Q X):wF P (n+1) "is_whole_between" [a0,a1,a2] h Q X:=ZP I.c1 rfl q
theorem KR [I:Al P] (q:B0 P n PX [some a0,some a1] h Q X):wF P (n+1) "make_net" [a0,a1] h Q X:=ZP I.c2 rfl q
theorem Wc [I:Al P] (q:B0 P n LZ [some a0] h Q X):wF P (n+1) "are_bridges" [a0] h Q X:=ZP I.c3 rfl q
theorem U2 [I:Al P] (q:B0 P n LW [some a0,some a1] h Q X):wF P (n+1) "is_tie" [a0,a1] h Q X:=ZP I.c4 rfl q
theorem YB [I:Al P] (q:B0 P n PY [some a0] h Q X):wF P (n+1) "lesser_end_first" [a0] h Q X:=ZP I.c5 rfl q
theorem JC [I:Al P] (q:B0 P n LX [some a0,some a1,some a2,none,none,none,none,none,none] h Q X):wF P (n+1) "is_ranked" [a0,a1,a2] h Q X:=ZP I.c6 rfl q
theorem Nt [I:Al P] (q:B0 P n LY [some a0,some a1] h Q X):wF P (n+1) "is_rank" [a0,a1] h Q X:=ZP I.c7 rfl q
theorem Xm [I:Al P] (q:B0 P n LU [some a0,some a1,some a2,none,none,none,none,none] h Q X):wF P (n+1) "is_way_ranked" [a0,a1,a2] h Q X:=ZP I.c8 rfl q
theorem N5 [I:Al P] (q:B0 P n L7 [some a0] h Q X):wF P (n+1) "_law_row" [a0] h Q X:=ZP I.c10 rfl q
theorem Mg [I:Al P] (q:B0 P n L9 [some a0,some a1,none] h Q X):wF P (n+1) "_law_take" [a0,a1] h Q X:=ZP I.c11 rfl q
theorem N6 [I:Al P] (q:B0 P n L6 [some a0,none,none,none,none,none,none,none,none] h Q X):wF P (n+1) "_law_net" [a0] h Q X:=ZP I.c12 rfl q
theorem Xp [I:Al P] (q:B0 P n L5 [some a0,some a1,none,none,none,none,none,none] h Q X):wF P (n+1) "_law_made_ways" [a0,a1] h Q X:=ZP I.c13 rfl q
theorem WZ [I:Al P] (q:B0 P n L4 [some a0,some a1,some a2,none,none,none,none,none,none,none,none] h Q X):wF P (n+1) "_law_fitted" [a0,a1,a2] h Q X:=ZP I.c14 rfl q
theorem Jb [I:Al P] (q:B0 P n L8 [some a0,some a1,some a2,none,none,none,none] h Q X):wF P (n+1) "_law_spoilt" [a0,a1,a2] h Q X:=ZP I.c15 rfl q
theorem JT [I:Al P] (q:B0 P n PZ [some a0] h Q X):wF P (n+1) "_law_whole" [a0] h Q X:=ZP I.c16 rfl q
theorem Oa [I:Al P] (q:B0 P n L3 [some a0,some a1,some a2,none,none,none,none,none,none] h Q X):wF P (n+1) "_law_due" [a0,a1,a2] h Q X:=ZP I.c17 rfl q
theorem G7 [I:Al P] (q:B0 P n L0 [some a0,none,none,none,none,none,none,none] h Q X):wF P (n+1) "law" [a0] h Q X:=ZP I.c18 rfl q
local macro_rules | `(tactic| walk_at "ne")=>`(tactic| first | assumption | (apply Ne.symm; assumption) | ((with_reducible apply ne_none'); (· assumption); (· walk_at "look")) | (apply Ne.symm; (with_reducible apply ne_none'); (· assumption); (· walk_at "look")))
local macro_rules | `(tactic| walk_at "look")=>`(tactic| first | assumption | with_reducible exact upd_same | ((with_reducible apply upd_ne'); (· walk_at "ne"); (· walk_at "look")) | ((with_reducible apply Ext.get); (· assumption); (· walk_at "look")) | ((with_reducible apply ExtB.get); (· assumption); (· walk_at "ne"); (· walk_at "look")))
local macro_rules | `(tactic| walk_at "ar")=>`(tactic| first | decide | omega | assumption | (simp only [qB,List.length_nil]; decide))
local macro_rules | `(tactic| walk_at "mul")=>`(tactic| first | exact .inl (.inr (by omega)) | exact .inl (.inl (by omega)) | exact .inr ⟨by decide,by decide⟩)
local macro_rules | `(tactic| walk_at "setl")=>`(tactic| first | (simp only [List.zip_cons_cons,List.zip_nil_right,List.zip_nil_left,List.foldl_cons,List.foldl_nil,List.set_cons_succ,List.set_cons_zero]; done) | (simp only [List.zip_cons_cons,List.zip_nil_right,List.zip_nil_left,List.foldl_cons,List.foldl_nil,List.set_cons_succ,List.set_cons_zero]; exact rfl) | exact rfl)
local macro_rules | `(tactic| walk_at "py1")=>`(tactic| first
  |(with_reducible first|refine Jn ?_|refine Eg ?_|refine Hw ?_|refine HF ?_|refine U3 ?_|refine Dk ?_|refine Gz ?_|refine Ou ?_|refine FP ?_|refine EF ?_|refine F1 ?_|refine GS ?_|refine Hr ?_|refine DR ?_|refine AR ?_|refine Hl ?_|refine F2 ?_|refine Im ?_|refine GX ?_|refine Gy ?_|refine HB ?_|refine GP ?_|refine Bn ?_|refine Eu ?_|refine Cd ?_|refine DM ?_|refine WO ?_|refine JL ?_|refine Fo ?_|refine CS ?_|refine M5 ?_|refine M6 ?_|refine Hu ?_|refine EL ?_|refine FA ?_|refine Gi ?_|refine B4 ?_|refine Uc ?_|refine C5 ?_|refine b_add ?_|refine b_sub ?_|refine FW ?_|refine Ig ?_|refine Cf ?_|refine Mu ?_|refine c_lt ?_|refine c_gt ?_|refine c_le ?_|refine c_ge ?_|refine Fv ?_|refine GJ ?_|refine DT ?_|refine FO ?_|refine mn2 ?_|refine mx2 ?_|refine Fb ?_|refine EX ?_|refine it_tup ?_)
  |((with_reducible apply M4);(· exact rfl))
  |((with_reducible apply Fg);(· walk_at "setl"))|((with_reducible apply Dx);(· (simp only[bindL,List.set_cons_succ,List.set_cons_zero];exact rfl)))|((with_reducible apply b_mul);(· walk_at "mul"))|((with_reducible apply b_fdiv);(· walk_at "ar"))|((with_reducible apply b_mod);(· walk_at "ar"))|((with_reducible apply DF);(· walk_at "ar");(· simp only[Int.reduceToNat,Int.reducePow];exact rfl))|((with_reducible apply YK);(· walk_at "look");(· walk_at "look");(· first|(simp only[List.cons_append,List.nil_append,qB,List.length_nil];decide)|omega))|((with_reducible apply Fc);(· walk_at "ar"))
  |((with_reducible apply ix_tup);(· exact rfl))|((with_reducible apply ZD);(· walk_at "look");(· exact rfl))
  |((with_reducible apply Ey);(· walk_at "look");(· exact rfl))
  |((with_reducible apply Dj);(· walk_at "look"))|((with_reducible apply C6);(· walk_at "look"))|((with_reducible apply BG);(· exact rfl))|((with_reducible apply Ea);(· walk_at "look"))|((with_reducible apply sl_tup);(· decide))|((with_reducible apply E0);(· walk_at "look"))
  | ((with_reducible apply Di);(· first | exact .inl rfl | exact .inr (.inl rfl) | simp);(· walk_at "look")) | ((with_reducible apply Z2);(· walk_at "look");(· walk_at "ar")) | ((with_reducible apply it_lst);(· walk_at "look")))
local macro_rules | `(tactic| walk_at "py")=>`(tactic| repeat walk_at "py1")
theorem GR{h:Hs}{v u:Val}{c:Bool}{KB:Bool→Prop}(e:eqV h v u=some c)(q:KB c):go (cmpV h .eq v u) KB:=go_of e q
theorem OA{h:Hs}{v u:Val}{c:Bool}{KB:Bool→Prop}(e:eqV h v u=some c)(q:KB (!c)):go (cmpV h .ne v u) KB:=go_of (by show(eqV h v u).map _=_;rw[e];rfl) q
theorem Ze{h:Hs}{o:Ob}{Q:Q1}(q:∀ p g,h p=none→Ext h g→g p=some o→Q (.ref p) g):new h o Q:=O5 fun p hp=>q p _ hp (Ext.new hp) upd_same
theorem Js{α:Type}{xs:List α}{r:Int}{x:α}(r0:0≤r)(e:xs[r.toNat]?=some x):atI xs r=some x:=by have:=(qK.mp e).1;unfold atI ixN;rw[if_pos r0,if_pos (by omega)];exact e
theorem D7{α:Type}{xs:List α}{r:Int}(r0:0≤r)(r1:r<xs.length):∃ x,xs[r.toNat]?=some x∧x∈xs:=by
 have h:r.toNat<xs.length:=by omega
 exact⟨xs[r.toNat],qH h,List.getElem_mem h⟩
theorem Yi{α:Type}{xs:List α}{r:Int}(r0:0≤r)(r1:r<xs.length):∃ x,atI xs r=some x∧x∈xs:=by obtain⟨x,h1,h2⟩:=D7 r0 r1;exact⟨x,Js r0 h1,h2⟩
def Row (h:Hs) (w:Ad):Prop:=∃ a b:Int,h w=some (.lst [.int a,.int b])∧0≤b∧b<2147483587
theorem Row.ne{h:Hs}{w p:Ad}(x:Row h w)(e:h p=none):w≠p:=by obtain⟨_,_,x,_⟩:=x;exact ZG x e
theorem Row.ext{h g:Hs}{w:Ad}(x:Row h w)(e:Ext h g):Row g w:=by obtain⟨_,_,x,y⟩:=x;exact⟨_,_,e.get x,y⟩
theorem Z6:∀ ns:List Int,intsOf (ns.map .int)=some ns
 |[]=>rfl
 |n::ns=>by rw[qG,intsOf,Z6 ns];rfl
theorem ZT:∀ bs:List Bool,blsOf (bs.map .bl)=some bs
 |[]=>rfl
 |b::bs=>by rw[qG,blsOf,ZT bs];rfl
theorem YT{h:Hs}{d:Nat}:∀ ns:List Int,(ns.map Val.int).mapM (dat h d)=some (ns.map D.int)
 |[]=>rfl
 |n::ns=>by rw[qG,List.mapM_cons,YT ns,qG];cases d<;>rfl
theorem MH{i:Int}:∀ ns:List Int,((ns.map D.int).any fun e=>D.eqv e (.int i))=decide (i∈ns)
 |[]=>by simp
 |n::ns=>by
  rw[qG,List.any_cons,MH ns,MM];by_cases h:n=i
  ·simp[h]
  ·simp[h,Ne.symm h]
theorem W6{h:Hs}{i:Int}{ns:List Int}:inL h (.int i) (ns.map .int)=some (decide (i∈ns)):=by unfold inL;rw[YT];exact congrArg some (MH ns)
theorem On{h:Hs}{i:Int}{ns:List Int}{a:Ad}{KB:Bool→Prop}(e:h a=some (.lst (ns.map .int)))(q:KB (!decide (i∈ns))):go (cmpV h .notin (.int i) (.ref a)) KB:=go_of (by show(inV h (.int i) (.ref a)).map _=_;unfold inV;simp only[e];rw[W6];rfl) q
theorem lset{h:Hs}{a:Ad}{ns:List Int}{Q:Q1}(e:h a=some (.lst (ns.map .int)))(m:ns.length<4000)(q:Q (.int (dedup ns).length) h):(biV h .lenSet [.ref a]).wp h Q:=wp_val (by show biLenSet h (.ref a)=_;unfold biLenSet sortOf;simp only[e,lsOf,Option.bind_some,Z6];rw[if_pos m]) q
theorem mem_dedup{x:Int}:∀ {ns:List Int},x∈dedup ns↔x∈ns
 |[]=>by simp[dedup]
 |n::ns=>by rw[dedup,qE,List.mem_filter,mem_dedup,qE];by_cases h:x=n<;>simp[h]
theorem YW:∀ (ns:List Int),(dedup ns).length≤ns.length
 |[]=>by simp[dedup]
 |n::ns=>by have:=YW ns;have:=List.length_filter_le (fun y=>y != n) (dedup ns);rw[dedup,qB,qB];omega
theorem Yu:∀ (ns:List Int),(dedup ns).length=ns.length↔ns.Nodup
 |[]=>by simp[dedup]
 |n::ns=>by
  have h1:=YW ns;have h2:=List.length_filter_le (fun y=>y != n) (dedup ns);have ih:=Yu ns;rw[dedup,qB,qB,List.nodup_cons];constructor
  ·intro h;have h3:(List.filter (fun y=>y != n) (dedup ns)).length=(dedup ns).length:=by omega
   have h4:=List.length_filter_eq_length_iff.mp h3;refine⟨fun hm=>?_,ih.mp (by omega)⟩;have:=h4 n (mem_dedup.mpr hm);simp at this
  ·rintro⟨h3,h4⟩;have h5:=ih.mpr h4;have h6:(List.filter (fun y=>y != n) (dedup ns)).length=(dedup ns).length:=List.length_filter_eq_length_iff.mpr fun y hy=>by
    have:=mem_dedup.mp hy;simp only[bne_iff_ne,ne_eq];rintro rfl;exact h3 this
   omega
theorem Jh{i:Nat}{v:Val}{m:Int}(h:(rangeV 0 m)[i]?=some v):v=.int i∧(i:Int)<m:=by unfold rangeV at h;rw[qF]at h;obtain⟨k,hk,rfl⟩:=qD.mp h;obtain⟨hlt,rfl⟩:=qK.mp hk;rw[List.length_range]at hlt;rw[List.getElem_range];exact⟨by rw[Int.zero_add],by omega⟩
theorem WU{m:Int}:(rangeV 0 m).length=m.toNat:=by unfold rangeV;rw[qA,List.length_range,Int.sub_zero]
def Brs (ns:List Int):Prop:=∀ i∈ns,0≤i∧i<1000
theorem Row.exb{h:Hs}{w p:Ad}{o:Ob}(x:Row h w)(n:p≠w):Row (upd h p o) w:=by obtain⟨_,_,x,y⟩:=x;exact⟨_,_,(upd_ne n.symm).trans x,y⟩
theorem Yc{h g:Hs}{w p:Ad}{o:Ob}(x:ExtB w h g)(e:h p=none):ExtB w h (upd g p o):=⟨fun {a u} n z=>by rw[upd_ne (ZG z e)];exact x.get n z⟩
variable {P:Pg} [Al P] {n:Nat}{h:Hs}{w:Ad}{Q:Q1}{X:XQ}
theorem Ay {c:Int}(k:∀ p g,h p=none→Ext h g→Row g p→Q (.ref p) g):wF P (n+1) "_law_row" [.int c] h Q X:=by refine N5 ?_;walk_at "py";refine Ze fun p g hp x e=>k p g hp x ⟨_,_,e,Int.emod_nonneg _ (by decide),Int.emod_lt_of_pos _ (by decide)⟩
theorem Zm {m:Int}(hw:Row h w) (h1:0<m) (h2:m<1073741824) (k:∀ r g,0≤r→r<m→ExtB w h g→Row g w→Q (.int r) g):wF P (n+1) "_law_take" [.ref w,.int m] h Q X:=by
 obtain⟨a,b,e,b0,b1⟩:=hw;refine Mg ?_;walk_at "py";refine ifP (fun hc=>?_) (fun hc=>?_)<;>walk_at "py"
 ·exact k _ _ (Int.emod_nonneg _ (by omega)) (Int.emod_lt_of_pos _ h1) ExtB.upd ⟨_,_,upd_same,b0,b1⟩
 ·exact k _ _ (Int.emod_nonneg _ (by omega)) (Int.emod_lt_of_pos _ h1) ExtB.upd ⟨_,_,upd_same,Int.emod_nonneg _ (by decide),Int.emod_lt_of_pos _ (by decide)⟩
noncomputable abbrev Tie:=Int×Int×Int
noncomputable def Zh (t:Tie):Val:=.tup [.int t.1,.int t.2.1,.int t.2.2]
def TOk (ns:List Int) (t:Tie):Prop:=t.1∈ns∧t.2.1∈ns∧t.1≠t.2.1∧1≤t.2.2∧t.2.2≤1000
def IsT (ns:List Int) (v:Val):Prop:=∃ t:Tie,v=Zh t∧TOk ns t
theorem Gw{ns:List Int}(nd:ns.Nodup){i j:Int}{a b:Int}(i0:0≤i)(i1:i<ns.length)(j0:0≤j)(j1:j<ns.length)(hij:i≠j)(ea:atI (ns.map Val.int) i=some (.int a))(eb:atI (ns.map Val.int) j=some (.int b)):a≠b:=by
 have hi:i.toNat<ns.length:=by omega
 have hj:j.toNat<ns.length:=by omega
 have e1:=Js (xs:=ns.map Val.int) i0 (x:=.int ns[i.toNat]) (by rw[qF,qH hi];rfl);have e2:=Js (xs:=ns.map Val.int) j0 (x:=.int ns[j.toNat]) (by rw[qF,qH hj];rfl);rw[ea]at e1;rw[eb]at e2;simp only[Option.some.injEq,Val.int.injEq]at e1 e2;rw[e1,e2];intro z;have:=(List.getElem_inj nd).mp z;omega
noncomputable def Kl (t:Tie):Tie:=(if t.2.1<t.1 then t.2.1 else t.1,if t.2.1 > t.1 then t.2.1 else t.1,t.2.2)
def LOk (ns:List Int) (t:Tie):Prop:=t.1∈ns∧t.2.1∈ns∧t.1<t.2.1∧1≤t.2.2∧t.2.2≤1000
theorem BH{ns:List Int}{t:Tie}(h:TOk ns t):LOk ns (Kl t):=by
 obtain⟨h1,h2,h3,h4,h5⟩:=h;unfold Kl LOk;by_cases z:t.2.1<t.1
 ·rw[if_pos z,if_neg (by omega)];exact⟨h2,h1,z,h4,h5⟩
 ·rw[if_neg z,if_pos (by omega)];exact⟨h1,h2,by show t.1<t.2.1;omega,h4,h5⟩
theorem Mo{ns:List Int}:∀ {ys:List Val},(∀ y∈ys,IsT ns y)→∃ zs:List Tie,ys=zs.map Zh∧∀ z∈zs,TOk ns z
 |[],_=>⟨[],rfl,by simp⟩
 |y::ys,h=>by obtain⟨t,rfl,ht⟩:=h y (by simp);obtain⟨zs,rfl,hz⟩:=Mo (ys:=ys) fun z hz=>h z (qI _ hz);exact⟨t::zs,rfl,fun z hz'=>(qE.mp hz').elim (fun e=>e▸ht) (hz z)⟩
structure NetOk (bs:List Int) (ts:List Tie):Prop where
 one:1≤bs.length
 ten:bs.length≤10
 rng:Brs bs
 up:bs.Pairwise (· < ·)
 sixteen:ts.length≤16
 tie:∀ t∈ts,LOk bs t
noncomputable def Yl (bs:List Int) (ts:List Tie):Val:=.tup [.tup (bs.map .int),.tup (ts.map Zh)]
theorem mem_sort{ns:List Int}{i:Int}:i∈sortI ns↔i∈ns:=(List.mergeSort_perm ns _).mem_iff
theorem W9{ns:List Int}(nd:ns.Nodup):(sortI ns).Pairwise (· < ·):=by have p:=List.mergeSort_perm ns fun a b=>decide (a≤b);have s:(sortI ns).Pairwise (fun a b=>decide (a≤b)=true):=List.pairwise_mergeSort (fun a b c h1 h2=>by simp at *;omega) (fun a b=>by simp;omega) ns;have d:(sortI ns).Nodup:=p.nodup_iff.mpr nd;exact(s.and d).imp fun⟨h1,h2⟩=>by simp at h1;omega
theorem isl {a:Ad}{xs:List Val}(e:h a=some (.lst xs)) (q:Q (.bl true) h):(biV h (.isi ["list"]) [.ref a]).wp h Q:=BG (by unfold isiAny isiAny isiV kindV;simp only[e];rfl) q
theorem MI {i lo hi:Int}(h1:lo≤i) (h2:i≤hi) (k:Q (.bl true) h):wF P (n+2) "is_whole_between" [.int i,.int lo,.int hi] h Q X:=by refine YE ?_;walk_at "py";refine YC ?_;walk_at "py";refine ifT rfl ?_;walk_at "py";refine ifT rfl ?_;walk_at "py";refine ifT (by simpa using h1) ?_;walk_at "py";rw[qQ h2];exact k
theorem J5 {i:Int}(k:Q (.bl true) h):wF P (n+1) "is_whole" [.int i] h Q X:=by refine YC ?_;walk_at "py";refine ifT rfl ?_;walk_at "py";exact k
theorem Ml{xs:List Val}:xs.filterMap (fun _=>some (Val.bl true))=(xs.map fun _=>true).map Val.bl:=by rw[List.map_map];exact congrFun (List.filterMap_eq_map' (f:=Val.bl ∘ fun _=>true)) xs
theorem DJ {a:Ad}{ns:List Int}(e:h a=some (.lst (ns.map .int))) (l2:ns.length≤10) (hb:Brs ns) (nd:ns.Nodup) (k:∀ g,Ext h g→Q (.bl true) g):wF P (n+3) "are_bridges" [.ref a] h Q X:=by
 refine Wc ?_;have hL:(ns.map Val.int).length=ns.length:=qA _;walk_at "py";refine⟨qS (by rw[hL];exact l2) (by decide),ZB (fun _=>some (.bl true)) (lsE e) (fun v hv K hK=>?_) ?_⟩
 ·obtain⟨i,hi,rfl⟩:=qZ.mp hv;walk_at "py";refine ifT rfl ?_;walk_at "py";exact MI (hb i hi).1 (by have:=(hb i hi).2;omega) hK
 rw[Ml];refine Ze fun p g hp x ep=>?_;walk_at "py";refine X0 ep (ZT _) ?_;walk_at "py";refine ifF (by simp) ?_;have e':=x.get e;walk_at "py";refine lset e' (by omega) ?_;walk_at "py";have:decide (((dedup ns).length:Int)=((ns.map Val.int).length:Int))=true:=qQ (by rw[hL];have:=(Yu ns).mpr nd;omega);rw[this];exact k g x
theorem Ej {t:Tie}{b:Ad}{ns:List Int}(ht:TOk ns t) (e:h b=some (.lst (ns.map .int))) (k:Q (.bl true) h):wF P (n+3) "is_tie" [Zh t,.ref b] h Q X:=by obtain⟨i,j,c⟩:=t;obtain⟨h1,h2,h3,h4,h5⟩:=ht;unfold Zh;dsimp only at h1 h2 h3 h4 h5 ⊢;refine U2 ?_;walk_at "py";refine ifF rfl ?_;walk_at "py";refine ifF rfl ?_;walk_at "py";refine J5 ?_;walk_at "py";refine ifF rfl ?_;walk_at "py";refine J5 ?_;walk_at "py";refine ifF rfl ?_;walk_at "py";refine On e ?_;walk_at "py";refine ifF (by simpa using h1) ?_;walk_at "py";refine On e ?_;walk_at "py";refine ifF (by simpa using h2) ?_;walk_at "py";refine ifT (by simpa using h3) ?_;walk_at "py";exact MI h4 h5 k
theorem By {t:Tie}(k:Q (Zh (Kl t)) h):wF P (n+1) "lesser_end_first" [Zh t] h Q X:=by obtain⟨i,j,c⟩:=t;unfold Zh;refine YB ?_;walk_at "py";exact k
theorem AZ{b t:Ad}{ns:List Int}{zs:List Tie}(eb:h b=some (.lst (ns.map .int)))(et:h t=some (.lst (zs.map Zh)))(l1:1≤ns.length)(l2:ns.length≤10)(hb:Brs ns)(nd:ns.Nodup)(lt:zs.length≤16)(hz:∀ z∈zs,TOk ns z)
  (k:∀ g,Ext h g→Q (Yl (sortI ns) (zs.map Kl)) g):wF P (n+4) "make_net" [.ref b,.ref t] h Q X:=by
 have hL:(ns.map Val.int).length=ns.length:=qA _;have hT:(zs.map Zh).length=zs.length:=qA _;refine KR ?_;refine Jn (U3 (EL (M6 (M5 (AR (WO (M4 rfl (JL (isl eb (Mu ?_))))))))));refine ifF rfl ?_;refine M6 (M5 (AR (WO (M4 rfl (JL (isl et (Mu ?_)))))));refine ifF rfl ?_;walk_at "py";refine ifT (by simpa using (by omega:(1:Int)≤(ns.map Val.int).length)) ?_;walk_at "py";refine ifF (by simpa using (by omega:(ns.length:Int)≤10)) ?_;walk_at "py";refine ifF (by simpa using (by omega:(zs.length:Int)≤16)) ?_;walk_at "py";refine DJ eb l2 hb nd fun g x=>?_;walk_at "py";refine ifF rfl ?_;have eb':=x.get eb;have et':=x.get et;walk_at "py";refine⟨qS (by rw[hT];exact lt) (by decide),ZB (fun _=>some (.bl true)) (lsE et') (fun v hv K hK=>?_) ?_⟩
 ·obtain⟨z,hz',rfl⟩:=qZ.mp hv;walk_at "py";refine ifT rfl ?_;walk_at "py";exact Ej (hz z hz') eb' hK
 rw[Ml];refine Ze fun p g2 hp x2 ep=>?_;walk_at "py";refine X0 ep (ZT _) ?_;walk_at "py";refine ifF (by simp) ?_;have eb2:=x2.get eb';have et2:=x2.get et';walk_at "py";refine EE eb2 (Z6 _) (by omega) ?_;refine Ze fun p3 g3 hp3 x3 ep3=>?_;have et3:=x3.get et2;walk_at "py";refine⟨qS (by rw[hT];exact lt) (by decide),Y2 (fun i ys g=>g=g3∧ys=(zs.take i).map fun z=>Zh (Kl z)) ⟨rfl,rfl⟩ (fun _ _ g _ z=>by rw[z.1];exact lsE et3) (fun i v ys g hv hI K hK=>?_) (fun ys g hI=>?_)⟩
 ·obtain⟨rfl,rfl⟩:=hI;rw[qF]at hv;obtain⟨z,hz',rfl⟩:=qD.mp hv;walk_at "py";refine ifT rfl ?_;walk_at "py";refine By (hK _ _ ⟨rfl,?_⟩);rw[qW,hz',qJ];rfl
 ·obtain⟨rfl,rfl⟩:=hI;rw[hT,zA];refine Ze fun p4 g4 hp4 x4 ep4=>?_;walk_at "py";have e:Yl (sortI ns) (zs.map Kl)=.tup [.tup ((sortI ns).map .int),.tup (zs.map fun z=>Zh (Kl z))]:=by unfold Yl;rw[List.map_map];rfl
  rw[e]at k;exact k _ (((x.trans x2).trans x3).trans x4)
theorem FD{h:Hs}{a:Ad}{ns:List Int}{Q:Q1}(e:h a=some (.lst (ns.map .int)))(m:ns.length<64)(q:new h (.lst ((sortI (dedup ns)).map .int)) Q):(biV h .sortedSet [.ref a]).wp h Q:=wp_new (by show biSortedSet h (.ref a)=_;unfold biSortedSet sortOf;simp only[e,lsOf,Option.bind_some,Z6];rw[if_pos m]) q
theorem Jx:∀ ns:List Int,(dedup ns).Nodup
 |[]=>List.nodup_nil
 |n::ns=>by rw[dedup,List.nodup_cons];refine⟨fun z=>?_,(Jx ns).sublist List.filter_sublist⟩;have:=(List.mem_filter.mp z).2;simp at this
theorem Cg(ns:List Int):(sortI (dedup ns)).Pairwise (· < ·):=W9 (Jx ns)
theorem OU(ns:List Int):(sortI (dedup ns)).Nodup:=(Cg ns).imp fun h=>by omega
theorem E6(ns:List Int):(sortI (dedup ns)).length≤ns.length:=by rw[sortI,List.length_mergeSort];exact YW ns
theorem ES{ns:List Int}(h:1≤ns.length):1≤(sortI (dedup ns)).length:=by
 rw[sortI,List.length_mergeSort];cases ns with
 |nil=>exact absurd h (by decide)
 |cons n ns=>rw[dedup,qB];omega
theorem sd_mem{ns:List Int}{i:Int}:i∈sortI (dedup ns)↔i∈ns:=by rw[mem_sort,mem_dedup]
theorem Op{i:Nat}{v:Val}{lo m:Int}(h:(rangeV lo m)[i]?=some v):v=.int (lo+i)∧lo+(i:Int)<m:=by unfold rangeV at h;rw[qF]at h;obtain⟨k,hk,rfl⟩:=qD.mp h;obtain⟨hlt,rfl⟩:=qK.mp hk;rw[List.length_range]at hlt;rw[List.getElem_range];exact⟨rfl,by omega⟩
theorem Ak{lo m:Int}:(rangeV lo m).length=(m - lo).toNat:=by unfold rangeV;rw[qA,List.length_range]
theorem Fe (hw:Row h w) (k:∀ bs ts g,NetOk bs ts→ExtB w h g→Row g w→Q (Yl bs ts) g):wF P (n+5) "_law_net" [.ref w] h Q X:=by
 refine N6 ?_;walk_at "py";refine Zm hw (by decide) (by decide) fun r0 g0 a0 b0 x0 w0=>?_;walk_at "py";refine Ze fun p1 g1 hp1 x1 e1=>?_;have n1:p1≠w:=fun z=>w0.ne hp1 z.symm;walk_at "py";refine Zm (w0.ext x1) (by decide) (by decide) fun r2 g2 a2 b2 x2 w2=>?_;obtain⟨v,ev,hv⟩:=Yi (xs:=[Val.int 1,.int 3,.int 10,.int 100]) (r:=r2) a2 b2;obtain⟨st,rfl,s1,s2⟩:∃ st:Int,v=.int st∧1≤st∧st≤100:=by simp only[qE,List.not_mem_nil,or_false]at hv;rcases hv with rfl|rfl|rfl|rfl<;>exact⟨_,rfl,by decide,by decide⟩
 refine ZD (x2.get n1 e1) ev ?_;have xh:ExtB w h g2:=(x0.trans (.of x1)).trans x2;clear e1 ev hv;walk_at "py";refine⟨⟨by omega,by omega⟩,by rw[WU];exact qS (by omega:(1+r0).toNat≤6) (by decide),?_⟩;refine Y2 (fun i ys g=>∃ ns:List Int,ys=ns.map Val.int∧ns.length=i∧Brs ns∧ExtB w h g∧Row g w) ⟨[],rfl,rfl,(fun i hi=>absurd hi List.not_mem_nil),xh,w2⟩ (fun _ _ _ _ _=>trivial) ?_ ?_
 ·rintro i v ys g hv ⟨ns,rfl,hl,hb,x,hr⟩ K hK;obtain⟨rfl,hi⟩:=Jh hv;walk_at "py";refine ifT rfl ?_;walk_at "py";refine Zm hr (by decide) (by decide) fun r3 g3 a3 b3 x3 w3=>?_;have m1:(i:Int)+r3≤6:=by omega
  have m2:st*((i:Int)+r3)≤100*6:=Int.le_trans (Int.mul_le_mul_of_nonneg_right s2 (by omega)) (Int.mul_le_mul_of_nonneg_left m1 (by decide));have m3:0≤st*((i:Int)+r3):=Int.mul_nonneg (by omega) (by omega);walk_at "py";refine Ze fun p4 g4 hp4 x4 e4=>?_;walk_at "py";have d0:(0:Int)≤st / 100:=Int.ediv_nonneg (by omega) (by decide);have d1:st / 100<2:=Int.ediv_lt_of_lt_mul (by decide) (by omega);obtain⟨v,ev,hv⟩:=Yi (xs:=[Val.int 0,.int 7]) (r:=st / 100) d0 d1;obtain⟨c,rfl,c0,c1⟩:∃ c:Int,v=.int c∧0≤c∧c≤7:=by simp only[qE,List.not_mem_nil,or_false]at hv;rcases hv with rfl|rfl<;>exact⟨_,rfl,by decide,by decide⟩
  refine ZD e4 ev ?_;walk_at "py";refine hK _ _ ⟨ns++[st*((i:Int)+r3)+c],by rw[qJ];rfl,by rw[qU,hl];rfl,fun j hj=>?_,(x.trans x3).trans (.of x4),w3.ext x4⟩;rcases q8.mp hj with hj|hj
  ·exact hb j hj
  ·rw[zH.mp hj];omega
 ·rintro ys g ⟨ns,rfl,hl,hb,x,hr⟩;rw[WU]at hl;have l1:1≤ns.length:=by omega
  have l2:ns.length≤6:=by omega
  refine Ze fun p5 g5 hp5 x5 e5=>?_;walk_at "py";refine FD e5 (by omega) (Ze fun b g6 hb6 x6 eb=>?_);have hrb:Brs (sortI (dedup ns)):=fun i hi=>hb i (sd_mem.mp hi);have nd:=OU ns;have l3:=ES l1;have l4:=E6 ns;generalize sortI (dedup ns)=bs at eb hrb nd l3 l4;have w6:=(hr.ext x5).ext x6;have nb:b≠w:=fun z=>(hr.ext x5).ne hb6 z.symm;have xh6:ExtB w h g6:=x.trans (.of (x5.trans x6));clear e5 x6 x5 hp5 hr x hb;have hL:(bs.map Val.int).length=bs.length:=qA _;walk_at "py";refine Ze fun t g7 ht7 x7 e7=>?_;have nt:t≠w:=fun z=>w6.ne ht7 z.symm;have ntb:t≠b:=fun z=>ZG eb ht7 z.symm;walk_at "py";refine Zm (w6.ext x7) (by decide) (by decide) fun r8 g8 a8 b8 x8 w8=>?_;have xh8:ExtB w h g8:=xh6.trans ((ExtB.of x7).trans x8);have eb8:=x8.get nb (x7.get eb);have e8:=x8.get nt e7;clear e7 eb;have ht0:h t=none:=by
   cases z:h t with
   |none=>rfl
   |some o=>rw[xh6.get nt z]at ht7;cases ht7
  walk_at "py";refine⟨⟨by omega,by omega⟩,?_⟩;refine ZX (fun i en g=>∃ v3 v6 v7 v8 ts,en=[some (.ref w),some (.int (1+r0)),some (.int st),v3,some (.ref b),some (.ref t),v6,v7,v8]∧g t=some (.lst ts)∧ts.length≤i∧(∀ t∈ts,IsT bs t)∧g b=some (.lst (bs.map .int))∧ExtB w h g∧Row g w) ⟨_,_,_,_,[],rfl,e8,zG _,(fun i hi=>absurd hi List.not_mem_nil),eb8,xh8,w8⟩ (fun _ _ _ _ _=>trivial) ?_ ?_
  ·rintro i v en g hv ⟨v3,v6,v7,v8,ts,rfl,et,hl,ht,ebg,x,hr⟩ K hK;obtain⟨rfl,hi⟩:=Jh hv;walk_at "py";refine Zm hr (by omega) (by omega) fun q1 g1 a1 b1 x1 w1=>?_;have eb1:=x1.get nb ebg;obtain⟨u1,eu1,hu1⟩:=Yi (xs:=bs.map Val.int) (r:=q1) a1 b1;obtain⟨i1,hi1,rfl⟩:=qZ.mp hu1;refine ZD eb1 eu1 ?_;walk_at "py";refine Zm w1 (by omega) (by omega) fun q2 g2 a2 b2 x2 w2=>?_;have eb2:=x2.get nb eb1;obtain⟨u2,eu2,hu2⟩:=Yi (xs:=bs.map Val.int) (r:=q2) a2 b2;obtain⟨i2,hi2,rfl⟩:=qZ.mp hu2;refine ZD eb2 eu2 ?_;walk_at "py";refine Zm w2 (by omega) (by omega) fun q3 g3 a3 b3 x3 w3=>?_;walk_at "py";refine Zm w3 (by omega) (by omega) fun q4 g4 a4 b4 x4 w4=>?_;walk_at "py";refine Ze fun p9 g9 hp9 x9 e9=>?_;have n9:p9≠w:=fun z=>w4.ne hp9 z.symm;walk_at "py";refine Zm (w4.ext x9) (by omega) (by omega) fun q5 g5 a5 b5 x5 w5=>?_;obtain⟨u3,eu3,hu3⟩:=Yi (xs:=[Val.int 1,.int 1,.int 2,.int (1+q3),.int (1+q4)]) (r:=q5) a5 b5;obtain⟨c,rfl,c0,c1⟩:∃ c:Int,u3=.int c∧1≤c∧c≤1000:=by
    simp only[qE,List.not_mem_nil,or_false]at hu3;rcases hu3 with rfl|rfl|rfl|rfl|rfl<;>exact⟨_,rfl,by omega,by omega⟩
   refine ZD (x5.get n9 e9) eu3 ?_;have xx:ExtB w g g5:=((((x1.trans x2).trans x3).trans x4).trans (.of x9)).trans x5;have et5:=xx.get nt et;have eb5:=xx.get nb ebg;walk_at "py";refine Ke (fun hc=>?_) (fun hc=>?_)
   ·walk_at "py";refine Z2 et5 (qS (by omega:ts.length≤10) (by decide)) ?_;dsimp only;walk_at "py";refine hK _ _ ⟨_,_,_,_,_,rfl,upd_same,by rw[qU];simp;omega,fun z hz=>?_,(upd_ne ntb.symm).trans eb5,Yc (x.trans xx) ht0,w5.exb nt⟩
    ·rcases q8.mp hz with hz|hz
     ·exact ht z hz
     ·rw[zH.mp hz];exact⟨(i1,i2,c),rfl,hi1,hi2,hc,c0,c1⟩
   ·walk_at "py";exact hK _ _ ⟨_,_,_,_,_,rfl,et5,by omega,ht,eb5,x.trans xx,w5⟩
  ·rintro en g ⟨v3,v6,v7,v8,ts,rfl,et,hl,ht,ebg,x,hr⟩;rw[WU]at hl;walk_at "py";refine⟨⟨by omega,by omega⟩,?_⟩;refine ZX (fun i en g=>∃ v3 v6 v7 v8 ts,en=[some (.ref w),some (.int (1+r0)),some (.int st),v3,some (.ref b),some (.ref t),v6,v7,v8]∧g t=some (.lst ts)∧ts.length≤9+i∧(∀ t∈ts,IsT bs t)∧g b=some (.lst (bs.map .int))∧ExtB w h g∧Row g w) ⟨_,_,_,_,ts,rfl,et,by omega,ht,ebg,x,hr⟩ (fun _ _ _ _ _=>trivial) ?_ ?_
   ·rintro i v en g hv ⟨v3,v6,v7,v8,ts,rfl,et,hl,ht,ebg,x,hr⟩ K hK;obtain⟨rfl,hi⟩:=Op hv;rw[hL]at hi;walk_at "py";refine Zm hr (by omega) (by omega) fun q1 g1 a1 b1 x1 w1=>?_;walk_at "py";refine ifP (fun hc=>?_) (fun hc=>?_)
    ·walk_at "py";refine Zm w1 (by omega) (by omega) fun q2 g2 a2 b2 x2 w2=>?_;have eb2:=x2.get nb (x1.get nb ebg);obtain⟨u2,eu2,hu2⟩:=Yi (xs:=bs.map Val.int) (r:=q2) a2 (by omega);obtain⟨i2,hi2,rfl⟩:=qZ.mp hu2;refine ZD eb2 eu2 ?_;walk_at "py";obtain⟨u3,eu3,hu3⟩:=Yi (xs:=bs.map Val.int) (r:=1+(i:Int)) (by omega) (by omega);obtain⟨i3,hi3,rfl⟩:=qZ.mp hu3;refine ZD eb2 eu3 ?_;walk_at "py";refine Zm w2 (by omega) (by omega) fun q4 g4 a4 b4 x4 w4=>?_;have xx:ExtB w g g4:=(x1.trans x2).trans x4;have et4:=xx.get nt et;walk_at "py";refine Z2 et4 (qS (by omega:ts.length≤20) (by decide)) ?_;dsimp only;walk_at "py";refine hK _ _ ⟨_,_,_,_,_,rfl,upd_same,by rw[qU];simp;omega,fun z hz=>?_,(upd_ne ntb.symm).trans (xx.get nb ebg),Yc (x.trans xx) ht0,w4.exb nt⟩;rcases q8.mp hz with hz|hz
     ·exact ht z hz
     ·rw[zH.mp hz];exact⟨(i2,i3,1+q4),rfl,hi2,hi3,Gw nd a2 (by omega) (by omega) (by omega) (by omega) eu2 eu3,by show 1≤1+q4;omega,by show 1+q4≤1000;omega⟩
    ·walk_at "py";exact hK _ _ ⟨_,_,_,_,_,rfl,x1.get nt et,by omega,ht,x1.get nb ebg,x.trans x1,w1⟩
   ·rintro en g ⟨v3,v6,v7,v8,ts,rfl,et,hl,ht,ebg,x,hr⟩;rw[Ak]at hl;obtain⟨zs,rfl,hz⟩:=Mo ht;rw[qA]at hl;walk_at "py";refine AZ ebg et l3 (by omega) hrb nd (by omega) hz fun g3 x3=>?_;have hl2:(sortI bs).length=bs.length:=(List.mergeSort_perm bs _).length_eq;refine k _ _ _ ⟨by omega,by omega,fun i hi=>hrb i (mem_sort.mp hi),W9 nd,by rw[qA];omega,fun t ht=>?_⟩ (x.trans (.of x3)) (hr.ext x3);obtain⟨z,hz',rfl⟩:=qZ.mp ht;obtain⟨q1,q2,q3⟩:=BH (hz z hz');exact⟨mem_sort.mpr q1,mem_sort.mpr q2,q3⟩
section
variable {α:Type}(val:α→Val)
noncomputable def ZU (kvs:List (Int×α)):List (Val×Val):=kvs.map fun p=>(.int p.1,val p.2)
noncomputable def Km (kvs:List (Int×α)) (k:Int) (v:α):List (Int×α):=if(kvs.lookup k).isSome then kvs.map (fun p=>if p.1=k then(k,v)else p)else kvs++[(k,v)]
variable {val}
theorem W5(a b:Int):(Val.int a==Val.int b)=decide (a=b):=by
 by_cases e:a=b
 ·subst e;simp
 ·rw[qP e];exact beq_eq_false_iff_ne.mpr fun z=>e (by injection z)
theorem Xh(kvs:List (Int×α))(k:Int):lookK (ZU val kvs) (.int k)=(kvs.lookup k).map val:=by
 induction kvs with
 |nil=>rfl
 |cons p r ih =>
  unfold lookK ZU at ih ⊢;rw[qG,List.find?_cons,qO,W5];by_cases e:p.1=k
  ·have:(k==p.1)=true:=by simp[e]
   simp[e]
  ·have h2:(k==p.1)=false:=by simpa using fun z=>e z.symm
   rw[qP e,h2];exact ih
theorem Uf(kvs:List (Int×α))(k:Int):hasK (ZU val kvs) (.int k)=(kvs.lookup k).isSome:=by
 induction kvs with
 |nil=>rfl
 |cons p r ih =>
  unfold hasK ZU at ih ⊢;rw[qG,List.any_cons,qO,W5];by_cases e:p.1=k
  ·simp[e]
  ·have h2:(k==p.1)=false:=by simpa using fun z=>e z.symm
   rw[qP e,h2];exact ih
theorem YN(kvs:List (Int×α))(k:Int)(v:α):putK (ZU val kvs) (.int k) (val v)=ZU val (Km kvs k v):=by
 unfold putK Km;rw[Uf];split
 ·unfold ZU;rw[List.map_map,List.map_map];refine List.map_congr_left fun p _=>?_;simp only[Function.comp_apply,W5];by_cases e:p.1=k
  ·simp[e]
  ·simp[e]
 ·unfold ZU;rw[qJ];rfl
theorem As(kvs:List (Int×α)):(ZU val kvs).length=kvs.length:=by unfold ZU;rw[qA]
theorem U4{kvs:List (Int×α)}{k:Int}{v:α}(h:kvs.lookup k=some v):(k,v)∈kvs:=by
 induction kvs with
 |nil=>cases h
 |cons p r ih =>
  rw[qO]at h;by_cases e:k=p.1
  ·have:(k==p.1)=true:=by simp[e]
   rw[this]at h;cases h;rw[e];exact qT
  ·have:(k==p.1)=false:=by simpa using e
   rw[this]at h;exact qI _ (ih h)
theorem WL{kvs:List (Int×α)}{k:Int}(h:k∈kvs.map (·.1)):∃ v,kvs.lookup k=some v:=by
 induction kvs with
 |nil=>cases h
 |cons p r ih =>
  rw[qO];by_cases e:k=p.1
  ·have:(k==p.1)=true:=by simp[e]
   rw[this];exact⟨_,rfl⟩
  ·have:(k==p.1)=false:=by simpa using e
   rw[this];rw[qG,qE]at h;exact ih (h.resolve_left e)
theorem Aa(kvs:List (Int×α))(k:Int)(v:α):(Km kvs k v).map (·.1)=if(kvs.lookup k).isSome then kvs.map (·.1)else kvs.map (·.1)++[k]:=by
 unfold Km;split
 ·rw[List.map_map];refine List.map_congr_left fun p _=>?_;simp only[Function.comp_apply];by_cases e:p.1=k<;>simp[e]
 ·rw[qJ];rfl
theorem Xq{kvs:List (Int×α)}{k:Int}(v:α)(h:k∉kvs.map (·.1)):Km kvs k v=kvs++[(k,v)]:=by
 unfold Km;have:kvs.lookup k=none:=by
  cases e:kvs.lookup k with
  |none=>rfl
  |some w=>exact absurd (List.mem_map_of_mem (f:=(·.1)) (U4 e)) h
 rw[this];rfl
end
theorem MD:∀ {xs:List Val}{k i:Nat}{v:Val},(enumL k xs)[i]?=some v→∃ x,xs[i]?=some x∧v=.tup [.int ((k+i:Nat):Int),x]
 |[],_,_,_,e=>by simp[enumL]at e
 |x::xs,k,0,v,e=>by have e:some (Val.tup [.int k,x])=some v:=e;cases e;exact⟨x,rfl,rfl⟩
 |x::xs,k,i+1,v,e=>by obtain⟨y,h1,h2⟩:=MD (xs:=xs) (k:=k+1) (i:=i) (v:=v) (by simpa[enumL]using e);exact⟨y,by simpa using h1,by rw[h2,show k+1+i=k+(i+1) by omega]⟩
theorem J3:∀ (xs:List Val) (k:Nat),(enumL k xs).length=xs.length
 |[],_=>rfl
 |_::xs,k=>by simp[enumL,J3 xs (k+1)]
theorem EM{h:Hs}{i:Int}{ns:List Int}{KB:Bool→Prop}(q:KB (decide (i∈ns))):go (cmpV h .isin (.int i) (.tup (ns.map .int))) KB:=go_of (by show inV h (.int i) (.tup _)=_;unfold inV;exact W6) q
theorem Dw{h:Hs}{i:Int}{ns:List Int}{KB:Bool→Prop}(q:KB (!decide (i∈ns))):go (cmpV h .notin (.int i) (.tup (ns.map .int))) KB:=go_of (by show(inV h (.int i) (.tup _)).map _=_;unfold inV;dsimp only;rw[W6];rfl) q
noncomputable def prI (p:Int×Int):Val:=.tup [.int p.1,.int p.2]
theorem JK{h:Hs}:∀ kvs:List (Int×Int),pairsOf h (kvs.map prI)=some (ZU .int kvs)
 |[]=>rfl
 |p::kvs=>by show(pairsOf h (kvs.map prI)).map _=_;rw[JK kvs];rfl
theorem X7:∀ (kvs acc:List (Int×Int)),((acc++kvs).map (·.1)).Nodup→putAll (ZU Val.int acc) (ZU Val.int kvs)=ZU Val.int (acc++kvs)
 |[],acc,_=>by rw[zB];rfl
 |p::kvs,acc,nd=>by
  have nk:p.1∉acc.map (·.1):=fun z=>by rw[qJ,List.nodup_append]at nd;exact nd.2.2 _ z p.1 (by simp) rfl
  show putAll (putK (ZU Val.int acc) (.int p.1) (.int p.2)) (ZU Val.int kvs)=_;rw[YN,Xq _ nk,X7 kvs (acc++[p]) (by simpa using nd)];simp
def WOk (bs:List Int) (ts:List Tie) (y:Tie):Prop:=0≤y.1∧y.1<ts.length∧y.2.1∈bs∧y.2.2∈bs
theorem YM{α:Type}{xs:List α}{f:α→Val}{i:Nat}{v:Val}(h:(xs.map f)[i]?=some v):∃ x,xs[i]?=some x∧v=f x:=by rw[qF]at h;obtain⟨x,h1,h2⟩:=qD.mp h;exact⟨x,h1,h2.symm⟩
section
variable {bs:List Int}{ts:List Tie}
theorem AC (no:NetOk bs ts) (hw:Row h w) (k:∀ p (ys:List Tie) g,p≠w→g p=some (.lst (ys.map Zh))→ys.length≤16→(∀ y∈ys,WOk bs ts y)→ExtB w h g→Row g w→Q (.ref p) g):wF P (n+2) "_law_made_ways" [.ref w,Yl bs ts] h Q X:=by
 unfold Yl;refine Xp ?_;walk_at "py";refine Ze fun p g1 hp x1 e1=>?_;have np:p≠w:=fun z=>hw.ne hp z.symm;walk_at "py";refine Zm (hw.ext x1) (by decide) (by decide) fun m g2 a2 b2 x2 w2=>?_;have e2:=x2.get np e1;walk_at "py";refine go_of (a:=ts.map Zh) rfl ?_;refine ZX (fun i en g=>∃ v4 v5 v6 v7,∃ ys:List Tie,en=[some (.ref w),some (.tup [.tup (bs.map .int),.tup (ts.map Zh)]),some (.ref p),some (.int m),v4,v5,v6,v7]∧g p=some (.lst (ys.map Zh))∧ys.length≤i∧(∀ y∈ys,WOk bs ts y)∧ExtB w h g∧Row g w) ⟨_,_,_,_,[],rfl,e2,zG _,(fun i hi=>absurd hi List.not_mem_nil),(ExtB.of x1).trans x2,w2⟩ (fun _ _ _ _ _=>trivial) ?_ ?_
 ·rintro i v en g hv ⟨v4,v5,v6,v7,ys,rfl,ep,hl,hy,x,hr⟩ K hK;obtain⟨u,hu,rfl⟩:=MD hv;obtain⟨t,ht,rfl⟩:=YM hu;have hit:i<ts.length:=(qK.mp ht).1;obtain⟨q1,q2,_⟩:=no.tie t (qY ht);obtain⟨ta,tb,tc⟩:=t;unfold Zh;walk_at "py";refine Zm hr (by decide) (by decide) fun r3 g3 a3 b3 x3 w3=>?_;walk_at "py";refine ifP (fun hc=>?_) (fun hc=>?_)
  ·walk_at "py";refine Ze fun p4 g4 hp4 x4 e4=>?_;have n4:p4≠w:=fun z=>w3.ne hp4 z.symm;walk_at "py";refine Zm (w3.ext x4) (by decide) (by decide) fun r5 g5 a5 b5 x5 w5=>?_;have e5:=x5.get n4 e4;have xx:ExtB w g g5:=(x3.trans (.of x4)).trans x5;have ep5:=xx.get np ep;obtain⟨c,d,ec,ed,hc,hd⟩:∃ c d:Int,atI [Val.int ta,.int tb] r5=some (.int c)∧atI [Val.int ta,.int tb] (1 - r5)=some (.int d)∧c∈bs∧d∈bs:=by
    have:r5=0∨r5=1:=by omega
    rcases this with rfl|rfl
    ·exact⟨_,_,rfl,rfl,q1,q2⟩
    ·exact⟨_,_,rfl,rfl,q2,q1⟩
   have h16:=no.sixteen;walk_at "py";refine ifP (fun hm=>?_) (fun hm=>?_)
   ·refine ifT rfl ?_;walk_at "py";refine ZD e5 ec ?_;walk_at "py";refine ZD e5 ed ?_;walk_at "py";refine Z2 ep5 (qS (by rw[qA];omega:(ys.map Zh).length≤16) (by decide)) ?_;dsimp only;walk_at "py";refine hK _ _ ⟨_,_,_,_,ys++[(((0+i:Nat):Int),c,d)],rfl,by rw[upd_same,qJ];rfl,by rw[qU];simp;omega,fun y hy'=>?_,Yc (x.trans xx) hp,w5.exb np⟩;rcases q8.mp hy' with hy'|hy'
    ·exact hy y hy'
    ·rw[zH.mp hy'];exact⟨by show(0:Int)≤((0+i:Nat):Int);omega,by show((0+i:Nat):Int)<ts.length;omega,hc,hd⟩
   ·walk_at "py";refine ZD e5 ec ?_;walk_at "py";refine⟨qS (by rw[qA];omega:(ys.map Zh).length≤16) (by decide),ZB (fun v=>match v with|.tup [_,.int c,_]=>some (.int c)|_=>none) (lsE ep5) (fun v hv K hK=>?_) ?_⟩
    ·obtain⟨y,hy',rfl⟩:=qZ.mp hv;obtain⟨y1,y2,y3⟩:=y;unfold Zh at hK ⊢;walk_at "py";refine ifT rfl ?_;walk_at "py";exact hK
    have ef:(ys.map Zh).filterMap (fun v=>match v with|.tup [_,.int c,_]=>some (.int c)|_=>none)=(ys.map fun y=>y.2.1).map Val.int:=by rw[List.filterMap_map,List.map_map];exact congrFun (List.filterMap_eq_map' (f:=fun y:Tie=>Val.int y.2.1)) ys
    rw[ef];refine Ze fun p6 g6 hp6 x6 e6=>?_;have ep6:=x6.get ep5;have e56:=x6.get e5;walk_at "py";refine On e6 ?_;walk_at "py";refine Ke (fun hq=>?_) (fun hq=>?_)
    ·walk_at "py";refine ZD e56 ec ?_;walk_at "py";refine ZD e56 ed ?_;walk_at "py";refine Z2 ep6 (qS (by rw[qA];omega:(ys.map Zh).length≤16) (by decide)) ?_;dsimp only;walk_at "py";refine hK _ _ ⟨_,_,_,_,ys++[(((0+i:Nat):Int),c,d)],rfl,by rw[upd_same,qJ];rfl,by rw[qU];simp;omega,fun y hy'=>?_,Yc (x.trans (xx.trans (.of x6))) hp,(w5.ext x6).exb np⟩;rcases q8.mp hy' with hy'|hy'
     ·exact hy y hy'
     ·rw[zH.mp hy'];exact⟨by show(0:Int)≤((0+i:Nat):Int);omega,by show((0+i:Nat):Int)<ts.length;omega,hc,hd⟩
    ·walk_at "py";exact hK _ _ ⟨_,_,_,_,ys,rfl,ep6,by omega,hy,x.trans (xx.trans (.of x6)),w5.ext x6⟩
  ·walk_at "py";exact hK _ _ ⟨_,_,_,_,ys,rfl,x3.get np ep,by omega,hy,x.trans x3,w3⟩
 ·rintro en g ⟨v4,v5,v6,v7,ys,rfl,ep,hl,hy,x,hr⟩;rw[J3,qA]at hl;walk_at "py";exact k p ys g np ep (zE hl no.sixteen) hy x hr
end
theorem O1{bs:List Int}{ts:List Tie}(no:NetOk bs ts):bs.Nodup:=no.up.imp fun h=>by omega
theorem At{kvs:List (Int×Int)}{bs:List Int}{k v:Int}(e:kvs.map (·.1)=bs)(hk:k∈bs):(Km kvs k v).map (·.1)=bs:=by obtain⟨x,hx⟩:=WL (kvs:=kvs) (k:=k) (e▸hk);rw[Aa,hx,Option.isSome_some,if_pos rfl,e]
theorem JF{kvs:List (Int×Int)}{bs:List Int}{k:Int}(e:kvs.map (·.1)=bs)(hk:k∈bs):∃ v,kvs.lookup k=some v:=WL (e▸hk)
theorem Jg{ts:List Tie}{i:Int}(h0:0≤i)(h1:i<ts.length):∃ t,ts[i.toNat]?=some t∧atI (ts.map Zh) i=some (Zh t):=by
 have h2:i.toNat<ts.length:=by omega
 refine⟨ts[i.toNat],qH h2,Js h0 ?_⟩;rw[qF,qH h2];rfl
section
variable {bs:List Int}{ts:List Tie}
theorem NS {pw:Ad}{ys:List Tie}(no:NetOk bs ts) (hw:Row h w) (nw:pw≠w) (ey:h pw=some (.lst (ys.map Zh))) (hy:∀ y∈ys,WOk bs ts y) (k:∀ p (rs:List Tie) g,p≠w→h p=none→g p=some (.lst (rs.map Zh))→rs.map (·.1)=bs→ExtB w h g→Row g w→Q (.ref p) g):wF P (n+2) "_law_fitted" [.ref w,Yl bs ts,.ref pw] h Q X:=by
 have nd:=O1 no;have h10:=no.ten;have hbl:(bs.map Val.int).length=bs.length:=qA _;unfold Yl;refine WZ ?_;walk_at "py";refine⟨qS (by rw[hbl];exact h10) (by decide),?_⟩;refine Y2 (fun i zs g=>∃ kvs:List (Int×Int),zs=kvs.map prI∧kvs.map (·.1)=bs.take i∧ExtB w h g∧Row g w) ⟨[],rfl,rfl,ExtB.refl,hw⟩ (fun _ _ _ _ _=>trivial) ?_ ?_
 ·rintro i v zs g hv ⟨kvs,rfl,e1,x,hr⟩ K hK;obtain⟨b,hb,rfl⟩:=YM hv;walk_at "py";refine ifT rfl ?_;walk_at "py";refine Zm hr (by decide) (by decide) fun r3 g3 a3 b3 x3 w3=>?_;walk_at "py";refine hK _ _ ⟨kvs++[(b,r3 - 2)],by rw[qJ];rfl,?_,x.trans x3,w3⟩;rw[qJ,e1,qW,hb];rfl
 ·rintro zs g ⟨kvs,rfl,e1,x,hr⟩;rw[hbl,zA]at e1;refine Ze fun p1 g1 hp1 x1 ep1=>?_;walk_at "py";refine OD ep1 (JK kvs) ?_;rw[show putAll [] (ZU Val.int kvs)=ZU Val.int kvs from X7 kvs [] (by rw[List.nil_append,e1];exact nd)];refine Ze fun d g2 hd x2 ed=>?_;have w2:=(hr.ext x1).ext x2;have ndw:d≠w:=fun z=>(hr.ext x1).ne hd z.symm;have xh:ExtB w h g2:=x.trans (.of (x1.trans x2));have hd0:h d=none:=by
   cases z:h d with
   |none=>rfl
   |some o=>rw[x1.get (x.get ndw z)]at hd;cases hd
  walk_at "py";refine Zm w2 (by decide) (by decide) fun r3 g3 a3 b3 x3 w3=>?_;have ed3:=x3.get ndw ed;walk_at "py";refine⟨⟨by omega,by omega⟩,?_⟩;refine ZX (fun i en g=>∃ v3 v5 v6 v7 v8,∃ kvs:List (Int×Int),en=[some (.ref w),some (.tup [.tup (bs.map .int),.tup (ts.map Zh)]),some (.ref pw),v3,some (.ref d),v5,v6,v7,v8,none,none]∧g d=some (.dct (ZU Val.int kvs))∧kvs.map (·.1)=bs∧ExtB w h g∧Row g w) ⟨_,_,_,_,_,kvs,rfl,ed3,e1,xh.trans x3,w3⟩ (fun _ _ _ _ _=>trivial) ?_ ?_
  ·rintro i v en g hv ⟨v3,v5,v6,v7,v8,kvs,rfl,ed,e1,x,hr⟩ K hK;obtain⟨rfl,hi⟩:=Jh hv;have eyg:=x.get nw ey;walk_at "py";refine ZX (fun j en g=>∃ v3 v6 v7 v8,∃ kvs:List (Int×Int),en=[some (.ref w),some (.tup [.tup (bs.map .int),.tup (ts.map Zh)]),some (.ref pw),v3,some (.ref d),some (.int i),v6,v7,v8,none,none]∧g d=some (.dct (ZU Val.int kvs))∧kvs.map (·.1)=bs∧ExtB w h g∧Row g w) ⟨_,_,_,_,kvs,rfl,ed,e1,x,hr⟩ (fun i en g _ ⟨_,_,_,_,_,_,_,_,x,_⟩=>lsE (x.get nw ey)) ?_ ?_
   ·rintro j v en g hv ⟨v3,v6,v7,v8,kvs,rfl,ed,e1,x,hr⟩ K hK;obtain⟨y,hy',rfl⟩:=YM hv;obtain⟨y0,y1,y2,y3⟩:=hy y (qY hy');obtain⟨pl,c,p⟩:=y;obtain⟨t,_,et⟩:=Jg y0 y1;obtain⟨z,hz⟩:=JF e1 y3;unfold Zh;walk_at "py";refine Yo ed rfl (by rw[Xh,hz];rfl) ?_;walk_at "py";refine ix_tup et ?_;unfold Zh;walk_at "py";refine WR (k:=.int c) ed ⟨rfl,by rw[As,←qA (f:=(·.1)) (as:=kvs),e1];exact qS h10 (by decide)⟩ ?_;rw[YN (val:=Val.int)];walk_at "py";exact hK _ _ ⟨_,_,_,_,_,rfl,upd_same,At e1 y2,Yc x hd0,hr.exb ndw⟩
   ·rintro en g ⟨v3,v6,v7,v8,kvs,rfl,ed,e1,x,hr⟩;walk_at "py";exact hK _ _ ⟨_,_,_,_,_,_,rfl,ed,e1,x,hr⟩
  ·rintro en g ⟨v3,v5,v6,v7,v8,kvs,rfl,ed,e1,x,hr⟩;walk_at "py";refine Zm hr (by decide) (by decide) fun r4 g4 a4 b4 x4 w4=>?_;walk_at "py";refine Ze fun q g5 hq x5 eq=>?_;have nq:q≠w:=fun z=>w4.ne hq z.symm;have hq0:h q=none:=by
    cases z:h q with
    |none=>rfl
    |some o=>rw[x4.get nq (x.get nq z)]at hq;cases hq
   have ed5:=x5.get (x4.get ndw ed);have ndq:d≠q:=ZG (x4.get ndw ed) hq;walk_at "py";refine ZX (fun i en g=>∃ v3,∃ rs:List Tie,en=[some (.ref w),some (.tup [.tup (bs.map .int),.tup (ts.map Zh)]),some (.ref pw),v3,some (.ref d),v5,v6,v7,v8,some (.int (r4 - 300)),some (.ref q)]∧g q=some (.lst (rs.map Zh))∧rs.map (·.1)=bs.take i∧g d=some (.dct (ZU Val.int kvs))∧ExtB w h g∧Row g w) ⟨_,[],rfl,eq,rfl,ed5,(x.trans x4).trans (.of x5),w4.ext x5⟩ (fun _ _ _ _ _=>trivial) ?_ ?_
   ·rintro i v en g hv ⟨v3,rs,rfl,eq,e2,ed,x,hr⟩ K hK;obtain⟨b,hb,rfl⟩:=YM hv;have hbm:=qY hb;obtain⟨z,hz⟩:=JF e1 hbm;walk_at "py";refine Zm hr (by decide) (by decide) fun r6 g6 a6 b6 x6 w6=>?_;walk_at "py";refine Yo (x6.get ndw ed) rfl (by rw[Xh,hz];rfl) ?_;walk_at "py";have hrl:rs.length≤10:=by
     rw[←qA (f:=(·.1)) (as:=rs),e2,qV];omega
    refine Z2 (x6.get nq eq) (qS (by rw[qA];exact hrl) (by decide)) ?_;dsimp only;walk_at "py";refine hK _ _ ⟨_,rs++[(b,_,z)],rfl,by rw[upd_same,qJ];rfl,?_,(upd_ne ndq).trans (x6.get ndw ed),Yc (x.trans x6) hq0,w6.exb nq⟩;rw[qJ,e2,qW,hb];rfl
   ·rintro en g ⟨v3,rs,rfl,eq,e2,ed,x,hr⟩;rw[hbl,zA]at e2;walk_at "py";exact k q rs g nq hq0 eq e2 x hr
end
def YR (u:Val):Prop:=(∃ i,u=.int i)∨(∃ b,u=.bl b)∨(∃ s,u=.str s)∨u=.non
def IT (g:Hs) (x:Val):Prop:=x=.non∨(∃ a,∃ ns:List Int,x=.ref a∧g a=some (.lst (ns.map .int))∧ns.length=3)∨∃ l,x=.tup l∧l.length≤4∧∀ u∈l,YR u
theorem IT.ext{g g':Hs}{x:Val}(t:IT g x)(e:Ext g g'):IT g' x:=by
 rcases t with t|⟨a,ns,h1,h2,h3⟩|t
 ·exact .inl t
 ·exact .inr (.inl ⟨a,ns,h1,e.get h2,h3⟩)
 ·exact .inr (.inr t)
theorem IT.row(g:Hs)(t:Tie):IT g (Zh t):=.inr (.inr ⟨_,rfl,(by decide:(3:Nat)≤4),fun u hu=>by
  simp only[qE,List.not_mem_nil,or_false]at hu
  rcases hu with rfl | rfl | rfl<;>exact .inl ⟨_,rfl⟩⟩)
theorem YS{α:Type}{xs:List α}{lo hi:Option Int}{x:α}(h:x∈cut xs lo hi):x∈xs:=List.mem_of_mem_drop (List.mem_of_mem_take h)
theorem Z9{α:Type}(xs:List α)(lo hi:Option Int):(cut xs lo hi).length≤xs.length:=by unfold cut;rw[qV,List.length_drop];omega
section
variable {bs:List Int}{ts:List Tie}
theorem Ng {ps:Ad}{rs:List Tie}{nv:Val}(hw:Row h w) (np:ps≠w) (es:h ps=some (.lst (rs.map Zh))) (l1:1≤rs.length) (l2:rs.length≤10) (k:∀ p xs g,g p=some (.lst xs)→xs.length≤30→(∀ x∈xs,IT g x)→ExtB w h g→Q (.ref p) g):wF P (n+2) "_law_spoilt" [.ref w,nv,.ref ps] h Q X:=by
 have hL:(rs.map Zh).length=rs.length:=qA _;refine Jb ?_;walk_at "py";refine Zm hw (by omega) (by omega) fun r1 g1 a1 b1 x1 w1=>?_;have es1:=x1.get np es;obtain⟨u,eu,hu⟩:=Yi (xs:=rs.map Zh) (r:=r1) a1 (by omega);obtain⟨t,ht,rfl⟩:=qZ.mp hu;obtain⟨ta,tb,tc⟩:=t;walk_at "py";refine ZD es1 eu ?_;unfold Zh at eu ⊢;walk_at "py";refine sl_tup (show ¬ ((0:Nat)=0∧(2:Nat)=3) by decide) ?_;rw[show cut [Val.int ta,.int tb,.int tc] none (some 2)=[.int ta,.int tb] from rfl];walk_at "py";refine Ze fun pl g2 hpl x2 epl=>?_;walk_at "py";refine Ze fun p3 g3 hp3 x3 e3=>?_;walk_at "py";refine Ze fun p4 g4 hp4 x4 e4=>?_;walk_at "py";refine Ze fun p5 g5 hp5 x5 e5=>?_;have x15:Ext g1 g5:=((x2.trans x3).trans x4).trans x5;have w5:=w1.ext x15;have n5:p5≠w:=fun z=>((w1.ext ((x2.trans x3).trans x4))).ne hp5 z.symm;have nl:pl≠w:=fun z=>w1.ne hpl z.symm;have epl5:=x5.get (x4.get (x3.get epl));clear e3 e4;walk_at "py";refine Zm w5 (by decide) (by decide) fun r6 g6 a6 b6 x6 w6=>?_;have e6:=x6.get n5 e5;have epl6:=x6.get nl epl5;have es6:=x6.get np (x15.get es1);have xh:ExtB w h g6:=(x1.trans (.of x15)).trans x6;have itr:∀ {g:Hs}{x:Val},x∈rs.map Zh→IT g x:=fun {g x} hx=>by obtain⟨t,_,rfl⟩:=qZ.mp hx;exact .row g t
 walk_at "py";refine ifP (fun hc=>?_) (fun hc=>?_)
 ·walk_at "py";refine Ze fun q1 g7 hq1 y1 f1=>?_;walk_at "py";refine Ze fun q2 g8 hq2 y2 f2=>?_;have c1:=Z9 (rs.map Zh) none (some r1);have c2:=Z9 (rs.map Zh) (some (r1+1)) none;refine YK (y2.get f1) f2 (by rw[qU];exact zE (by omega:_≤20) (by decide)) ?_;refine Ze fun q3 g9 hq3 y3 f3=>?_;refine k q3 _ g9 f3 (by rw[qU];omega) (fun x hx=>?_) (xh.trans (.of ((y1.trans y2).trans y3)));rcases q8.mp hx with hx|hx<;>exact itr (YS hx)
 walk_at "py";refine ifP (fun hc=>?_) (fun hc=>?_)
 ·walk_at "py";refine Ze fun q1 g7 hq1 y1 f1=>?_;have n7:q1≠w:=fun z=>w6.ne hq1 z.symm;walk_at "py";refine Zm (w6.ext y1) (by decide) (by decide) fun r8 g8 a8 b8 y2 w8=>?_;obtain⟨u,eu8,hu8⟩:=Yi (xs:=[Val.tup [.int ta,.bl true,.int tc],.tup [.int ta,.str "1",.int tc],.non,.tup [.int ta,.int tb],.tup ([.int ta,.int tb,.int tc]++[.int 0]),.ref pl,.tup [.int ta,.int tb,.non]]++[.tup [.int (ta+1),.int tb,.int tc],.tup [.int (-1),.int 0,.int 0],.tup [.bl true,.int tb,.int tc]]) (r:=r8) a8 (by rw[qU];exact b8);refine ZD (y2.get n5 (y1.get e6)) eu8 ?_;walk_at "py";refine Ze fun q3 g9 hq3 y3 f3=>?_;have f13:=y3.get (y2.get n7 f1);refine YK f13 f3 (by rw[qU];have:=Z9 (rs.map Zh) none (some r1);exact zE (by simp;omega:_≤20) (by decide)) ?_;refine Ze fun q4 g10 hq4 y4 f4=>?_;have es10:=y4.get (y3.get (y2.get np (y1.get es6)));walk_at "py";refine Ze fun q5 g11 hq5 y5 f5=>?_;have c1:=Z9 (rs.map Zh) none (some r1);have c2:=Z9 (rs.map Zh) (some (r1+1)) none;refine YK (y5.get f4) f5 (by rw[qU,qU];exact zE (by simp;omega:_≤30) (by decide)) ?_;refine Ze fun q6 g12 hq6 y6 f6=>?_;have epl12:=y6.get (y5.get (y4.get (y3.get (y2.get nl (y1.get epl6)))));refine k q6 _ g12 f6 (by rw[qU,qU];simp;omega) (fun x hx=>?_) (((xh.trans (.of y1)).trans y2).trans (.of (((y3.trans y4).trans y5).trans y6)));rcases q8.mp hx with hx|hx
  ·rcases q8.mp hx with hx|hx
   ·exact itr (YS hx)
   ·rw[zH.mp hx];have pt:∀ l:List Val,l.length≤4→(∀ u∈l,YR u)→IT g12 (.tup l):=fun l h1 h2=>.inr (.inr ⟨l,rfl,h1,h2⟩);have pi:∀ i,YR (.int i):=fun i=>.inl ⟨i,rfl⟩;have pb:∀ b,YR (.bl b):=fun b=>.inr (.inl ⟨b,rfl⟩);have ps:∀ s,YR (.str s):=fun s=>.inr (.inr (.inl ⟨s,rfl⟩));have pn:YR .non:=.inr (.inr (.inr rfl));simp only[List.cons_append,List.nil_append,qE,List.not_mem_nil,or_false]at hu8;rcases hu8 with rfl|rfl|rfl|rfl|rfl|rfl|rfl|rfl|rfl|rfl
    ·exact pt _ (by simp) (by simp[pi,pb])
    ·exact pt _ (by simp) (by simp[pi,ps])
    ·exact .inl rfl
    ·exact pt _ (by simp) (by simp[pi])
    ·exact pt _ (by simp) (by simp[pi])
    ·exact .inr (.inl ⟨pl,[ta,tb,tc],rfl,epl12,rfl⟩)
    ·exact pt _ (by simp) (by simp[pi,pn])
    ·exact pt _ (by simp) (by simp[pi])
    ·exact pt _ (by simp) (by simp[pi])
    ·exact pt _ (by simp) (by simp[pi,pb])
  ·exact itr (YS hx)
 walk_at "py";refine ifP (fun hc=>?_) (fun hc=>?_)
 ·walk_at "py";refine Ze fun q1 g7 hq1 y1 f1=>?_;walk_at "py";refine Ze fun q2 g8 hq2 y2 f2=>?_;have c1:=Z9 (rs.map Zh) none (some r1);have c2:=Z9 (rs.map Zh) (some r1) none;refine YK (y2.get f1) f2 (by rw[qU];exact zE (by simp;omega:_≤20) (by decide)) ?_;refine Ze fun q3 g9 hq3 y3 f3=>?_;walk_at "py";refine Ze fun q5 g11 hq5 y5 f5=>?_;refine YK (y5.get f3) f5 (by rw[qU,qU];exact zE (by simp;omega:_≤30) (by decide)) ?_;refine Ze fun q6 g12 hq6 y6 f6=>?_;refine k q6 _ g12 f6 (by rw[qU,qU];simp;omega) (fun x hx=>?_) (xh.trans (.of ((((y1.trans y2).trans y3).trans y5).trans y6)));rcases q8.mp hx with hx|hx
  ·rcases q8.mp hx with hx|hx
   ·exact itr (YS hx)
   ·rw[zH.mp hx];exact .row _ (ta,tb,tc)
  ·exact itr (YS hx)
 walk_at "py";refine ifP (fun hc=>?_) (fun hc=>?_)
 ·walk_at "py";refine Hg ?_;walk_at "py";refine go_of (lsE es6) ?_;refine Ze fun q1 g7 hq1 y1 f1=>?_;exact k q1 _ g7 f1 (by rw[List.length_reverse];omega) (fun x hx=>itr (List.mem_reverse.mp hx)) (xh.trans (.of y1))
 walk_at "py";exact k ps _ g6 es6 (by omega) (fun x hx=>itr hx) xh
end
noncomputable def ZK:Val→Bool
 |.int _=>true
 |_=>false
noncomputable def ZE (bs:List Int):Val→Bool
 |.tup [.int b,.int _,.int _]=>decide (b∈bs)
 |_=>false
noncomputable def Zx:Val→Tie
 |.tup [.int a,.int b,.int c]=>(a,b,c)
 |_=>(0,0,0)
theorem JR{bs:List Int}{x:Val}(h:ZE bs x=true):x=Zh (Zx x)∧(Zx x).1∈bs:=by
 unfold ZE at h;split at h
 ·exact⟨rfl,by simpa[Zx]using h⟩
 ·cases h
theorem MR{bs:List Int}{xs:List Val}(h:xs.all (ZE bs)=true):xs=(xs.map Zx).map Zh∧∀ r∈xs.map Zx,r.1∈bs:=by
 rw[List.all_eq_true]at h;constructor
 ·rw[List.map_map];exact((List.map_id xs).symm.trans (List.map_congr_left fun x hx=>(JR (h x hx)).1))
 ·intro r hr;obtain⟨x,hx,rfl⟩:=qZ.mp hr;exact(JR (h x hx)).2
noncomputable def rk (rs:List Tie):List (Int×(Int×Int)):=rs.map fun r=>(r.1,r.2)
noncomputable abbrev tpV (p:Int×Int):Val:=.tup [.int p.1,.int p.2]
noncomputable def Mf (ts:List Tie) (i:Int):Int:=(ts[i.toNat]?.getD (0,0,0)).2.2
noncomputable def Y0 (ts:List Tie) (rs:List Tie) (y:Tie):Bool:=match (rk rs).lookup y.2.1,(rk rs).lookup y.2.2 with
 |some p,some q=>decide (p=(q.1,q.2+Mf ts y.1))
 |_,_=>false
noncomputable def upB:List Int→Bool
 |a::b::r=>decide (a<b)&&upB (b::r)
 |_=>true
theorem upB_iff:∀ {l:List Int},upB l=true↔l.Pairwise (· < ·)
 |[]=>by simp[upB]
 |[a]=>by simp[upB]
 |a::b::r=>by
  rw[upB,bAq,decide_eq_true_eq,upB_iff,@List.pairwise_cons _ _ a];constructor
  ·rintro⟨h1,h2⟩;refine⟨fun c hc=>?_,h2⟩;rcases qE.mp hc with rfl|hc
   ·exact h1
   ·have:=(List.pairwise_cons.mp h2).1 c hc;omega
  ·rintro⟨h1,h2⟩;exact⟨h1 b (by simp),h2⟩
noncomputable def JD (bs:List Int) (ts ys:List Tie) (xs:List Val):Bool :=
 xs.all (ZE bs)&&(upB ((xs.map Zx).map (·.1))&&(decide ((ys.map fun y=>y.2.1).Nodup)&&ys.all (Y0 ts (xs.map Zx))))
theorem Mm:∀ {l:List Int},l.Nodup→dedup l=l
 |[],_=>rfl
 |x::l,h=>by obtain⟨h1,h2⟩:=List.nodup_cons.mp h;rw[dedup,Mm h2,List.filter_eq_self.mpr];intro y hy;simp only[bne_iff_ne,ne_eq];rintro rfl;exact h1 hy
theorem Nr{l:List Int}(h:l.Pairwise (· < ·)):sortI l=l:=by have h1:=W9 (h.imp fun z=>by omega:l.Nodup);have p:=List.mergeSort_perm l fun a b=>decide (a≤b);exact p.eq_of_pairwise (fun a b _ _ z1 z2=>by omega) h1 h
theorem Fh{l:List Int}:l=sortI (dedup l)↔l.Pairwise (· < ·):=by
 constructor
 ·intro e;rw[e];exact Cg l
 ·intro h;rw[Mm (h.imp fun z=>by omega),Nr h]
theorem Aq{h:Hs}{a b:Ad}{l m:List Int}(e1:h a=some (.lst (l.map .int)))(e2:h b=some (.lst (m.map .int))):eqV h (.ref a) (.ref b)=some (decide (l=m)):=by
 have d:∀ {a:Ad}{l:List Int},h a=some (.lst (l.map .int))→dat h deep (.ref a)=some (.lst (l.map .int)):=fun {a l} e=>by unfold deep;rw[dat,e,ZY,Option.bind_some,YT];rfl
 unfold eqV;rw[d e1,d e2];show some (D.eqv (.lst _) (.lst _))=_;congr 1;rw[D.eqv];clear e1 e2;induction l generalizing m with
 |nil=>cases m<;>simp[D.eqvs]
 |cons x l ih =>
  cases m with
  |nil=>simp[D.eqvs]
  |cons y m =>rw[qG,qG,D.eqvs,ih,MM];by_cases h1:x=y<;>by_cases h2:l=m<;>simp[h1,h2]
section
variable {bs:List Int}{ts ys:List Tie}
theorem N9 {u:Val}(pu:YR u) (k:Q (.bl (ZK u)) h):wF P (n+1) "is_whole" [u] h Q X:=by
 refine YC ?_;rcases pu with⟨i,rfl⟩|⟨b,rfl⟩|⟨s,rfl⟩|rfl
 ·walk_at "py";refine ifT rfl ?_;walk_at "py";exact k
 ·walk_at "py";refine ifT rfl ?_;walk_at "py";exact k
 ·walk_at "py";refine ifF rfl ?_;exact k
 ·walk_at "py";refine ifF rfl ?_;exact k
theorem NL {x:Val}(hx:IT h x) (k:∀ g,Ext h g→Q (.bl (ZE bs x)) g):wF P (n+2) "is_rank" [Yl bs ts,x] h Q X:=by
 unfold Yl;refine Nt ?_;rcases hx with rfl|⟨a,ns,rfl,ha,hl⟩|⟨l,rfl,hl,hp⟩
 ·walk_at "py";refine ifT rfl ?_;refine ifT rfl ?_;walk_at "py";exact k h .refl
 ·walk_at "py";refine BG (c:=false) (by unfold isiAny isiAny isiV kindV;simp only[ha];rfl) ?_;walk_at "py";refine ifT rfl ?_;refine ifT rfl ?_;walk_at "py";exact k h .refl
 ·walk_at "py";refine ifF rfl ?_;walk_at "py";refine Ke (fun hc=>?_) (fun hc=>?_)
  ·walk_at "py";have:ZE bs (.tup l)=false:=by
    unfold ZE;split
    ·rename_i e;cases e;exact absurd rfl hc
    ·rfl
   rw[this]at k;exact k h .refl
  ·walk_at "py";refine⟨qS hl (by decide),ZB (fun v=>some (.bl (ZK v))) trivial (fun v hv K hK=>?_) ?_⟩
   ·walk_at "py";refine ifT rfl ?_;walk_at "py";exact N9 (hp v hv) hK
   rw[show l.filterMap (fun v=>some (Val.bl (ZK v)))=(l.map ZK).map Val.bl by rw[List.map_map];exact congrFun (List.filterMap_eq_map' (f:=fun v=>Val.bl (ZK v))) l];refine Ze fun p g hp2 x ep=>?_;walk_at "py";refine X0 ep (ZT _) ?_;walk_at "py";have k:=k g x
   match l,hc with
   |[u,v,z],_ =>
    refine ifD (fun ha=>?_) (fun ha=>?_)
    ·simp only[qG,List.map_nil,List.all_cons,List.all_nil,id,Bool.and_true,bAq]at ha;obtain⟨h1,h2,h3⟩:=ha;cases u<;>cases h1;cases v<;>cases h2;cases z<;>cases h3;walk_at "py";refine EM ?_;walk_at "py";exact k
    ·have:ZE bs (.tup [u,v,z])=false:=by
      unfold ZE;split
      ·rename_i e;cases e;cases ha
      ·rfl
     rw[this]at k;exact k
end
noncomputable def E8:Val→Option Val
 |.tup [_,.int c,_]=>some (.int c)
 |_=>none
noncomputable def GL:Val→Option Val
 |.tup (.int c::_)=>some (.int c)
 |_=>none
theorem OC:∀ rs:List Tie,(rs.map Zh).filterMap GL=(rs.map (·.1)).map Val.int
 |[]=>rfl
 |r::rs=>by rw[qG,zJ,qG,qG,←OC rs];rfl
theorem Kk:∀ rs:List Tie,(rs.map Zh).filterMap E8=(rs.map fun y=>y.2.1).map Val.int
 |[]=>rfl
 |r::rs=>by rw[qG,zJ,qG,qG,←Kk rs];rfl
theorem W2(rs:List Tie):(rk rs).map (·.1)=rs.map (·.1):=by unfold rk;rw[List.map_map];rfl
theorem Gf(h:Hs)(p q:Int×Int):eqV h (tpV p) (tpV q)=some (decide (p=q)):=by obtain⟨p1,p2⟩:=p;obtain⟨q1,q2⟩:=q;show some (D.eqv (.tup [.int p1,.int p2]) (.tup [.int q1,.int q2]))=_;congr 1;simp only[D.eqv,D.eqvs,Bool.and_true];by_cases h1:p1=q1<;>by_cases h2:p2=q2<;>simp[h1,h2]
theorem Dh{l:List Int}:(!decide (((dedup l).length:Int)=l.length))=!decide l.Nodup:=by have:=Yu l;congr 1;exact decide_eq_decide.mpr ⟨fun e=>this.mp (by omega),fun e=>by have:=this.mpr e;omega⟩
section
variable {bs:List Int}{ts ys:List Tie}
theorem Up {d:Ad}{rs:List Tie}{y:Tie}(hy:WOk bs ts y) (ed:h d=some (.dct (ZU tpV (rk rs)))) (k:Q (.bl (Y0 ts rs y)) h):wF P (n+1) "is_way_ranked" [Yl bs ts,Zh y,.ref d] h Q X:=by
 obtain⟨y0,y1,_,_⟩:=hy;obtain⟨t,ht,et⟩:=Jg y0 y1;obtain⟨pl,c,p⟩:=y;unfold Yl Zh;refine Xm ?_;walk_at "py";refine Nd ed rfl ?_;rw[Uf];unfold Y0 Mf at k;dsimp only at k y0 y1 et ht;walk_at "py";cases ec:(rk rs).lookup c with
 |none =>rw[ec]at k;refine ifT rfl ?_;refine ifT rfl ?_;walk_at "py";exact k
 |some u =>
  refine ifF rfl ?_;walk_at "py";refine Nd ed rfl ?_;rw[Uf];walk_at "py";cases ep:(rk rs).lookup p with
  |none =>rw[ec,ep]at k;refine ifT rfl ?_;walk_at "py";exact k
  |some v =>rw[ec,ep,ht]at k;refine ifF rfl ?_;walk_at "py";refine Yo ed rfl (by rw[Xh,ep];rfl) ?_;walk_at "py";refine Yo ed rfl (by rw[Xh,ec];rfl) ?_;walk_at "py";refine ix_tup et ?_;unfold Zh;walk_at "py";refine GR (Gf h u (v.1,v.2+t.2.2)) ?_;walk_at "py";exact k
theorem Nx {pw px:Ad}{xs:List Val}(no:NetOk bs ts) (ey:h pw=some (.lst (ys.map Zh))) (hyl:ys.length≤16) (hy:∀ y∈ys,WOk bs ts y) (ex:h px=some (.lst xs)) (hxl:xs.length≤30) (hx:∀ x∈xs,IT h x) (k:∀ g,Ext h g→Q (.bl (JD bs ts ys xs)) g):wF P (n+3) "is_ranked" [Yl bs ts,.ref pw,.ref px] h Q X:=by
 have hL:(ys.map Zh).length=ys.length:=qA _;unfold JD at k;refine JC ?_;refine Jn (U3 (EL (M6 (M5 (AR (WO (M4 rfl (JL (isl ex (Mu ?_))))))))));refine ifF rfl ?_;walk_at "py";refine⟨qS hxl (by decide),?_⟩;refine Y2 (fun i zs g=>zs=((xs.take i).map (ZE bs)).map Val.bl∧Ext h g) ⟨rfl,.refl⟩ (fun i zs g _ ⟨_,x⟩=>lsE (x.get ex)) ?_ ?_
 ·rintro i v zs g hv ⟨rfl,x⟩ K hK;walk_at "py";refine ifT rfl ?_;walk_at "py";refine NL ((hx v (qY hv)).ext x) fun g2 x2=>?_;refine hK _ _ ⟨?_,x.trans x2⟩;rw[qW,hv,qJ,qJ];rfl
 rintro zs g ⟨rfl,x⟩;rw[zA];refine Ze fun p1 g1 hp1 x1 e1=>?_;walk_at "py";refine X0 e1 (ZT _) ?_;rw[show(xs.map (ZE bs)).all id=xs.all (ZE bs) by rw[List.all_map];rfl];walk_at "py";have x01:=x.trans x1;cases ha:xs.all (ZE bs)with
 |false =>rw[ha]at k;refine ifT rfl ?_;walk_at "py";exact k _ x01
 |true =>
 rw[ha,Bool.true_and]at k;obtain⟨er,hr⟩:=MR ha;have hrl:(xs.map Zx).length≤30:=by rw[qA];exact hxl
 generalize xs.map Zx=rs at er hr k hrl;subst er;have hR:(rs.map Zh).length=rs.length:=qA _;refine ifF rfl ?_;walk_at "py";refine⟨qS hxl (by decide),ZB GL (lsE (x01.get ex)) (fun v hv K hK=>?_) ?_⟩
 ·obtain⟨r,_,rfl⟩:=qZ.mp hv;obtain⟨r1,r2,r3⟩:=r;unfold Zh at hK ⊢;walk_at "py";refine ifT rfl ?_;walk_at "py";exact hK
 rw[OC];refine Ze fun p2 g2 hp2 x2 e2=>?_;have hfl:(rs.map (·.1)).length≤30:=by rw[qA];exact hrl
 walk_at "py";refine FD e2 (by omega) (Ze fun p3 g3 hp3 x3 e3=>?_);refine OA (Aq (x3.get e2) e3) ?_;walk_at "py";have x03:=(x01.trans x2).trans x3;have eu:decide (rs.map (·.1)=sortI (dedup (rs.map (·.1))))=upB (rs.map (·.1)):=by rw[Bool.eq_iff_iff,decide_eq_true_eq,upB_iff];exact Fh
 rw[eu];cases hu:upB (rs.map (·.1))with
 |false =>rw[hu]at k;refine ifT rfl ?_;walk_at "py";exact k _ x03
 |true =>
 rw[hu,Bool.true_and]at k;have nd:(rs.map (·.1)).Nodup:=(upB_iff.mp hu).imp fun z=>by omega
 refine ifF rfl ?_;walk_at "py";refine⟨qS (by rw[hL];exact hyl) (by decide),ZB E8 (lsE (x03.get ey)) (fun v hv K hK=>?_) ?_⟩
 ·obtain⟨r,_,rfl⟩:=qZ.mp hv;obtain⟨r1,r2,r3⟩:=r;unfold Zh at hK ⊢;walk_at "py";refine ifT rfl ?_;walk_at "py";exact hK
 rw[Kk];refine Ze fun p4 g4 hp4 x4 e4=>?_;have hcl:(ys.map fun y=>y.2.1).length≤16:=by rw[qA];exact hyl
 walk_at "py";refine lset e4 (by omega) ?_;walk_at "py";rw[qA (f:=Val.int),Dh];have x04:=x03.trans x4;refine Ke (fun hc=>?_) (fun hc=>?_)
 ·rw[qP hc]at k;walk_at "py";exact k _ x04
 rw[qQ hc,Bool.true_and]at k;walk_at "py";intro d hd;have x5:Ext g4 (upd g4 d (.dct [])):=Ext.new hd;have ed:(upd g4 d (.dct [])) d=some (.dct (ZU tpV (rk []))):=upd_same;generalize upd g4 d (.dct [])=g5 at x5 ed;have x05:=x04.trans x5;have hd0:h d=none:=by
  cases z:h d with
  |none=>rfl
  |some o=>rw[x04.get z]at hd;cases hd
 walk_at "py";refine ZX (fun i en g=>∃ v6 v7 v8,en=[some (Yl bs ts),some (.ref pw),some (.ref px),some (.ref p2),some (.ref p4),some (.ref d),v6,v7,v8]∧g d=some (.dct (ZU tpV (rk (rs.take i))))∧Ext h g) ⟨_,_,_,rfl,ed,x05⟩ (fun i en g _ ⟨_,_,_,_,_,x⟩=>lsE (x.get ex)) ?_ ?_
 ·rintro i v en g hv ⟨v6,v7,v8,rfl,ed,x⟩ K hK;obtain⟨r,hr',rfl⟩:=YM hv;have htl:(rs.take i).length≤30:=by rw[qV];omega
  have nk:r.1∉(rk (rs.take i)).map (·.1):=by rw[W2];intro m;obtain⟨q,hq,e⟩:=qZ.mp m;obtain⟨j,hj,e2⟩:=List.mem_take_iff_getElem.mp hq;have hi:=(qK.mp hr').1;have hir:=(qK.mp hr').2;have:=List.pairwise_iff_getElem.mp (upB_iff.mp hu) j i (by rw[qA];omega) (by rw[qA];exact hi) (by omega);rw[List.getElem_map,List.getElem_map,hir,e2,e]at this;omega
  obtain⟨r1,r2,r3⟩:=r;unfold Zh;walk_at "py";refine WR (k:=.int r1) ed ⟨rfl,by rw[As];unfold rk;rw[qA];exact qS htl (by decide)⟩ ?_;rw[show Val.tup [.int r2,.int r3]=tpV (r2,r3) from rfl,YN,Xq _ nk];walk_at "py";refine hK _ _ ⟨_,_,_,rfl,?_,⟨fun e=>by rw[upd_ne (ZG e hd0)];exact x.get e⟩⟩;rw[upd_same,qW,hr'];unfold rk;rw[qJ];rfl
 ·rintro en g ⟨v6,v7,v8,rfl,ed,x⟩;rw[hR,zA]at ed;walk_at "py";refine⟨qS (by rw[hL];exact hyl) (by decide),ZB (fun v=>some (.bl (Y0 ts rs (Zx v)))) (lsE (x.get ey)) (fun v hv K hK=>?_) ?_⟩
  ·obtain⟨y,hy',rfl⟩:=qZ.mp hv;walk_at "py";refine ifT rfl ?_;walk_at "py";exact Up (hy y hy') ed hK
  rw[show(ys.map Zh).filterMap (fun v=>some (Val.bl (Y0 ts rs (Zx v))))=(ys.map (Y0 ts rs)).map Val.bl by rw[List.filterMap_map,List.map_map];exact congrFun (List.filterMap_eq_map' (f:=fun y=>Val.bl (Y0 ts rs y))) ys];refine Ze fun p6 g6 hp6 x6 e6=>?_;walk_at "py";refine X0 e6 (ZT _) ?_;rw[show(ys.map (Y0 ts rs)).all id=ys.all (Y0 ts rs) by rw[List.all_map];rfl];exact k _ (x.trans x6)
end
theorem BZ{l:List Int}{a:Int}:atI ((l++[a]).map Val.int) (-1)=some (.int a):=by
 unfold atI ixN;rw[if_neg (by decide),if_pos (by rw[qA,qU];simp;omega),Option.bind_some];have:(-1+(((l++[a]).map Val.int).length:Int)).toNat=l.length:=by rw[qA,qU];simp;omega
 rw[this,qF];simp
theorem Mr{l:List Int}{a b:Int}(h:(l++[a]).Pairwise (· < ·))(hb:a<b):(l++[a]++[b]).Pairwise (· < ·):=by
 rw[List.pairwise_append];refine⟨h,by simp,fun x hx y hy=>?_⟩;rw[zH.mp hy];rcases q8.mp hx with hx|hx
 ·have:=(List.pairwise_append.mp h).2.2 x hx a (by simp);omega
 ·rw[zH.mp hx];exact hb
theorem BD{bs:List Int}{ts ys:List Tie}{xs:List Val}{x:Val}(hx:x∈xs)(h:ZE bs x=false):JD bs ts ys xs=false:=by unfold JD;rw[show xs.all (ZE bs)=false from List.all_eq_false.mpr ⟨x,hx,by rw[h];decide⟩];rfl
theorem AX{bs:List Int}{ts ys:List Tie}{xs:List Val}(i:Nat)(h:¬ (((xs.take i).map Zx).map (·.1)).Pairwise (· < ·)):JD bs ts ys xs=false:=by
 unfold JD;have:upB ((xs.map Zx).map (·.1))=false:=by rw[Bool.eq_false_iff];intro z;refine h ((upB_iff.mp z).sublist ?_);exact((List.take_sublist i xs).map _).map _
 rw[this,Bool.false_and,Bool.and_false]
section
variable {bs:List Int}{ts ys:List Tie}
theorem Mc {u:Val}(pu:YR u) (k:Q (.bl (ZK u)) h):wF P (n+1) "_law_whole" [u] h Q X:=by
 refine JT ?_;rcases pu with⟨i,rfl⟩|⟨b,rfl⟩|⟨s,rfl⟩|rfl
 ·walk_at "py";refine ifT rfl ?_;walk_at "py";exact k
 ·walk_at "py";refine ifT rfl ?_;walk_at "py";exact k
 ·walk_at "py";refine ifF rfl ?_;exact k
 ·walk_at "py";refine ifF rfl ?_;exact k
theorem C3 {pw px:Ad}{xs:List Val}(no:NetOk bs ts) (ey:h pw=some (.lst (ys.map Zh))) (hyl:ys.length≤16) (hy:∀ y∈ys,WOk bs ts y) (ex:h px=some (.lst xs)) (hxl:xs.length≤30) (hx:∀ x∈xs,IT h x) (k:∀ g,Ext h g→Q (.bl (JD bs ts ys xs)) g):wF P (n+2) "_law_due" [Yl bs ts,.ref pw,.ref px] h Q X:=by
 have hL:(ys.map Zh).length=ys.length:=qA _;refine Oa ?_;walk_at "py";intro d hd;have x1:Ext h (upd h d (.dct [])):=Ext.new hd;have ed:(upd h d (.dct [])) d=some (.dct (ZU tpV (rk []))):=upd_same;generalize upd h d (.dct [])=g1 at x1 ed;walk_at "py";refine Ze fun pa g2 hpa x2 ea=>?_;have nda:d≠pa:=ZG ed hpa;have hpa0:h pa=none:=by
  cases z:h pa with
  |none=>rfl
  |some o=>rw[x1.get z]at hpa;cases hpa
 walk_at "py";refine ZX (fun i en g=>∃ v5,en=[some (Yl bs ts),some (.ref pw),some (.ref px),some (.ref d),some (.ref pa),v5,none,none,none]∧(xs.take i).all (ZE bs)=true∧(((xs.take i).map Zx).map (·.1)).Pairwise (· < ·)∧g d=some (.dct (ZU tpV (rk ((xs.take i).map Zx))))∧g pa=some (.lst ((((xs.take i).map Zx).map (·.1)).map Val.int))∧Ext h g) ⟨_,rfl,rfl,.nil,x2.get ed,ea,x1.trans x2⟩ (fun i en g _ ⟨_,_,_,_,_,_,x⟩=>lsE (x.get ex)) ?_ ?_
 ·rintro i v en g hv ⟨v5,rfl,hall,hup,ed,ea,x⟩ K hK;have hvm:=qY hv;have hit:=(hx v hvm).ext x;have no1:∀ g',Ext g g'→ZE bs v=false→Q (.bl false) g':=fun g' x' z=>by
   have:=k g' (x.trans x');rw[BD hvm z]at this;exact this
  rcases hit with rfl|⟨a,ns,rfl,ha,hl⟩|⟨l,rfl,hl,hp⟩
  ·walk_at "py";refine ifT rfl ?_;refine ifT rfl ?_;walk_at "py";exact no1 _ .refl rfl
  ·walk_at "py";refine BG (c:=false) (by unfold isiAny isiAny isiV kindV;simp only[ha];rfl) ?_;walk_at "py";refine ifT rfl ?_;refine ifT rfl ?_;walk_at "py";exact no1 _ .refl rfl
  walk_at "py";refine ifF rfl ?_;walk_at "py";refine Ke (fun hc=>?_) (fun hc=>?_)
  ·refine ifT rfl ?_;walk_at "py";refine no1 _ .refl ?_;unfold ZE;split
   ·rename_i e;cases e;exact absurd rfl hc
   ·rfl
  walk_at "py";refine⟨qS hl (by decide),ZB (fun v=>if ZK v then none else some v) trivial (fun v hv K hK=>?_) ?_⟩
  ·walk_at "py";refine Mc (hp v hv) ?_;walk_at "py";refine ifD (fun hq=>?_) (fun hq=>?_)
   ·have hq:ZK v=false:=by simpa using hq
    rw[hq]at hK;walk_at "py";exact hK
   ·have hq:ZK v=true:=by simpa using hq
    rw[hq]at hK;exact hK
  refine Ze fun p3 g3 hp3 x3 e3=>?_;walk_at "py";refine Ze fun p4 g4 hp4 x4 e4=>?_;refine c_neE (x4.get e3) e4 ?_;walk_at "py";have x34:=x3.trans x4
  match l,hc with
  |[u,v,z],hz3 =>
   by_cases hq:ZK u=true∧ZK v=true∧ZK z=true
   ·obtain⟨q1,q2,q3⟩:=hq;refine ifF (by simp[q1,q2,q3]) ?_;cases u<;>cases q1;cases v<;>cases q2;cases z<;>cases q3;rename_i b r c;unfold Yl;walk_at "py";refine Dw ?_;walk_at "py";refine Ke (fun hb=>?_) (fun hb=>?_)
    ·refine ifT rfl ?_;walk_at "py";refine no1 _ x34 ?_;unfold ZE;exact qP hb
    have e1:(xs.take (i+1)).map Zx=(xs.take i).map Zx++[(b,r,c)]:=by rw[qW,hv,qJ];rfl
    have hall1:(xs.take (i+1)).all (ZE bs)=true:=by rw[qW,hv,List.all_append,hall];show(true&&(decide (b∈bs)&&true))=true;rw[qQ hb];rfl
    have ed4:=x34.get ed;have ea4:=x34.get ea;have hlen:((xs.take i).map Zx).length≤30:=by rw[qA,qV];omega
    generalize hfs:((xs.take i).map Zx).map (·.1)=fs at hup ea4;have e2:((xs.take (i+1)).map Zx).map (·.1)=fs++[b]:=by rw[e1,qJ,hfs];rfl
    have hfl:(fs.map Val.int).length≤30:=by rw[qA,←hfs,qA];exact hlen
    walk_at "py";refine Ze fun p5 g5 hp5 x5 e5=>?_;refine c_neE (x5.get ea4) e5 ?_;walk_at "py";rcases List.eq_nil_or_concat fs with rfl|⟨l,a,rfl⟩
    ·refine ifF rfl ?_;refine ifF rfl ?_;walk_at "py";dsimp only;refine sl_tup (show ¬ ((1:Nat)=0∧(3:Nat)=3) by decide) ?_;rw[show cut [Val.int b,.int r,.int c] (some 1) none=[.int r,.int c] from rfl];walk_at "py";refine WR (k:=.int b) ((upd_ne nda).trans (x5.get ed4)) ⟨rfl,by rw[As];unfold rk;rw[qA];exact qS hlen (by decide)⟩ ?_;have nk:b∉(rk ((xs.take i).map Zx)).map (·.1):=by
      rw[W2,hfs];have:=(show([]++[b]).Pairwise (· < ·) by simp)
      intro m;have:=(List.pairwise_append.mp this).2.2 b m b (by simp);omega
     rw[show Val.tup [.int r,.int c]=tpV (r,c) from rfl,YN,Xq _ nk];walk_at "py";refine hK _ _ ⟨_,rfl,hall1,by rw[e1,qJ,hfs];exact(show([]++[b]).Pairwise (· < ·) by simp),?_,?_,⟨fun e=>?_⟩⟩
     ·rw[upd_same,e1];unfold rk;rw[qJ];rfl
     ·rw[upd_ne nda.symm,upd_same,e2];simp
     ·rw[upd_ne (ZG e hd),upd_ne (ZG e hpa0)];exact(x.trans (x34.trans x5)).get e
    ·rw[List.concat_eq_append]at *;refine ifT (by simp) ?_;walk_at "py";refine ZD (x5.get ea4) BZ ?_;walk_at "py";refine ifP (fun hge=>?_) (fun hlt=>?_)
     ·walk_at "py";have:=k _ (x.trans (x34.trans x5));rw[AX (i+1) (by
        rw[e1,qJ,hfs]
        intro z
        have:=(List.pairwise_append.mp z).2.2 a (by simp) b (by simp)
        omega)]at this
      exact this
     ·walk_at "py";refine Z2 (x5.get ea4) (qS hfl (by decide)) ?_;dsimp only;walk_at "py";refine sl_tup (show ¬ ((1:Nat)=0∧(3:Nat)=3) by decide) ?_;rw[show cut [Val.int b,.int r,.int c] (some 1) none=[.int r,.int c] from rfl];walk_at "py";refine WR (k:=.int b) ((upd_ne nda).trans (x5.get ed4)) ⟨rfl,by rw[As];unfold rk;rw[qA];exact qS hlen (by decide)⟩ ?_;have nk:b∉(rk ((xs.take i).map Zx)).map (·.1):=by
       rw[W2,hfs];have:=(Mr hup (show a<b by omega))
       intro m;have:=(List.pairwise_append.mp this).2.2 b m b (by simp);omega
      rw[show Val.tup [.int r,.int c]=tpV (r,c) from rfl,YN,Xq _ nk];walk_at "py";refine hK _ _ ⟨_,rfl,hall1,by rw[e1,qJ,hfs];exact(Mr hup (show a<b by omega)),?_,?_,⟨fun e=>?_⟩⟩
      ·rw[upd_same,e1];unfold rk;rw[qJ];rfl
      ·rw[upd_ne nda.symm,upd_same,e2];simp
      ·rw[upd_ne (ZG e hd),upd_ne (ZG e hpa0)];exact(x.trans (x34.trans x5)).get e
   ·refine ifT (by
       by_cases q1:ZK u=true
       · by_cases q2:ZK v=true
         · have q3:ZK z=false:=by rw[Bool.eq_false_iff];exact fun q3=>hq ⟨q1,q2,q3⟩
           simp[q1,q2,q3]
         · simp[q1,q2]
       · simp[q1]) ?_
    walk_at "py";refine no1 _ x34 ?_;unfold ZE;split
    ·rename_i e;cases e;exact absurd ⟨rfl,rfl,rfl⟩ hq
    ·rfl
 ·rintro en g ⟨v5,rfl,hall,hup,ed,ea,x⟩;rw[zA]at hall hup ed ea;obtain⟨er,_⟩:=MR hall;unfold JD at k;rw[hall,upB_iff.mpr hup,Bool.true_and,Bool.true_and]at k;generalize xs.map Zx=rs at k ed;walk_at "py";refine⟨qS (by rw[hL];exact hyl) (by decide),ZB E8 (lsE (x.get ey)) (fun v hv K hK=>?_) ?_⟩
  ·obtain⟨r,_,rfl⟩:=qZ.mp hv;obtain⟨r1,r2,r3⟩:=r;unfold Zh at hK ⊢;walk_at "py";refine ifT rfl ?_;walk_at "py";exact hK
  change new _ (.lst (List.filterMap _ (ys.map Zh))) _;rw[Kk];refine Ze fun p4 g4 hp4 x4 e4=>?_;have hcl:(ys.map fun y=>y.2.1).length≤16:=by rw[qA];exact hyl
  walk_at "py";refine lset e4 (by omega) ?_;have x04:=x.trans x4;have ey4:=x04.get ey;walk_at "py";have hdl:=YW (ys.map fun y=>y.2.1);have hdi:=Yu (ys.map fun y=>y.2.1);have hml:(ys.map fun y=>y.2.1).length=ys.length:=qA _;rw[hL];refine ifP (fun hc=>?_) (fun hc=>?_)
  ·walk_at "py";have:=k _ x04;rw[qP (fun z=>by have:=hdi.mpr z;omega)]at this;exact this
  rw[qQ (hdi.mp (by omega)),Bool.true_and]at k;walk_at "py";refine ZX (fun j en g=>∃ v6 v7 v8,en=[some (Yl bs ts),some (.ref pw),some (.ref px),some (.ref d),some (.ref pa),v5,v6,v7,v8]∧(ys.take j).all (Y0 ts rs)=true∧g d=some (.dct (ZU tpV (rk rs)))∧Ext h g) ⟨_,_,_,rfl,rfl,x4.get ed,x04⟩ (fun i en g _ ⟨_,_,_,_,_,_,x⟩=>lsE (x.get ey)) ?_ ?_
  ·rintro j v en g hv ⟨v6,v7,v8,rfl,hw,ed,x⟩ K hK;obtain⟨y,hy',rfl⟩:=YM hv;have hym:=qY hy';obtain⟨y0,y1,_,_⟩:=hy y hym;obtain⟨t,ht,et⟩:=Jg y0 y1;have hno:Y0 ts rs y=false→Q (.bl false) g:=fun z=>by
    have:=k g x;rw[List.all_eq_false.mpr ⟨y,hym,by rw[z];decide⟩]at this;exact this
   have hyes:Y0 ts rs y=true→(ys.take (j+1)).all (Y0 ts rs)=true:=fun z=>by rw[qW,hy',List.all_append,hw];simp[z]
   obtain⟨pl,c,p⟩:=y;unfold Y0 Mf at hno hyes;dsimp only at hno hyes y0 y1 et ht;unfold Yl Zh;walk_at "py";refine Nd ed rfl ?_;rw[Uf];walk_at "py";cases ec:(rk rs).lookup c with
   |none =>rw[ec]at hno;refine ifT rfl ?_;refine ifT rfl ?_;walk_at "py";exact hno rfl
   |some u =>
    refine ifF rfl ?_;walk_at "py";refine Nd ed rfl ?_;rw[Uf];walk_at "py";cases ep:(rk rs).lookup p with
    |none =>rw[ec,ep]at hno;refine ifT rfl ?_;refine ifT rfl ?_;walk_at "py";exact hno rfl
    |some z =>
     rw[ec,ep,ht]at hno hyes;obtain⟨u1,u2⟩:=u;obtain⟨z1,z2⟩:=z;refine ifF rfl ?_;walk_at "py";refine Yo ed rfl (by rw[Xh,ec];rfl) ?_;walk_at "py";refine Yo ed rfl (by rw[Xh,ep];rfl) ?_;walk_at "py";refine Ke (fun hc1=>?_) (fun hc1=>?_)
     ·walk_at "py";exact hno (qP fun e=>by injection e with e1 e2;exact hc1 e1)
     walk_at "py";refine Yo ed rfl (by rw[Xh,ec];rfl) ?_;walk_at "py";refine Yo ed rfl (by rw[Xh,ep];rfl) ?_;walk_at "py";refine ix_tup et ?_;unfold Zh;walk_at "py";refine Ke (fun hc2=>?_) (fun hc2=>?_)
     ·walk_at "py";refine hno (qP fun e=>?_);injection e with e1 e2;have e2:u2=z2+t.2.2:=e2;exact hc2 (by omega)
     walk_at "py";refine hK _ _ ⟨_,_,_,rfl,hyes (qQ ?_),ed,x⟩;have hc2:u2 - z2=t.2.2:=hc2;show(u1,u2)=(z1,z2+t.2.2)
     rw[show u1=z1 from hc1,show u2=z2+t.2.2 by omega]
  ·rintro en g ⟨v6,v7,v8,rfl,hw,ed,x⟩;rw[hL,zA]at hw;walk_at "py";have:=k g x;rw[hw]at this;exact this
end
mutual
theorem X4:∀ d:D,D.eqv d d=true
 |.non=>by rw[D.eqv]
 |.bl b=>by rw[D.eqv];simp
 |.int i=>by rw[D.eqv];simp
 |.str s=>by rw[D.eqv];simp
 |.tup ds=>by rw[D.eqv];exact eqvs_self ds
 |.lst ds=>by rw[D.eqv];exact eqvs_self ds
theorem eqvs_self:∀ ds:List D,D.eqvs ds ds=true
 |[]=>by rw[D.eqvs]
 |d::ds=>by rw[D.eqvs,X4 d,eqvs_self ds];rfl
end
theorem mapM_some{α β:Type}{f:α→Option β}:∀ {xs:List α},(∀ x∈xs,∃ y,f x=some y)→∃ ys,xs.mapM f=some ys
 |[],_=>⟨[],rfl⟩
 |x::xs,h=>by obtain⟨y,hy⟩:=h x (by simp);obtain⟨ys,hys⟩:=mapM_some (xs:=xs) fun z hz=>h z (by simp[hz]);exact⟨y::ys,by rw[List.mapM_cons,hy,hys];rfl⟩
theorem Nh{u:Val}(h:Hs)(d:Nat)(p:YR u):∃ y,dat h d u=some y:=by rcases p with⟨i,rfl⟩|⟨b,rfl⟩|⟨s,rfl⟩|rfl<;>cases d<;>exact⟨_,rfl⟩
theorem Dm{g:Hs}{x:Val}{d:Nat}(t:IT g x):∃ y,dat g (d+2) x=some y:=by
 rcases t with rfl|⟨a,ns,rfl,ha,_⟩|⟨l,rfl,_,hp⟩
 ·exact⟨_,rfl⟩
 ·refine⟨.lst (ns.map .int),?_⟩;rw[dat,ha,ZY,Option.bind_some,YT];rfl
 ·obtain⟨ys,hys⟩:=mapM_some (f:=dat g (d+1)) (xs:=l) fun u hu=>Nh g _ (hp u hu);exact⟨_,by rw[dat,hys];rfl⟩
theorem MP{g:Hs}{a:Ad}{xs:List Val}{d:Nat}(e:g a=some (.lst xs))(hx:∀ x∈xs,IT g x):∃ y,dat g (d+3) (.ref a)=some y∧∀ b,g b=some (.lst xs)→dat g (d+3) (.ref b)=some y:=by
 obtain⟨ys,hys⟩:=mapM_some (f:=dat g (d+2)) (xs:=xs) fun x hx'=>Dm (hx x hx');refine⟨.lst ys,?_,fun b eb=>?_⟩
 ·rw[dat,e,ZY,Option.bind_some,hys];rfl
 ·rw[dat,eb,ZY,Option.bind_some,hys];rfl
theorem EG{g:Hs}{a b c d:Ad}{xs zs:List Val}(ea:g a=some (.lst xs))(eb:g b=some (.lst zs))(ec:g c=some (.lst xs))(ed:g d=some (.lst zs))(hx:∀ x∈xs,IT g x)(hz:∀ x∈zs,IT g x):eqV g (.tup [.ref a,.ref b]) (.tup [.ref c,.ref d])=some true:=by
 obtain⟨y,h1,h2⟩:=MP (d:=8) ea hx;obtain⟨z,h3,h4⟩:=MP (d:=8) eb hz;have m:∀ {p q:Ad},dat g 11 (.ref p)=some y→dat g 11 (.ref q)=some z→dat g deep (.tup [.ref p,.ref q])=some (.tup [y,z]):=fun {p q} e1 e2=>by unfold deep;rw[dat,List.mapM_cons,e1,List.mapM_cons,e2];rfl
 unfold eqV;rw[m h1 h3,m (h2 c ec) (h4 d ed)];show some (D.eqv _ _)=_;rw[X4]
section
variable {bs:List Int}{ts ys:List Tie}
theorem law_ok {ns:List Int}(h63:ns.length≤63) (k:∀ g,Q (.bl true) g):wF P (n+6) "law" [.scr ns] h Q X:=by
 refine G7 ?_;walk_at "py";refine Ze fun p g1 hp x1 e1=>?_;walk_at "py";refine Ze fun q g2 hq x2 e2=>?_;rw[show cut (ns.map Val.int) none (some 30)=(cut ns none (some 30)).map Val.int by unfold cut;rw[qA,List.map_take,List.map_drop]]at e1;have hl:=Z9 ns none (some 30);refine YK (x2.get e1) e2 (zE (by rw[qU,qA];simp;omega:_≤100) (by decide)) ?_;refine Ze fun z g3 hz x3 e3=>?_;have ez:((cut ns none (some 30)).map Val.int++[Val.int 0]:List Val)=(cut ns none (some 30)++[0]).map Val.int:=by rw[qJ];rfl
 rw[ez]at e3;generalize cut ns none (some 30)++[0]=zs at e3;walk_at "py";refine ZX (fun i en g=>∃ v1 v2 v3 v4 v5 v6 v7,en=[some (.scr ns),v1,v2,v3,v4,v5,v6,v7]∧g z=some (.lst (zs.map Val.int))) ⟨_,_,_,_,_,_,_,rfl,e3⟩ (fun i en g _ ⟨_,_,_,_,_,_,_,_,e⟩=>lsE e) ?_ ?_
 ·rintro i v en g hv ⟨v1,v2,v3,v4,v5,v6,v7,rfl,ez⟩ K hK;obtain⟨c,_,rfl⟩:=YM hv;walk_at "py";refine Ay fun w g2 w0 x2 w2=>?_;have hzw:z≠w:=ZG ez w0;walk_at "py";refine Fe w2 fun bs ts g3 no x3 w3=>?_;walk_at "py";refine AC no w3 fun pw ys g4 nw ew hyl hy x4 w4=>?_;walk_at "py";refine NS no w4 nw ew hy fun ps rs g5 nps hps eps ers x5 w5=>?_;have hrl:rs.length=bs.length:=by rw[←ers,qA]
  have ew5:=x5.get nw ew;walk_at "py";refine Ng w5 nps eps (by have:=no.one;omega) (by have:=no.ten;omega) fun px xs g6 ex hxl hx x6=>?_;have ew6:=x6.get nw ew5;have ez6:=x6.get hzw (x5.get hzw (x4.get hzw (x3.get hzw (x2.get ez))));walk_at "py";refine Ze fun a g7 ha x7 ea=>?_;walk_at "py";refine Ze fun b g8 hb x8 eb=>?_;have x68:=x7.trans x8;have hxi:∀ x∈xs,IT g8 x:=fun x hx'=>(hx x hx').ext x68;walk_at "py";refine Nx no (x8.get ea) hyl hy eb hxl hxi fun g9 x9=>?_;have x69:=x68.trans x9;walk_at "py";refine ifF rfl ?_;walk_at "py";refine C3 no (x69.get ew6) hyl hy (x69.get ex) hxl (fun x hx'=>(hxi x hx').ext x9) fun g10 x10=>?_;have x610:=x69.trans x10;refine OA (c:=true) (by show some (D.eqv (.bl _) (.bl _))=_;rw[X4]) ?_;walk_at "py";refine ifF rfl ?_;walk_at "py";refine OA (EG (x10.get (x9.get (x8.get ea))) (x10.get (x9.get eb)) (x610.get ew6) (x610.get ex) (fun x hx'=>?_) (fun x hx'=>((hxi x hx').ext x9).ext x10)) ?_
  ·obtain⟨y,_,rfl⟩:=qZ.mp hx';exact .row _ y
  walk_at "py";refine ifF rfl ?_;walk_at "py";exact hK _ _ ⟨_,_,_,_,_,_,_,rfl,x610.get ez6⟩
 ·rintro en g ⟨v1,v2,v3,v4,v5,v6,v7,rfl,ez⟩;walk_at "py";exact k _
end
end Own
set_option maxRecDepth 1000000
set_option maxHeartbeats 0
namespace My
open PySem L2 Snd PySem.W
noncomputable def top (i:Nat):Stmt:=PySem.Challenge.pw_shutways_k34_rank_papers_looked_at.main.body.getD i (.Pass ⟨0,0,0,0⟩)
noncomputable def x0:Ds:=⟨top 4,["thing"],["thing"],Own.LT⟩
noncomputable def x1:Ds:=⟨top 5,["thing","least","greatest"],["thing","least","greatest"],Own.LV⟩
noncomputable def x2:Ds:=⟨top 11,["bridges","ties"],["bridges","ties"],Own.PX⟩
noncomputable def x3:Ds:=⟨top 12,["things"],["things"],Own.LZ⟩
noncomputable def x4:Ds:=⟨top 13,["thing","bridges"],["thing","bridges"],Own.LW⟩
noncomputable def x5:Ds:=⟨top 14,["tie"],["tie"],Own.PY⟩
noncomputable def x6:Ds:=⟨top 16,["net","ways","some","bridges","children","ranks","bridge","root","cost"],["net","ways","some"],Own.LX⟩
noncomputable def x7:Ds:=⟨top 17,["net","thing"],["net","thing"],Own.LY⟩
noncomputable def x8:Ds:=⟨top 18,["net","way","ranks","place","child","parent","root","cost"],["net","way","ranks"],Own.LU⟩
noncomputable def x9:Ds:=⟨top 20,["script","k"],["script","k"],Own.L1⟩
noncomputable def x10:Ds:=⟨top 21,["cell"],["cell"],Own.L7⟩
noncomputable def x11:Ds:=⟨top 22,["row","many","told"],["row","many"],Own.L9⟩
noncomputable def x12:Ds:=⟨top 23,["row","many","step","k","bridges","ties","one","other","cost"],["row"],Own.L6⟩
noncomputable def x13:Ds:=⟨top 24,["row","net","ways","many","place","tie","ends","child"],["row","net"],Own.L5⟩
noncomputable def x14:Ds:=⟨top 25,["row","net","ways","bridge","costs","k","place","child","parent","root","some"],["row","net","ways"],Own.L4⟩
noncomputable def x15:Ds:=⟨top 26,["row","net","some","at","one","bad","way"],["row","net","some"],Own.L8⟩
noncomputable def x16:Ds:=⟨top 27,["thing"],["thing"],Own.PZ⟩
noncomputable def x17:Ds:=⟨top 28,["net","ways","some","ranks","ahead","row","place","child","parent"],["net","ways","some"],Own.L3⟩
noncomputable def x18:Ds:=⟨top 29,["script","cell","row","net","ways","some","handed","told"],["script"],Own.L0⟩
noncomputable def tb:Tb where
 fs:=[("is_whole",x0),("is_whole_between",x1),("make_net",x2),("are_bridges",x3),("is_tie",x4),("lesser_end_first",x5),("is_ranked",x6),("is_rank",x7),("is_way_ranked",x8),("_law_cell_at",x9),("_law_row",x10),("_law_take",x11),("_law_net",x12),("_law_made_ways",x13),("_law_fitted",x14),("_law_spoilt",x15),("_law_whole",x16),("_law_due",x17),("law",x18)]
 ms:=[]
 cs:=[("MOST_BRIDGES",(.int 10)),("MOST_TIES",(.int 16)),("GREATEST_NUMBER",(.int 999)),("GREATEST_COST",(.int 1000))]
 cl:=[]
 fl:=[]
 xs:=[]
noncomputable def pg:Own.Pg:=fun f=>(([("is_whole",Own.LT),("is_whole_between",Own.LV),("make_net",Own.PX),("are_bridges",Own.LZ),("is_tie",Own.LW),("lesser_end_first",Own.PY),("is_ranked",Own.LX),("is_rank",Own.LY),("is_way_ranked",Own.LU),("_law_cell_at",Own.L1),("_law_row",Own.L7),("_law_take",Own.L9),("_law_net",Own.L6),("_law_made_ways",Own.L5),("_law_fitted",Own.L4),("_law_spoilt",Own.L8),("_law_whole",Own.PZ),("_law_due",Own.L3),("law",Own.L0)]:List (String×Own.Fn)).lookup f)
instance:Own.Al pg:=⟨rfl,rfl,rfl,rfl,rfl,rfl,rfl,rfl,rfl,rfl,rfl,rfl,rfl,rfl,rfl,rfl,rfl,rfl,rfl⟩
theorem ok0:x0.Ok tb:=⟨by kernel_rfl,by kernel_rfl⟩
theorem ok1:x1.Ok tb:=⟨by kernel_rfl,by kernel_rfl⟩
theorem ok2:x2.Ok tb:=⟨by kernel_rfl,by kernel_rfl⟩
theorem ok3:x3.Ok tb:=⟨by kernel_rfl,by kernel_rfl⟩
theorem ok4:x4.Ok tb:=⟨by kernel_rfl,by kernel_rfl⟩
theorem ok5:x5.Ok tb:=⟨by kernel_rfl,by kernel_rfl⟩
theorem ok6:x6.Ok tb:=⟨by kernel_rfl,by kernel_rfl⟩
theorem ok7:x7.Ok tb:=⟨by kernel_rfl,by kernel_rfl⟩
theorem ok8:x8.Ok tb:=⟨by kernel_rfl,by kernel_rfl⟩
theorem ok9:x9.Ok tb:=⟨by kernel_rfl,by kernel_rfl⟩
theorem Iy:x10.Ok tb:=⟨by kernel_rfl,by kernel_rfl⟩
theorem HY:x11.Ok tb:=⟨by kernel_rfl,by kernel_rfl⟩
theorem IF:x12.Ok tb:=⟨by kernel_rfl,by kernel_rfl⟩
theorem IN:x13.Ok tb:=⟨by kernel_rfl,by kernel_rfl⟩
theorem Iv:x14.Ok tb:=⟨by kernel_rfl,by kernel_rfl⟩
theorem IH:x15.Ok tb:=⟨by kernel_rfl,by kernel_rfl⟩
theorem Iq:x16.Ok tb:=⟨by kernel_rfl,by kernel_rfl⟩
theorem Iu:x17.Ok tb:=⟨by kernel_rfl,by kernel_rfl⟩
theorem Lz:x18.Ok tb:=⟨by kernel_rfl,by kernel_rfl⟩
theorem tab_ok:∀ f x,(f,x)∈tb.fs→x.Ok tb:=by
 intro f x h;simp only[tb,qE,List.not_mem_nil,or_false,Prod.mk.injEq]at h;rcases h with⟨rfl,rfl⟩|⟨rfl,rfl⟩|⟨rfl,rfl⟩|⟨rfl,rfl⟩|⟨rfl,rfl⟩|⟨rfl,rfl⟩|⟨rfl,rfl⟩|⟨rfl,rfl⟩|⟨rfl,rfl⟩|⟨rfl,rfl⟩|⟨rfl,rfl⟩|⟨rfl,rfl⟩|⟨rfl,rfl⟩|⟨rfl,rfl⟩|⟨rfl,rfl⟩|⟨rfl,rfl⟩|⟨rfl,rfl⟩|⟨rfl,rfl⟩|⟨rfl,rfl⟩
 ·exact ok0
 ·exact ok1
 ·exact ok2
 ·exact ok3
 ·exact ok4
 ·exact ok5
 ·exact ok6
 ·exact ok7
 ·exact ok8
 ·exact ok9
 ·exact Iy
 ·exact HY
 ·exact IF
 ·exact IN
 ·exact Iv
 ·exact IH
 ·exact Iq
 ·exact Iu
 ·exact Lz
theorem tab_pg:∀ f x,(f,x)∈tb.fs→pg f=some x.d:=by intro f x h;simp only[tb,qE,List.not_mem_nil,or_false,Prod.mk.injEq]at h;rcases h with⟨rfl,rfl⟩|⟨rfl,rfl⟩|⟨rfl,rfl⟩|⟨rfl,rfl⟩|⟨rfl,rfl⟩|⟨rfl,rfl⟩|⟨rfl,rfl⟩|⟨rfl,rfl⟩|⟨rfl,rfl⟩|⟨rfl,rfl⟩|⟨rfl,rfl⟩|⟨rfl,rfl⟩|⟨rfl,rfl⟩|⟨rfl,rfl⟩|⟨rfl,rfl⟩|⟨rfl,rfl⟩|⟨rfl,rfl⟩|⟨rfl,rfl⟩|⟨rfl,rfl⟩<;>rfl
theorem tab_bd:∀ f x,(f,x)∈tb.fs→Hd.Bd (Str.ofString f) (Str.ofString f) x:=by
 intro f x h;simp only[tb,qE,List.not_mem_nil,or_false,Prod.mk.injEq]at h;rcases h with⟨rfl,rfl⟩|⟨rfl,rfl⟩|⟨rfl,rfl⟩|⟨rfl,rfl⟩|⟨rfl,rfl⟩|⟨rfl,rfl⟩|⟨rfl,rfl⟩|⟨rfl,rfl⟩|⟨rfl,rfl⟩|⟨rfl,rfl⟩|⟨rfl,rfl⟩|⟨rfl,rfl⟩|⟨rfl,rfl⟩|⟨rfl,rfl⟩|⟨rfl,rfl⟩|⟨rfl,rfl⟩|⟨rfl,rfl⟩|⟨rfl,rfl⟩|⟨rfl,rfl⟩
 ·exact fun _ _ _ _ _ _ us hl=>match us,hl with|[_],_=>rfl
 ·exact fun _ _ _ _ _ _ us hl=>match us,hl with|[_,_,_],_=>rfl
 ·exact fun _ _ _ _ _ _ us hl=>match us,hl with|[_,_],_=>rfl
 ·exact fun _ _ _ _ _ _ us hl=>match us,hl with|[_],_=>rfl
 ·exact fun _ _ _ _ _ _ us hl=>match us,hl with|[_,_],_=>rfl
 ·exact fun _ _ _ _ _ _ us hl=>match us,hl with|[_],_=>rfl
 ·exact fun _ _ _ _ _ _ us hl=>match us,hl with|[_,_,_],_=>rfl
 ·exact fun _ _ _ _ _ _ us hl=>match us,hl with|[_,_],_=>rfl
 ·exact fun _ _ _ _ _ _ us hl=>match us,hl with|[_,_,_],_=>rfl
 ·exact fun _ _ _ _ _ _ us hl=>match us,hl with|[_,_],_=>rfl
 ·exact fun _ _ _ _ _ _ us hl=>match us,hl with|[_],_=>rfl
 ·exact fun _ _ _ _ _ _ us hl=>match us,hl with|[_,_],_=>rfl
 ·exact fun _ _ _ _ _ _ us hl=>match us,hl with|[_],_=>rfl
 ·exact fun _ _ _ _ _ _ us hl=>match us,hl with|[_,_],_=>rfl
 ·exact fun _ _ _ _ _ _ us hl=>match us,hl with|[_,_,_],_=>rfl
 ·exact fun _ _ _ _ _ _ us hl=>match us,hl with|[_,_,_],_=>rfl
 ·exact fun _ _ _ _ _ _ us hl=>match us,hl with|[_],_=>rfl
 ·exact fun _ _ _ _ _ _ us hl=>match us,hl with|[_,_,_],_=>rfl
 ·exact fun _ _ _ _ _ _ us hl=>match us,hl with|[_],_=>rfl
theorem tab_om:∀ y,y∈tb.ms→y.x.Ok tb:=fun _ h=>nomatch h
theorem tab_pm:∀ y,y∈tb.ms→pg (y.C ++ "." ++ y.m)=some y.x.d:=fun _ h=>nomatch h
theorem tab_bm:∀ y,y∈tb.ms→Hd.Bd (Str.ofString y.m) (Str.ofString y.qual) y.x:=fun _ h=>nomatch h
theorem law_in:("law",x18)∈tb.fs:=qY (i:=18) rfl
noncomputable abbrev pr:Program:=PySem.Challenge.rw_shutways_k34_rank_papers_looked_at.row.prog
noncomputable abbrev vw:Program:=PySem.W.view pr [1,2,4,5,7,8,9,10,11,12,13,14,16,17,18,20,21,22,23,24,25,26,27,28,29]
noncomputable abbrev xt (s:Shared):Bool:=xlAt vw [] s&&recOk (RowW.records PySem.Challenge.rw_shutways_k34_rank_papers_looked_at.row.toRowW) s
theorem said:PySem.Challenge.rw_shutways_k34_rank_papers_looked_at.wellSaid=true:=by rw[Fast.te9446332074065402090];kernel_rfl
theorem left:LeftO pr vw [] xt (Hd.hook tb).obs (Hd.hook tb).val 12000:=Hd.left_of (by kernel_rfl) rfl (fun s=>by kernel_rfl) fun w os=>by kernel_rfl
end My
open PySem PySem.W PyProof.Rows
theorem PySem.Challenge.cw_shutways_k34_rank_papers_looked_at_holds : PySem.Challenge.rw_shutways_k34_rank_papers_looked_at.Holds := by
 refine holds_law My.said fun said=>?_;refine holds_open (q:=My.vw) (loose:=[]) (Xt:=My.xt) (XP:=XL My.vw []) (YP:=(Hd.hook My.tb).says) My.left (Hook.of _) (Hook.keeps _) (fun s e=>xl_of s (Bool.and_eq_true_iff.mp e).1) XL.keeps (by rfl) (by rfl) (by rfl) (fun s e=>recFacts_of (Bool.and_eq_true_iff.mp e).2) (by rfl) said (by decide +kernel) ⟨rfl,rfl,rfl,rfl,rfl,by decide +kernel⟩ ?hw ?hc
 case hw=>w_on;w_witness2
 case hc=>exact Hd.law_walk (k:=5) rfl rfl rfl ⟨rfl,by decide,by decide⟩ My.law_in rfl rfl My.tab_pg My.tab_pm My.tab_ok My.tab_om My.tab_bd My.tab_bm fun ns hl=>Own.law_ok (n:=0) hl fun _=>rfl
