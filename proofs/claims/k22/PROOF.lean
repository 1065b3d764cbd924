import PyProof.Rows.All
import Wide.All
import OpenK.AllK
import Wide.FinOn
import PyProof.EqAt
import PyProof.EqKinds
import PyProof.TupleCall
import Lean
import PySem.Challenge.RW_shutways_k22_yards_made
set_option Elab.async false
set_option bootstrap.genMatcherCode false
set_option compiler.extract_closed false
set_option genSizeOf false
set_option linter.all false
set_option maxRecDepth 100000
theorem bAq(a b:Bool):((a&&b)=true)=(a=true/\b=true):=Bool.and_eq_true a b
abbrev qA:=@List.length_map
abbrev qB:=@List.length_cons
abbrev qC:=@List.size_toArray
abbrev qD:=@Option.map_eq_some_iff
abbrev qE:=@List.mem_cons
abbrev qF:=@List.getElem?_map
abbrev qG:=@List.map_cons
abbrev qH:=@List.getElem?_eq_getElem
abbrev qI:=@List.mem_cons_of_mem
abbrev qJ:=@List.map_append
abbrev qK:=@List.getElem?_eq_some_iff
abbrev qL:=@List.mem_append_right
abbrev qM:=@List.mem_append_left
abbrev qN:=@List.getD_eq_getElem?_getD
abbrev qO:=@List.lookup_cons
abbrev qP:=@decide_eq_false
abbrev qQ:=@decide_eq_true
abbrev qR:=@Nat.lt_of_lt_of_le
abbrev qS:=@Nat.lt_of_le_of_lt
abbrev qT:=@List.mem_cons_self
abbrev qU:=@List.length_append
abbrev qV:=@List.length_take
abbrev qW:=@List.length_replicate
abbrev qX:=@List.mem_of_getElem?
abbrev qY:=@List.mem_map_of_mem
abbrev qZ:=@List.mem_map
abbrev q8:=@List.mem_append
abbrev q9:=@Option.bind_eq_some_iff
abbrev zA:=@List.take_length
abbrev zB:=@List.append_nil
abbrev zC:=@Array.length_toList
abbrev zE:=@Nat.le_trans
abbrev zF:=@Nat.ne_of_lt
abbrev zG:=@Nat.le_refl
abbrev zH:=@List.mem_singleton
abbrev zI:=@List.mem_filterMap
abbrev zJ:=@List.filterMap_cons
abbrev zK:=@Nat.lt_irrefl
namespace L2
open PySem PySem.Spec PyProof.Rows
abbrev Key:=Sum Int Str
def XU:Key->Value->Bool
 |.inl k,v=>Value.isInt k v
 |.inr x,v=>Value.isStrOf x v
def IH (w:World):Key->Int
 |.inl k=>hashInt k
 |.inr x=>hashStr w x
theorem Zm:∀ {k:Key}{v:Value},XU k v=true->(∃ i t,k=Sum.inl i/\v=Value.int i t)\/(∃ x t,k=Sum.inr x/\v=Value.str x t)
 |.inl i,v,h=>by obtain⟨t,e⟩:=Value.isInt_shape (k:=i) (v:=v) h;exact .inl ⟨i,t,rfl,e⟩
 |.inr x,v,h=>by obtain⟨t,e⟩:=Value.isStrOf_shape (x:=x) (v:=v) h;exact .inr ⟨x,t,rfl,e⟩
theorem Oa(i:Int)(t:Tok):XU (.inl i) (.int i t)=true:=by simp[XU,Value.isInt]
theorem NU(x:Str)(t:Tok):XU (.inr x) (.str x t)=true:=by simp[XU,Value.isStrOf]
theorem Dt(a b:Int):decide ((Sum.inl a:Key)=Sum.inl b)=(a==b):=by
 by_cases e:a=b
 .subst e;simp
 .have h:¬ (Sum.inl a:Key)=Sum.inl b:=fun q=>e (Sum.inl.inj q);rw[qP h];exact(beq_eq_false_iff_ne.mpr e).symm
theorem EA(a b:Str):decide ((Sum.inr a:Key)=Sum.inr b)=decide (a=b):=by
 by_cases e:a=b
 .subst e;simp
 .have h:¬ (Sum.inr a:Key)=Sum.inr b:=fun q=>e (Sum.inr.inj q);rw[qP h,qP e]
theorem EV(a:Int)(b:Str):decide ((Sum.inl a:Key)=Sum.inr b)=false:=qP (fun q=>nomatch q)
theorem DW(a:Str)(b:Int):decide ((Sum.inr a:Key)=Sum.inl b)=false:=qP (fun q=>nomatch q)
def Zh (prog:Program) (w:World):PySem.KeyKind prog w Key where
 is:=XU
 hash:=IH w
 inj:=fun v a b ha hb=>by
  rcases Zm ha with⟨i,t,rfl,rfl⟩|⟨x,t,rfl,rfl⟩
  .rcases Zm hb with⟨j,u,rfl,e⟩|⟨y,u,rfl,e⟩
   .injection e with e1 _;rw[e1]
   .exact nomatch e
  .rcases Zm hb with⟨j,u,rfl,e⟩|⟨y,u,rfl,e⟩
   .exact nomatch e
   .injection e with e1 _;rw[e1]
 byValue:=fun k v h=>by rcases Zm h with⟨i,t,rfl,rfl⟩|⟨x,t,rfl,rfl⟩<;>rfl
 pyHash:=fun hv h=>by
  rcases Zm hv with⟨i,t,rfl,rfl⟩|⟨x,t,rfl,rfl⟩
  .exact wpAny_pyHash_int h
  .exact wpAny_pyHash_str h
 eqBool:=fun hu hv h=>by
  rcases Zm hu with⟨i,t,rfl,rfl⟩|⟨x,t,rfl,rfl⟩
  .rcases Zm hv with⟨j,u,rfl,rfl⟩|⟨y,u,rfl,rfl⟩
   .rw[Dt]at h;exact wpAny_eqBool_int h
   .rw[EV]at h;exact SeqAt.EqAt.int_str i t y u _ _ _ _ h
  .rcases Zm hv with⟨j,u,rfl,rfl⟩|⟨y,u,rfl,rfl⟩
   .rw[DW]at h;exact SeqAt.EqAt.str_int x t j u _ _ _ _ h
   .rw[EA]at h;exact wpAny_eqBool_str h
 «strs»:=fun k x t v h=>by
  rcases Zm h with⟨i,u,rfl,e⟩|⟨y,u,rfl,e⟩
  .exact nomatch e
  .injection e with e1 _;subst e1;cases v<;>rfl
theorem KJ(prog:Program)(w:World)(i:Int)(t:Tok):(Zh prog w).is (.inl i) (.int i t)=true:=Oa i t
theorem Ke(prog:Program)(w:World)(x:Str)(t:Tok):(Zh prog w).is (.inr x) (.str x t)=true:=NU x t
inductive V where
 |non|bl (b:Bool)|int (i:Int)|str (x:Str)|byt (b:Array UInt8)|flt (b:UInt64)|ref (a:Addr)|ty (n:String)
 deriving DecidableEq
def RelV:V->Value->Prop
 |.non,u=>u=Value.none
 |.bl b,u=>u=Value.bool b
 |.int i,u=>∃ t,u=Value.int i t
 |.str x,u=>∃ t,u=Value.str x t
 |.byt b,u=>∃ t,u=Value.bytes b t
 |.flt b,u=>∃ t,u=Value.float b t
 |.ref a,u=>u=Value.ref a
 |.ty n,u=>u=Value.type n
abbrev Vals:List V->List Value->Prop:=Paired RelV
theorem Vals.length{xs:List V}{us:List Value}(r:Vals xs us):xs.length=us.length:=Paired.length r
theorem Vals.get:∀ {xs:List V}{us:List Value}{i:Nat}{x:V},Vals xs us->xs[i]?=some x->∃ u,us[i]?=some u/\RelV x u
 |_,_,_,_,.nil,e=>by simp at e
 |_,_,0,_,.cons r _,e=>by simp at e;subst e;exact⟨_,rfl,r⟩
 |_,_,i+1,x,.cons _ t,e=>by obtain⟨u,h1,h2⟩:=Vals.get (i:=i) (x:=x) t (by simpa using e);exact⟨u,by simpa using h1,h2⟩
theorem Vals.set{x:V}{u:Value}(r:RelV x u):∀ {xs:List V}{us:List Value}(i:Nat),Vals xs us->Vals (xs.set i x) (us.set i u)
 |_,_,_,.nil=>.nil
 |_,_,0,.cons _ t=>.cons r t
 |_,_,i+1,.cons q t=>.cons q (Vals.set r i t)
theorem Vals.append:∀ {xs ys:List V}{us ws:List Value},Vals xs us->Vals ys ws->Vals (xs++ys) (us++ws)
 |_,_,_,_,.nil,s=>s
 |_,_,_,_,.cons r t,s=>.cons r (Vals.append t s)
theorem Vals.take:∀ {xs:List V}{us:List Value}(n:Nat),Vals xs us->Vals (xs.take n) (us.take n)
 |_,_,0,_=>.nil
 |_,_,_+1,.nil=>.nil
 |_,_,n+1,.cons r t=>.cons r (Vals.take n t)
theorem Vals.drop:∀ {xs:List V}{us:List Value}(n:Nat),Vals xs us->Vals (xs.drop n) (us.drop n)
 |_,_,0,r=>r
 |_,_,_+1,.nil=>.nil
 |_,_,n+1,.cons _ t=>Vals.drop n t
theorem Vals.none_of:∀ {xs:List V}{us:List Value}{i:Nat},Vals xs us->xs[i]?=none->us[i]?=none:=fun {xs us i} r e=>by have h1:=r.length;have h2:xs.length<=i:=List.getElem?_eq_none_iff.mp e;exact List.getElem?_eq_none_iff.mpr (by omega)
def RelO:Option V->Option Value->Prop
 |some v,some u=>RelV v u
 |none,none=>True
 |_,_=>False
def KV {κ:Type}:List (κ×V)->List (κ×Value)->Prop:=Paired fun(p:κ×V) (q:κ×Value)=>p.1=q.1/\RelV p.2 q.2
def kV:Key->V
 |.inl i=>.int i
 |.inr x=>.str x
inductive HO where
 |lst (xs:List V)
 |tup (xs:List V)
 |dK (kvs:List (Key×V))|dT (kvs:List (List Key×V))
 |set (S:Int->Bool) (n:Nat)
 |ins (C dx:Addr) (fs:List (Str×V))
 |own (x:Addr)
 |xd (fs:List (Str×V))
 |met (f x:Addr)
 |rng (lo hi:Int)
 |frz (o:Obj) (u:HO)
 |tbl (ps:Array Value)
 |ext (φ:Heap->Prop)
abbrev Hp:=Addr->Option HO
def upd (H:Hp) (a:Addr) (o:HO):Hp:=fun b=>if b=a then some o else H b
theorem upd_same{H:Hp}{a:Addr}{o:HO}:upd H a o a=some o:=by unfold upd;rw[if_pos rfl]
theorem upd_ne{H:Hp}{a b:Addr}{o:HO}(h:b≠a):upd H a o b=H b:=by unfold upd;rw[if_neg h]
theorem upd_upd{H:Hp}{a:Addr}{o u:HO}:upd (upd H a o) a u=upd H a u:=by funext b;unfold upd;split<;>rfl
theorem U3{H:Hp}{a b:Addr}{o u:HO}(h:H a=some o)(h':H b=some u)(d:o≠u):a≠b:=by intro e;subst e;rw[h]at h';exact d (Option.some.inj h')
theorem Zg{H:Hp}{a b:Addr}{o:HO}(h:H a=some o)(h':H b=none):a≠b:=by intro e;subst e;rw[h]at h';cases h'
section
variable (P:Program) (w:World)
def ObjOk (H:Hp) (h:Heap) (a:Addr):HO->Prop
 |.lst xs=>xs.length<=sizeLine/\∃ (its:List Value) (n:Nat),Vals xs its/\h.get? a=some {cls:=.type "list",data:=.seq its.toArray n}
 |.tup xs=>xs.length<=sizeLine/\∃ its:List Value,Vals xs its/\IsTup h a its.toArray
 |.dK kvs=>kvs.length<=sizeLine/\(a==sysModules)=false/\∃ vs,KV kvs vs/\h.DictOf (Zh P w) a vs
 |.dT kvs=>kvs.length<=sizeLine/\(a==sysModules)=false/\∃ xs:List (List Key×Addr×Value),
   Paired (fun(p:List Key×V) (q:List Key×Addr×Value)=>p.1=q.1/\H q.2.1=some (.tup (p.1.map kV))/\RelV p.2 q.2.2) kvs xs/\
   ∃ o es ep,h.get? a=some o/\o.ExactDict/\o.data=.dict es ep/\es.toList=xs.map (entryOfKey (tupleKind (Zh P w)))/\(xs.map (·.1)).Nodup
 |.set S n=>h.SetOf (intKind P w) a S n
 |.ins C dx fs=>H dx=some (.own a)/\fs.length<=1000/\dx≠a/\h.get? a=some (PySem.W.instObj C dx)/\
   ∃ mA,h.Ns1 dx mA/\(∀ f,RelO (fs.lookup f) (mA f))/\PySem.Within mA (fs.map (·.1))
 |.own _=>∃ o,h.get? a=some o
 |.xd fs=>∃ mA,h.Ns1 a mA/\∀ f,RelO (fs.lookup f) (mA f)
 |.rng lo hi=>∃ t u v,h.get? a=some {cls:=.type "range",data:=.fields #[.int lo t,.int hi u,.int 1 v]}
 |.frz o u=>h.get? a=some o/\ObjOk H h a u
 |.tbl ps=>h.get? a=some {cls:=.none,data:=.fields ps}
 |.met f x=>h.get? a=some (PySem.W.methodObj (.ref f) (.ref x))
 |.ext φ=>φ h/\(∃ o,h.get? a=some o)/\∀ h1 h2:Heap,φ h1->(∀ o,h1.get? a=some o->h2.get? a=some o)->φ h2
def HOk (H:Hp) (h:Heap):Prop:=∀ a o,H a=some o->ObjOk P w H h a o
end
section
variable {P:Program}{w:World}{H H':Hp}{h h':Heap}{a:Addr}{o:HO}
theorem ObjOk.lt(x:ObjOk P w H h a o):a<h.objs.size:=by
 cases o with
 |lst xs=>obtain⟨_,_,_,_,e⟩:=x;exact Heap.lt_size e
 |tup xs=>obtain⟨_,_,_,p⟩:=x;exact p.lt
 |dK kvs=>obtain⟨_,_,_,_,o,_,_,e,_⟩:=x;exact Heap.lt_size e
 |dT kvs=>obtain⟨_,_,_,_,o,_,_,e,_⟩:=x;exact Heap.lt_size e
 |set S n=>obtain⟨o,_,_,_,e,_⟩:=x;exact Heap.lt_size e
 |ins C dx fs=>obtain⟨_,_,_,e,_⟩:=x;exact Heap.lt_size e
 |own y=>obtain⟨_,e⟩:=x;exact Heap.lt_size e
 |xd fs=>obtain⟨_,⟨_,_,_,e,_⟩,_⟩:=x;exact Heap.lt_size e
 |rng lo hi=>obtain⟨_,_,_,e⟩:=x;exact Heap.lt_size e
 |frz ob u=>obtain⟨e,_⟩:=x;exact Heap.lt_size e
 |tbl ps=>exact Heap.lt_size (show h.get? a=some _ from x)
 |met f y=>exact Heap.lt_size (show h.get? a=some _ from x)
 |ext φ=>obtain⟨_,⟨_,e⟩,_⟩:=x;exact Heap.lt_size e
theorem Paired.mapP{α β:Type}{F G:α->β->Prop}:∀ {l₁:List α}{l₂:List β},Paired F l₁ l₂->(∀ a b,F a b->G a b)->Paired G l₁ l₂
 |_,_,.nil,_=>.nil
 |_,_,.cons r t,f=>.cons (f _ _ r) (Paired.mapP t f)
theorem ObjOk.stay(x:ObjOk P w H h a o)(k:∀ b u,(b=a\/H b=some (.own a))->h.get? b=some u->h'.get? b=some u)
  (ho:∀ b,H b=some (.own a)->H' b=some (.own a)) (ht:∀ b xs,H b=some (.tup xs)->H' b=some (.tup xs)):ObjOk P w H' h' a o:=by
 induction o with
 |lst xs=>obtain⟨z,its,n,r,e⟩:=x;exact⟨z,its,n,r,k _ _ (.inl rfl) e⟩
 |tup xs=>obtain⟨z,its,r,ob,e,c⟩:=x;exact⟨z,its,r,ob,k _ _ (.inl rfl) e,c⟩
 |dK kvs=>obtain⟨z,y,vs,r,ob,es,ep,e,c⟩:=x;exact⟨z,y,vs,r,ob,es,ep,k _ _ (.inl rfl) e,c⟩
 |dT kvs =>obtain⟨z,y,xs,r,ob,es,ep,e,c⟩:=x;exact⟨z,y,xs,Paired.mapP r fun p q z=>⟨z.1,ht _ _ z.2.1,z.2.2⟩,ob,es,ep,k _ _ (.inl rfl) e,c⟩
 |set S n=>obtain⟨ob,es,ep,t,e,c⟩:=x;exact⟨ob,es,ep,t,k _ _ (.inl rfl) e,c⟩
 |ins C dx fs =>obtain⟨d,z,ne,e,mA,⟨od,es,ep,e2,c⟩,r⟩:=x;exact⟨ho _ d,z,ne,k _ _ (.inl rfl) e,mA,⟨od,es,ep,k _ _ (.inr d) e2,c⟩,r⟩
 |own y=>obtain⟨ob,e⟩:=x;exact⟨ob,k _ _ (.inl rfl) e⟩
 |xd fs=>obtain⟨mA,⟨od,es,ep,e,c⟩,r⟩:=x;exact⟨mA,⟨od,es,ep,k _ _ (.inl rfl) e,c⟩,r⟩
 |rng lo hi=>obtain⟨t,u,v,e⟩:=x;exact⟨t,u,v,k _ _ (.inl rfl) e⟩
 |frz ob u ih=>obtain⟨e,q⟩:=x;exact⟨k _ _ (.inl rfl) e,ih q⟩
 |tbl ps =>have e:h.get? a=some {cls:=.none,data:=.fields ps}:=x;show h'.get? a=some {cls:=.none,data:=.fields ps};exact k a _ (.inl rfl) e
 |met f y =>have e:h.get? a=some (PySem.W.methodObj (.ref f) (.ref y)):=x;show h'.get? a=some (PySem.W.methodObj (.ref f) (.ref y));exact k a _ (.inl rfl) e
 |ext φ=>obtain⟨p,⟨o,e⟩,st⟩:=x;exact⟨st _ _ p fun o q=>k _ _ (.inl rfl) q,⟨o,k _ _ (.inl rfl) e⟩,st⟩
theorem HOk.lt(x:HOk P w H h)(e:H a=some o):a<h.objs.size:=(x a o e).lt
theorem HOk.fresh(x:HOk P w H h)(e:h.objs.size<=a):H a=none:=by
 cases q:H a with
 |none=>rfl
 |some u=>exact absurd (qR (x.lt q) e) (zK _)
theorem HOk.kept(x:HOk P w H h)(k:∀ b u,h.get? b=some u->h'.get? b=some u):HOk P w H h':=fun a o e =>
 (x a o e).stay (fun b u _ q=>k b u q) (fun _ q=>q) fun _ _ q=>q
theorem HOk.laid(x:HOk P w H h)(k:∀ b u,h.get? b=some u->h'.get? b=some u)(hp:h.objs.size<=a)(new:ObjOk P w (upd H a o) h' a o):HOk P w (upd H a o) h':=fun b u e=>by
 have hn:=x.fresh hp;by_cases hb:b=a
 .subst hb;rw[upd_same]at e;cases e;exact new
 .rw[upd_ne hb]at e;exact(x b u e).stay (fun c v _ q=>k c v q) (fun c q=>by rw[upd_ne (Zg q hn)];exact q) fun c xs q=>by rw[upd_ne (Zg q hn)];exact q
end
def Rd (H:Hp) (a:Addr) (u:HO):Prop:=H a=some u\/∃ o,H a=some (.frz o u)
theorem Rd.of{H:Hp}{a:Addr}{u:HO}(h:H a=some u):Rd H a u:=.inl h
theorem Rd.ok{P:Program}{w:World}{H:Hp}{h:Heap}{a:Addr}{u:HO}(r:Rd H a u)(x:HOk P w H h):ObjOk P w H h a u:=by
 rcases r with r|⟨o,r⟩
 .exact x a u r
 .obtain⟨_,q⟩:=x a _ r;exact q
def Mut:Option HO->Prop
 |some (.lst _)=>True
 |some (.dK _)=>True
 |some (.dT _)=>True
 |some (.set _ _)=>True
 |some (.ins _ _ _)=>True
 |some (.ext _)=>True
 |_=>False
section
variable {P:Program}{w:World}{H:Hp}{h h':Heap}{x e:Addr}{o':HO}
theorem HOk.write(ok:HOk P w H h)(mu:Mut (H x))(he:e=x\/H e=some (.own x))(k:∀ b u,b≠e->h.get? b=some u->h'.get? b=some u)(heo:∃ u,h'.get? e=some u)
  (new:ObjOk P w (upd H x o') h' x o'):HOk P w (upd H x o') h':=fun b u q=>by
 have nown:∀ c y,H c=some (.own y)->c≠x:=fun c y r z=>by subst z;rw[r]at mu;exact mu
 have ntup:∀ c xs,H c=some (.tup xs)->c≠x:=fun c xs r z=>by subst z;rw[r]at mu;exact mu
 by_cases hb:b=x
 .subst hb;rw[upd_same]at q;cases q;exact new
 .rw[upd_ne hb]at q;by_cases hbe:b=e
  .have q':H b=some (.own x):=by
    rcases he with z|z
    .exact absurd (hbe.trans z) hb
    .rw[hbe];exact z
   rw[q]at q';cases q';obtain⟨v,hv⟩:=heo;exact⟨v,by rw[hbe];exact hv⟩
  .refine(ok b u q).stay (fun c v hc r=>k c v ?_ r) (fun c r=>by rw[upd_ne (nown c b r)];exact r) fun c xs r=>by rw[upd_ne (ntup c xs r)];exact r
   rcases hc with rfl|hc
   .exact hbe
   .rintro rfl;rcases he with z|z
    .exact nown c b hc z
    .rw[hc]at z;cases z;exact hb rfl
end
structure Un (fs ex:List Addr) (H H':Hp) (h h':Heap):Prop where
 keep:∀ b o,h.get? b=some o->H b=none->b∉fs->b∉ex->h'.get? b=some o
 slot:∀ b o,h.get? b=some o->H b=none->b∈fs->b∉ex->∃ sl,h'.get? b=some {o with slots:=sl}
 free:∀ b o,h.get? b=some o->H b=none->b∉ex->H' b=none
 there:∀ b o,h.get? b=some o->b∉ex->∃ o',h'.get? b=some o'
 tups:∀ b xs,H b=some (.tup xs)->H' b=some (.tup xs)
 frzs:∀ b o u,H b=some (.frz o u)->H' b=some (.frz o u)
 tbls:∀ b ps,H b=some (.tbl ps)->∃ more,H' b=some (.tbl (ps++more))
section
variable {fs fs' ex ex':List Addr}{H H1 H2:Hp}{h h1 h2 h':Heap}{a x e:Addr}{o:HO}
theorem Un.any(u:Un fs ex H H1 h h1){b:Addr}{ob:Obj}(q:h.get? b=some ob)(n:H b=none)(hx:b∉ex):∃ sl,h1.get? b=some {ob with slots:=sl}:=by
 by_cases hb:b∈fs
 .exact u.slot b ob q n hb hx
 .exact⟨ob.slots,u.keep b ob q n hb hx⟩
theorem Un.trans(a:Un fs ex H H1 h h1)(b:Un fs ex H1 H2 h1 h2):Un fs ex H H2 h h2 where
 keep:=fun c ob q n hc hx=>b.keep c ob (a.keep c ob q n hc hx) (a.free c ob q n hx) hc hx
 slot:=fun c ob q n hc hx=>by obtain⟨sl,e1⟩:=a.slot c ob q n hc hx;obtain⟨sl',e2⟩:=b.slot c _ e1 (a.free c ob q n hx) hc hx;exact⟨sl',e2⟩
 free:=fun c ob q n hx=>by obtain⟨o',e1⟩:=a.there c ob q hx;exact b.free c o' e1 (a.free c ob q n hx) hx
 there:=fun c ob q hx=>by obtain⟨o',e1⟩:=a.there c ob q hx;exact b.there c o' e1 hx
 tups:=fun c xs q=>b.tups c xs (a.tups c xs q)
 frzs:=fun c ob xs q=>b.frzs c ob xs (a.frzs c ob xs q)
 tbls:=fun c ps q=>by obtain⟨m1,e1⟩:=a.tbls c ps q;obtain⟨m2,e2⟩:=b.tbls c _ e1;exact⟨m1++m2,by rw[e2,Array.append_assoc]⟩
theorem Un.kept(k:∀ b u,h.get? b=some u->h'.get? b=some u):Un fs ex H H h h' :=
 ⟨fun b ob q _ _ _=>k b ob q,fun b ob q _ _ _=>⟨ob.slots,k b ob q⟩,fun _ _ _ n _=>n,fun b ob q _=>⟨ob,k b ob q⟩,fun _ _ q=>q,fun _ _ _ q=>q,fun _ ps q=>⟨#[],by rw[q];simp⟩⟩
theorem Un.refl:Un fs ex H H h h:=Un.kept fun _ _ q=>q
theorem Un.laid(k:∀ b u,h.get? b=some u->h'.get? b=some u)(hp:h.objs.size<=a)(hn:H a=none):Un fs ex H (upd H a o) h h' where
 keep:=fun b u q _ _ _=>k b u q
 slot:=fun b u q _ _ _=>⟨u.slots,k b u q⟩
 free:=fun b u q n _=>by rw[upd_ne (zF (qR (Heap.lt_size q) hp))];exact n
 there:=fun b u q _=>⟨u,k b u q⟩
 tups:=fun b xs q=>by rw[upd_ne (Zg q hn)];exact q
 frzs:=fun b u xs q=>by rw[upd_ne (Zg q hn)];exact q
 tbls:=fun b ps q=>⟨#[],by rw[upd_ne (Zg q hn),q];simp⟩
theorem Un.write(mu:Mut (H x))(he:e=x\/H e=some (.own x))(k:∀ b u,b≠e->h.get? b=some u->h'.get? b=some u)(heo:∃ u,h'.get? e=some u):Un fs ex H (upd H x o) h h':=by
 have hx:∀ b,H b=none->b≠x:=fun b n z=>by subst z;rw[n]at mu;exact mu
 have hb:∀ b,H b=none->b≠e:=fun b n z=>by
  subst z;rcases he with r|r
  .exact hx b n r
  .rw[n]at r;cases r
 have hm:∀ b u,H b=some u->¬ Mut (some u)->b≠x:=fun b u q nm z=>by subst z;rw[q]at mu;exact nm mu
 refine⟨fun b u q n _ _=>k b u (hb b n) q,fun b u q n _ _=>⟨u.slots,k b u (hb b n) q⟩,fun b u q n _=>by rw[upd_ne (hx b n)];exact n,fun b u q _=>?_,
   fun b xs q=>by rw[upd_ne (hm b _ q fun z=>z)];exact q,fun b u xs q=>by rw[upd_ne (hm b _ q fun z=>z)];exact q,fun b ps q=>⟨#[],by rw[upd_ne (hm b _ q fun z=>z),q];simp⟩⟩
 by_cases hbe:b=e
 .subst hbe;exact heo
 .exact⟨u,k b u hbe q⟩
theorem Un.mono(u:Un fs ex H H1 h h1)(hs:∀ b∈fs,b∈fs')(hx:∀ b∈ex,b∈ex'):Un fs' ex' H H1 h h1 :=
 ⟨fun b ob q n hb he=>u.keep b ob q n (fun z=>hb (hs b z)) fun z=>he (hx b z),fun _ _ q n _ he=>u.any q n fun z=>he (hx _ z),fun b ob q n he=>u.free b ob q n fun z=>he (hx b z),fun b ob q he=>u.there b ob q fun z=>he (hx b z),u.tups,u.frzs,u.tbls⟩
end
def trk (h:Heap) (H:Hp):List Addr:=(List.range h.objs.size).filter fun a=>(H a).isSome
def Jn (h:Heap) (H:Hp):Heap:=PySem.W.hideAll h (trk h H)
theorem Os(h:Heap)(H:Hp):(Jn h H).objs.size=h.objs.size:=PySem.W.hideAll_size _ _
theorem O4{h:Heap}{H:Hp}{b:Addr}{o:Obj}(e:h.get? b=some o)(n:H b=none):(Jn h H).get? b=some o :=
 PySem.W.hideAll_get _ e fun hm=>by have q:(H b).isSome=true:=(List.mem_filter.mp hm).2;rw[n]at q;simp at q
theorem Cg{h:Heap}{H:Hp}{b:Addr}{o:Obj}(e:(Jn h H).get? b=some o):h.get? b=some o/\H b=none:=by
 have e':h.get? b=some o:=PySem.W.of_hideAll (trk h H) e;refine⟨e',?_⟩;cases q:H b with
 |none=>rfl
 |some x =>have hm:b∈trk h H:=List.mem_filter.mpr ⟨List.mem_range.mpr (Heap.lt_size e'),by simp[q]⟩;have z:(Jn h H).get? b=none:=PySem.W.hideAll_none (trk h H) hm;rw[z]at e;cases e
def Bb (g h:Heap) (L:Addr):List (Addr×Obj):=(List.range h.objs.size).filterMap fun a=>if a=L\/(g.get? a).isSome=true then none else(h.get? a).map fun o=>(a,o)
def rest (g h:Heap) (L d:Addr):List (Addr×Obj):=(Bb g h L).filter fun p=>decide (p.1≠d)
structure Mod (K:PySem.W.Frag) (mg:Str->Option Value) (base:Heap):Prop where
 kin:K.In base
 glob:base.Ns mainGlobals mg
 blt:∃ mb,base.Ns builtinsNs mb/\∀ x:Str,x≠"__name__"->mb x=bootBuiltins x
 nolimit:base.NoLimit
structure Cx where
 prog:Program
 w:World
 K:PySem.W.Frag
 mg:Str->Option Value
 base:Heap
 A:Around
 N:List Str
 s₀:Shared
 H₀:Hp
 env:Env
 outer:List Env
 stack:List Env
 ex:List Addr
 fn:Str->Bool
 calm:Bool
 pn:List (Addr×Obj)
 xe:Value->Shared->Prop
def frs (l:List Env):List Addr:=l.filterMap (·.frame)
abbrev Cx.fs (X:Cx):List Addr:=frs X.outer
def Vis (sc:Scope) (x:Str):Prop:=sc.names.lookup x=some .local\/sc.names.lookup x=some .cell\/sc.names.lookup x=some .free
def Loc (sc:Scope) (x:Str):Prop:=sc.names.lookup x=some .local\/sc.names.lookup x=some .cell
def Lb (env:Env) (h:Heap) (m:Str->Option Value) (x:Str) (u:Value):Prop :=
 (env.kindOf x=some .local/\m x=some u)\/((env.kindOf x=some .cell\/env.kindOf x=some .free)/\∃ c,env.cells.lookup x=some c/\h.IsCell c (some u))
structure Cx.Ok (X:Cx):Prop where
 mod:Mod X.K X.mg X.base
 kind:X.env.scope.kind=.function
 glob:X.env.globals=mainGlobals
 blt:X.env.builtins=builtinsNs
 above:X.s₀.heap.objs.size<=X.env.locals
 inj:∀ x y c,X.env.cells.lookup x=some c->X.env.cells.lookup y=some c->x=y
 has:∀ x,(X.env.kindOf x=some .cell\/X.env.kindOf x=some .free)->∃ c,X.env.cells.lookup x=some c
 cab:∀ x c,X.fn x=true->X.env.cells.lookup x=some c->X.s₀.heap.objs.size<=c
 hd:X.calm=true->X.A.handled=none
 frames:X.A.frames=some X.stack
 stk:X.stack=X.outer\/(X.stack=X.env::X.outer/\X.env.frame=some X.env.locals)
 exf:∀ b∈X.ex,b≠X.env.locals/\∀ x c,X.env.cells.lookup x=some c->c≠b
 bs:∀ b o,X.base.get? b=some o->X.s₀.heap.get? b=some o/\X.H₀ b=none
 bsz:X.base.objs.size<=X.s₀.heap.objs.size
 noex:∀ b o,X.base.get? b=some o->b∉X.ex
 exfs:∀ b∈X.ex,b∉X.fs
 funs:X.s₀.heap.FunFrames X.base X.outer
 frf:∀ b∈X.fs,X.H₀ b=none
structure Inv (X:Cx) (pins:List (Addr×Obj)) (σ:List (Option V)) (H:Hp) (s:Shared):Prop where
 ok:X.Ok
 os:s.os=X.s₀.os
 bare:AllBare s.gens
 base:Un X.fs X.ex X.H₀ H X.s₀.heap s.heap
 loc:∃ m,s.heap.Ns X.env.locals m/\∀ (i:Nat) (x:Str) (v:V),X.N[i]?=some x->σ[i]?=some (some v)->Vis X.env.scope x->∃ u,RelV v u/\Lb X.env s.heap m x u
 cell:∀ x c,X.env.cells.lookup x=some c->∃ v,s.heap.IsCell c v
 free:H X.env.locals=none
 freeC:∀ x c,X.env.cells.lookup x=some c->H c=none
 pin:∀ p∈X.pn++pins,s.heap.get? p.1=some p.2/\H p.1=none/\p.1≠X.env.locals/\p.1∉X.fs/\∀ v,p.2.data≠.cell v
 hok:HOk X.prog X.w H s.heap
 len:σ.length=X.N.length
section
variable {X:Cx}{pins:List (Addr×Obj)}{σ:List (Option V)}{H H':Hp}{s:Shared}{h':Heap}
theorem Cx.Ok.nofr(ok:X.Ok){b:Addr}{o:Obj}(e:X.base.get? b=some o):b∉X.fs:=fun hb=>by have:=(ok.funs.mem hb).1;rw[e]at this;cases this
theorem Inv.bs(I:Inv X pins σ H s):∀ b o,X.base.get? b=some o->s.heap.get? b=some o/\H b=none:=fun b o e =>
 ⟨I.base.keep b o (I.ok.bs b o e).1 (I.ok.bs b o e).2 (I.ok.nofr e) (I.ok.noex b o e),I.base.free b o (I.ok.bs b o e).1 (I.ok.bs b o e).2 (I.ok.noex b o e)⟩
theorem Inv.bk(I:Inv X pins σ H s):∀ b o,X.base.get? b=some o->s.heap.get? b=some o:=fun b o e=>(I.bs b o e).1
theorem Inv.mod(I:Inv X pins σ H s):Mod X.K X.mg X.base:=I.ok.mod
theorem Inv.kIn(I:Inv X pins σ H s):X.K.In s.heap:=I.ok.mod.kin.keeps I.bk
theorem Inv.nolimit(I:Inv X pins σ H s):s.heap.NoLimit:=I.ok.mod.nolimit.keeps I.bk
theorem Inv.fr(I:Inv X pins σ H s):∃ m,Fr X.base X.env.locals s.heap m :=
 let ⟨m,hn,_⟩:=I.loc
 ⟨m,hn,I.bk,zE I.ok.bsz I.ok.above⟩
theorem Inv.lt(I:Inv X pins σ H s):X.env.locals<s.heap.objs.size:=let ⟨_,hn,_⟩:=I.loc;hn.lt
theorem Inv.sz(I:Inv X pins σ H s):X.s₀.heap.objs.size<=s.heap.objs.size:=zE I.ok.above (Nat.le_of_lt I.lt)
theorem Inv.nofs(I:Inv X pins σ H s){a:Addr}(h:s.heap.objs.size<=a):a∉X.fs:=fun hb=>by obtain⟨_,o,ho,_⟩:=I.ok.funs.mem hb;exact absurd (qR (Heap.lt_size ho) (zE I.sz h)) (zK _)
theorem Inv.cne(I:Inv X pins σ H s):∀ x c,X.env.cells.lookup x=some c->c≠X.env.locals:=fun x c e z=>by obtain⟨v,o,ho,hd⟩:=I.cell x c e;obtain⟨m,⟨o',es,ep,ho',hd',_⟩,_⟩:=I.loc;rw[z,ho']at ho;cases ho;rw[hd']at hd;cases hd
theorem Inv.funs(I:Inv X pins σ H s):s.heap.FunFrames X.base X.outer:=by
 have all:∀ (l:List Env),(∀ b∈frs l,b∈X.fs)->X.s₀.heap.FunFrames X.base l->s.heap.FunFrames X.base l:=by
  intro l;induction l with
  |nil=>intro _ _;trivial
  |cons env r ih =>intro hs hl;obtain⟨hk,⟨L,o,hf,hn,ho,hd⟩,hr⟩:=hl;have hL:L∈X.fs:=hs L (by unfold frs;rw[zJ,hf];exact qT);obtain⟨sl,e⟩:=I.base.slot L o ho (I.ok.frf L hL) hL fun z=>I.ok.exfs L z hL;exact⟨hk,⟨L,_,hf,hn,e,hd⟩,ih (fun b hb=>hs b (by unfold frs;rw[zJ,hf];exact qI _ hb)) hr⟩
 exact all X.outer (fun _ hb=>hb) I.ok.funs
theorem Inv.stack(I:Inv X pins σ H s):s.heap.FunFrames X.base X.stack:=by
 rcases I.ok.stk with e|⟨e,hf⟩
 .rw[e];exact I.funs
 .rw[e];obtain⟨m,hn,_⟩:=I.loc;refine .cons (by rw[I.ok.kind];decide) hf hn ?_ I.funs;exact Heap.get?_none_of_le (zE I.ok.bsz I.ok.above)
theorem Inv.stkSub(I:Inv X pins σ H s):∀ b∈frs X.stack,b∈X.env.locals::X.fs:=fun b hb=>by
 rcases I.ok.stk with e|⟨e,hf⟩
 .rw[e]at hb;exact qI _ hb
 .rw[e]at hb;unfold frs at hb;rw[zJ,hf]at hb;exact hb
theorem Inv.stkFree(I:Inv X pins σ H s):∀ b∈frs X.stack,H b=none:=fun b hb=>by
 rcases qE.mp (I.stkSub b hb)with e|hb
 .rw[e];exact I.free
 .obtain⟨_,o,ho,_⟩:=I.ok.funs.mem hb;exact I.base.free b o ho (I.ok.frf b hb) fun z=>I.ok.exfs b z hb
theorem Inv.step{g':Array GenState}{t':Nat}{d':Drawn}{ch:List Addr}(I:Inv X pins σ H s)
  (hch:∀ b∈ch,(b∈X.ex\/X.s₀.heap.objs.size<=b)/\b≠X.env.locals/\(∀ x c,X.env.cells.lookup x=some c->c≠b)/\∀ p∈X.pn++pins,p.1≠b)
  (keep:∀ b o,b≠X.env.locals->b∉X.fs->b∉ch->s.heap.get? b=some o->H b=none->h'.get? b=some o)
  (slot:∀ b o,b≠X.env.locals->b∈X.fs->b∉ch->s.heap.get? b=some o->H b=none->∃ sl,h'.get? b=some {o with slots:=sl}) (free:∀ b o,b∉ch->s.heap.get? b=some o->H b=none->H' b=none)
  (there:∀ b o,b∉ch->s.heap.get? b=some o->∃ o',h'.get? b=some o')
  (tups:∀ b xs,H b=some (.tup xs)->H' b=some (.tup xs)) (frzs:∀ b o u,H b=some (.frz o u)->H' b=some (.frz o u)) (tbls:∀ b ps,H b=some (.tbl ps)->∃ more,H' b=some (.tbl (ps++more)))
  (ns:∀ m,s.heap.Ns X.env.locals m->h'.Ns X.env.locals m) (hok:HOk X.prog X.w H' h') (hg:AllBare g') :
  Inv X pins σ H' {s with heap:=h',gens:=g',drawn:=d',toks:=t'}:=by
 have neL:∀ b o,X.s₀.heap.get? b=some o->b≠X.env.locals:=fun b o e=>zF (qR (Heap.lt_size e) I.ok.above);have neC:∀ b o,X.s₀.heap.get? b=some o->b∉X.ex->b∉ch:=fun b o e hx hb=>by
  rcases (hch b hb).1 with z|z
  .exact hx z
  .exact absurd (qR (Heap.lt_size e) z) (zK _)
 have cellK:∀ x c,X.env.cells.lookup x=some c->∀ v,s.heap.IsCell c v->h'.IsCell c v:=fun x c e v ⟨o,ho,hd⟩=>by
  have nch:c∉ch:=fun z=>(hch c z).2.2.1 x c e rfl;by_cases hc:c∈X.fs
  .obtain⟨sl,q⟩:=slot c o (I.cne x c e) hc nch ho (I.freeC x c e);exact⟨_,q,hd⟩
  .exact⟨o,keep c o (I.cne x c e) hc nch ho (I.freeC x c e),hd⟩
 refine⟨I.ok,I.os,hg,⟨fun b o e n hb hx=>?_,fun b o e n hb hx=>?_,fun b o e n hx=>?_,fun b o e hx=>?_,fun b xs e=>tups b xs (I.base.tups b xs e),fun b o xs e=>frzs b o xs (I.base.frzs b o xs e),fun b ps e=>?_⟩,?_,fun x c e=>?_,?_,fun x c e=>?_,fun p hp=>?_,hok,I.len⟩
 .exact keep b o (neL b o e) hb (neC b o e hx) (I.base.keep b o e n hb hx) (I.base.free b o e n hx)
 .obtain⟨sl,e1⟩:=I.base.slot b o e n hb hx;obtain⟨sl',e2⟩:=slot b _ (neL b o e) hb (neC b o e hx) e1 (I.base.free b o e n hx);exact⟨sl',e2⟩
 .obtain⟨o',e1⟩:=I.base.there b o e hx;exact free b o' (neC b o e hx) e1 (I.base.free b o e n hx)
 .obtain⟨o',e1⟩:=I.base.there b o e hx;exact there b o' (neC b o e hx) e1
 .obtain⟨m1,e1⟩:=I.base.tbls b ps e;obtain⟨m2,e2⟩:=tbls b _ e1;exact⟨m1++m2,by rw[e2,Array.append_assoc]⟩
 .obtain⟨m,hn,hl⟩:=I.loc;refine⟨m,ns m hn,fun i x v e1 e2 e3=>?_⟩;obtain⟨u,r,l⟩:=hl i x v e1 e2 e3;refine⟨u,r,?_⟩;rcases l with l|⟨k,c,e,z⟩
  .exact .inl l
  .exact .inr ⟨k,c,e,cellK x c e _ z⟩
 .obtain⟨v,z⟩:=I.cell x c e;exact⟨v,cellK x c e v z⟩
 .obtain⟨m,⟨o,_,_,ho,_⟩,_⟩:=I.loc;exact free _ o (fun z=>(hch _ z).2.1 rfl) ho I.free
 .obtain⟨v,o,ho,hd⟩:=I.cell x c e;exact free c o (fun z=>(hch c z).2.2.1 x c e rfl) ho (I.freeC x c e)
 .obtain⟨e,n,ne,nf,d⟩:=I.pin p hp;have nch:p.1∉ch:=fun z=>(hch p.1 z).2.2.2 p hp rfl;exact⟨keep p.1 p.2 ne nf nch e n,free p.1 p.2 nch e n,ne,nf,d⟩
theorem Inv.un{t':Nat}(I:Inv X pins σ H s)(u:Un X.fs [] H H' s.heap h')(hok:HOk X.prog X.w H' h'):Inv X pins σ H' {s with heap:=h',toks:=t'}:=by
 obtain⟨m,⟨o,es,ep,ho,r⟩,_⟩:=id I.loc;obtain⟨sl,hL⟩:=u.any ho I.free (by simp);exact I.step (g':=s.gens) (d':=s.drawn) (ch:=[]) (fun _ z=>nomatch z) (fun b o _ hb _ e n=>u.keep b o e n hb (by simp)) (fun b o _ hb _ e n=>u.slot b o e n hb (by simp)) (fun b o _ e n=>u.free b o e n (by simp)) (fun b o _ e=>u.there b o e (by simp)) u.tups u.frzs u.tbls (fun m' hm=>by
   obtain⟨o',es',ep',ho',r'⟩:=hm
   rw[ho]at ho';cases ho'
   exact⟨_,es',ep',hL,r'⟩) hok I.bare
theorem Inv.call{g':Array GenState}{t':Nat}{d':Drawn}{ch:List Addr}(I:Inv X pins σ H s)(u:Un (frs X.stack) ch H H' s.heap h')(hok:HOk X.prog X.w H' h')(hg:AllBare g')
  (hch:∀ b∈ch,(b∈X.ex\/X.s₀.heap.objs.size<=b)/\b≠X.env.locals/\(∀ x c,X.env.cells.lookup x=some c->c≠b)/\∀ p∈X.pn++pins,p.1≠b) :
  Inv X pins σ H' {s with heap:=h',gens:=g',drawn:=d',toks:=t'}:=by
 obtain⟨m,⟨o,es,ep,ho,r⟩,_⟩:=id I.loc;obtain⟨sl,hL⟩:=u.any ho I.free fun z=>(hch _ z).2.1 rfl;exact I.step (ch:=ch) hch (fun b o hL hb hc e n=>u.keep b o e n (fun z=>(qE.mp (I.stkSub b z)).elim hL hb) hc) (fun b o _ _ hc e n=>u.any e n hc) (fun b o hc e n=>u.free b o e n hc) (fun b o hc e=>u.there b o e hc) u.tups u.frzs u.tbls (fun m' hm=>by
   obtain⟨o',es',ep',ho',r'⟩:=hm
   rw[ho]at ho';cases ho'
   exact⟨_,es',ep',hL,r'⟩) hok hg
theorem Inv.turned{t':Nat}{it:Addr}(I:Inv X pins σ H s)(k:∀ b o,b≠it->s.heap.get? b=some o->h'.get? b=some o)(hn:H it=none)(hL:it≠X.env.locals)
  (h1:it∈X.ex\/X.s₀.heap.objs.size<=it) (h2:∀ x c,X.env.cells.lookup x=some c->c≠it) (h3:∀ p∈X.pn++pins,p.1≠it):Inv X pins σ H {s with heap:=h',toks:=t'}:=by
 have nit:∀ b u,H b=some u->b≠it:=fun b u e z=>by rw[z,hn]at e;cases e
 refine I.step (g':=s.gens) (d':=s.drawn) (ch:=[it]) (fun b hb=>?_) (fun b o _ _ hc e _=>k b o (fun z=>hc (by simp[z])) e) (fun b o _ _ hc e _=>⟨o.slots,k b o (fun z=>hc (by simp[z])) e⟩) (fun _ _ _ _ n=>n)
  (fun b o hc e=>⟨o,k b o (fun z=>hc (by simp[z])) e⟩) (fun _ _ e=>e) (fun _ _ _ e=>e) (fun b ps e=>⟨#[],by rw[e];simp⟩) (fun m hm=>?_) (fun b u e=>?_) I.bare
 .have e:b=it:=by simpa using hb
  subst e;exact⟨h1,hL,h2,h3⟩
 .obtain⟨o,es,ep,ho,r⟩:=hm;exact⟨o,es,ep,k _ o (Ne.symm hL) ho,r⟩
 .refine(I.hok b u e).stay (fun c v hc q=>k c v ?_ q) (fun _ q=>q) fun _ _ q=>q;rcases hc with z|z
  .rw[z];exact nit b u e
  .exact nit c _ z
theorem Inv.tok(I:Inv X pins σ H s)(t:Nat):Inv X pins σ H {s with toks:=t}:=I.un (h':=s.heap) (t':=t) Un.refl I.hok
theorem Inv.kept{t':Nat}(I:Inv X pins σ H s)(k:∀ b u,s.heap.get? b=some u->h'.get? b=some u):Inv X pins σ H {s with heap:=h',toks:=t'}:=I.un (Un.kept k) (I.hok.kept k)
theorem Inv.laid{a:Addr}{o:HO}{t':Nat}(I:Inv X pins σ H s)(k:∀ b u,s.heap.get? b=some u->h'.get? b=some u)(hp:s.heap.objs.size<=a)(new:ObjOk X.prog X.w (upd H a o) h' a o) :
  Inv X pins σ (upd H a o) {s with heap:=h',toks:=t'}:=I.un (Un.laid k hp (I.hok.fresh hp)) (I.hok.laid k hp new)
theorem Inv.write{x e:Addr}{o:HO}{t':Nat}(I:Inv X pins σ H s)(mu:Mut (H x))(he:e=x\/H e=some (.own x))(k:∀ b u,b≠e->s.heap.get? b=some u->h'.get? b=some u)(heo:∃ u,h'.get? e=some u)
  (new:ObjOk X.prog X.w (upd H x o) h' x o):Inv X pins σ (upd H x o) {s with heap:=h',toks:=t'}:=I.un (Un.write mu he k heo) (I.hok.write mu he k heo new)
theorem Inv.pins_of{pins':List (Addr×Obj)}(I:Inv X pins σ H s)(h:∀ p∈pins',s.heap.get? p.1=some p.2/\H p.1=none/\p.1≠X.env.locals/\p.1∉X.fs/\∀ v,p.2.data≠.cell v):Inv X pins' σ H s :=
 ⟨I.ok,I.os,I.bare,I.base,I.loc,I.cell,I.free,I.freeC,fun p hp=>(q8.mp hp).elim (fun z=>I.pin p (qM _ z)) (h p),I.hok,I.len⟩
theorem KK{N:List Str}(hN:N.Nodup){i j:Nat}{x:Str}(a:N[i]?=some x)(b:N[j]?=some x):i=j:=by obtain⟨h1,e1⟩:=qK.mp a;obtain⟨h2,e2⟩:=qK.mp b;exact(List.getElem_inj hN).mp (e1.trans e2.symm)
theorem Jb{M:Model}{A:Around}{E:Value->Shared->Prop}{i:Nat}{x:Str}{v:V}{u:Value}{Q:Unit->Shared->Prop}(I:Inv X pins σ H s)(hN:X.N.Nodup)(hi:X.N[i]?=some x)(hx:Loc X.env.scope x)(r:RelV v u)
  (h:∀ s',Inv X pins (σ.set i (some v)) H s'->(∃ a,Heap.SameBut a s.heap s'.heap/\(a=X.env.locals\/X.env.cells.lookup x=some a))->Q () s') (hf:X.fn x=true\/X.env.scope.names.lookup x=some .local:=by first|exact .inl rfl|exact .inr rfl|assumption):wpAny M A (storeName X.env x u) Q E s:=by
 obtain⟨m,hn,hl⟩:=id I.loc;have hcls:(X.env.scope.kind == .class||(X.env.scope.kind == .module&&X.env.locals != X.env.globals))=false:=by rw[I.ok.kind];rfl
 have hiσ:i<σ.length:=by rw[I.len];exact(qK.mp hi).1
 have cne:=I.cne;have tracked:∀ {a:Addr}{h':Heap},(∃ o,s.heap.get? a=some o/\H a=none)->Heap.SameBut a s.heap h'->HOk X.prog X.w H h':=fun {a h'} ha hs b ob e=>by
  obtain⟨_,_,hfree⟩:=ha;refine(I.hok b ob e).stay (fun c w' hc q=>(hs.2 c ?_).trans q) (fun _ q=>q) fun _ _ q=>q;rintro rfl;rcases hc with rfl|hc
  .rw[hfree]at e;cases e
  .rw[hfree]at hc;cases hc
 rcases hx with hk|hk
 .refine wpAny_storeName_local hk hn (fun h' hn' hs=>?_) hcls;obtain⟨oL,_,_,hoL,_⟩:=id hn;refine h _ ⟨I.ok,I.os,I.bare,⟨fun b o e n hb hx=>?_,fun b o e n hb hx=>?_,I.base.free,fun b o e hx=>?_,I.base.tups,I.base.frzs,I.base.tbls⟩,⟨_,hn',fun j y v' e1 e2 e3=>?_⟩,fun y c e=>?_,I.free,I.freeC,fun p hp=>?_,tracked ⟨oL,hoL,I.free⟩ hs,by simpa using I.len⟩ ⟨_,hs,.inl rfl⟩
  .exact(hs.2 b (zF (qR (Heap.lt_size e) I.ok.above))).trans (I.base.keep b o e n hb hx)
  .obtain⟨sl,e1⟩:=I.base.slot b o e n hb hx;exact⟨sl,(hs.2 b (zF (qR (Heap.lt_size e) I.ok.above))).trans e1⟩
  .obtain⟨o',e1⟩:=I.base.there b o e hx;exact⟨o',(hs.2 b (zF (qR (Heap.lt_size e) I.ok.above))).trans e1⟩
  .by_cases hj:j=i
   .subst hj;rw[hi]at e1;cases e1;rw[List.getElem?_set_self hiσ]at e2;cases e2;exact⟨u,r,.inl ⟨hk,by simp⟩⟩
   .rw[List.getElem?_set_ne (Ne.symm hj)]at e2;obtain⟨u',r',q⟩:=hl j y v' e1 e2 e3;refine⟨u',r',?_⟩;rcases q with⟨k,e⟩|⟨k,c,e,z⟩
    .refine .inl ⟨k,?_⟩;have:y≠x:=fun e=>hj (KK hN e1 (e▸hi));simp[this,e]
    .exact .inr ⟨k,c,e,z.sameBut hs (cne y c e)⟩
  .obtain⟨w',z⟩:=I.cell y c e;exact⟨w',z.sameBut hs (cne y c e)⟩
  .obtain⟨e,n,ne,nf,d⟩:=I.pin p hp;exact⟨(hs.2 p.1 ne).trans e,n,ne,nf,d⟩
 .have hfn:X.fn x=true:=by
   rcases hf with z|z
   .exact z
   .rw[z]at hk;cases hk
  obtain⟨c,hc⟩:=I.ok.has x (.inl hk);obtain⟨w',z⟩:=I.cell x c hc;refine wpAny_storeName_cell I.ok.kind hk hc z (fun h' hc' hs=>?_);obtain⟨oc,hoc,hocd⟩:=id z;refine h {s with heap:=h'} ⟨I.ok,I.os,I.bare,⟨fun b o e n hb hx=>?_,fun b o e n hb hx=>?_,I.base.free,fun b o e hx=>?_,I.base.tups,I.base.frzs,I.base.tbls⟩,⟨m,hn.sameBut hs (Ne.symm (cne x c hc)),fun j y v' e1 e2 e3=>?_⟩,fun y c' e=>?_,I.free,I.freeC,fun p hp=>?_,tracked ⟨oc,hoc,I.freeC x c hc⟩ hs,by simpa using I.len⟩ ⟨c,hs,.inr hc⟩
  .exact(hs.2 b (zF (qR (Heap.lt_size e) (I.ok.cab x c hfn hc)))).trans (I.base.keep b o e n hb hx)
  .obtain⟨sl,e1⟩:=I.base.slot b o e n hb hx;exact⟨sl,(hs.2 b (zF (qR (Heap.lt_size e) (I.ok.cab x c hfn hc)))).trans e1⟩
  .obtain⟨o',e1⟩:=I.base.there b o e hx;exact⟨o',(hs.2 b (zF (qR (Heap.lt_size e) (I.ok.cab x c hfn hc)))).trans e1⟩
  .by_cases hj:j=i
   .subst hj;rw[hi]at e1;cases e1;rw[List.getElem?_set_self hiσ]at e2;cases e2;exact⟨u,r,.inr ⟨.inl hk,c,hc,hc'⟩⟩
   .rw[List.getElem?_set_ne (Ne.symm hj)]at e2;obtain⟨u',r',q⟩:=hl j y v' e1 e2 e3;refine⟨u',r',?_⟩;rcases q with q|⟨k,c',e,z'⟩
    .exact .inl q
    .refine .inr ⟨k,c',e,z'.sameBut hs ?_⟩;rintro rfl;exact hj (KK hN e1 (I.ok.inj _ _ _ e hc▸hi))
  .by_cases hcc:c'=c
   .subst hcc;exact⟨_,hc'⟩
   .obtain⟨w2,z2⟩:=I.cell y c' e;exact⟨w2,z2.sameBut hs hcc⟩
  .obtain⟨e,n,ne,nf,d⟩:=I.pin p hp;refine⟨(hs.2 p.1 ?_).trans e,n,ne,nf,d⟩;intro q;rw[q,hoc]at e;have q':oc=p.2:=Option.some.inj e;exact d w' (by rw[<-q'];exact hocd)
theorem Ar{M:Model}{A:Around}{E:Value->Shared->Prop}{i:Nat}{x:Str}{v:V}{u:Value}{Q:Unit->Shared->Prop}(I:Inv X pins σ H s)(hN:X.N.Nodup)(hi:X.N[i]?=some x)(hx:Loc X.env.scope x)(r:RelV v u)
  (h:∀ s',Inv X pins (σ.set i (some v)) H s'->Q () s') (hf:X.fn x=true\/X.env.scope.names.lookup x=some .local:=by first|exact .inl rfl|exact .inr rfl|assumption):wpAny M A (storeName X.env x u) Q E s :=
 Jb I hN hi hx r (fun s' I' _=>h s' I') hf
theorem Inv.call'{s':Shared}{ch:List Addr}(I:Inv X pins σ H s)(ho:s'.os=s.os)(u:Un (frs X.stack) ch H H' s.heap s'.heap)(hok:HOk X.prog X.w H' s'.heap)(hg:AllBare s'.gens)
  (hch:∀ b∈ch,(b∈X.ex\/X.s₀.heap.objs.size<=b)/\b≠X.env.locals/\(∀ x c,X.env.cells.lookup x=some c->c≠b)/\∀ p∈X.pn++pins,p.1≠b):Inv X pins σ H' s':=by
 obtain⟨h',g',d',t',o'⟩:=s';have e:o'=s.os:=ho;subst e;exact I.call (g':=g') (t':=t') (d':=d') u hok hg hch
end
abbrev XK:=Value->Option Addr->Hp->Prop
abbrev St:=List (Option V)
abbrev VK:=V->Hp->Prop
abbrev TE:=St->Hp->VK->Prop
abbrev TT:=St->Hp->(Bool->Hp->Prop)->Prop
abbrev TA:=St->Hp->(List V->Hp->Prop)->Prop
structure Ends where
 nx:St->Hp->Prop
 rt:VK
 bk:St->Hp->Prop:=fun _ _=>False
 ct:St->Hp->Prop:=fun _ _=>False
abbrev TS:=Ends->St->Hp->Prop
def EP (X:Cx) (pins:List (Addr×Obj)) (σ:St) (Q:VK) (u:Value) (s':Shared):Prop:=∃ v H',Inv X pins σ H' s'/\RelV v u/\Q v H'
def TP (X:Cx) (pins:List (Addr×Obj)) (σ:St) (Q:Bool->Hp->Prop) (b:Bool) (s':Shared):Prop:=∃ H',Inv X pins σ H' s'/\Q b H'
def AP (X:Cx) (pins:List (Addr×Obj)) (σ:St) (Q:List V->Hp->Prop) (us:List Value) (s':Shared):Prop:=∃ vs H',Inv X pins σ H' s'/\Vals vs us/\Q vs H'
def SP (X:Cx) (pins:List (Addr×Obj)) (D:Ends) (f:Flow) (s':Shared):Prop :=
 match f with
 |.next=>∃ σ' H',Inv X pins σ' H' s'/\D.nx σ' H'
 |.brk=>∃ σ' H',Inv X pins σ' H' s'/\D.bk σ' H'
 |.cont=>∃ σ' H',Inv X pins σ' H' s'/\D.ct σ' H'
 |.ret u=>∃ v σ' H',Inv X pins σ' H' s'/\RelV v u/\D.rt v H'
def PE (X:Cx) (e:Expr) (t:TE):Prop :=
 ∀ (pins:List (Addr×Obj)) (s:Shared) (σ:St) (H:Hp) (Q:VK),Inv X pins σ H s->t σ H Q->wpAny (model X.prog X.w) X.A (eval e X.env) (EP X pins σ Q) X.xe s
def PT (X:Cx) (e:Expr) (t:TT):Prop :=
 ∀ (pins:List (Addr×Obj)) (s:Shared) (σ:St) (H:Hp) (Q:Bool->Hp->Prop),Inv X pins σ H s->t σ H Q->wpAny (model X.prog X.w) X.A (isTrue e X.env (eval e X.env)) (TP X pins σ Q) X.xe s
def PW (X:Cx) (e:Expr) (t:TT):Prop :=
 ∀ (whole:Sem Value) (pins:List (Addr×Obj)) (s:Shared) (σ:St) (H:Hp) (Q:Bool->Hp->Prop),Inv X pins σ H s->t σ H Q->wpAny (model X.prog X.w) X.A (isTrue e X.env whole) (TP X pins σ Q) X.xe s
theorem PW.pt{X:Cx}{e:Expr}{t:TT}(h:PW X e t):PT X e t:=h _
def PA (X:Cx) (es:List Expr) (t:TA):Prop :=
 ∀ (pos:Pos) (pins:List (Addr×Obj)) (s:Shared) (σ:St) (H:Hp) (Q:List V->Hp->Prop),Inv X pins σ H s->t σ H Q->wpAny (model X.prog X.w) X.A (spliced (backTo pos (starEach es X.env))) (AP X pins σ Q) X.xe s
def PS (X:Cx) (st:Stmt) (t:TS):Prop :=
 ∀ (pins:List (Addr×Obj)) (s:Shared) (σ:St) (H:Hp) (D:Ends),Inv X pins σ H s->t D σ H->wpAny (model X.prog X.w) X.A (exec st X.env) (SP X pins D) X.xe s
def PSs (X:Cx) (st:List Stmt) (t:TS):Prop :=
 ∀ (pins:List (Addr×Obj)) (s:Shared) (σ:St) (H:Hp) (D:Ends),Inv X pins σ H s->t D σ H->wpAny (model X.prog X.w) X.A (execs st X.env) (SP X pins D) X.xe s
theorem thn{α:Type}{t:Sem α}{Q Q':α->Shared->Prop}{M:Model}{A:Around}{E:Value->Shared->Prop}{s:Shared}(h:wpAny M A t Q E s)(hQ:∀ a s,Q a s->Q' a s):wpAny M A t Q' E s:=wpAny_mono h hQ fun _ _ x=>x
section
variable {X:Cx}
theorem bin{a b:Expr}{ta tb:TE}(ha:PE X a ta)(hb:PE X b tb){pins:List (Addr×Obj)}{s:Shared}{σ:St}{H:Hp}{R:V->V->Hp->Prop}(I:Inv X pins σ H s)(h:ta σ H fun x H1=>tb σ H1 fun y H2=>R x y H2)
  {α:Type}{Q:α->Shared->Prop}{f:Value->Value->Sem α}
  (hf:∀ v u s2 x y H2,Inv X pins σ H2 s2->RelV x v->RelV y u->R x y H2->wpAny (model X.prog X.w) X.A (f v u) Q X.xe s2) :
  wpAny (model X.prog X.w) X.A (eval a X.env) (fun v s₁=>wpAny (model X.prog X.w) X.A (eval b X.env) (fun u s₂=>wpAny (model X.prog X.w) X.A (f v u) Q X.xe s₂) X.xe s₁) X.xe s:=by
 refine thn (ha pins s σ H _ I h) fun v s1 ⟨x,H1,I1,r1,q1⟩=>?_;refine thn (hb pins s1 σ H1 _ I1 q1) fun u s2 ⟨y,H2,I2,r2,q2⟩=>?_;exact hf v u s2 x y H2 I2 r1 r2 q2
def HX (i:Nat):TE:=fun σ H Q=>∃ v,σ[i]?=some (some v)/\Q v H
def tC (v:V):TE:=fun _ H Q=>Q v H
theorem Et {i:Nat}{x:Str}{pos:Pos}(hN:X.N[i]?=some x) (hv:Vis X.env.scope x) (hd:(x==("__debug__" : Str))=false:=by decide) (hcd:(x==("__classdict__" : Str))=false:=by decide):PE X (.Name x pos) (HX i):=by
 intro pins s σ H Q I h;obtain⟨v,e,h⟩:=h;obtain⟨m,hn,hl⟩:=I.loc;obtain⟨u,r,l⟩:=hl i x v hN e hv;have fin:EP X pins σ Q u s:=⟨v,H,I,r,h⟩
 rcases l with⟨hk,hm⟩|⟨hk,c,hc,hcell⟩
 .exact wpAny_Name (wpAny_loadName_local I.ok.kind hk hn hm fin) hd
 .rcases hk with hk|hk
  .exact wpAny_Name (wpAny_loadName_cell I.ok.kind hk hc hcell fin) hd
  .exact wpAny_Name (wpAny_loadName_free I.ok.kind hk hc hcell fin hcd) hd
theorem Fx{i j pos}:PE X (.Constant (.int i) j pos) (tC (.int i)):=fun _ _ _ H _ I h=>wpAny_Constant_int ⟨.int i,H,I.tok _,⟨_,rfl⟩,h⟩
theorem HD{b j pos}:PE X (.Constant (.bool b) j pos) (tC (.bl b)):=fun _ _ _ H _ I h=>Constant_bool ⟨.bl b,H,I,rfl,h⟩
theorem Fh{j pos}:PE X (.Constant .none j pos) (tC .non):=fun _ _ _ H _ I h=>Constant_none ⟨.non,H,I,rfl,h⟩
theorem pe_str{x j pos}:PE X (.Constant (.str x) j pos) (tC (.str x)):=fun _ _ _ H _ I h=>Calls.Constant_str ⟨.str x,H,I.tok _,⟨_,rfl⟩,h⟩
def Gl (X:Cx) (x:Str):Prop:=X.env.kindOf x=some .globalImplicit
theorem XA{E:Value->Shared->Prop}{pins:List (Addr×Obj)}{s:Shared}{σ:St}{H:Hp}{x:Str}{u:Value}{pos:Pos}{Q:Value->Shared->Prop}(I:Inv X pins σ H s)(hg:Gl X x)(hm:X.mg x=some u)(h:Q u s)
  (hd:(x==("__debug__" : Str))=false:=by decide):wpAny (model X.prog X.w) X.A (eval (.Name x pos) X.env) Q E s :=
 Calls.Name_function_global I.ok.kind hg (Calls.loadGlobal_global (by rw[I.ok.glob];exact I.mod.glob.keeps I.bk) hm h) hd
theorem YB{E:Value->Shared->Prop}{pins:List (Addr×Obj)}{s:Shared}{σ:St}{H:Hp}{x:Str}{u:Value}{pos:Pos}{Q:Value->Shared->Prop}(I:Inv X pins σ H s)(hg:Gl X x)(hm:X.mg x=none)(hv:bootBuiltins x=some u)(h:Q u s)
  (hn:x≠"__name__":=by decide) (hd:(x==("__debug__" : Str))=false:=by decide):wpAny (model X.prog X.w) X.A (eval (.Name x pos) X.env) Q E s:=by
 obtain⟨mb,h1,h2⟩:=I.mod.blt;exact Calls.Name_function_global I.ok.kind hg (Calls.loadGlobal_builtin (by rw[I.ok.glob];exact I.mod.glob.keeps I.bk) hm (by rw[I.ok.blt];exact h1.keeps I.bk) ((h2 x hn).trans hv) h) hd
theorem Nb {x:Str}{v:V}{u:Value}{pos:Pos}(hg:Gl X x) (hm:X.mg x=some u) (r:RelV v u) (hd:(x==("__debug__" : Str))=false:=by decide):PE X (.Name x pos) (tC v) :=
 fun _ _ _ H _ I h=>XA I hg hm ⟨v,H,I,r,h⟩ hd
theorem BF {x:Str}{v:V}{u:Value}{pos:Pos}(hg:Gl X x) (hm:X.mg x=none) (hv:bootBuiltins x=some u) (r:RelV v u) (hn:x≠"__name__":=by decide) (hd:(x==("__debug__" : Str))=false:=by decide):PE X (.Name x pos) (tC v) :=
 fun _ _ _ H _ I h=>YB I hg hm hv ⟨v,H,I,r,h⟩ hn hd
variable {a b:Expr}{ta tb:TE}{pos:Pos}
def PC (X:Cx) (op:CmpOp) (a b:Expr) (t:TE):Prop :=
 ∀ (pins:List (Addr×Obj)) (s:Shared) (σ:St) (H:Hp) (Q:VK),Inv X pins σ H s->t σ H Q->
  wpAny (model X.prog X.w) X.A (eval a X.env) (fun v s₁=>wpAny (model X.prog X.w) X.A (eval b X.env) (fun u s₂=>wpAny (model X.prog X.w) X.A (compareOp op v u) (EP X pins σ Q) X.xe s₂) X.xe s₁) X.xe s
theorem Kw(b:Expr){op:CmpOp}(h:op≠.In)(h2:op≠.NotIn):behindInMarks op b=false:=by
 have e1:(op==CmpOp.In)=false:=by cases op<;>first|rfl|exact absurd rfl h
 have e2:(op==CmpOp.NotIn)=false:=by cases op<;>first|rfl|exact absurd rfl h2
 cases b<;>simp[behindInMarks,e1,e2]
def Ld (ta:TE):TE:=fun σ H Q=>ta σ H fun x H1=>Q (.bl (decide (x=.non))) H1
def Hc (ta:TE):TE:=fun σ H Q=>ta σ H fun x H1=>Q (.bl (!decide (x=.non))) H1
theorem RelV.none_iff{x:V}{v:Value}(r:RelV x v):(v==Value.none)=decide (x=.non):=by
 cases x with
 |non=>cases r;rfl
 |bl _=>cases r;rfl
 |int _=>obtain⟨t,rfl⟩:=r;rfl
 |str _=>obtain⟨t,rfl⟩:=r;rfl
 |byt _=>obtain⟨t,rfl⟩:=r;rfl
 |flt _=>obtain⟨t,rfl⟩:=r;rfl
 |ref _=>cases r;rfl
 |ty _=>cases r;rfl
theorem OH{j pos'}(ha:PE X a ta):PC X .Is a (.Constant .none j pos') (Ld ta):=by intro pins s σ H Q I h;refine thn (ha pins s σ H _ I h) fun v s1 ⟨x,H1,I1,r1,q1⟩=>?_;exact Constant_none (is_none_gen ⟨.bl _,H1,I1,by rw[r1.none_iff];rfl,q1⟩)
theorem Na{j pos'}(ha:PE X a ta):PC X .IsNot a (.Constant .none j pos') (Hc ta):=by intro pins s σ H Q I h;refine thn (ha pins s σ H _ I h) fun v s1 ⟨x,H1,I1,r1,q1⟩=>?_;exact Constant_none (isnot_none_gen ⟨.bl _,H1,I1,by rw[r1.none_iff];rfl,q1⟩)
def tB (t:TE):TT:=fun σ H Q=>t σ H fun x H1=>∃ c,x=.bl c/\Q c H1
theorem U5{op:CmpOp}{t:TE}(h:PC X op a b t)(h1:behindInMarks op b=false:=by first|exact Kw _ (by decide) (by decide)|rfl):PE X (.Compare a [op] [b] pos) t:=fun pins s σ H Q I hw=>wpAny_Compare1 (h pins s σ H Q I hw) h1
theorem AD{op:CmpOp}{t:TE}(h:PC X op a b t)(h1:behindInMarks op b=false:=by first|exact Kw _ (by decide) (by decide)|rfl):PT X (.Compare a [op] [b] pos) (tB t):=by intro pins s σ H Q I hw;refine wpAny_isTrue_Compare1 (thn (h pins s σ H _ I hw) fun v s1 h1=>thn h1 fun u s2 h2=>thn h2 fun c s3 ⟨x,H1,I1,r1,q1⟩=>?_) h1;obtain⟨d,rfl,q⟩:=q1;cases r1;exact wpAny_truthy_bool ⟨H1,I1,q⟩
variable {tA tB':TT}{rest:List Expr}
def IN (t u:TT):TT:=fun σ H Q=>t σ H fun c H1=>if c=true then u σ H1 Q else Q false H1
def tOr (t u:TT):TT:=fun σ H Q=>t σ H fun c H1=>if c=true then Q true H1 else u σ H1 Q
def Lm (t:TT):TT:=fun σ H Q=>t σ H fun c H1=>Q (!c) H1
theorem BB(ha:PT X a tA):PW X (.BoolOp .And [a] pos) tA:=by
 intro wh pins s σ H Q I h;refine isTrue_and (thn (ha pins s σ H Q I h) fun c s1 e=>?_);cases c with
 |true=>exact isTrue_and_nil e
 |false=>exact e
theorem FD(ha:PT X a tA):PW X (.BoolOp .Or [a] pos) tA:=by
 intro wh pins s σ H Q I h;refine isTrue_or (thn (ha pins s σ H Q I h) fun c s1 e=>?_);cases c with
 |false=>exact isTrue_or_nil e
 |true=>exact e
theorem FJ(ha:PT X a tA)(hb:PW X (.BoolOp .And (b::rest) pos) tB'):PW X (.BoolOp .And (a::b::rest) pos) (IN tA tB'):=by
 intro wh pins s σ H Q I h;refine isTrue_and (thn (ha pins s σ H _ I h) fun c s1 ⟨H1,I1,q1⟩=>?_);cases c with
 |true=>exact hb wh pins s1 σ H1 Q I1 q1
 |false=>exact⟨H1,I1,q1⟩
theorem GL(ha:PT X a tA)(hb:PW X (.BoolOp .Or (b::rest) pos) tB'):PW X (.BoolOp .Or (a::b::rest) pos) (tOr tA tB'):=by
 intro wh pins s σ H Q I h;refine isTrue_or (thn (ha pins s σ H _ I h) fun c s1 ⟨H1,I1,q1⟩=>?_);cases c with
 |true=>exact⟨H1,I1,q1⟩
 |false=>exact hb wh pins s1 σ H1 Q I1 q1
theorem D9(ha:PT X a tA):PT X (.UnaryOp .Not a pos) (Lm tA):=by intro pins s σ H Q I h;exact isTrue_not (ha pins s σ H (fun c H1=>Q (!c) H1) I h)
def FM (ta tb:TE):TE:=fun σ H Q=>ta σ H fun x H1=>∃ c,x=.bl c/\if c=true then tb σ H1 Q else Q (.bl false) H1
def Im (ta tb:TE):TE:=fun σ H Q=>ta σ H fun x H1=>∃ c,x=.bl c/\if c=true then Q (.bl true) H1 else tb σ H1 Q
def HC (ta:TE):TE:=fun σ H Q=>ta σ H fun x H1=>∃ c,x=.bl c/\Q (.bl (!c)) H1
theorem Ak{op}{t:TE}(h:PE X a t):PE X (.BoolOp op [a] pos) t:=fun pins s σ H Q I hw=>BoolOp_one (h pins s σ H Q I hw)
theorem DE(ha:PE X a ta)(hb:PE X (.BoolOp .And (b::rest) pos) tb):PE X (.BoolOp .And (a::b::rest) pos) (FM ta tb):=by
 intro pins s σ H Q I h;refine BoolOp_and (thn (ha pins s σ H _ I h) fun v s1 ⟨x,H1,I1,r1,q1⟩=>?_);obtain⟨c,rfl,q1⟩:=q1;cases r1;refine wpAny_truthy_bool ?_;cases c with
 |true=>exact hb pins s1 σ H1 Q I1 q1
 |false=>exact⟨.bl false,H1,I1,rfl,q1⟩
theorem Hz(ha:PE X a ta)(hb:PE X (.BoolOp .Or (b::rest) pos) tb):PE X (.BoolOp .Or (a::b::rest) pos) (Im ta tb):=by
 intro pins s σ H Q I h;refine BoolOp_or (thn (ha pins s σ H _ I h) fun v s1 ⟨x,H1,I1,r1,q1⟩=>?_);obtain⟨c,rfl,q1⟩:=q1;cases r1;refine wpAny_truthy_bool ?_;cases c with
 |false=>exact hb pins s1 σ H1 Q I1 q1
 |true=>exact⟨.bl true,H1,I1,rfl,q1⟩
theorem EY(ha:PE X a ta):PE X (.UnaryOp .Not a pos) (HC ta):=by intro pins s σ H Q I h;refine UnaryOp_ (thn (ha pins s σ H _ I h) fun v s1 ⟨x,H1,I1,r1,q1⟩=>?_);obtain⟨c,rfl,q1⟩:=q1;cases r1;exact not_of (wpAny_truthy_bool ⟨.bl (!c),H1,I1,rfl,q1⟩)
def tIf (t:TT) (ta tb:TE):TE:=fun σ H Q=>t σ H fun c H1=>if c=true then ta σ H1 Q else tb σ H1 Q
theorem O9{c:Expr}(hc:PT X c tA)(ha:PE X a ta)(hb:PE X b tb):PE X (.IfExp c a b pos) (tIf tA ta tb):=by
 intro pins s σ H Q I h;refine wpAny_IfExp (thn (hc pins s σ H _ I h) fun d s1 ⟨H1,I1,q1⟩=>?_);cases d with
 |true=>exact ha pins s1 σ H1 Q I1 q1
 |false=>exact hb pins s1 σ H1 Q I1 q1
end
def SqL (K:PySem.W.Frag) (H:Hp) (a:Addr) (xs:List V):Prop :=
 Rd H a (.lst xs)\/
  ∃ (o:Obj) (its:Array Value) (n:Nat),K.lookup a=some o/\o.cls=.type "list"/\o.dict=none/\o.data=.seq its n/\its.size<=sizeLine/\Vals xs its.toList
def SqT (K:PySem.W.Frag) (H:Hp) (a:Addr) (xs:List V):Prop :=
 Rd H a (.tup xs)\/
  ∃ (o:Obj) (its:Array Value) (n:Nat),K.lookup a=some o/\o.cls=.type "tuple"/\o.data=.seq its n/\its.size<=sizeLine/\Vals xs its.toList
def absV:Value->Option V
 |.none=>some .non
 |.bool b=>some (.bl b)
 |.int i _=>some (.int i)
 |.str x _=>some (.str x)
 |.bytes b _=>some (.byt b)
 |.float b _=>some (.flt b)
 |.ref a=>some (.ref a)
 |.type n=>some (.ty n)
 |_=>none
theorem RelV.abs{x:V}{u:Value}(r:RelV x u):absV u=some x:=by
 cases x with
 |non=>cases r;rfl
 |bl _=>cases r;rfl
 |int _=>obtain⟨t,rfl⟩:=r;rfl
 |str _=>obtain⟨t,rfl⟩:=r;rfl
 |byt _=>obtain⟨t,rfl⟩:=r;rfl
 |flt _=>obtain⟨t,rfl⟩:=r;rfl
 |ref _=>cases r;rfl
 |ty _=>cases r;rfl
theorem RelV.inj{x y:V}{u:Value}(r:RelV x u)(q:RelV y u):x=y:=Option.some.inj (r.abs.symm.trans q.abs)
theorem Vals.inj:∀ {xs ys:List V}{us:List Value},Vals xs us->Vals ys us->xs=ys
 |_,_,_,.nil,.nil=>rfl
 |_,_,_,.cons r t,.cons r' t'=>by rw[r.inj r',Vals.inj t t']
section
variable {X:Cx}{pins:List (Addr×Obj)}{σ:St}{H:Hp}{s:Shared}{a:Addr}{xs ys:List V}
theorem SqL.of{K:PySem.W.Frag}(h:H a=some (.lst xs)):SqL K H a xs:=.inl (.inl h)
theorem SqT.of{K:PySem.W.Frag}(h:H a=some (.tup xs)):SqT K H a xs:=.inl (.inl h)
theorem Inv.list(I:Inv X pins σ H s)(h:SqL X.K H a xs):∃ its:List Value,Vals xs its/\PlainL s.heap a its.toArray/\xs.length<=sizeLine:=by
 rcases h with h|⟨o,its,n,hk,hc,hd,hs,hz,r⟩
 .obtain⟨z,its,n,r,e⟩:=h.ok I.hok;exact⟨its,r,⟨_,n,e,rfl,rfl,rfl⟩,z⟩
 .refine⟨its.toList,r,⟨o,n,I.kIn a o hk,hc,hd,by simpa using hs⟩,?_⟩;have e:=r.length;simp only[zC]at e;omega
theorem Inv.tuple(I:Inv X pins σ H s)(h:SqT X.K H a xs):∃ its:List Value,Vals xs its/\IsTup s.heap a its.toArray/\xs.length<=sizeLine:=by
 rcases h with h|⟨o,its,n,hk,hc,hs,hz,r⟩
 .obtain⟨z,its,r,p⟩:=h.ok I.hok;exact⟨its,r,p,z⟩
 .refine⟨its.toList,r,⟨o,I.kIn a o hk,hc,n,by simpa using hs⟩,?_⟩;have e:=r.length;simp only[zC]at e;omega
theorem Inv.list_inj(I:Inv X pins σ H s)(h:SqL X.K H a xs)(h':SqL X.K H a ys):xs=ys:=by
 obtain⟨its,r,⟨o,n,e,_,_,d⟩,_⟩:=I.list h;obtain⟨its',r',⟨o',n',e',_,_,d'⟩,_⟩:=I.list h';rw[e]at e';cases e';rw[d]at d';injection d' with d1 _;have:its=its':=by simpa using congrArg Array.toList d1
 subst this;exact r.inj r'
theorem Inv.tuple_inj(I:Inv X pins σ H s)(h:SqT X.K H a xs)(h':SqT X.K H a ys):xs=ys:=by
 obtain⟨its,r,⟨o,e,_,n,d⟩,_⟩:=I.tuple h;obtain⟨its',r',⟨o',e',_,n',d'⟩,_⟩:=I.tuple h';rw[e]at e';cases e';rw[d]at d';injection d' with d1 _;have:its=its':=by simpa using congrArg Array.toList d1
 subst this;exact r.inj r'
end
abbrev Cx.wish (X:Cx) (E:Value->Shared->Prop):Cx:={X with xe:=E}
abbrev Cx.nox (X:Cx):Cx:=X.wish fun _ _=>False
theorem Cx.Ok.wish{X:Cx}(ok:X.Ok)(E:Value->Shared->Prop):(X.wish E).Ok :=
 ⟨ok.mod,ok.kind,ok.glob,ok.blt,ok.above,ok.inj,ok.has,ok.cab,ok.hd,ok.frames,ok.stk,ok.exf,ok.bs,ok.bsz,ok.noex,ok.exfs,ok.funs,ok.frf⟩
theorem Cx.Ok.unwish{X:Cx}{E:Value->Shared->Prop}(ok:(X.wish E).Ok):X.Ok :=
 ⟨ok.mod,ok.kind,ok.glob,ok.blt,ok.above,ok.inj,ok.has,ok.cab,ok.hd,ok.frames,ok.stk,ok.exf,ok.bs,ok.bsz,ok.noex,ok.exfs,ok.funs,ok.frf⟩
section
variable {X:Cx}{pins:List (Addr×Obj)}{σ:St}{H:Hp}{s:Shared}{E:Value->Shared->Prop}
theorem Inv.wish(I:Inv X pins σ H s)(E:Value->Shared->Prop):Inv (X.wish E) pins σ H s:=⟨I.ok.wish E,I.os,I.bare,I.base,I.loc,I.cell,I.free,I.freeC,I.pin,I.hok,I.len⟩
theorem Inv.unwish(I:Inv (X.wish E) pins σ H s):Inv X pins σ H s:=⟨I.ok.unwish,I.os,I.bare,I.base,I.loc,I.cell,I.free,I.freeC,I.pin,I.hok,I.len⟩
theorem SP.unwish{D:Ends}{f:Flow}{s':Shared}(h:SP (X.wish E) pins D f s'):SP X pins D f s':=by
 cases f with
 |next=>obtain⟨σ',H',I,q⟩:=h;exact⟨σ',H',I.unwish,q⟩
 |brk=>obtain⟨σ',H',I,q⟩:=h;exact⟨σ',H',I.unwish,q⟩
 |cont=>obtain⟨σ',H',I,q⟩:=h;exact⟨σ',H',I.unwish,q⟩
 |ret u=>obtain⟨v,σ',H',I,r,q⟩:=h;exact⟨v,σ',H',I.unwish,r,q⟩
theorem PE.nox{e:Expr}{t:TE}(h:PE X.nox e t):PE X e t:=fun pins s σ H Q I hw =>
 wpAny_mono (h pins s σ H Q (I.wish _) hw) (fun _ _ ⟨v,H',I',r,q⟩=>⟨v,H',I'.unwish,r,q⟩) fun _ _ z=>False.elim z
theorem PT.nox{e:Expr}{t:TT}(h:PT X.nox e t):PT X e t:=fun pins s σ H Q I hw =>
 wpAny_mono (h pins s σ H Q (I.wish _) hw) (fun _ _ ⟨H',I',q⟩=>⟨H',I'.unwish,q⟩) fun _ _ z=>False.elim z
theorem PSs.nox{st:List Stmt}{t:TS}(h:PSs X.nox st t):PSs X st t:=fun pins s σ H D I hw =>
 wpAny_mono (h pins s σ H D (I.wish _) hw) (fun _ _ q=>q.unwish) fun _ _ z=>False.elim z
end
section
variable {X:Cx}{st:Stmt}{rest:List Stmt}{t u:TS}{e:Expr}{te:TE}{pos:Pos}
def GB:TS:=fun D σ H=>D.nx σ H
def Ln (t u:TS):TS:=fun D σ H=>t {D with nx:=u D} σ H
theorem pss_nil:PSs X [] GB:=fun _ _ σ H _ I h=>wpAny_execs_nil ⟨σ,H,I,h⟩
theorem OB(h1:PS X st t)(h2:PSs X rest u):PSs X (st::rest) (Ln t u):=by
 intro pins s σ H D I h;refine wpAny_execs_cons (thn (h1 pins s σ H {D with nx:=u D} I h) fun f s1 q=>?_);cases f with
 |next =>obtain⟨σ',H',I',q⟩:=q;exact h2 pins s1 σ' H' D I' q
 |ret v=>exact q
 |brk=>exact q
 |cont=>exact q
theorem Inv.quiet{pins:List (Addr×Obj)}{σ:St}{H:Hp}{s:Shared}(I:Inv X pins σ H s):interactive X.env=false:=by simp[interactive,I.ok.kind]
def HF (te:TE):TS:=fun D σ H=>te σ H fun _ H1=>D.nx σ H1
theorem A3(he:PE X e te)(hs:swapsWith e none pos.line X.env=pure false:=by rfl):PS X (.Expr e pos) (HF te):=by intro pins s σ H D I h;exact wpAny_Expr_any (thn (he pins s σ H _ I h) fun v s1 ⟨x,H1,I1,r1,q1⟩=>⟨σ,H1,I1,q1⟩) I.quiet hs
def Ia (te:TE):TS:=fun D σ H=>te σ H D.rt
theorem Ed(he:PE X e te):PS X (.Return (some e) pos) (Ia te):=by intro pins s σ H D I h;exact wpAny_Return_some (thn (he pins s σ H _ I h) fun v s1 ⟨x,H1,I1,r1,q1⟩=>⟨x,σ,H1,I1,r1,q1⟩)
def Lh (c:TT) (t u:TS):TS:=fun D σ H=>c σ H fun b H1=>if b=true then t D σ H1 else u D σ H1
theorem Ha{c:Expr}{a b:List Stmt}{tc:TT}(hc:PT X c tc)(ha:PSs X a t)(hb:PSs X b u):PS X (.If c a b pos) (Lh tc t u):=by
 intro pins s σ H D I h;refine wpAny_If (thn (hc pins s σ H _ I h) fun d s1 ⟨H1,I1,q1⟩=>?_);cases d with
 |true=>exact ha pins s1 σ H1 D I1 q1
 |false=>exact hb pins s1 σ H1 D I1 q1
end
abbrev TG:=V->St->Hp->(St->Hp->Prop)->Prop
abbrev TGs:=List V->St->Hp->(St->Hp->Prop)->Prop
def PG (X:Cx) (target:Expr) (t:TG):Prop :=
 ∀ (pins:List (Addr×Obj)) (s:Shared) (σ:St) (H:Hp) (v:V) (u:Value) (Q:St->Hp->Prop),Inv X pins σ H s->RelV v u->t v σ H Q->
  wpAny (model X.prog X.w) X.A (assign target X.env u) (fun _ s'=>∃ σ' H',Inv X pins σ' H' s'/\Q σ' H') X.xe s
def PGs (X:Cx) (ts:List Expr) (t:TGs):Prop :=
 ∀ (pins:List (Addr×Obj)) (s:Shared) (σ:St) (H:Hp) (vs:List V) (us:List Value) (Q:St->Hp->Prop),Inv X pins σ H s->Vals vs us->t vs σ H Q->
  wpAny (model X.prog X.w) X.A (assignInOrder ((assignEach ts X.env).map (·.2)) us) (fun _ s'=>∃ σ' H',Inv X pins σ' H' s'/\Q σ' H') X.xe s
abbrev Fk:=V->V->V->Hp->(Hp->Prop)->Prop
def PSet (X:Cx) (t:Fk):Prop :=
 ∀ (pins:List (Addr×Obj)) (s:Shared) (σ:St) (H:Hp) (o i v:V) (ov iv u:Value) (Q:Hp->Prop),Inv X pins σ H s->RelV o ov->RelV i iv->RelV v u->t o i v H Q->
  wpAny (model X.prog X.w) X.A (setItem ov iv u) (fun _ s'=>∃ H',Inv X pins σ H' s'/\Q H') X.xe s
section
variable {X:Cx}{pos:Pos}
def CU (i:Nat):TG:=fun v σ H Q=>Q (σ.set i (some v)) H
theorem NI{i:Nat}{x:Str}(hN:X.N.Nodup)(hi:X.N[i]?=some x)(hx:Loc X.env.scope x)(hf:X.fn x=true\/X.env.scope.names.lookup x=some .local:=by first|exact .inl rfl|exact .inr rfl|assumption):PG X (.Name x pos) (CU i):=by intro pins s σ H v u Q I r h;exact wpAny_assign_Name (Ar I hN hi hx r (fun s' I'=>⟨_,H,I',h⟩) hf)
def Ij:TGs:=fun vs σ H Q=>vs=[]/\Q σ H
def FZ (t:TG) (u:TGs):TGs:=fun vs σ H Q=>∃ v r,vs=v::r/\t v σ H fun σ' H'=>u r σ' H' Q
theorem pgs_nil:PGs X [] Ij:=by intro pins s σ H vs us Q I r h;obtain⟨e,h⟩:=h;subst e;cases r;exact assignInOrder_nil ⟨σ,H,I,h⟩
theorem Wf{e:Expr}{es:List Expr}{t:TG}{u:TGs}(h1:PG X e t)(h2:PGs X es u)
  (hs:(assignEach (e::es) X.env).map (·.2)=assign e X.env::(assignEach es X.env).map (·.2):=by rfl):PGs X (e::es) (FZ t u):=by
 intro pins s σ H vs us Q I r h;obtain⟨v,vr,e1,h⟩:=h;subst e1;cases r with
 |cons r rr =>rw[hs];refine assignInOrder_cons (thn (h1 pins s σ H _ _ _ I r h) fun _ s1 ⟨σ1,H1,I1,q1⟩=>?_);exact h2 pins s1 σ1 H1 _ _ Q I1 rr q1
def Id (K:PySem.W.Frag) (n:Nat) (t:TGs):TG:=fun v σ H Q=>∃ a xs,v=.ref a/\SqT K H a xs/\xs.length=n/\t xs σ H Q
theorem Ah{es:List Expr}{k:Nat}{t:TGs}{n:Nat}(hc:X.calm=true)(h:PGs X es t)
  (hn:(assignEach es X.env).length=n:=by rfl) (hst:(assignEach es X.env).findIdx? (·.1)=none:=by rfl):PG X (.Tuple es k pos) (Id X.K n t):=by
 intro pins s σ H v u Q I r hw;obtain⟨a,xs,e1,hq,hl,hw⟩:=hw;subst e1;cases r;obtain⟨its,rv,ht,hz⟩:=I.tuple hq;refine assign_Tuple_tuple (I.ok.hd hc) ht (by simp[hn,<-hl,rv.length]) hst fun h' hx=>?_;have I1:Inv X pins σ H {s with heap:=h'}:=I.kept (t':=s.toks) fun b o e=>hx b o (zF (Heap.lt_size e)) e;exact h pins _ σ H xs _ Q I1 (by simpa using rv) hw
def GR (to ti:TE) (t:Fk):TG:=fun v σ H Q=>to σ H fun o H1=>ti σ H1 fun i H2=>t o i v H2 fun H3=>Q σ H3
theorem Ew{o i:Expr}{to ti:TE}{t:Fk}(ho:PE X o to)(hi:PE X i ti)(hs:PSet X t)
  (ha:∀ v,assign (.Subscript o i pos) X.env v=(do
    let ov<-holding [v] (eval o X.env)
    let iv<-holding [v,ov] (eval i X.env)
    standAt pos
    holding [v,ov,iv] (setItem ov iv v)
    release [v,ov,iv] []):=by intro _;rfl):PG X (.Subscript o i pos) (GR to ti t):=by
 intro pins s σ H v u Q I r h;rw[ha];refine wpAny_bind (wpAny_holding (thn (ho pins s σ H _ I h) fun ov s1 ⟨x,H1,I1,r1,q1⟩=>?_));refine wpAny_bind (wpAny_holding (thn (hi pins s1 σ H1 _ I1 q1) fun iv s2 ⟨y,H2,I2,r2,q2⟩=>?_));refine wpAny_bind (wpAny_standAt (wpAny_bind (wpAny_holding (thn (hs pins s2 σ H2 x y v ov iv u _ I2 r1 r2 r q2) fun _ s3 ⟨H3,I3,q3⟩=>?_))));exact wpAny_release ⟨σ,H3,I3,q3⟩
def GC (te:TE) (g:TG):TS:=fun D σ H=>te σ H fun x H1=>g x σ H1 D.nx
theorem AQ{tg e:Expr}{te:TE}{g:TG}(he:PE X e te)(hg:PG X tg g)(hs:swapsWithSole [tg] e pos.line X.env=pure false:=by rfl)(hw:swappedStores [tg] e X.env=pure none:=by rfl)
  (h1:(assignEach [tg] X.env).map (·.2)=[assign tg X.env]:=by rfl):PS X (.Assign [tg] e pos) (GC te g):=by
 intro pins s σ H D I h;refine wpAny_Assign_stores (thn (he pins s σ H _ I h) fun v s1 ⟨x,H1,I1,r1,q1⟩=>?_) hs hw;rw[h1];exact thn (hg pins s1 σ H1 x v _ I1 r1 q1) fun _ s2 q=>q
def PGet (X:Cx) (t:V->V->Hp->VK->Prop):Prop :=
 ∀ (pins:List (Addr×Obj)) (s:Shared) (σ:St) (H:Hp) (o i:V) (ov iv:Value) (Q:VK),Inv X pins σ H s->RelV o ov->RelV i iv->t o i H Q->
  wpAny (model X.prog X.w) X.A (getItem ov iv) (EP X pins σ Q) X.xe s
end
structure It where
 go:Nat->Hp->Prop
 yld:Nat->Hp->V->Hp->Prop
 stop:Nat->Hp->Prop
def YX (X:Cx) (pins:List (Addr×Obj)) (H:Hp) (b:Addr):Prop :=
 H b=none/\b≠X.env.locals/\b∉X.fs/\(b∈X.ex\/X.s₀.heap.objs.size<=b)/\(∀ x c,X.env.cells.lookup x=some c->c≠b)/\∀ p∈X.pn++pins,p.1≠b
theorem Inv.fpOk{X:Cx}{pins:List (Addr×Obj)}{σ:St}{H H':Hp}{s:Shared}{b:Addr}(I:Inv X pins σ H s)(hb:s.heap.objs.size<=b)(hn:H' b=none):YX X pins H' b:=by
 refine⟨hn,Nat.ne_of_gt (qR I.lt hb),I.nofs hb,.inr (zE I.sz hb),fun x c e z=>?_,fun p hp z=>?_⟩
 .obtain⟨v,q⟩:=I.cell x c e;exact absurd (qR q.lt (by rw[z];exact hb)) (zK _)
 .exact absurd (qR (Heap.lt_size (I.pin p hp).1) (by rw[z];exact hb)) (zK _)
structure Turn (P:Program) (w:World) (K:PySem.W.Frag) (tg:Expr) (J:It) (fp:List Addr) (it:Addr) (tn:Nat->Heap->Prop):Prop where
 mem:it∈fp
 obj:∀ i h,tn i h->∀ b∈fp,∃ o,h.get? b=some o/\∀ v,o.data≠.cell v
 keep:∀ i h h',tn i h->(∀ b∈fp,∀ o,h.get? b=some o->h'.get? b=some o)->tn i h'
 item:∀ (X:Cx),X.prog=P->X.w=w->X.K=K->X.calm=true->∀ (i:Nat) (pins:List (Addr×Obj)) (s:Shared) (σ:St) (H:Hp) (E:Value->Shared->Prop),Inv X pins σ H s->(∀ b∈fp,YX X pins H b)->tn i s.heap->J.go i H->
  wpAny (model P w) X.A (pyNext (.ref it)) (fun r s1=>∃ u,r=some u/\
    wpAny (model P w) X.A (letOwnedTupleGo tg (.ref it) u) (fun _ s2=>∃ x H',Inv X pins σ H' s2/\RelV x u/\J.yld i H x H'/\tn (i+1) s2.heap/\∀ b∈fp,H' b=none) E s1) E s
 done:∀ (X:Cx),X.prog=P->X.w=w->X.K=K->X.calm=true->∀ (i:Nat) (pins:List (Addr×Obj)) (s:Shared) (σ:St) (H:Hp) (E:Value->Shared->Prop),Inv X pins σ H s->(∀ b∈fp,YX X pins H b)->tn i s.heap->J.stop i H->
  wpAny (model P w) X.A (pyNext (.ref it)) (fun r s1=>r=none/\Inv X pins σ H s1) E s
 self:∀ (A:Around) (i:Nat) (s:Shared) (Q:Value->Shared->Prop) (E:Value->Shared->Prop),tn i s.heap->Q (.ref it) s->wpAny (model P w) A (pyIter (.ref it)) Q E s
abbrev TI:=St->Hp->(It->Hp->Prop)->Prop
def PIE (X:Cx) (pins:List (Addr×Obj)) (σ:St) (tg:Expr) (R:It->Hp->Prop) (itv:Value) (s2:Shared):Prop :=
 ∃ (it:Addr) (fp:List Addr) (tn:Nat->Heap->Prop) (J:It) (H':Hp),itv=.ref it/\Inv X pins σ H' s2/\Turn X.prog X.w X.K tg J fp it tn/\tn 0 s2.heap/\(∀ b∈fp,YX X pins H' b)/\R J H'
def PI (X:Cx) (tg iter:Expr) (wi:TI):Prop :=
 ∀ (pins:List (Addr×Obj)) (s:Shared) (σ:St) (H:Hp) (R:It->Hp->Prop),Inv X pins σ H s->wi σ H R->
  wpAny (model X.prog X.w) X.A (eval iter X.env) (fun v s1=>wpAny (model X.prog X.w) X.A (pyIter v) (PIE X pins σ tg R) X.xe s1) X.xe s
theorem go_of{M:Model}{A:Around}{E:Value->Shared->Prop}{s:Shared}{tg:Expr}{it:Addr}{u:Value}{o:Obj}{n:String}{vs:Array Value}{Q:Unit->Shared->Prop}(ho:s.heap.get? it=some o)(hc:o.cls=.type n)(hd:o.data=.fields vs)
  (hn:["enumerate","zip","dict_itemiterator","dict_reverseitemiterator","odict_iterator","itertools.zip_longest","itertools.pairwise"].contains n=false) (hQ:Q () s):wpAny M A (letOwnedTupleGo tg (.ref it) u) Q E s:=by
 unfold letOwnedTupleGo;cases tg<;>first
  |exact wpAny_pure hQ
  | (cases u<;>first
      |exact wpAny_pure hQ
      | (refine wpAny_bind (wpAny_load ho ?_)
         rw[hc,hd]
         show wpAny M A (if(["enumerate","zip","dict_itemiterator","dict_reverseitemiterator","odict_iterator","itertools.zip_longest","itertools.pairwise"].contains n&&vs[0]? == some (rawInt _))=true then _ else _) Q E s
         rw[if_neg (by intro h;rw[hn,Bool.false_and]at h;cases h)]
         exact wpAny_pure hQ))
def Itl (K:PySem.W.Frag) (a:Addr):It :=
 ⟨fun i H=>∃ xs x,SqL K H a xs/\xs[i]?=some x,fun i H x H'=>H'=H/\∀ xs,SqL K H a xs->xs[i]?=some x,fun i H=>∃ xs,SqL K H a xs/\xs.length<=i⟩
def Itt (K:PySem.W.Frag) (a:Addr):It :=
 ⟨fun i H=>∃ xs x,SqT K H a xs/\xs[i]?=some x,fun i H x H'=>H'=H/\∀ xs,SqT K H a xs->xs[i]?=some x,fun i H=>∃ xs,SqT K H a xs/\xs.length<=i⟩
def Itr (lo:Int) (n:Nat):It:=⟨fun i _=>i<n,fun i H x H'=>H'=H/\x=.int (lo+i),fun i _=>n<=i⟩
theorem Ot{P:Program}{w:World}{K:PySem.W.Frag}{tg:Expr}(a it:Addr):Turn P w K tg (Itl K a) [it] it (fun i h=>h.IsListIter it a i) where
 mem:=by simp
 obj:=fun i h st b hb=>by
  have e:b=it:=by simpa using hb
  subst e;obtain⟨o,e,c,d⟩:=st;exact⟨o,e,fun v z=>by rw[d]at z;cases z⟩
 keep:=fun i h h' st k=>st.at fun o e=>k it (by simp) o e
 item:=by intro X hP hw hK hc i pins s σ H E I hf st hg;subst hP hw hK;obtain⟨xs,x,hq,hx⟩:=hg;obtain⟨its,rv,p,hz⟩:=I.list hq;obtain⟨u,hu,ru⟩:=rv.get hx;obtain⟨f0,f1,f2,f3,f4,f5⟩:=hf it (by simp);refine wpAny_pyNext_list_item st p.isList (x:=u) (by simpa using hu) fun h' st' sb=>?_;have I1:Inv X pins σ H {s with heap:=h'}:=I.turned (t':=s.toks) (fun b o hb e=>(sb.2 b hb).trans e) f0 f1 f3 f4 f5;obtain⟨o,e,c,d⟩:=id st';exact⟨u,rfl,go_of (s:={s with heap:=h'}) e c d (by decide) ⟨x,H,I1,ru,⟨rfl,fun ys hy=>by rw[I.list_inj hy hq];exact hx⟩,st',fun b hb=>(hf b hb).1⟩⟩
 done:=by intro X hP hw hK hc i pins s σ H E I hf st hg;subst hP hw hK;obtain⟨xs,hq,hx⟩:=hg;obtain⟨its,rv,p,hz⟩:=I.list hq;obtain⟨f0,f1,f2,f3,f4,f5⟩:=hf it (by simp);have hl:=rv.length;exact wpAny_pyNext_list_end (I.ok.hd hc) st p.isList (by simp;omega) fun h' eb=>⟨rfl,I.turned (t':=s.toks) (fun b o hb e=>eb b o hb e) f0 f1 f3 f4 f5⟩
 self:=fun _ _ _ _ _ st h=>wpAny_pyIter_listiter st h
theorem Mu{P:Program}{w:World}{K:PySem.W.Frag}{tg:Expr}(a it:Addr):Turn P w K tg (Itt K a) [it] it (fun i h=>h.IsTupleIter it a i) where
 mem:=by simp
 obj:=fun i h st b hb=>by
  have e:b=it:=by simpa using hb
  subst e;obtain⟨o,e,c,d⟩:=st;exact⟨o,e,fun v z=>by rw[d]at z;cases z⟩
 keep:=fun i h h' st k=>st.at fun o e=>k it (by simp) o e
 item:=by intro X hP hw hK hc i pins s σ H E I hf st hg;subst hP hw hK;obtain⟨xs,x,hq,hx⟩:=hg;obtain⟨its,rv,p,hz⟩:=I.tuple hq;obtain⟨u,hu,ru⟩:=rv.get hx;obtain⟨f0,f1,f2,f3,f4,f5⟩:=hf it (by simp);refine wpAny_pyNext_tuple_item st (show s.heap.IsTuple a its.toArray from p) (x:=u) (by simpa using hu) fun h' st' sb=>?_;have I1:Inv X pins σ H {s with heap:=h'}:=I.turned (t':=s.toks) (fun b o hb e=>(sb.2 b hb).trans e) f0 f1 f3 f4 f5;obtain⟨o,e,c,d⟩:=id st';exact⟨u,rfl,go_of (s:={s with heap:=h'}) e c d (by decide) ⟨x,H,I1,ru,⟨rfl,fun ys hy=>by rw[I.tuple_inj hy hq];exact hx⟩,st',fun b hb=>(hf b hb).1⟩⟩
 done:=by intro X hP hw hK hc i pins s σ H E I hf st hg;subst hP hw hK;obtain⟨xs,hq,hx⟩:=hg;obtain⟨its,rv,p,hz⟩:=I.tuple hq;obtain⟨f0,f1,f2,f3,f4,f5⟩:=hf it (by simp);have hl:=rv.length;exact wpAny_pyNext_tuple_end (I.ok.hd hc) st (show s.heap.IsTuple a its.toArray from p) (by simp;omega) fun h' eb=>⟨rfl,I.turned (t':=s.toks) (fun b o hb e=>eb b o hb e) f0 f1 f3 f4 f5⟩
 self:=fun _ _ _ _ _ st h=>wpAny_pyIter_tupleiter st h
theorem Me{P:Program}{w:World}{K:PySem.W.Frag}{tg:Expr}(it:Addr)(lo:Int)(n:Nat):Turn P w K tg (Itr lo n) [it] it (fun i h=>IsRangeIter h it (lo+(i:Nat)*1) ((n:Int) - (i:Nat)) 1) where
 mem:=by simp
 obj:=fun i h st b hb=>by
  have e:b=it:=by simpa using hb
  subst e;exact⟨_,st,fun v z=>by
    have z':Data.fields _=Data.cell v:=z
    cases z'⟩
 keep:=fun i h h' st k=>k it (by simp) _ st
 item:=by intro X hP hw hK hc i pins s σ H E I hf st hg;subst hP hw hK;obtain⟨f0,f1,f2,f3,f4,f5⟩:=hf it (by simp);have W:=Walks.range (prog:=X.prog) (w:=X.w) (I.ok.hd hc) it lo 1 n;refine W.item i s _ _ hg st fun v h' tk hv st' kk=>?_;obtain⟨t,rfl⟩:=hv;have I1:Inv X pins σ H {s with heap:=h',toks:=tk}:=I.turned (fun b o hb e=>kk b o (by simpa using hb) e) f0 f1 f3 f4 f5;refine⟨_,rfl,go_of (s:={s with heap:=h',toks:=tk}) (n:="range_iterator") st' rfl rfl (by decide) ⟨.int (lo+i),H,I1,⟨t,?_⟩,⟨rfl,rfl⟩,st',fun b hb=>(hf b hb).1⟩⟩;rw[Int.mul_one]
 done:=by intro X hP hw hK hc i pins s σ H E I hf st hg;subst hP hw hK;obtain⟨f0,f1,f2,f3,f4,f5⟩:=hf it (by simp);exact wpAny_pyNext_range_end (I.ok.hd hc) st (by have:n<=i:=hg;omega) fun h' eb=>⟨rfl,I.turned (t':=s.toks) (fun b o hb e=>eb b o hb e) f0 f1 f3 f4 f5⟩
 self:=fun _ _ _ _ _ st h=>wpAny_pyIter_rangeiter st h
section
variable {X:Cx}{tg:Expr}
theorem AG{pins:List (Addr×Obj)}{σ:St}{H:Hp}{s:Shared}{R:It->Hp->Prop}{E:Value->Shared->Prop}{lo hi:Int}{t u v:Tok}{tk:Nat}(I:Inv X pins σ H s)(h1:-(2 ^ 62)<=lo)(h2:lo<2 ^ 62)(h3:-(2 ^ 62)<=hi)(h4:hi<2 ^ 62)
  (q:R (Itr lo (hi - lo).toNat) H):wpAny (model X.prog X.w) X.A (pyIter (.ref s.heap.objs.size)) (PIE X pins σ tg R) E {s with heap:=s.heap.push {cls:=.type "range",data:=.fields #[.int lo t,.int hi u,.int 1 v]},toks:=tk}:=by
 refine wpAny_pyIter_range (IsRange.new ..) (small_one h1 h2 h3 h4) ?_;have I1:Inv X pins σ H { s with heap:=s.heap.push { cls:=.type "range",data:=.fields #[.int lo t,.int hi u,.int 1 v] },toks:=tk }:=I.kept fun b o e=>Heap.get?_push_of_some _ e;refine⟨(s.heap.push { cls:=.type "range",data:=.fields #[.int lo t,.int hi u,.int 1 v] }).objs.size,[(s.heap.push { cls:=.type "range",data:=.fields #[.int lo t,.int hi u,.int 1 v] }).objs.size],_,_,H,rfl,
   I1.kept (t':=tk) fun b o e=>Heap.get?_push_of_some _ e,Me _ lo (hi - lo).toNat,?_,fun b hb=>?_,q⟩
 .have e1:lo+((0:Nat):Int)*1=lo:=by simp
  have e2:(((hi - lo).toNat:Nat):Int) - ((0:Nat):Int)=Builtin.Range.rangeSize lo hi 1:=by rw[rangeSize_one];split<;>omega
  show IsRangeIter _ _ (lo+((0:Nat):Int)*1) ((((hi - lo).toNat:Nat):Int) - ((0:Nat):Int)) 1;rw[e1,e2];exact Heap.get?_push_size _ rfl
 .have e:b=(s.heap.push {cls:=.type "range",data:=.fields #[.int lo t,.int hi u,.int 1 v]}).objs.size:=by simpa using hb
  subst e;exact I1.fpOk (zG _) (I1.hok.fresh (zG _))
def G8 (ta:TA):TI:=fun σ H R=>ta σ H fun vs H1=>∃ j:Int,vs=[.int j]/\-(2 ^ 62)<=j/\j<2 ^ 62/\R (Itr 0 j.toNat) H1
theorem Oq {a:Expr}{ta:TA}{p pos:Pos}(hg:Gl X "range") (hm:X.mg "range" = none) (ha:PA X [a] ta) (hs:starEach [a] X.env=[(false,eval a X.env)]:=by rfl):PI X tg (.Call (.Name "range" p) [a] [] pos) (G8 ta):=by
 intro pins s σ H R I h;refine Call_ (YB I hg hm boot_range (PyProof.Rows.callWith_type1 (thn (ha pos pins s σ H _ I h) fun us s1 ⟨vs,H1,I1,r1,q1⟩=>?_) hs rfl));obtain⟨j,e,q1,q2,q⟩:=q1;subst e;cases r1 with
 |cons r rr =>cases rr;obtain⟨t,rfl⟩:=r;exact call_range_1 (AG I1 (by omega) (by omega) q1 q2 (by simpa using q))
def IS (wi:TI) (g:TG) (tb:TS):TS:=fun D σ H=>wi σ H fun J H1=>∃ W:Nat->Nat->St->Hp->Prop,(∃ m,W 0 m σ H1)/\∀ i m σ H,W i m σ H->
 (J.stop i H/\D.nx σ H)\/(J.go i H/\∃ N:St->Hp->Prop,(∀ σ' H',N σ' H'->∃ m',m'<m/\W (i+1) m' σ' H')/\∀ x H',J.yld i H x H'->g x σ H' fun σ2 H2=>tb {D with nx:=N,ct:=N,bk:=D.nx} σ2 H2)
def YD (fp:List Addr) (h:Heap):List (Addr×Obj):=fp.filterMap fun b=>(h.get? b).map fun o=>(b,o)
theorem ZG{fp:List Addr}{h:Heap}{b:Addr}{o:Obj}(hb:b∈fp)(e:h.get? b=some o):(b,o)∈YD fp h:=zI.mpr ⟨b,hb,by rw[e];rfl⟩
theorem W4{fp:List Addr}{h:Heap}{p:Addr×Obj}(hp:p∈YD fp h):p.1∈fp/\h.get? p.1=some p.2:=by
 obtain⟨b,hb,e⟩:=zI.mp hp;cases q:h.get? b with
 |none=>rw[q]at e;cases e
 |some o =>rw[q]at e;have e':(b,o)=p:=Option.some.inj e;subst e';exact⟨hb,q⟩
theorem Inv.pinned{pins:List (Addr×Obj)}{σ:St}{H:Hp}{s:Shared}{fp:List Addr}(I:Inv X pins σ H s)(hf:∀ b∈fp,YX X pins H b)(ho:∀ b∈fp,∃ o,s.heap.get? b=some o/\∀ v,o.data≠.cell v):Inv X (pins++YD fp s.heap) σ H s :=
 I.pins_of fun p hp=>(q8.mp hp).elim (fun z=>I.pin p (qL _ z)) fun z=>by obtain⟨hb,e⟩:=W4 z;obtain⟨f0,f1,f2,_⟩:=hf p.1 hb;obtain⟨o,e',d⟩:=ho p.1 hb;rw[e]at e';cases e';exact⟨e,f0,f1,f2,d⟩
theorem Inv.unpinned{pins pl:List (Addr×Obj)}{σ:St}{H:Hp}{s:Shared}(I:Inv X (pins++pl) σ H s):Inv X pins σ H s:=I.pins_of fun p hp=>I.pin p (qL _ (qM _ hp))
theorem Fa{iter:Expr}{body:List Stmt}{wi:TI}{g:TG}{tb:TS}{pos:Pos}(hp:PassesOwn (model X.prog X.w) X.A X.env X.xe)(hc:X.calm=true)(hi:PI X tg iter wi)(hg:PG X tg g)(hb:PSs X body tb)
  (hs:∀ x,foldedSetIterable iter X.env x=pure x:=by intro _;rfl):PS X (.For tg iter body [] pos) (IS wi g tb):=by
 intro pins s σ H D I h;refine wpAny_For (thn (hi pins s σ H _ I h) fun v s1 h1=>thn h1 fun itv s2 h2=>?_) hs;obtain⟨it,fp,tn,J,H2,e,I2,T,st2,f2,W,⟨m0,w0⟩,turn⟩:=h2;subst e;have stat:∀ {H':Hp},(∀ b∈fp,H' b=none)->∀ b∈fp,YX X pins H' b:=fun hn b hb=>⟨hn b hb,(f2 b hb).2⟩
 refine codeAny_forLoop_any (fun n s'=>∃ i σ' H',Inv X pins σ' H' s'/\tn i s'.heap/\(∀ b∈fp,H' b=none)/\W i n σ' H') ?_ m0 ⟨0,σ,H2,I2,st2,fun b hb=>(f2 b hb).1,w0⟩;rintro n s3 ⟨i,σ3,H3,I3,st3,fr3,w3⟩;rcases turn i n σ3 H3 w3 with⟨stop,qn⟩|⟨go,N,hN,step⟩
 .refine wpAny_passesOwn hp (thn (T.done X rfl rfl rfl hc i pins s3 σ3 H3 X.xe I3 (stat fr3) st3 stop) fun r s4 ⟨hr,I4⟩=>?_);subst hr;exact wpAny_execs_nil ⟨σ3,H3,I4,qn⟩
 .refine wpAny_passesOwn hp (thn (T.item X rfl rfl rfl hc i pins s3 σ3 H3 X.xe I3 (stat fr3) st3 go) fun r s4 ⟨u,hr,h4⟩=>?_);subst hr;refine wpAny_passesOwn hp (thn h4 fun _ s5 ⟨x,H5,I5,r5,y5,st5,fr5⟩=>?_);have I5':=I5.pinned (stat fr5) (T.obj _ _ st5);refine wpAny_passesOwn hp (thn (hg _ s5 σ3 H5 x u _ I5' r5 (step x H5 y5)) fun _ s6 ⟨σ6,H6,I6,q6⟩=>?_);refine wpAny_passesOwn hp (thn (hb _ s6 σ6 H6 _ I6 q6) fun f s7 q7=>?_);have again:∀ {σ7:St}{H7:Hp},Inv X (pins++YD fp s5.heap) σ7 H7 s7->N σ7 H7->∃ m,m<n/\∃ i σ' H',Inv X pins σ' H' s7/\tn i s7.heap/\(∀ b∈fp,H' b=none)/\W i m σ' H':=fun {σ7 H7} I7 n7=>by
   obtain⟨m',hm,w7⟩:=hN σ7 H7 n7;refine⟨m',hm,i+1,σ7,H7,I7.unpinned,T.keep _ _ _ st5 fun b hb o e=>(I7.pin (b,o) (qL _ (qL _ (ZG hb e)))).1,fun b hb=>?_,w7⟩;obtain⟨o,e,d⟩:=T.obj _ _ st5 b hb;exact(I7.pin (b,o) (qL _ (qL _ (ZG hb e)))).2.1
  cases f with
  |next=>obtain⟨σ7,H7,I7,n7⟩:=q7;exact again I7 n7
  |cont=>obtain⟨σ7,H7,I7,n7⟩:=q7;exact again I7 n7
  |brk=>obtain⟨σ7,H7,I7,q7⟩:=q7;exact⟨σ7,H7,I7.unpinned,q7⟩
  |ret v=>obtain⟨x7,σ7,H7,I7,r7,q7⟩:=q7;exact⟨x7,σ7,H7,I7.unpinned,r7,q7⟩
end
abbrev R2:=V->V->Hp->VK->Prop
def OpR (X:Cx) (f:Value->Value->Sem Value) (r:R2):Prop :=
 ∀ (pins:List (Addr×Obj)) (s:Shared) (σ:St) (H:Hp) (x y:V) (v u:Value) (Q:VK),Inv X pins σ H s->RelV x v->RelV y u->r x y H Q->
  wpAny (model X.prog X.w) X.A (f v u) (EP X pins σ Q) X.xe s
def CallR (X:Cx) (f:Value) (r:List V->Hp->VK->Prop):Prop :=
 ∀ (pins:List (Addr×Obj)) (s:Shared) (σ:St) (H:Hp) (xs:List V) (us:List Value) (Q:VK),Inv X pins σ H s->Vals xs us->r xs H Q->
  wpAny (model X.prog X.w) X.A (call f us) (EP X pins σ Q) X.xe s
def Io (X:Cx) (r:V->Hp->(Bool->Hp->Prop)->Prop):Prop :=
 ∀ (pins:List (Addr×Obj)) (s:Shared) (σ:St) (H:Hp) (x:V) (v:Value) (Q:Bool->Hp->Prop),Inv X pins σ H s->RelV x v->r x H Q->
  wpAny (model X.prog X.w) X.A (truthy v) (TP X pins σ Q) X.xe s
def tOp (r:R2) (ta tb:TE):TE:=fun σ H Q=>ta σ H fun x H1=>tb σ H1 fun y H2=>r x y H2 Q
def rI (C:Int->Int->Prop) (g:Int->Int->V):R2:=fun x y H Q=>∃ i j,x=.int i/\y=.int j/\C i j/\Q (g i j) H
def rI0 (g:Int->Int->V):R2:=fun x y H Q=>∃ i j,x=.int i/\y=.int j/\Q (g i j) H
section
variable {X:Cx}{a b c:Expr}{ta tb tc:TE}{pos:Pos}
theorem EJ(ha:PE X a ta)(hb:PE X b tb){pins:List (Addr×Obj)}{s:Shared}{σ:St}{H:Hp}{R:V->V->Hp->Prop}(I:Inv X pins σ H s)
  (h:ta σ H fun x H1=>tb σ H1 fun y H2=>R x y H2){Q:Value->Shared->Prop}{f:Value->Value->Sem Value}
  (hf:∀ v u s2 x y H2,Inv X pins σ H2 s2->RelV x v->RelV y u->R x y H2->wpAny (model X.prog X.w) X.A (f v u) Q X.xe s2) :
  wpAny (model X.prog X.w) X.A (eval a X.env) (fun v s₁=>wpAny (model X.prog X.w) X.A (eval b X.env) (fun u s₂=>wpAny (model X.prog X.w) X.A (f v u) Q X.xe s₂) X.xe s₁) X.xe s:=by
 refine thn (ha pins s σ H _ I h) fun v s1 ⟨x,H1,I1,r1,q1⟩=>?_;refine thn (hb pins s1 σ H1 _ I1 q1) fun u s2 ⟨y,H2,I2,r2,q2⟩=>?_;exact hf v u s2 x y H2 I2 r1 r2 q2
theorem GS{op:Operator}{r:R2}(ho:OpR X (binaryOp op) r)(ha:PE X a ta)(hb:PE X b tb):PE X (.BinOp a op b pos) (tOp r ta tb):=by intro pins s σ H Q I h;exact wpAny_BinOp (EJ ha hb I h fun v u s2 x y H2 I2 rx ry q=>ho pins s2 σ H2 x y v u Q I2 rx ry q)
theorem opI{f:Value->Value->Sem Value}{C:Int->Int->Prop}{g:Int->Int->Int}
  (rule:∀ (i j:Int) (t u:Tok) (s:Shared) (Q:Value->Shared->Prop) (E:Value->Shared->Prop),C i j->Q (.int (g i j) s.toks) {s with toks:=s.toks+1}->wpAny (model X.prog X.w) X.A (f (.int i t) (.int j u)) Q E s) :
  OpR X f (rI C fun i j=>.int (g i j)):=by
 intro pins s σ H x y v u Q I rx ry h;obtain⟨i,j,rfl,rfl,hc,q⟩:=h;obtain⟨t,rfl⟩:=rx;obtain⟨t',rfl⟩:=ry;exact rule i j t t' s _ _ hc ⟨.int (g i j),H,I.tok _,⟨_,rfl⟩,q⟩
theorem F9{f:Value->Value->Sem Value}{g:Int->Int->Int}
  (rule:∀ (i j:Int) (t u:Tok) (s:Shared) (Q:Value->Shared->Prop) (E:Value->Shared->Prop),Q (.int (g i j) s.toks) {s with toks:=s.toks+1}->wpAny (model X.prog X.w) X.A (f (.int i t) (.int j u)) Q E s) :
  OpR X f (rI0 fun i j=>.int (g i j)):=by
 intro pins s σ H x y v u Q I rx ry h;obtain⟨i,j,rfl,rfl,q⟩:=h;obtain⟨t,rfl⟩:=rx;obtain⟨t',rfl⟩:=ry;exact rule i j t t' s _ _ ⟨.int (g i j),H,I.tok _,⟨_,rfl⟩,q⟩
theorem Co{f:Value->Value->Sem Value}{g:Int->Int->Bool}
  (rule:∀ (i j:Int) (t u:Tok) (s:Shared) (Q:Value->Shared->Prop) (E:Value->Shared->Prop),Q (.bool (g i j)) s->wpAny (model X.prog X.w) X.A (f (.int i t) (.int j u)) Q E s) :
  OpR X f (rI0 fun i j=>.bl (g i j)):=by
 intro pins s σ H x y v u Q I rx ry h;obtain⟨i,j,rfl,rfl,q⟩:=h;obtain⟨t,rfl⟩:=rx;obtain⟨t',rfl⟩:=ry;exact rule i j t t' s _ _ ⟨.bl (g i j),H,I,rfl,q⟩
def He (i j:Int):Prop:=0<j/\j<1073741824
def HI (i j:Int):Prop:=0<=j/\j<=1000000/\i.natAbs<2 ^ 64
def CMul (i j:Int):Prop:=(-(2 ^ 64)<i/\i<2 ^ 64)\/(-(2 ^ 64)<j/\j<2 ^ 64)
theorem CMul.ok{i j:Int}(h:CMul i j):IntMulOk i j:=by
 rcases h with⟨h1,h2⟩|⟨h1,h2⟩
 .exact .of_left (intBits_le_64 h1 h2)
 .exact .of_right (intBits_le_64 h1 h2)
theorem op_add:OpR X (binaryOp .Add) (rI0 fun i j=>.int (i+j)):=F9 fun _ _ _ _ _ _ _ q=>add_int q
theorem Eo:OpR X (binaryOp .Sub) (rI0 fun i j=>.int (i - j)):=F9 fun _ _ _ _ _ _ _ q=>sub_int q
theorem B3:OpR X (binaryOp .FloorDiv) (rI He fun i j=>.int (i / j)):=opI fun i j _ _ _ _ _ hc q=>by have h1:(0:Int)<j:=hc.1;have h2:j<1073741824:=hc.2;exact floordiv_int (by omega) (by rw[Int.fdiv_eq_ediv_of_nonneg i (by omega)];exact q) (.inl (PyProof.noPylong_small (by omega)))
theorem FK:OpR X (binaryOp .Mod) (rI (fun _ j=>0<j) fun i j=>.int (i % j)):=opI fun i j _ _ _ _ _ hc q=>by have h1:(0:Int)<j:=hc;exact mod_int' (by omega) (by rw[Int.fmod_eq_emod_of_nonneg i (by omega)];exact q)
theorem Fc:OpR X (binaryOp .Pow) (rI HI fun i j=>.int (i ^ j.toNat)):=opI fun _ _ _ _ _ _ _ hc q=>pow_int_small hc.1 hc.2.1 hc.2.2 q
end
section
variable {X:Cx}{a b c:Expr}{ta tb tc:TE}{pos:Pos}
theorem FH{pins:List (Addr×Obj)}{σ:St}{H:Hp}{s:Shared}{Q:VK}{k k':Bool}(I:Inv X pins σ H s)(q:Q (.bl k) H)(e:k=k'):EP X pins σ Q (.bool k') s:=by subst e;exact⟨.bl k,H,I,rfl,q⟩
theorem op_lt:OpR X (compareOp .Lt) (rI0 fun i j=>.bl (decide (i<j))):=Co fun _ _ _ _ _ _ _ q=>lt_int q
theorem Hk:OpR X (compareOp .LtE) (rI0 fun i j=>.bl (decide (i<=j))):=Co fun _ _ _ _ _ _ _ q=>le_int q
theorem op_gt:OpR X (compareOp .Gt) (rI0 fun i j=>.bl (decide (j<i))):=Co fun _ _ _ _ _ _ _ q=>gt_int q
theorem HJ:OpR X (compareOp .GtE) (rI0 fun i j=>.bl (decide (j<=i))):=Co fun _ _ _ _ _ _ _ q=>ge_int q
theorem OA:OpR X (compareOp .In) (fun x y H Q=>∃ i j,x=.str i/\y=.str j/\Q (.bl (!(Builtin.Str.occurrences j i 0 j.length 1).isEmpty)) H):=by intro pins s σ H x y v u Q I rx ry h;obtain⟨i,j,rfl,rfl,q⟩:=h;obtain⟨t,rfl⟩:=rx;obtain⟨t',rfl⟩:=ry;exact in_str (FH I q rfl)
theorem OpR.or{f:Value->Value->Sem Value}{r r':R2}(h:OpR X f r)(h':OpR X f r'):OpR X f (fun x y H Q=>r x y H Q\/r' x y H Q):=by
 intro pins s σ H x y v u Q I rx ry q;rcases q with q|q
 .exact h pins s σ H x y v u Q I rx ry q
 .exact h' pins s σ H x y v u Q I rx ry q
theorem M8{op:CmpOp}{r:R2}(ho:OpR X (compareOp op) r)(ha:PE X a ta)(hb:PE X b tb)(hm:behindInMarks op b=false):PE X (.Compare a [op] [b] pos) (tOp r ta tb):=by intro pins s σ H Q I h;exact wpAny_Compare1 (EJ ha hb I h fun v u s2 x y H2 I2 rx ry q=>ho pins s2 σ H2 x y v u Q I2 rx ry q) hm
def CG (t:TE):TT:=fun σ H Q=>t σ H fun x H'=>∃ k,x=.bl k/\Q k H'
theorem M0{op:CmpOp}{r:R2}(ho:OpR X (compareOp op) r)(ha:PE X a ta)(hb:PE X b tb)(hm:behindInMarks op b=false):PT X (.Compare a [op] [b] pos) (CG (tOp r ta tb)):=by
 intro pins s σ H Q I h;refine wpAny_isTrue_Compare1 (thn (ha pins s σ H _ I h) fun v s1 ⟨x,H1,I1,r1,q1⟩=>thn (hb pins s1 σ H1 _ I1 q1) fun u s2 ⟨y,H2,I2,r2,q2⟩ =>
   thn (ho pins s2 σ H2 x y v u _ I2 r1 r2 q2) fun c s3 ⟨z,H3,I3,r3,k,e,q3⟩=>?_) hm
 subst e;cases r3;exact wpAny_truthy_bool ⟨H3,I3,q3⟩
def Ae (r r':R2) (ta tb tc:TE):TE:=fun σ H Q=>ta σ H fun x H1=>tb σ H1 fun y H2=>r x y H2 fun z H3=>∃ k,z=.bl k/\
 (if k=true then tc σ H3 fun w' H4=>r' y w' H4 Q else Q (.bl false) H3)
theorem U6{op op':CmpOp}{r r':R2}(ho:OpR X (compareOp op) r)(ho':OpR X (compareOp op') r')(ha:PE X a ta)(hb:PE X b tb)(hc:PE X c tc)
  (hm:lastMarks [op,op'] [b,c]=false:=by with_unfolding_all rfl):PE X (.Compare a [op,op'] [b,c] pos) (Ae r r' ta tb tc):=by
 intro pins s σ H Q I h;refine Compare_chain (thn (ha pins s σ H _ I h) fun v s1 ⟨x,H1,I1,r1,q1⟩=>chain_link (thn (hb pins s1 σ H1 _ I1 q1) fun u s2 ⟨y,H2,I2,r2,q2⟩ =>
   thn (ho pins s2 σ H2 x y v u _ I2 r1 r2 q2) fun d s3 ⟨z,H3,I3,r3,k,e,q3⟩=>?_)) hm
 subst e;cases r3;refine wpAny_truthy_bool ?_;cases k with
 |false=>exact ite_ff ⟨.bl false,H3,I3,rfl,q3⟩
 |true=>exact ite_tt (chain_last (thn (hc pins s3 σ H3 _ I3 q3) fun w' s4 ⟨z',H4,I4,r4,q4⟩=>ho' pins s4 σ H4 y z' u w' Q I4 r2 r4 q4))
theorem Aj{op op':CmpOp}{r r':R2}(ho:OpR X (compareOp op) r)(ho':OpR X (compareOp op') r')(ha:PE X a ta)(hb:PE X b tb)(hc:PE X c tc)
  (hm:lastMarks [op,op'] [b,c]=false:=by with_unfolding_all rfl):PT X (.Compare a [op,op'] [b,c] pos) (CG (Ae r r' ta tb tc)):=by
 intro pins s σ H Q I h;refine isTrue_chain (thn (ha pins s σ H _ I h) fun v s1 ⟨x,H1,I1,r1,q1⟩=>test_link (thn (hb pins s1 σ H1 _ I1 q1) fun u s2 ⟨y,H2,I2,r2,q2⟩ =>
   thn (ho pins s2 σ H2 x y v u _ I2 r1 r2 q2) fun d s3 ⟨z,H3,I3,r3,k,e,q3⟩=>?_)) hm
 subst e;cases r3;refine wpAny_truthy_bool ?_;cases k with
 |false =>obtain⟨k',e',q'⟩:=q3;cases e';exact ite_ff ⟨H3,I3,q'⟩
 |true =>refine ite_tt (test_last (thn (hc pins s3 σ H3 _ I3 q3) fun w' s4 ⟨z',H4,I4,r4,q4⟩=>thn (ho' pins s4 σ H4 y z' u w' _ I4 r2 r4 q4) fun d' s5 ⟨z2,H5,I5,r5,k2,e2,q5⟩=>?_));subst e2;cases r5;exact wpAny_truthy_bool ⟨H5,I5,q5⟩
def Hl (K:PySem.W.Frag) (x:V) (H:Hp) (k:Bool):Prop :=
 match x with
 |.non=>k=false
 |.bl b=>k=b
 |.int i=>k=(i != 0)
 |.str y=>y.length<=sizeLine/\k=((y.length:Int) != 0)
 |.byt y=>y.size<=sizeLine/\k=((y.size:Int) != 0)
 |.ref p=>(∃ xs,SqL K H p xs/\k=!xs.isEmpty)\/(∃ xs,SqT K H p xs/\k=!xs.isEmpty)\/∃ kvs,H p=some (.dK kvs)/\k=!kvs.isEmpty
 |_=>False
theorem MN{κ:Type}{kvs:List (κ×V)}{vs:List (κ×Value)}(r:KV kvs vs):(!vs.isEmpty)=!kvs.isEmpty:=by cases r<;>rfl
theorem Wi{xs:List V}{its:List Value}(r:Vals xs its):(!its.toArray.isEmpty)=!xs.isEmpty:=by cases r<;>simp
theorem Yy:(sizeLine:Nat)<2 ^ 63:=by rw[sizeLine_eq];decide
theorem EX:Io X (fun x H Q=>∃ k,Hl X.K x H k/\Q k H):=by
 intro pins s σ H x v Q I rx h;obtain⟨k,e,q⟩:=h;have hl:=Yy;have hs:sizeLine=16777216:=sizeLine_eq;cases x with
 |non =>cases rx;have e':k=false:=e;subst e';exact truthy_none ⟨H,I,q⟩
 |bl b =>cases rx;have e':k=b:=e;subst e';exact wpAny_truthy_bool ⟨H,I,q⟩
 |int i =>obtain⟨t,rfl⟩:=rx;have e':k=(i != 0):=e;subst e';exact PySem.P.truthy_int ⟨H,I,q⟩
 |str y =>obtain⟨t,rfl⟩:=rx;obtain⟨hy,e'⟩:y.length<=sizeLine/\k=((y.length:Int) != 0):=e;subst e';exact PySem.P.truthy_str (by omega) ⟨H,I.tok _,q⟩
 |byt y =>obtain⟨t,rfl⟩:=rx;obtain⟨hy,e'⟩:y.size<=sizeLine/\k=((y.size:Int) != 0):=e;subst e';exact PySem.W.truthy_bytes (by omega) ⟨H,I.tok _,q⟩
 |ref p =>
  cases rx;have e':(∃ xs,SqL X.K H p xs/\k=!xs.isEmpty)\/(∃ xs,SqT X.K H p xs/\k=!xs.isEmpty)\/∃ kvs,H p=some (.dK kvs)/\k=!kvs.isEmpty:=e;rcases e' with⟨xs,hx,e'⟩|⟨xs,hx,e'⟩|⟨kvs,hx,e'⟩
  .subst e';obtain⟨its,r,pl,hz⟩:=I.list hx;have hlen:=r.length;exact wpAny_truthy_list pl.isList (by simp only[qC];omega) ⟨H,I.tok _,by rw[Wi r];exact q⟩
  .subst e';obtain⟨its,r,pl,hz⟩:=I.tuple hx;have hlen:=r.length;exact truthy_tuple pl (by simp only[qC];omega) ⟨H,I.tok _,by rw[Wi r];exact q⟩
  .subst e';obtain⟨hz,hS,vs,r,m⟩:kvs.length<=sizeLine/\(p==sysModules)=false/\∃ vs,KV kvs vs/\s.heap.DictOf (Zh X.prog X.w) p vs:=I.hok p _ hx;have hlen:kvs.length=vs.length:=Paired.length r;exact wpAny_truthy_dict hS m (by omega) ⟨H,I.tok _,by rw[MN r];exact q⟩
 |_=>exact(show False from e).elim
theorem Um(ha:PE X a ta)(he:∀ whole,isTrue a X.env whole=(do let v<-whole;standAt a.pos;holding [v] (truthy v))) :
  PT X a (fun σ H Q=>ta σ H fun x H'=>∃ k,Hl X.K x H' k/\Q k H'):=by
 intro pins s σ H Q I h;exact isTrue_plain (thn (ha pins s σ H _ I h) fun v s1 ⟨x,H1,I1,r1,q1⟩=>EX pins s1 σ H1 x v Q I1 r1 q1) (he _)
theorem Ma:OpR X (binaryOp .Add) (fun x y H Q=>∃ i j,x=.str i/\y=.str j/\i.length+j.length<=sizeLine/\Q (.str (i++j)) H):=by intro pins s σ H x y v u Q I rx ry h;obtain⟨i,j,rfl,rfl,hz,q⟩:=h;obtain⟨t,rfl⟩:=rx;obtain⟨t',rfl⟩:=ry;exact add_str (fun t' tk=>⟨.str (i++j),H,I.tok _,⟨_,rfl⟩,q⟩) hz
theorem ZQ{x:V}{us:List Value}(r:Vals [x] us):∃ u,us=[u]/\RelV x u:=by
 cases r with
 |cons r1 r2=>cases r2;exact⟨_,rfl,r1⟩
theorem CK{x y:V}{us:List Value}(r:Vals [x,y] us):∃ u w',us=[u,w']/\RelV x u/\RelV y w':=by
 cases r with
 |cons r1 r2 =>
  cases r2 with
  |cons r3 r4=>cases r4;exact⟨_,_,rfl,r1,r3⟩
theorem call_int1:CallR X (.type "int") (fun xs H Q=>(∃ i,xs=[.int i]/\Q (.int i) H)\/∃ k,xs=[.bl k]/\Q (.int (if k then 1 else 0)) H):=by
 intro pins s σ H xs us Q I r h;rcases h with⟨i,rfl,q⟩|⟨k,rfl,q⟩
 .obtain⟨u,rfl,t,rfl⟩:=ZQ r;exact call_int_int ⟨.int i,H,I,⟨_,rfl⟩,q⟩
 .obtain⟨u,rfl,r1⟩:=ZQ r;cases r1;exact call_int_bool ⟨.int (if k then 1 else 0),H,I.tok _,⟨_,rfl⟩,q⟩
theorem call_str_int:CallR X (.type "str") (fun xs H Q=>∃ i,xs=[.int i]/\i.natAbs.log2<1920/\Q (.str (toString i)) H):=by intro pins s σ H xs us Q I r h;obtain⟨i,rfl,hz,q⟩:=h;obtain⟨u,rfl,t,rfl⟩:=ZQ r;exact PySem.P.str_of_int hz ⟨.str _,H,I.tok _,⟨_,rfl⟩,q⟩
end
structure ObjM (h:Heap) (x dx C:Addr) (mA:Str->Option Value):Prop where
 obj:h.get? x=some (PySem.W.instObj C dx)
 ns:h.Ns1 dx mA
 ne:dx≠x
theorem NY{h:Heap}{dx:Addr}{mA:Str->Option Value}(n:h.Ns1 dx mA):∃ od,h.get? dx=some od/\∀ name,PySem.W.lookIn name od=some (mA name):=by
 obtain⟨o,es,ep,ho,hd,hk,_,hm⟩:=n;refine⟨o,ho,fun name=>?_⟩;have e:=hm name;unfold nsFind findBy at e;rw[<-Array.find?_toList]at e;unfold PySem.W.lookIn;rw[hd];dsimp only;split
 .rename_i y q;rw[q]at e;exact congrArg some e
 .rename_i q;rw[q]at e;have a:es.toList.any (·.refKey)=false:=by
   rw[List.any_eq_false];intro y hy;obtain⟨z,t,hkey⟩:=hk y (Array.mem_toList_iff.mp hy);simp[DictEntry.refKey,hkey]
  have a':¬ es.toList.any (·.refKey)=true:=by rw[a];exact Bool.false_ne_true
  rw[if_neg a'];exact congrArg some e
theorem ObjM.look{h:Heap}{x dx C:Addr}{mA:Str->Option Value}(I:ObjM h x dx C mA):∃ od,PySem.W.InstAt h x (PySem.W.instObj C dx) C (some od)/\∀ name,PySem.W.lookIn name od=some (mA name) :=
 let ⟨od,ho,hl⟩:=NY I.ns
 ⟨od,⟨I.obj,rfl,rfl,ho⟩,hl⟩
section
variable {prog:Program}{w:World}{A:Around}{E:Value->Shared->Prop}{s:Shared}{K:PySem.W.Frag}{x dx C f:Addr}{mA:Str->Option Value}{name:Str}{v:Value}
theorem A6{expr:Bool}{Q:Value->Shared->Prop}(X:K.In s.heap)(I:ObjM s.heap x dx C mA)(hg:PySem.W.plainGet K C name=true)(hh:PySem.W.hasDictIn K C=true)
  (ha:PySem.W.findIn K (.ref C) name=some none) (hv:mA name=some v) (hv':PySem.W.handedIn v=true) (h:Q v {s with toks:=s.toks+1}) :
  wpAny (model prog w) A (getAttr (.ref x) name expr) Q E s:=by
 obtain⟨od,J,hl⟩:=I.look;exact PySem.W.get_value X J (PySem.W.plainGet_of hg).1 (PySem.W.findObj_own hh ha rfl (by rw[hl,hv])) hv' h
theorem Af{pl:Sem Bool}{Q:Value×List Value->Shared->Prop}(X:K.In s.heap)(I:ObjM s.heap x dx C mA)(hg:PySem.W.plainGet K C name=true)
  (hf:PySem.W.findIn K (.ref C) name=some (some (.ref f))) (ht:PySem.W.isFn K (.ref f)=true) (hv:mA name=none) (h:Q (.ref f,[.ref x]) s) :
  wpAny (model prog w) A (getMethod (.ref x) name pl) Q E s:=by
 obtain⟨od,J,hl⟩:=I.look;exact PySem.W.method_fn X J (PySem.W.plainGet_of hg).1 (PySem.W.plainGet_of hg).2 hf (beq_iff_eq.mp ht) (by show(PySem.W.lookIn name od).map (·.isSome)=some false;rw[hl,hv];rfl) h
theorem Ce{ns:List Str}{Q:Unit->Shared->Prop}(X:K.In s.heap)(I:ObjM s.heap x dx C mA)
  (hs:PySem.W.findIn K (.ref C) "__setattr__" = some (some (.builtin "object.__setattr__"))) (hp:PySem.W.plainOver K C=true) (ht:PySem.W.takerIn K C name=some none) (hh:PySem.W.hasDictIn K C=true)
  (hw:PySem.Within mA ns) (hsz:ns.length<=sizeLine)
  (h:∀ h',ObjM h' x dx C (fun y=>if y=name then some v else mA y)->Heap.SameBut dx s.heap h'->Q () {s with heap:=h',toks:=s.toks+2}) :
  wpAny (model prog w) A (setAttr (.ref x) name v) Q E s:=by
 obtain⟨od,J,hl⟩:=I.look;refine PySem.W.set_plain X J hs (PySem.W.osa_open (s:={s with toks:=s.toks+1}) (r:=none) X J hp ht fun b=>?_);obtain⟨cd,hc,hd'⟩:=PySem.W.any_some hh;have hx:s.heap.get? x=some ⟨.ref C,some dx,.plain,#[]⟩:=I.obj;refine wpAny_bind (wpAny_pure (wpAny_bind (wpAny_bind (wpAny_loadPart hx (wpAny_bind (PySem.W.Looks.here (s:={s with toks:=s.toks+1}) (PySem.W.looks_clsIn X hc) ?_))))));rw[hd'];refine wpAny_pure (a:=some dx) (wpAny_bind (wpAny_pure (wpAny_bind ?_)));refine wpAny_nsSet1 (s:={s with toks:=s.toks+1}) I.ns fun h' hn2 hs2=>?_;obtain⟨oD,esD,epD,hoD,hdD,hcD⟩:=hn2.count (PySem.Within.cons name v hw);refine wpAny_bind (wpAny_lookBehind hoD (by rw[hdD];exact pastItsLine_dict (zE hcD (by rw[qB];omega))) ?_);exact wpAny_pure (h _ ⟨(hs2.2 _ (Ne.symm I.ne)).trans I.obj,hn2,I.ne⟩ hs2)
theorem Ug{R:Result->Shared->Prop}{vs:List Value}{kw:List (Str×Value)}(X:K.In s.heap)(hm:PySem.W.makesIn K C=true)
  (hi:PySem.W.findIn K (.ref C) "__init__" = some (some (.ref f))) (hf:PySem.W.typeIn K (.ref f)=some (.type "function"))
  (h:codeAny (model prog w) (A.under (.builtin "type.__call__" ⟨.ref C::vs,kw⟩)) (.call (.ref f) ⟨.ref (s.heap.objs.size+1)::vs,kw⟩) (PySem.W.InitBack (s.heap.objs.size+1) R)
    { s with heap:=(s.heap.push PySem.W.emptyDict).push (PySem.W.instObj C s.heap.objs.size) }) :
  codeAny (model prog w) A (.call (.ref C) ⟨vs,kw⟩) R s:=by
 obtain⟨hh,g,d,t,os⟩:=s;exact PySem.W.make_core (PySem.W.makes_of X hm) (PySem.W.looks_findIn X hi) (fun self=>PySem.W.bind_fn X self hf) (.inl rfl) h
end
def putF (f:Str) (v:V):List (Str×V)->List (Str×V)
 |[]=>[(f,v)]
 |(g,x)::r=>if g=f then(g,v)::r else(g,x)::putF f v r
theorem Xj(f g:Str)(v:V):∀ fs:List (Str×V),(putF f v fs).lookup g=if g=f then some v else fs.lookup g
 |[]=>by
  show List.lookup g [(f,v)]=_;by_cases h:g=f
  .have hb:(g==f)=true:=beq_iff_eq.mpr h;simp only[List.lookup,hb,if_pos h]
  .have hb:(g==f)=false:=beq_eq_false_iff_ne.mpr h;simp only[List.lookup,hb,if_neg h]
 |(k,x)::r=>by
  have ih:=Xj f g v r;rw[show putF f v ((k,x)::r)=(if k=f then(k,v)::r else(k,x)::putF f v r) from rfl];by_cases hk:k=f
  .rw[if_pos hk];by_cases h:g=k
   .have hb:(g==k)=true:=beq_iff_eq.mpr h;simp only[List.lookup,hb,if_pos (h.trans hk)]
   .have hb:(g==k)=false:=beq_eq_false_iff_ne.mpr h;simp only[List.lookup,hb,if_neg (fun e:g=f=>h (e.trans hk.symm))]
  .rw[if_neg hk];by_cases h:g=k
   .have hb:(g==k)=true:=beq_iff_eq.mpr h;simp only[List.lookup,hb,if_neg (fun e:g=f=>hk (h.symm.trans e))]
   .have hb:(g==k)=false:=beq_eq_false_iff_ne.mpr h;simp only[List.lookup,hb];exact ih
theorem YY(f:Str)(v:V):∀ fs:List (Str×V),f∈(putF f v fs).map (·.1)/\∀ g,g∈fs.map (·.1)->g∈(putF f v fs).map (·.1)
 |[]=>⟨by simp[putF],fun g h=>by simp at h⟩
 |(k,x)::r=>by
  obtain⟨i1,i2⟩:=YY f v r;rw[show putF f v ((k,x)::r)=(if k=f then(k,v)::r else(k,x)::putF f v r) from rfl];by_cases hk:k=f
  .rw[if_pos hk];subst hk;exact⟨by simp,fun g h=>by simpa using h⟩
  .rw[if_neg hk];refine⟨?_,fun g h=>?_⟩
   .rw[qG];exact qI _ i1
   .rw[qG]at h ⊢;rcases qE.mp h with e|e
    .exact qE.mpr (.inl e)
    .exact qI _ (i2 g e)
theorem Xm(f:Str)(v:V):∀ fs:List (Str×V),(putF f v fs).length<=fs.length+1
 |[]=>by simp[putF]
 |(k,x)::r=>by
  have ih:=Xm f v r;rw[show putF f v ((k,x)::r)=(if k=f then(k,v)::r else(k,x)::putF f v r) from rfl];by_cases hk:k=f
  .rw[if_pos hk,qB,qB];omega
  .rw[if_neg hk,qB,qB];omega
theorem RelO.some_of{v:V}{o:Option Value}(r:RelO (some v) o):∃ u,o=some u/\RelV v u:=by
 cases o with
 |none=>exact(show False from r).elim
 |some u=>exact⟨u,rfl,r⟩
theorem RelO.none_of{o:Option Value}(r:RelO none o):o=none:=by
 cases o with
 |none=>rfl
 |some u=>exact(show False from r).elim
theorem Op{v:V}{u:Value}(r:RelV v u):PySem.W.handedIn u=true:=by
 cases v with
 |non=>cases (show u=Value.none from r);rfl
 |bl b=>cases (show u=Value.bool b from r);rfl
 |int i=>obtain⟨t,e⟩:=(show ∃ t,u=Value.int i t from r);cases e;rfl
 |str x=>obtain⟨t,e⟩:=(show ∃ t,u=Value.str x t from r);cases e;rfl
 |byt b=>obtain⟨t,e⟩:=(show ∃ t,u=Value.bytes b t from r);cases e;rfl
 |flt b=>obtain⟨t,e⟩:=(show ∃ t,u=Value.float b t from r);cases e;rfl
 |ref a=>cases (show u=Value.ref a from r);rfl
 |ty n=>cases (show u=Value.type n from r);rfl
section
variable {P:Program}{w:World}{H H':Hp}{h h':Heap}{a C dx:Addr}{fs fs':List (Str×V)}
theorem Xw(hok:HOk P w H h)(e:H a=some (.ins C dx fs)):∃ mA,ObjM h a dx C mA/\(∀ f,RelO (fs.lookup f) (mA f))/\PySem.Within mA (fs.map (·.1))/\fs.length<=1000/\H dx=some (.own a):=by
 obtain⟨d,z,ne,ob,mA,n,r,q⟩:=(show ObjOk P w H h a (.ins C dx fs) from hok a _ e)
 exact⟨mA,⟨ob,n,ne⟩,r,q,z,d⟩
end
structure Cls (K:PySem.W.Frag) (C:Addr):Prop where
 pg:PySem.W.plainGet K C Str.empty=true
 hd:PySem.W.hasDictIn K C=true
 po:PySem.W.plainOver K C=true
 sa:PySem.W.findIn K (.ref C) "__setattr__" = some (some (.builtin "object.__setattr__"))
theorem Cls.get{K:PySem.W.Frag}{C:Addr}(c:Cls K C)(f:Str):PySem.W.plainGet K C f=true:=c.pg
def NoAttr (K:PySem.W.Frag) (C:Addr) (f:Str):Prop:=PySem.W.findIn K (.ref C) f=some none
theorem NoAttr.taker{K:PySem.W.Frag}{C:Addr}{f:Str}(n:NoAttr K C f):PySem.W.takerIn K C f=some none:=by unfold PySem.W.takerIn;rw[show PySem.W.findIn K (.ref C) f=some none from n];rfl
structure Meth (K:PySem.W.Frag) (C:Addr) (m:Str) (f:Addr):Prop where
 at_:PySem.W.findIn K (.ref C) m=some (some (.ref f))
 fn:PySem.W.isFn K (.ref f)=true
 kp:PySem.W.keepIn K (.ref f)=true
section
variable {X:Cx}{pins:List (Addr×Obj)}{σ:St}{H:Hp}{s:Shared}{a C dx:Addr}{fs:List (Str×V)}{f:Str}{v:V}{A:Around}{E:Value->Shared->Prop}
theorem KO{b:Bool}{Q:Value->Shared->Prop}(I:Inv X pins σ H s)(e:H a=some (.ins C dx fs))(c:Cls X.K C)(n:NoAttr X.K C f)(l:fs.lookup f=some v)
  (h:∀ u s',Inv X pins σ H s'->RelV v u->Q u s'):wpAny (model X.prog X.w) A (getAttr (.ref a) f b) Q E s:=by
 obtain⟨mA,O,r,_,_,_⟩:=Xw I.hok e;obtain⟨u,hu,ru⟩:=RelO.some_of (v:=v) (o:=mA f) (by rw[<-l];exact r f);exact A6 I.kIn O (c.get f) c.hd n hu (Op ru) (h u _ (I.tok _) ru)
theorem Wm{m:Str}{g:Addr}{pl:Sem Bool}{Q:Value×List Value->Shared->Prop}(I:Inv X pins σ H s)(e:H a=some (.ins C dx fs))(c:Cls X.K C)(k:Meth X.K C m g)(l:fs.lookup m=none)
  (h:Q (.ref g,[.ref a]) s):wpAny (model X.prog X.w) A (getMethod (.ref a) m pl) Q E s:=by
 obtain⟨mA,O,r,_,_,_⟩:=Xw I.hok e;have hn:mA m=none:=RelO.none_of (by rw[<-l];exact r m);exact Af I.kIn O (c.get m) k.at_ k.fn hn h
theorem MH{y:V}{u:Value}{Q:Unit->Shared->Prop}(I:Inv X pins σ H s)(e:H a=some (.ins C dx fs))(c:Cls X.K C)(n:NoAttr X.K C f)(hl:fs.length<1000)(ry:RelV y u)
  (h:∀ s',Inv X pins σ (upd H a (.ins C dx (putF f y fs))) s'->Q () s'):wpAny (model X.prog X.w) A (setAttr (.ref a) f u) Q E s:=by
 obtain⟨mA,O,r,wi,_,ho⟩:=Xw I.hok e;have hz:(fs.map (·.1)).length<=sizeLine:=by rw[qA,sizeLine_eq];omega
 refine Ce I.kIn O c.sa c.po n.taker c.hd wi hz fun h' O' sb=>h _ ?_;have hd:∃ o,h'.get? dx=some o:=let ⟨o,_,_,e',_⟩:=O'.ns;⟨o,e'⟩;refine I.write (x:=a) (e:=dx) (by rw[e];exact True.intro) (.inr ho) (fun b q hb z=>(sb.2 b hb).trans z) hd ?_;refine⟨by rw[upd_ne O.ne];exact ho,?_,O.ne,O'.obj,_,O'.ns,fun g=>?_,fun g hg=>?_⟩
 .have:=Xm f y fs;omega
 .show RelO ((putF f y fs).lookup g) (if g=f then some u else mA g);rw[Xj];by_cases q:g=f
  .rw[if_pos q,if_pos q];exact ry
  .rw[if_neg q,if_neg q];exact r g
 .by_cases q:g=f
  .rw[q];exact(YY f y fs).1
  .refine(YY f y fs).2 g (wi g fun z=>hg ?_);show(if g=f then some u else mA g)=none;rw[if_neg q];exact z
theorem Inv.made(I:Inv X pins σ H s):Inv X pins σ (upd (upd H s.heap.objs.size (.own (s.heap.objs.size+1))) (s.heap.objs.size+1) (.ins C s.heap.objs.size []))
  {s with heap:=(s.heap.push PySem.W.emptyDict).push (PySem.W.instObj C s.heap.objs.size)}:=by
 have e1:(s.heap.push PySem.W.emptyDict).get? s.heap.objs.size=some PySem.W.emptyDict:=Heap.get?_push_size s.heap rfl;have e2:((s.heap.push PySem.W.emptyDict).push (PySem.W.instObj C s.heap.objs.size)).get? (s.heap.objs.size+1)=some (PySem.W.instObj C s.heap.objs.size):=by
  have:=Heap.get?_push_size (s.heap.push PySem.W.emptyDict) (o:=PySem.W.instObj C s.heap.objs.size) rfl
  rwa [Heap.size_push]at this
 have e3:(s.heap.push PySem.W.emptyDict).Ns s.heap.objs.size (fun _=>none):=⟨PySem.W.emptyDict,#[],_,e1,rfl,(fun e he=>absurd he (by simp)),fun _=>rfl⟩
 have I1:=I.laid (a:=s.heap.objs.size) (o:=.own (s.heap.objs.size+1)) (h':=s.heap.push PySem.W.emptyDict) (t':=s.toks) (fun b u q=>Heap.get?_push_of_some _ q) (zG _) ⟨_,e1⟩;refine I1.laid (a:=s.heap.objs.size+1) (o:=.ins C s.heap.objs.size []) (t':=s.toks) (fun b u q=>Heap.get?_push_of_some _ q) (Nat.le_of_eq (Heap.size_push _ _)) ?_;have ne:s.heap.objs.size≠s.heap.objs.size+1:=zF (Nat.lt_succ_self _);refine⟨by rw[upd_ne ne,upd_same],Nat.zero_le _,ne,e2,fun _=>none,(Heap.Ns1.of_empty e3).at fun o q=>Heap.get?_push_of_some _ q,fun _=>True.intro,fun y hy=>absurd rfl hy⟩
theorem A7{prog:Program}{w:World}{env:Env}{e:Expr}{f:Str}{pos:Pos}{s:Shared}{Q:Value->Shared->Prop}(hb:attributeBase e f env (eval e env)=eval e env)
  (h:wpAny (model prog w) A (eval e env) (fun o s₁=>wpAny (model prog w) A (getAttr o f true) Q E s₁) E s):wpAny (model prog w) A (eval (.Attribute e f pos) env) Q E s :=
 Attribute_any_ h (by rw[arm_eval_Attribute,hb])
end
def IK (K:PySem.W.Frag) (ta:TE) (f:Str):TE:=fun σ H Q=>ta σ H fun x H1=>∃ a C dx fs v,x=.ref a/\H1 a=some (.ins C dx fs)/\Cls K C/\NoAttr K C f/\fs.lookup f=some v/\Q v H1
def IZ (K:PySem.W.Frag) (ta tv:TE) (f:Str):TS:=fun D σ H=>tv σ H fun y H1=>ta σ H1 fun x H2=>∃ a C dx fs,x=.ref a/\H2 a=some (.ins C dx fs)/\Cls K C/\NoAttr K C f/\fs.length<1000/\
 D.nx σ (upd H2 a (.ins C dx (putF f y fs)))
section
variable {X:Cx}{o e value:Expr}{f:Str}{pos pos' tpos:Pos}{ta tv:TE}
theorem DS(he:PE X e ta)(hb:attributeBase e f X.env (eval e X.env)=eval e X.env):PE X (.Attribute e f pos) (IK X.K ta f):=by intro pins s σ H Q I h;refine A7 hb (thn (he pins s σ H _ I h) fun u s1 ⟨x,H1,I1,rx,a,C,dx,fs,v,ex,ea,c,n,l,q⟩=>?_);subst ex;obtain rfl:u=Value.ref a:=rx;exact KO I1 ea c n l fun u' s2 I2 ru=>⟨v,H1,I2,ru,q⟩
theorem Fm(ha:PE X o ta)(hv:PE X value tv)(hs:swapsWith value (some (.Attribute o f pos')) pos.line X.env=pure false):PS X (.Assign [.Attribute o f pos'] value pos) (IZ X.K ta tv f):=by intro pins s σ H D I h;refine plainObj_wpAny_Assign_Attribute (thn (hv pins s σ H _ I h) fun u s1 ⟨y,H1,I1,ry,q⟩=>thn (ha pins s1 σ H1 _ I1 q) fun ov s2 ⟨x,H2,I2,rx,a,C,dx,fs,ex,ea,c,n,l,q2⟩=>?_) hs;subst ex;obtain rfl:ov=Value.ref a:=rx;exact MH I2 ea c n l ry fun s3 I3=>⟨σ,_,I3,q2⟩
end
section
variable {X:Cx}{pins:List (Addr×Obj)}{σ:St}{H:Hp}{s:Shared}{A:Around}{E:Value->Shared->Prop}{Q:Value->Shared->Prop}{c:Value}{b:Bool}
inductive TyOf (K:PySem.W.Frag) (H:Hp):V->Value->Prop where
 |non:TyOf K H .non (.type "NoneType")
 |bl (x:Bool):TyOf K H (.bl x) (.type "bool")
 |int (i:Int):TyOf K H (.int i) (.type "int")
 |str (x:Str):TyOf K H (.str x) (.type "str")
 |flt (x:UInt64):TyOf K H (.flt x) (.type "float")
 |lst {a:Addr}{xs:List V}(e:H a=some (.lst xs)):TyOf K H (.ref a) (.type "list")
 |frz {a:Addr}{o:Obj}{xs:List V}(e:H a=some (.frz o (.lst xs))):TyOf K H (.ref a) (.type "list")
 |tup {a:Addr}{xs:List V}(e:H a=some (.tup xs)):TyOf K H (.ref a) (.type "tuple")
 |dK {a:Addr}{kvs:List (Key×V)}(e:H a=some (.dK kvs)):TyOf K H (.ref a) (.type "dict")
 |dT {a:Addr}{kvs:List (List Key×V)}(e:H a=some (.dT kvs)):TyOf K H (.ref a) (.type "dict")
 |ins {a C dx:Addr}{fs:List (Str×V)}(e:H a=some (.ins C dx fs)) (cl:Cls K C) (ha:PySem.W.findIn K (.ref C) "__class__" = some (some (.builtin "object.__class__")))
   (hn:PySem.W.specialIn K (.builtin "object.__class__") "__get__" = some (some (.builtin "getset_descriptor.__get__"))) (htk:PySem.W.takesIn K (.builtin "object.__class__")=some true)
   (hm:PySem.W.mroIn K C (.type "object")=some true):TyOf K H (.ref a) (.ref C)
theorem WW{x:V}{u t:Value}(I:Inv X pins σ H s)(rx:RelV x u)(ty:TyOf X.K H x t)(e:PySem.W.kitOne X.K t c=some b)(h:∀ tk,Q (.bool b) {s with toks:=tk}) :
  wpAny (model X.prog X.w) A (call (.builtin "isinstance") [u,c]) Q E s:=by
 cases ty with
 |non=>cases (show u=Value.none from rx);exact PySem.W.kia_one PySem.W.kitx_none I.kIn True.intro e (fun z=>nomatch z) h
 |bl y=>cases (show u=Value.bool y from rx);exact PySem.W.kia_one PySem.W.kitx_bool I.kIn True.intro e (fun z=>nomatch z) h
 |int i=>obtain⟨t,q⟩:=(show ∃ t,u=Value.int i t from rx);cases q;exact PySem.W.kia_one PySem.W.kitx_int I.kIn True.intro e (fun z=>nomatch z) h
 |str y=>obtain⟨t,q⟩:=(show ∃ t,u=Value.str y t from rx);cases q;exact PySem.W.kia_one PySem.W.kitx_str I.kIn True.intro e (fun z=>nomatch z) h
 |flt y=>obtain⟨t,q⟩:=(show ∃ t,u=Value.float y t from rx);cases q;exact PySem.W.kia_one PySem.W.kitx_float I.kIn True.intro e (fun z=>nomatch z) h
 |@lst a xs ea =>
  cases (show u=Value.ref a from rx);obtain⟨_,_,n,_,h1⟩:=(show ObjOk X.prog X.w H s.heap a (.lst xs) from I.hok a _ ea)
  exact PySem.W.kia_one PySem.W.kitx_list I.kIn ⟨_,h1,rfl⟩ e (fun z=>nomatch z) h
 |@frz a ob xs ea =>
  cases (show u=Value.ref a from rx);obtain⟨_,_,_,n,_,h1⟩:=(show ObjOk X.prog X.w H s.heap a (.frz ob (.lst xs)) from I.hok a _ ea)
  exact PySem.W.kia_one PySem.W.kitx_list I.kIn ⟨_,h1,rfl⟩ e (fun z=>nomatch z) h
 |@tup a xs ea =>
  cases (show u=Value.ref a from rx);obtain⟨_,_,_,p⟩:=(show ObjOk X.prog X.w H s.heap a (.tup xs) from I.hok a _ ea)
  obtain⟨o,h1,h2,_⟩:=p;exact PySem.W.kia_one PySem.W.kitx_tuple I.kIn ⟨o,h1,h2⟩ e (fun z=>nomatch z) h
 |@dK a kvs ea =>
  cases (show u=Value.ref a from rx);obtain⟨_,_,vs,_,p⟩:=(show ObjOk X.prog X.w H s.heap a (.dK kvs) from I.hok a _ ea)
  obtain⟨o,es,ep,h1,h2,_⟩:=p;exact PySem.W.kia_one PySem.W.kitx_dict I.kIn ⟨o,h1,h2.1⟩ e (fun z=>nomatch z) h
 |@dT a kvs ea =>
  cases (show u=Value.ref a from rx);obtain⟨_,_,xs,_,o,es,ep,h1,h2,_⟩:=(show ObjOk X.prog X.w H s.heap a (.dT kvs) from I.hok a _ ea)
  exact PySem.W.kia_one PySem.W.kitx_dict I.kIn ⟨o,h1,h2.1⟩ e (fun z=>nomatch z) h
 |@ins a C dx fs ea cl ha hn htk hm =>cases (show u=Value.ref a from rx);obtain⟨mA,O,_⟩:=Xw I.hok ea;obtain⟨od,J,_⟩:=O.look;exact PySem.W.kia_one (PySem.W.kitx_own (cl.get _) cl.hd ha hn htk hm) I.kIn J e (fun z=>nomatch z) h
end
structure Room (k:Nat) (A:Around):Prop where
 hd:A.handled=none
 dp:A.depth+3*k+5<recursionLimit
 un:A.units+16*k+200<cLine
theorem Room.mono{j k:Nat}{A:Around}(r:Room k A)(h:j<=k):Room j A:=⟨r.hd,by have:=r.dp;omega,by have:=r.un;omega⟩
theorem Room.deeper{k:Nat}{A:Around}(r:Room (k+1) A)(env:Env):Room k (A.deeper env) :=
 ⟨r.hd,by have:=r.dp;show A.depth+1+3*k+5<_;omega,by have:=r.un;show A.units+3+16*k+200<_;omega⟩
theorem Room.in1{k:Nat}{A:Around}(r:Room (k+1) A):Room k A.in1 :=
 ⟨r.hd,by have:=r.dp;show A.depth+3*k+5<_;omega,by have:=r.un;show A.units+1+16*k+200<_;omega⟩
theorem Mj {A:Around}{C:Addr}{us:List Value}{kw:List (Str×Value)}:(A.under (.builtin "type.__call__" ⟨.ref C::us,kw⟩)).depth=A.depth+1:=by
 first|rfl|simp[Around.under,Code.weight,Code.isCreation,Code.isGuard,Code.isCaller,Code.frames,Code.isFrame,guardIds]
theorem K7 {A:Around}{C:Addr}{us:List Value}{kw:List (Str×Value)}:(A.under (.builtin "type.__call__" ⟨.ref C::us,kw⟩)).units=A.units+1:=by
 first|rfl|simp[Around.under,Code.cUnits,Code.frames,Code.isFrame]
theorem Room.make {k:Nat}{A:Around}(r:Room (k+1) A) (C:Addr) (us:List Value) (kw:List (Str×Value)):Room k (A.under (.builtin "type.__call__" ⟨.ref C::us,kw⟩)) :=
 ⟨r.hd,by have:=r.dp;rw[Mj];omega,by have:=r.un;rw[K7];omega⟩
theorem Room.depth{k:Nat}{A:Around}(r:Room k A):A.depth<recursionLimit:=by have:=r.dp;omega
theorem Room.units{k:Nat}{A:Around}(r:Room k A):A.units+64<cLine:=by have:=r.un;omega
def BX:TA:=fun _ H Q=>Q [] H
def CW (ta:TE) (tr:TA):TA:=fun σ H Q=>ta σ H fun x H1=>tr σ H1 fun xs H2=>Q (x::xs) H2
section
variable {X:Cx}{e:Expr}{es:List Expr}{te:TE}{t:TA}{pos:Pos}
theorem pa_nil:PA X [] BX:=fun _ _ _ _ H Q I h=>Calls.spliced_nil ⟨[],H,I,.nil,h⟩
theorem ZT(ha:PE X e te)(hr:PA X es t)(hs:starEach (e::es) X.env=(false,eval e X.env)::starEach es X.env:=by rfl):PA X (e::es) (CW te t):=by intro pos pins s σ H Q I h;rw[hs];show wpAny _ _ (spliced ((false,eval e X.env)::backTo pos (starEach es X.env))) _ _ s;refine Calls.spliced_cons (thn (ha pins s σ H _ I h) fun u s1 ⟨x,H1,I1,r1,q1⟩=>?_);exact thn (hr pos pins s1 σ H1 _ I1 q1) fun us s2 ⟨xs,H2,I2,r2,q2⟩=>⟨x::xs,H2,I2,.cons r1 r2,q2⟩
def IL (t:TA):TE:=fun σ H Q=>t σ H fun xs H1=>xs.length<=sizeLine/\∀ p,H1 p=none->Q (.ref p) (upd H1 p (.tup xs))
def IV (t:TA):TE:=fun σ H Q=>t σ H fun xs H1=>xs.length<=sizeLine/\∀ p,H1 p=none->Q (.ref p) (upd H1 p (.lst xs))
theorem Ft{x1}(h:PA X es t):PE X (.Tuple es x1 pos) (IL t):=by intro pins s σ H Q I hq;refine wpAny_Tuple_spliced (thn (h pos pins s σ H _ I hq) fun us s1 ⟨xs,H1,I1,r,z,q⟩=>⟨by rw[<-r.length];exact z,?_⟩);have hf:H1 s1.heap.objs.size=none:=I1.hok.fresh (zG _);refine⟨.ref s1.heap.objs.size,upd H1 s1.heap.objs.size (.tup xs),I1.laid (t':=s1.toks) (fun b u e=>Heap.get?_push_of_some _ e) (zG _) ?_,rfl,q _ hf⟩;exact⟨z,us,r,⟨_,Heap.get?_push_size _ rfl,rfl,_,rfl⟩⟩
theorem Ff(h:PA X es t):PE X (.List es pos) (IV t):=by intro pins s σ H Q I hq;refine wpAny_List_spliced (thn (h pos pins s σ H _ I hq) fun us s1 ⟨xs,H1,I1,r,z,q⟩=>⟨by rw[<-r.length];exact z,?_⟩);have hf:H1 s1.heap.objs.size=none:=I1.hok.fresh (zG _);refine⟨.ref s1.heap.objs.size,upd H1 s1.heap.objs.size (.lst xs),I1.laid (t':=s1.toks) (fun b u e=>Heap.get?_push_of_some _ e) (zG _) ?_,rfl,q _ hf⟩;exact⟨z,us,0,r,Heap.get?_push_size _ rfl⟩
end
abbrev Sp:=List V->Hp->VK->XK->Prop
abbrev CXT:=List Env->Hp->Shared->XK->Value->Shared->Prop
structure Env0 (P:Program) (w:World) (K:PySem.W.Frag) (mg:Str->Option Value) (base:Heap) (A:Around) (outer:List Env) (s:Shared) (H:Hp):Prop where
 frames:A.frames=some outer
 mod:Mod K mg base
 bs:∀ b o,base.get? b=some o->s.heap.get? b=some o/\H b=none
 bsz:base.objs.size<=s.heap.objs.size
 funs:s.heap.FunFrames base outer
 frf:∀ b∈frs outer,H b=none
 hok:HOk P w H s.heap
 bare:AllBare s.gens
def CE (outer:List Env) (P:Program) (w:World) (H:Hp) (s:Shared) (Q:VK) (u:Value) (s':Shared):Prop :=
 ∃ v H',s'.os=s.os/\AllBare s'.gens/\Un (frs outer) [] H H' s.heap s'.heap/\HOk P w H' s'.heap/\RelV v u/\Q v H'
def CR (CX:CXT) (outer:List Env) (P:Program) (w:World) (H:Hp) (s:Shared) (Q:VK) (E:XK) (r:Result) (s':Shared):Prop :=
 match r with
 |.ok (.ret u)=>CE outer P w H s Q u s'
 |.ok _=>False
 |.error e=>CX outer H s E e s'
structure FnOk (P:Program) (w:World) (K:PySem.W.Frag) (mg:Str->Option Value) (base:Heap) (CX:CXT) (k:Nat) (f:Addr) (fd:FuncData) (ps:List Str) (sp:Sp):Prop where
 len:∀ vs H Q E,sp vs H Q E->vs.length=ps.length
 run:∀ (A:Around) (outer:List Env) (s:Shared) (H:Hp) (args:Args) (us:List Value) (vs:List V) (Q:VK) (E:XK),Room k A->Env0 P w K mg base A outer s H->BindsTo s fd args (ps.zip us)->Vals vs us->sp vs H Q E->
  codeAny (model P w) A (.call (.ref f) args) (CR CX outer P w H s Q E) s
theorem FnOk.mono{P:Program}{w:World}{K:PySem.W.Frag}{mg:Str->Option Value}{base:Heap}{CX:CXT}{j k:Nat}{f:Addr}{fd:FuncData}{ps:List Str}{sp:Sp}(F:FnOk P w K mg base CX j f fd ps sp)(h:j<=k) :
  FnOk P w K mg base CX k f fd ps sp:=⟨F.len,fun A outer s H args us vs Q E hr=>F.run A outer s H args us vs Q E (hr.mono h)⟩
theorem FnOk.imp{P:Program}{w:World}{K:PySem.W.Frag}{mg:Str->Option Value}{base:Heap}{CX:CXT}{k:Nat}{f:Addr}{fd:FuncData}{ps:List Str}{sp sp':Sp}(F:FnOk P w K mg base CX k f fd ps sp)
  (h:∀ vs H Q E,sp' vs H Q E->sp vs H Q E):FnOk P w K mg base CX k f fd ps sp' :=
 ⟨fun vs H Q E q=>F.len vs H Q E (h _ _ _ _ q),fun A outer s H args us vs Q E hr he hb hv hs=>F.run A outer s H args us vs Q E hr he hb hv (h _ _ _ _ hs)⟩
theorem Env0.make{P:Program}{w:World}{K:PySem.W.Frag}{mg:Str->Option Value}{base:Heap}{A:Around}{outer:List Env}{s:Shared}{H:Hp}(e:Env0 P w K mg base A outer s H)(C:Addr)(us:List Value)(kw:List (Str×Value)) :
  Env0 P w K mg base (A.under (.builtin "type.__call__" ⟨.ref C::us,kw⟩)) outer s H:=⟨by first|exact e.frames|(simpa[Around.under,Code.envs,Code.isFrame,pushEnvs]using e.frames),e.mod,e.bs,e.bsz,e.funs,e.frf,e.hok,e.bare⟩
theorem Env0.in1{P:Program}{w:World}{K:PySem.W.Frag}{mg:Str->Option Value}{base:Heap}{A:Around}{outer:List Env}{s:Shared}{H:Hp}(e:Env0 P w K mg base A outer s H) :
  Env0 P w K mg base A.in1 outer s H:=⟨e.frames,e.mod,e.bs,e.bsz,e.funs,e.frf,e.hok,e.bare⟩
section
variable {X:Cx}{pins:List (Addr×Obj)}{σ:St}{H:Hp}{s s':Shared}
theorem Inv.env0(I:Inv X pins σ H s):Env0 X.prog X.w X.K X.mg X.base X.A X.stack s H :=
 ⟨I.ok.frames,I.ok.mod,I.bs,zE I.ok.bsz I.sz,I.stack,I.stkFree,I.hok,I.bare⟩
theorem Inv.after{Q:VK}{u:Value}(I:Inv X pins σ H s)(h:CE X.stack X.prog X.w H s Q u s'):EP X pins σ Q u s':=by obtain⟨v,H',os,bare,un,hok,r,q⟩:=h;obtain⟨hh,g,d,t,os'⟩:=s';obtain rfl:os'=s.os:=os;exact⟨v,H',I.call (h':=hh) (g':=g) (d':=d) (t':=t) (ch:=[]) un hok bare (fun b z=>absurd z (by simp)),r,q⟩
end
def C9 (sp:Sp) (dvs:List V) (E:XK) (t:TA):TE:=fun σ H Q=>t σ H fun vs H1=>sp (vs++dvs) H1 Q E
def CF (C:Addr) (m:Str) (sp:Sp) (dvs:List V) (E:XK) (ta:TE) (t:TA):TE:=fun σ H Q=>ta σ H fun x H1=>∃ a dx fs,x=.ref a/\H1 a=some (.ins C dx fs)/\fs.lookup m=none/\
 t σ H1 fun vs H2=>sp (x::(vs++dvs)) H2 Q E
def Gc (C:Addr) (sp:Sp) (dvs:List V) (E:XK) (t:TA):TE:=fun σ H Q=>t σ H fun vs H1=>∀ x dx,H1 x=none->H1 dx=none->dx≠x->
 sp (.ref x::(vs++dvs)) (upd (upd H1 dx (.own x)) x (.ins C dx [])) (fun v H2=>v=.non/\Q (.ref x) H2) E
def Binds (K:PySem.W.Frag) (fd:FuncData) (ps:List Str) (ds:List Value):Prop :=
 ∀ (s:Shared) (us:List Value),K.In s.heap->(us++ds).length=ps.length->BindsTo s fd ⟨us,[]⟩ (ps.zip (us++ds))
theorem Binds.all{K:PySem.W.Frag}{fd:FuncData}{ps:List Str}(h:∀ us:List Value,us.length=ps.length->bindArgs fd ⟨us,[]⟩=pure (ps.zip us)):Binds K fd ps []:=fun s us _ hl=>by rw[zB]at hl ⊢;exact .of_eq (h us hl)
def Yi (CX:CXT) (X:Cx) (E:XK):Prop:=∀ (pins:List (Addr×Obj)) (σ:St) (H:Hp) (s:Shared) (e:Value) (s':Shared),Inv X pins σ H s->CX X.stack H s E e s'->X.xe e s'
section
variable {X:Cx}{CX:CXT}{k:Nat}{f C:Addr}{fd:FuncData}{ps:List Str}{sp:Sp}{dvs:List V}{ds:List Value}{E:XK}{x m:Str}{p pos apos:Pos}{e o:Expr}{es:List Expr}{ta:TE}{t:TA}
theorem JF{pins:List (Addr×Obj)}{σ:St}{H:Hp}{s:Shared}{Q:VK}{us:List Value}{vs:List V}(F:FnOk X.prog X.w X.K X.mg X.base CX k f fd ps sp)(hr:Room k X.A)(hb:Binds X.K fd ps ds)(hd:Vals dvs ds)(hx:Yi CX X E)
  (I:Inv X pins σ H s) (r:Vals vs us) (h:sp (vs++dvs) H Q E):wpAny (model X.prog X.w) X.A (call (.ref f) us) (EP X pins σ Q) X.xe s:=by
 have r2:Vals (vs++dvs) (us++ds):=r.append hd;have hl:(us++ds).length=ps.length:=by rw[<-r2.length];exact F.len _ _ _ _ h
 refine wpAny_call (codeAny_mono (F.run X.A X.stack s H ⟨us,[]⟩ (us++ds) (vs++dvs) Q E hr I.env0 (hb s us I.kIn hl) r2 h) fun r s' hq=>?_);cases r with
 |error e=>exact hx pins σ H s e s' I hq
 |ok fl =>
  cases fl with
  |ret u=>exact I.after hq
  |next=>exact False.elim hq
  |brk=>exact False.elim hq
  |cont=>exact False.elim hq
theorem Cu(F:FnOk X.prog X.w X.K X.mg X.base CX k f fd ps sp)(hr:Room k X.A)(hg:Gl X x)(hm:X.mg x=some (.ref f))(hk:PySem.W.keepIn X.K (.ref f)=true)(hb:Binds X.K fd ps ds)(hd:Vals dvs ds)(hx:Yi CX X E)
  (ha:PA X (e::es) t) (hdb:(x==("__debug__" : Str))=false:=by decide) (he:starEach (e::es) X.env=(false,eval e X.env)::starEach es X.env:=by rfl) (hpl:(backTo pos (starEach es X.env)).any (·.1)=false:=by rfl) :
  PE X (.Call (.Name x p) (e::es) [] pos) (C9 sp dvs E t):=by
 intro pins s σ H Q I h;refine wpAny_Call_Name_kw (XA I hg hm ?_ hdb);refine PySem.W.callWith_K (h₀:=X.base) I.ok.mod.kin hk (thn (ha pos pins s σ H _ I h) fun us s1 ⟨vs,H1,I1,r,q⟩=>⟨I1.kIn,?_⟩) he hpl;exact JF F hr hb hd hx I1 r q
theorem Uy(F:FnOk X.prog X.w X.K X.mg X.base CX k f fd ps sp)(hr:Room k X.A)(hg:Gl X x)(hm:X.mg x=some (.ref f))(hk:PySem.W.keepIn X.K (.ref f)=true)(hb:Binds X.K fd ps ds)(hd:Vals dvs ds)(hx:Yi CX X E)
  (hdb:(x==("__debug__" : Str))=false:=by decide):PE X (.Call (.Name x p) [] [] pos) (C9 sp dvs E BX):=by
 intro pins s σ H Q I h;refine wpAny_Call_Name_kw (XA I hg hm ?_ hdb);exact PySem.W.callWith_K0 I.kIn hk (JF (us:=[]) F hr hb hd hx I .nil h)
theorem Cv{pl:Sem Bool}(he:PE X o ta)(c:Cls X.K C)(hm:Meth X.K C m f)(F:FnOk X.prog X.w X.K X.mg X.base CX k f fd ps sp)(hr:Room k X.A)(hb:Binds X.K fd ps ds)(hd:Vals dvs ds)(hx:Yi CX X E)(ha:PA X (e::es) t)
  (hst:starEach (e::es) X.env=(false,eval e X.env)::starEach es X.env:=by rfl) (hpl:(backTo pos (starEach es X.env)).any (·.1)=false:=by rfl)
  (ht:eval (.Call (.Attribute o m apos) (e::es) [] pos) X.env=(do
    let ov<-eval o X.env
    standAt apos.atName
    let (f,first)<-holding [ov] (getMethod ov m pl)
    callWith pos f first (backTo pos (starEach (e::es) X.env)) (backToKw pos (keywordEach [] X.env))):=by rfl) :
  PE X (.Call (.Attribute o m apos) (e::es) [] pos) (CF C m sp dvs E ta t):=by
 intro pins s σ H Q I h;refine PySem.W.methodCall_KW (pl:=pl) (thn (he pins s σ H _ I h) fun u s1 ⟨x,H1,I1,rx,a,dx,fs,ex,ea,l,q⟩=>?_) ht;subst ex;obtain rfl:u=Value.ref a:=rx;refine Wm I1 ea c hm l ?_;refine PySem.W.callWith_K (first:=[.ref a]) (h₀:=X.base) I.ok.mod.kin hm.kp (thn (ha pos pins s1 σ H1 _ I1 q) fun us s2 ⟨vs,H2,I2,r,q2⟩=>⟨I2.kIn,?_⟩) hst hpl;exact JF (us:=.ref a::us) (vs:=.ref a::vs) F hr hb hd hx I2 (.cons rfl r) q2
theorem OP{pl:Sem Bool}(he:PE X o ta)(c:Cls X.K C)(hm:Meth X.K C m f)(F:FnOk X.prog X.w X.K X.mg X.base CX k f fd ps sp)(hr:Room k X.A)(hb:Binds X.K fd ps ds)(hd:Vals dvs ds)(hx:Yi CX X E)
  (ht:eval (.Call (.Attribute o m apos) [] [] pos) X.env=(do
    let ov<-eval o X.env
    standAt apos.atName
    let (f,first)<-holding [ov] (getMethod ov m pl)
    callWith pos f first (backTo pos (starEach [] X.env)) (backToKw pos (keywordEach [] X.env))):=by rfl) :
  PE X (.Call (.Attribute o m apos) [] [] pos) (CF C m sp dvs E ta BX):=by
 intro pins s σ H Q I h;refine PySem.W.methodCall_KW (pl:=pl) (thn (he pins s σ H _ I h) fun u s1 ⟨x,H1,I1,rx,a,dx,fs,ex,ea,l,q⟩=>?_) ht;subst ex;obtain rfl:u=Value.ref a:=rx;refine Wm I1 ea c hm l ?_;exact PySem.W.callWith_K0 (first:=[.ref a]) I1.kIn hm.kp (JF (us:=[.ref a]) (vs:=[.ref a]) F hr hb hd hx I1 (.cons rfl .nil) q)
structure Mk (K:PySem.W.Frag) (C f:Addr):Prop where
 makes:PySem.W.makesIn K C=true
 init:PySem.W.findIn K (.ref C) "__init__" = some (some (.ref f))
 fn:PySem.W.isFn K (.ref f)=true
 kp:PySem.W.keepIn K (.ref C)=true
theorem Ue{pins:List (Addr×Obj)}{σ:St}{H:Hp}{s:Shared}{Q:VK}{us:List Value}{vs:List V}(M:Mk X.K C f)(F:FnOk X.prog X.w X.K X.mg X.base CX k f fd ps sp)(hr:Room (k+1) X.A)(hb:Binds X.K fd ps ds)(hd:Vals dvs ds)
  (hx:Yi CX X E) (I:Inv X pins σ H s) (r:Vals vs us)
  (h:∀ x dx,H x=none->H dx=none->dx≠x->sp (.ref x::(vs++dvs)) (upd (upd H dx (.own x)) x (.ins C dx [])) (fun v H2=>v=.non/\Q (.ref x) H2) E) :
  wpAny (model X.prog X.w) X.A (call (.ref C) us) (EP X pins σ Q) X.xe s:=by
 have hq:=h (s.heap.objs.size+1) s.heap.objs.size (I.hok.fresh (Nat.le_succ _)) (I.hok.fresh (zG _)) (zF (Nat.lt_succ_self _));have I2:=Inv.made (C:=C) I;have r2:Vals (V.ref (s.heap.objs.size+1)::(vs++dvs)) (Value.ref (s.heap.objs.size+1)::(us++ds)):=.cons rfl (r.append hd);have hl:(Value.ref (s.heap.objs.size+1)::us++ds).length=ps.length:=by have e:=r2.length;rw[F.len _ _ _ _ hq]at e;exact e.symm
 refine wpAny_call (Ug (f:=f) I.kIn M.makes M.init (beq_iff_eq.mp M.fn) (codeAny_mono (F.run _ X.stack _ _ ⟨Value.ref (s.heap.objs.size+1)::us,[]⟩ (Value.ref (s.heap.objs.size+1)::(us++ds)) _ _ E (hr.make C us [])
   (I2.env0.make C us []) (hb _ (Value.ref (s.heap.objs.size+1)::us) I2.kIn hl) r2 hq) fun r s' hq'=>?_))
 cases r with
 |error e=>exact hx pins σ _ _ e s' I2 hq'
 |ok fl =>
  cases fl with
  |ret u =>obtain⟨v,H',I3,rv,ev,q3⟩:=I2.after hq';subst ev;exact⟨rv,⟨V.ref (s.heap.objs.size+1),H',I3,rfl,q3⟩⟩
  |next=>exact False.elim hq'
  |brk=>exact False.elim hq'
  |cont=>exact False.elim hq'
theorem B4(M:Mk X.K C f)(F:FnOk X.prog X.w X.K X.mg X.base CX k f fd ps sp)(hr:Room (k+1) X.A)(hg:Gl X x)(hm:X.mg x=some (.ref C))(hb:Binds X.K fd ps ds)(hd:Vals dvs ds)(hx:Yi CX X E)
  (ha:PA X (e::es) t) (hdb:(x==("__debug__" : Str))=false:=by decide) (he:starEach (e::es) X.env=(false,eval e X.env)::starEach es X.env:=by rfl) (hpl:(backTo pos (starEach es X.env)).any (·.1)=false:=by rfl) :
  PE X (.Call (.Name x p) (e::es) [] pos) (Gc C sp dvs E t):=by
 intro pins s σ H Q I h;refine wpAny_Call_Name_kw (XA I hg hm ?_ hdb);refine PySem.W.callWith_K (h₀:=X.base) I.ok.mod.kin M.kp (thn (ha pos pins s σ H _ I h) fun us s1 ⟨vs,H1,I1,r,q⟩=>⟨I1.kIn,?_⟩) he hpl;exact Ue M F hr hb hd hx I1 r q
end
structure FnScope (N P:List Str) (sc:Scope):Prop where
 kind:sc.kind=.function
 co:sc.isCoroutine=false
 gen:sc.isGenerator=false
 nd:N.Nodup
 pre:N.take P.length=P
 par:∀ x∈P,sc.names.lookup x=some .local\/sc.names.lookup x=some .cell
 nofree:∀ y∈sc.names,y.2≠.free
theorem WS{kindOf:Str->Option NameKind}{x:Str}:∀ {binds:List (Str×Value)}{m:Str->Option Value},(∀ v,(x,v)∉binds)->bindL kindOf binds m x=m x
 |[],_,_=>rfl
 |(n,v)::r,m,h=>by
  unfold bindL;rw[WS fun w hw=>h w (qI _ hw)];split
  .have:x≠n:=by rintro rfl;exact h v qT
   simp[this]
  .rfl
theorem Ja{kindOf:Str->Option NameKind}{x:Str}:∀ {binds:List (Str×Value)}{m:Str->Option Value},(∀ v,(x,v)∉binds)->bindC kindOf binds m x=m x
 |[],_,_=>rfl
 |(n,v)::r,m,h=>by
  unfold bindC;rw[Ja fun w hw=>h w (qI _ hw)];split
  .rfl
  .have:x≠n:=by rintro rfl;exact h v qT
   simp[this]
theorem WP{kindOf:Str->Option NameKind}{x:Str}{v:Value}:∀ {P:List Str}{vs:List Value}{i:Nat}{m:Str->Option Value},P.Nodup->P[i]?=some x->vs[i]?=some v->kindOf x=some .local->
  bindL kindOf (P.zip vs) m x=some v
 |[],_,_,_,_,h,_,_=>by simp at h
 |_::_,[],_,_,_,_,h,_=>by simp at h
 |p::P,w::vs,0,m,nd,h1,h2,hk=>by simp at h1 h2;subst h1;subst h2;show bindL kindOf ((p,w)::P.zip vs) m p=_;unfold bindL;rw[WS fun v hv=>(List.nodup_cons.mp nd).1 (List.of_mem_zip hv).1,if_pos hk];simp
 |p::P,w::vs,i+1,m,nd,h1,h2,hk=>by show bindL kindOf ((p,w)::P.zip vs) m x=_;unfold bindL;exact WP (i:=i) (List.nodup_cons.mp nd).2 (by simpa using h1) (by simpa using h2) hk
theorem WJ{kindOf:Str->Option NameKind}{x:Str}{v:Value}:∀ {P:List Str}{vs:List Value}{i:Nat}{m:Str->Option Value},P.Nodup->P[i]?=some x->vs[i]?=some v->kindOf x≠some .local->
  bindC kindOf (P.zip vs) m x=some v
 |[],_,_,_,_,h,_,_=>by simp at h
 |_::_,[],_,_,_,_,h,_=>by simp at h
 |p::P,w::vs,0,m,nd,h1,h2,hk=>by simp at h1 h2;subst h1;subst h2;show bindC kindOf ((p,w)::P.zip vs) m p=_;unfold bindC;rw[Ja fun v hv=>(List.nodup_cons.mp nd).1 (List.of_mem_zip hv).1,if_neg hk];simp
 |p::P,w::vs,i+1,m,nd,h1,h2,hk=>by show bindC kindOf ((p,w)::P.zip vs) m x=_;unfold bindC;exact WJ (i:=i) (List.nodup_cons.mp nd).2 (by simpa using h1) (by simpa using h2) hk
def start (N:List Str) (vs:List V):St:=vs.map some++List.replicate (N.length - vs.length) none
def Wq (CX:CXT) (P:Program) (w:World) (K:PySem.W.Frag) (mg:Str->Option Value) (base:Heap) (N:List Str) (qual:Str) (scope:Scope) (f:Addr) (cd:Value) (A:Around) (outer:List Env) (s:Shared) (H:Hp) (E:XK):Cx where
 prog:=P
 w:=w
 K:=K
 mg:=mg
 base:=base
 A:=A.deeper (envOfC qual scope s.heap.objs.size f cd)
 N:=N
 s₀:=s
 H₀:=H
 env:=envOfC qual scope s.heap.objs.size f cd
 outer:=outer
 stack:=envOfC qual scope s.heap.objs.size f cd::outer
 ex:=[]
 calm:=true
 fn:=fun _=>true
 pn:=[]
 xe:=fun e s'=>wpAny (model P w) (A.deeper (envOfC qual scope s.heap.objs.size f cd)) (leaving (envOfC qual scope s.heap.objs.size f cd) e) (fun _ s''=>CX outer H s E e s'') (fun e' s''=>CX outer H s E e' s'') s'
theorem JZ{sc:Scope}{n:Nat}{x:Str}(h:sc.names.lookup x=some .cell):∃ c,(cellsFrom n sc.names []).lookup x=some c:=by have q:=PySem.W.cellsFrom_some sc.names n [] (.inl h);exact Option.isSome_iff_exists.mp q
theorem Oz{CX:CXT}{P:Program}{w:World}{K:PySem.W.Frag}{mg:Str->Option Value}{base:Heap}{N ps:List Str}{qual:Str}{scope:Scope}{f:Addr}{cd:Value}{A:Around}{outer:List Env}{s s1:Shared}{H:Hp}{E:XK}{us:List Value}{vs:List V}
  (S:FnScope N ps scope) (hd:A.handled=none) (e0:Env0 P w K mg base A outer s H) (hl:vs.length=ps.length) (r:Vals vs us)
  (x:InCallC s s.heap.objs.size (bindL (envOfC qual scope s.heap.objs.size f cd).kindOf (ps.zip us) fun _=>none) (cellsFrom (s.heap.objs.size+1) scope.names []) (bindC (envOfC qual scope s.heap.objs.size f cd).kindOf (ps.zip us) fun _=>none) s1) :
  Inv (Wq CX P w K mg base N qual scope f cd A outer s H E) [] (start N vs) H s1:=by
 have hpl:ps.length<=N.length:=by have:=congrArg List.length S.pre;rw[qV]at this;omega
 obtain⟨h1,tk,rfl,hk⟩:=x.done;have noA:∀ b:Addr,b∉(Wq CX P w K mg base N qual scope f cd A outer s H E).ex:=fun b z=>absurd (show b∈([]:List Addr) from z) (by simp);refine⟨⟨e0.mod,S.kind,rfl,rfl,zG _,fun y z c h1 h2=>?_,fun y hy=>?_,fun y c _ h=>?_,fun _=>hd,Around.frames_deeper e0.frames,.inr ⟨rfl,rfl⟩,fun b z=>absurd z (noA b),e0.bs,e0.bsz,fun b _ _=>noA b,fun b z=>absurd z (noA b),e0.funs,e0.frf⟩,
   rfl,e0.bare,Un.kept hk,⟨_,x.toInCall.ns,fun i y v h1 h2 h3=>?_⟩,fun y c h=>⟨_,x.cell y c h⟩,e0.hok.fresh (zG _),fun y c h=>?_,fun p hp=>absurd (show p∈([]:List (Addr×Obj)) from hp) (by simp),e0.hok.kept hk,?_⟩
 .exact name_of_addr x.apart (PySem.mem_of_lookup h1) (PySem.mem_of_lookup h2)
 .have hy:scope.names.lookup y=some .cell\/scope.names.lookup y=some .free:=hy;rcases hy with hy|hy
  .exact JZ hy
  .exact absurd rfl (S.nofree _ (PySem.mem_of_lookup hy))
 .exact Nat.le_of_lt (x.above y c (PySem.mem_of_lookup h))
 .have hi:i<vs.length:=by
   unfold start at h2;by_cases hi:i<vs.length
   .exact hi
   .rw[List.getElem?_append_right (by simpa using hi)]at h2;rw[List.getElem?_replicate]at h2;split at h2<;>cases h2
  have ha:vs[i]?=some v:=by
   unfold start at h2;rw[List.getElem?_append_left (by simpa using hi),qF]at h2;cases e:vs[i]? with
   |none=>rw[e]at h2;cases h2
   |some a=>rw[e]at h2;cases h2;rfl
  obtain⟨u,hu,rv⟩:=r.get ha;have hp:ps[i]?=some y:=by rw[<-S.pre,List.getElem?_take_of_lt (by omega)];exact h1
  have ndP:ps.Nodup:=by rw[<-S.pre];exact S.nd.sublist (List.take_sublist _ _)
  refine⟨u,rv,?_⟩;rcases S.par y (qX hp)with k|k
  .exact .inl ⟨k,WP ndP hp hu k⟩
  .obtain⟨c,e⟩:=JZ (n:=s.heap.objs.size+1) k;refine .inr ⟨.inl k,c,e,?_⟩;have q:=x.cell y c e;rw[WJ ndP hp hu (by show scope.names.lookup y≠_;rw[k];decide)]at q;exact q
 .exact e0.hok.fresh (Nat.le_of_lt (x.above y c (PySem.mem_of_lookup h)))
 .unfold start;show _=N.length;rw[qU,qA,qW];omega
theorem C6{CX:CXT}{P:Program}{w:World}{K:PySem.W.Frag}{mg:Str->Option Value}{base:Heap}{k:Nat}{f:Addr}{name qual:Str}{params:Arguments}{body:List Stmt}{scope:Scope}{dV kV doc pm cdv ct oc:Value}{an od:Option Addr}
  {osl:Array (Option Value)}{N ps:List Str}{sp:Sp}(lk:K.lookup f=some ⟨oc,od,.func (PySem.W.fnOf name qual params body scope dV kV doc pm an cdv ct),osl⟩) (hcd:PySem.W.codeIn K cdv qual=true) (S:FnScope N ps scope)
  (len:∀ vs H Q E,sp vs H Q E->vs.length=ps.length)
  (hbody:∀ (A:Around) (outer:List Env) (s:Shared) (H:Hp) (vs:List V) (Q:VK) (E:XK),Room k (A.deeper (envOfC qual scope s.heap.objs.size f cdv))->sp vs H Q E->
    ∃ t,PSs (Wq CX P w K mg base N qual scope f cdv A outer s H E) body t/\t { nx:=fun _ H'=>Q .non H',rt:=Q } (start N vs) H) :
  FnOk P w K mg base CX (k+1) f (PySem.W.fnOf name qual params body scope dV kV doc pm an cdv ct) ps sp:=by
 refine⟨len,fun A outer s H args us vs Q E hr e0 hb r hsp=>?_⟩;have hl:=len _ _ _ _ hsp;have KX:K.In s.heap:=e0.mod.kin.keeps fun b o e=>(e0.bs b o e).1;have lim:s.heap.NoLimit:=e0.mod.nolimit.keeps fun b o e=>(e0.bs b o e).1;have hkind:∀ y∈ps.zip us,scope.names.lookup y.1=some .local\/(scope.names.lookup y.1=some .cell/\((cellsFrom (s.heap.objs.size+1) scope.names []).lookup y.1).isSome=true):=fun⟨n,v⟩ hy=>by
  rcases S.par n (List.of_mem_zip hy).1 with q|q
  .exact .inl q
  .exact .inr ⟨q,PySem.W.cellsFrom_some _ _ _ (.inl q)⟩
 refine codeAny_call_function hr.depth (KX _ _ lk) rfl S.co S.gen rfl (PySem.W.codeRec_of KX hcd) (hb _ _ _ _ ?_);refine wpAny_newFunctionEnv_cells S.kind hkind fun env he s1 x=>?_;subst he;refine⟨lim.keeps x.toInCall.keep,codeAny_func ?_⟩;obtain⟨t,ht,hq⟩:=hbody A outer s H vs Q E (hr.deeper _) hsp;have I:Inv (Wq CX P w K mg base N qual scope f cdv A outer s H E) [] (start N vs) H s1:=Oz S hr.hd e0 hl r x;refine wpAny_mono (ht [] s1 (start N vs) H _ I hq) (fun fl s' hs=>?_) fun e s' hs=>hs;have fin:∀ {σ':St}{H':Hp}{v:V}{u:Value},Inv (Wq CX P w K mg base N qual scope f cdv A outer s H E) [] σ' H' s'->RelV v u->Q v H'->CE outer P w H s Q u s' :=
  fun {σ' H' v u} J rv q=>⟨v,H',J.os,J.bare,J.base,J.hok,rv,q⟩
 cases fl with
 |ret u =>obtain⟨v,σ',H',J,rv,q⟩:=hs;exact fin J rv q
 |next =>obtain⟨σ',H',J,q⟩:=hs;exact fin (v:=V.non) (u:=Value.none) J rfl q
 |brk =>obtain⟨_,_,_,q⟩:=hs;exact False.elim q
 |cont =>obtain⟨_,_,_,q⟩:=hs;exact False.elim q
section
variable {X:Cx}{x:Str}{p pos:Pos}{e:Expr}{es:List Expr}{t:TA}{id T:String}{r:List V->Hp->VK->Prop}
def tCB (r:List V->Hp->VK->Prop) (t:TA):TE:=fun σ H Q=>t σ H fun vs H1=>r vs H1 Q
theorem Yh (hc:CallR X (.builtin id) r) (hg:Gl X x) (hm:X.mg x=none) (hv:bootBuiltins x=some (.builtin id)) (ha:PA X (e::es) t) (hn:x≠"__name__":=by decide) (hdb:(x==("__debug__" : Str))=false:=by decide)
  (he:starEach (e::es) X.env=(false,eval e X.env)::starEach es X.env:=by rfl) (hpl:(backTo pos (starEach es X.env)).any (·.1)=false:=by rfl):PE X (.Call (.Name x p) (e::es) [] pos) (tCB r t):=by
 intro pins s σ H Q I h;refine wpAny_Call_Name_kw (YB I hg hm hv ?_ hn hdb);exact PyProof.Rows.callWith_builtin1 (thn (ha pos pins s σ H _ I h) fun us s1 ⟨vs,H1,I1,r1,q1⟩=>hc pins s1 σ H1 vs us Q I1 r1 q1) he hpl
theorem Yo (hc:CallR X (.type T) r) (hg:Gl X x) (hm:X.mg x=none) (hv:bootBuiltins x=some (.type T)) (ha:PA X (e::es) t) (hn:x≠"__name__":=by decide) (hdb:(x==("__debug__" : Str))=false:=by decide)
  (he:starEach (e::es) X.env=(false,eval e X.env)::starEach es X.env:=by rfl) (hpl:(backTo pos (starEach es X.env)).any (·.1)=false:=by rfl):PE X (.Call (.Name x p) (e::es) [] pos) (tCB r t):=by
 intro pins s σ H Q I h;refine wpAny_Call_Name_kw (YB I hg hm hv ?_ hn hdb);exact PyProof.Rows.callWith_type1 (thn (ha pos pins s σ H _ I h) fun us s1 ⟨vs,H1,I1,r1,q1⟩=>hc pins s1 σ H1 vs us Q I1 r1 q1) he hpl
end
end L2
namespace HT
open PySem PyProof.Rows
def lexLt:List Int->List Int->Bool
 |[],[]=>false
 |[],_::_=>true
 |_::_,[]=>false
 |x::xs,y::ys=>if x=y then lexLt xs ys else decide (x<y)
theorem lexLt_cons(x y:Int)(xs ys:List Int):lexLt (x::xs) (y::ys)=if x=y then lexLt xs ys else decide (x<y):=rfl
theorem Wu:lexLt [] []=false:=rfl
theorem X4(y:Int)(ys:List Int):lexLt [] (y::ys)=true:=rfl
theorem Wb(x:Int)(xs:List Int):lexLt (x::xs) []=false:=rfl
theorem eqAt_int(A:Around)(s:Shared)(a:Int)(t:Tok)(c:Int)(u:Tok):∃ e,SeqAt.EqAt A s (.int a t) (.int c u) e/\(e=true↔a=c) :=
 ⟨(a==c),SeqAt.EqAt.int_int a t c u,by simp⟩
theorem At(A:Around)(s:Shared)(a:Int)(t:Tok)(c:Int)(u:Tok)(prog:Program)(w:World)(E:Value->Shared->Prop)(Q:Value->Shared->Prop)(h:Q (.bool (decide (a<c))) s) :
  wpAny (model prog w) A (richCompare .Lt (.int a t) (.int c u)) Q E s :=
 (PyProof.Rows.lt_int h:wpAny (model prog w) A (compareOp .Lt (.int a t) (.int c u)) Q E s)
section
open PySem.SeqAt
open PySem.AutoSeq1 (wpAny_loadPart')
open PySem.MeetsSeq PySem.MeetsSeq2 PySem.MeetsSeq3
theorem Ws(l b:Addr)(items items2:Array Value)(n n2:Nat)(dd dd2:Option Addr)(sl sl2:Array (Option Value))(ns ms:List Int)(hi:IntsAre items.toList ns)(hj:IntsAre items2.toList ms) :
  Meets (Builtin.«tuple.__lt__» ⟨[.ref l,.ref b],[]⟩)
   (fun _ R s=>s.heap.get? l=some { cls:=.type "tuple",dict:=dd,data:=.seq items n,slots:=sl }/\s.heap.get? b=some { cls:=.type "tuple",dict:=dd2,data:=.seq items2 n2,slots:=sl2 }/\
     R (.ok (.ret (.bool (lexLt ns ms)))) s) :=
 .of_wp fun prog w A R s h=>by
  obtain⟨hp,g,d,tk,os⟩:=s;obtain⟨hl,hb,h⟩:=h;have f2:=AutoSeq1.sub_tuple_tuple;have z1:items.size=ns.length:=by rw[<-hi.length];simp
  have z2:items2.size=ms.length:=by rw[<-hj.length];simp
  wp_walk using wpAny_loadPart' hl,wpAny_loadPart' hb,wpAny_forIn_list _ (fun rest b s'=>b.1=none/\s'=⟨hp,g,d,tk,os⟩/\∃ (vs ws:List Value) (ns' ms':List Int),rest=vs.zip ws/\
    IntsAre vs ns'/\IntsAre ws ms'/\ns'.length+items2.size=ms'.length+items.size/\R (.ok (.ret (.bool (lexLt ns' ms')))) ⟨hp,g,d,tk,os⟩) _
  case turn =>
   rintro⟨y,x⟩ rest b s' ⟨hb',rfl,vs,ws,ns',ms',hz,hvi,hwi,hlen,hR⟩;cases hvi with
   |nil=>rw[List.zip_nil_left]at hz;cases hz
   |cons a t hvi' =>
    cases hwi with
    |nil=>rw[List.zip_nil_right]at hz;cases hz
    |cons c u hwi' =>
     rw[List.zip_cons_cons]at hz;injection hz with hyx hrest;injection hyx with hy hx;subst hy hx;rw[lexLt_cons]at hR;simp only[qB]at hlen;obtain⟨e,he,hiff⟩:=eqAt_int A.in1 ⟨hp,g,d,tk,os⟩ a t c u;refine wpAny_bind (he prog w _ _ ?_);cases e with
     |true =>
      rw[if_pos (hiff.mp rfl)]at hR
      wp_walk
      exact⟨rfl,rfl,_,_,_,_,hrest,hvi',hwi',by omega,hR⟩
     |false =>
      rw[if_neg (fun q=>absurd (hiff.mpr q) Bool.false_ne_true)]at hR;have hri:=At A.in1 ⟨hp,g,d,tk,os⟩ a t c u prog w
      wp_walk using hri
      exact⟨_,rfl,by simpa using hR⟩
  case fin =>
   rintro⟨b1,b2⟩ s' ⟨hb',rfl,vs,ws,ns',ms',hz,hvi,hwi,hlen,hR⟩;simp only at hb';subst hb';have hv:lexLt ns' ms'=decide (items.size<items2.size):=by
    cases hvi with
    |nil =>
     cases hwi with
     |nil =>simp only[List.length_nil]at hlen;rw[Wu];exact(qP (by omega)).symm
     |cons c u hw =>simp only[List.length_nil,qB]at hlen;rw[X4];exact(qQ (by omega)).symm
    |cons a t hv =>
     cases hwi with
     |nil =>simp only[List.length_nil,qB]at hlen;rw[Wb];exact(qP (by omega)).symm
     |cons c u hw =>rw[List.zip_cons_cons]at hz;cases hz
   rw[hv]at hR
   wp_walk
   exact⟨_,rfl,by simpa[Builtin.Tuple.tupleCompareSizes]using hR⟩
  case h =>exact⟨rfl,rfl,items.toList,items2.toList,ns,ms,rfl,hi,hj,by omega,h⟩
end
section
variable {prog:Program}{w:World}{A:Around}{E:Value->Shared->Prop}{s:Shared}
theorem lt_tupInts{l b:Addr}{items items2:Array Value}{ns ms:List Int}{Q:Value->Shared->Prop}(hl:IsTup s.heap l items)(hb:IsTup s.heap b items2)(hi:IntsAre items.toList ns)(hj:IntsAre items2.toList ms)
  (hu:A.units<cLine) (h:Q (.bool (lexLt ns ms)) s):wpAny (model prog w) A (compareOp .Lt (.ref l) (.ref b)) Q E s:=by
 obtain⟨⟨cls,dd,data,sl⟩,ho,hc,n,hd⟩:=id hl;obtain⟨⟨cls2,dd2,data2,sl2⟩,ho2,hc2,n2,hd2⟩:=id hb;simp only at hc hd hc2 hd2;subst hc hd hc2 hd2;exact richCompare_meets_room (op:=.Lt) ⟨_,ho,rfl⟩ ⟨_,ho2,rfl⟩ PySem.F.slot_tuple_lt PySem.F.entry_tuple_lt (PySem.F.args_tuple_lt_2 _ _) (Ws l b items items2 n n2 dd dd2 sl sl2 ns ms hi hj)
  ⟨ho,ho2,show Value.bool (lexLt ns ms)≠Value.notImplemented/\Q (.bool (lexLt ns ms)) s from ⟨(fun x=>nomatch x),h⟩⟩ hu
theorem cat_tup{t b:Addr}{vs ws:List Value}{Q:Value->Shared->Prop}(ht:IsTup s.heap t vs.toArray)(hb:IsTup s.heap b ws.toArray)(hv:vs≠[])
  (h1:ws=[]->Q (.ref t) s) (h2:ws≠[]->Q (.ref s.heap.objs.size) {s with heap:=s.heap.push {cls:=.type "tuple",data:=.seq (vs++ws).toArray}})
  (hsz:vs.length+ws.length<=sizeLine):wpAny (model prog w) A (binaryOp .Add (.ref t) (.ref b)) Q E s:=by
 obtain⟨⟨cls,dd,data,sl⟩,ho,hc,n,hd⟩:=id ht;obtain⟨⟨cls2,dd2,data2,sl2⟩,ho2,hc2,n2,hd2⟩:=id hb;simp only at hc hd hc2 hd2;subst hc hd hc2 hd2;have e:vs.toArray++ws.toArray=(vs++ws).toArray:=by simp
 by_cases hw:ws=[]
 .exact concat_meets ⟨_,ho,rfl⟩ ⟨_,ho2,rfl⟩ noFill_tuple_add seq_tuple_add PySem.F.slot_tuple_add PySem.F.entry_tuple_add (PySem.F.args_tuple_add_2 _ _)
   (tuple_addW1 t b vs.toArray ws.toArray n n2 dd dd2 sl sl2 (by simpa using hv) (by simp[hw])) ⟨ho,ho2,h1 hw⟩
 .refine concat_meets ⟨_,ho,rfl⟩ ⟨_,ho2,rfl⟩ noFill_tuple_add seq_tuple_add PySem.F.slot_tuple_add PySem.F.entry_tuple_add (PySem.F.args_tuple_add_2 _ _)
   (tuple_addW2 t b vs.toArray ws.toArray n n2 dd dd2 sl sl2 (by simpa using hv) (by simpa using hw) (by rw[qC,qC];exact hsz)) ⟨ho,ho2,?_⟩
  rw[e];exact h2 hw
def sIx (n d:Nat):Option Int->Nat
 |none=>d
 |some v=>if v<0 then(v+(n:Int)).toNat else min v.toNat n
theorem EI(n d:Nat)(hd:d<=n)(o:Option Int):sIx n d o<=n:=by
 cases o with
 |none=>exact hd
 |some v =>
  show(if v<0 then(v+(n:Int)).toNat else min v.toNat n)<=n;by_cases hv:v<0
  .rw[if_pos hv];omega
  .rw[if_neg hv];exact Nat.min_le_right _ _
theorem clip_eq(v:Int)(n d:Nat):(if v<0 then max (v+(n:Int)) 0 else min v (n:Int))=((sIx n d (some v):Nat):Int):=by
 show(if v<0 then max (v+(n:Int)) 0 else min v (n:Int))=(((if v<0 then(v+(n:Int)).toNat else min v.toNat n):Nat):Int)
 by_cases hv:v<0
 .simp only[if_pos hv];omega
 .simp only[if_neg hv];omega
theorem Mv(lo hi:Option Int)(n:Nat):Builtin.Slice.sliceAdjust lo hi 1 (n:Int)=(((sIx n 0 lo:Nat):Int),((sIx n n hi:Nat):Int)):=by
 have h1:¬ ((1:Int)<0):=by omega
 unfold Builtin.Slice.sliceAdjust;simp only[h1,if_false];refine Prod.ext ?_ ?_
 .cases lo with
  |none=>rfl
  |some v=>exact clip_eq v n 0
 .cases hi with
  |none=>rfl
  |some v=>exact clip_eq v n n
theorem Mf(i j:Nat):Builtin.Slice.slicePlaces (i:Int) (j:Int) 1=j - i:=by
 unfold Builtin.Slice.slicePlaces;have h1:(1:Int) > 0:=by omega
 simp only[h1,if_true,Int.ediv_one];split<;>omega
theorem Wd{v:Value}{o:Option Int}{Q:Option Int->Shared->Prop}(p:IsPart v o)(h:Q o s):wpAny (model prog w) A (Builtin.Slice.slicePartIndex v) Q E s:=by
 cases p with
 |none=>exact slicePart_none h
 |int i t=>exact slicePart_int h
theorem YW{sl:Addr}{vl vu:Value}{lo hi:Option Int}{n:Nat}{Q:Int×Int×Nat->Shared->Prop}(hs:s.heap.IsSliceOf sl vl vu .none)(pl:IsPart vl lo)(pu:IsPart vu hi)
  (h:Q (((sIx n 0 lo:Nat):Int),1,sIx n n hi - sIx n 0 lo) s):wpAny (model prog w) A (Builtin.Slice.sliceApplied (.ref sl) (pure (n:Int))) Q E s:=by
 obtain⟨os,hos,hcs,hds⟩:=id hs;unfold Builtin.Slice.sliceApplied Builtin.Slice.sliceFields;refine wpAny_bind (wpAny_bind (wpAny_field hos hds (x:=vl) rfl (wpAny_bind (wpAny_field hos hds (x:=vu) rfl (wpAny_bind (wpAny_field hos hds (x:=.none) rfl (wpAny_pure ?_)))))));refine wpAny_bind (slicePart_none ?_);show wpAny _ _ (if((1:Int)==0)=true then _ else _) _ _ s;rw[if_neg (by decide)];refine wpAny_bind (Wd pl (wpAny_bind (Wd pu (wpAny_bind (wpAny_pure ?_)))));show wpAny _ _ (match Builtin.Slice.sliceAdjust lo hi 1 (n:Int)with|(lo,hi)=>pure (lo,(1:Int),Builtin.Slice.slicePlaces lo hi 1)) _ _ s;rw[Mv lo hi n];show wpAny _ _ (pure (((sIx n 0 lo:Nat):Int),(1:Int),Builtin.Slice.slicePlaces ((sIx n 0 lo:Nat):Int) ((sIx n n hi:Nat):Int) 1)) _ _ s;rw[Mf];exact wpAny_pure h
theorem UT(xs:Array Value)(i k:Nat):((List.range k).filterMap fun(m:Nat)=>xs[((i:Int)+(m:Int)*1).toNat]?).toArray=((xs.toList.drop i).take k).toArray:=by
 have e:(fun(m:Nat)=>xs[((i:Int)+(m:Int)*1).toNat]?)=fun m=>xs[i+m]?:=by
  funext m;have:((i:Int)+(m:Int)*1).toNat=i+m:=by omega
  rw[this]
 rw[e];have:=pick_run xs i k;rw[List.filterMap_map]at this;have e2:((fun x=>xs[x]?) ∘ fun x=>i+x)=fun m=>xs[i+m]?:=rfl;rw[e2]at this;rw[this]
theorem getItem_tuple_cut{t sl:Addr}{items:Array Value}{vl vu:Value}{lo hi:Option Int}{Q:Value->Shared->Prop}(ht:IsTup s.heap t items)(hs:s.heap.IsSliceOf sl vl vu .none)(pl:IsPart vl lo)(pu:IsPart vu hi)
  (hw:¬ (sIx items.size 0 lo=0/\sIx items.size items.size hi=items.size))
  (h:Q (.ref s.heap.objs.size) {s with heap:=s.heap.push {cls:=.type "tuple",data:=.seq ((items.toList.drop (sIx items.size 0 lo)).take (sIx items.size items.size hi - sIx items.size 0 lo)).toArray}})
  (hsz:items.size<=sizeLine):wpAny (model prog w) A (getItem (.ref t) (.ref sl)) Q E s:=by
 have htake:sizeOk (.seq ((items.toList.drop (sIx items.size 0 lo)).take (sIx items.size items.size hi - sIx items.size 0 lo)).toArray):=by show((items.toList.drop (sIx items.size 0 lo)).take (sIx items.size items.size hi - sIx items.size 0 lo)).toArray.size<=sizeLine;rw[qC,qV,List.length_drop,zC];omega
 have hj:sIx items.size items.size hi<=items.size:=EI _ _ (zG _) hi;obtain⟨os,hos,hcs,hds⟩:=id hs;have hTs:s.TypeIs (.ref sl) "slice":=⟨os,hos,hcs⟩
 unfold getItem
 try with_reducible refine wpAny_holding ?_
 first|refine wpAny_bind (wpAny_pure ?_)|skip
 refine wpAny_bind (wpAny_sequenceKey ht.typeIs (by decide) ?_);refine wpAny_bind (wpAny_callSpecial?_slot (name:=Str.ofString "__getitem__") ht.typeIs PyProof.Rows.slot_tuple_getitem
   (wpAny_call_entry PyProof.Rows.slot_tuple_getitem ht.typeIs entry_tuple_getitem ?_ (args_tuple_getitem _ _)))
 show wpAny _ _ (Builtin.Tuple.tupleItemsOf (.ref t) >>= _) _ _ s;refine wpAny_bind (tupleItemsOf_ ht ?_);refine wpAny_bind (wpAny_typeOf hTs ?_);rw[if_pos (by decide)];refine wpAny_bind (YW hs pl pu ?_);have hno:¬ ((((sIx items.size 0 lo:Nat):Int)==0&&(1:Int)==1&&(sIx items.size items.size hi - sIx items.size 0 lo)==items.size)=true):=by intro q;rw[bAq,bAq]at q;have q1:((sIx items.size 0 lo:Nat):Int)=0:=eq_of_beq q.1.1;have q2:sIx items.size items.size hi - sIx items.size 0 lo=items.size:=eq_of_beq q.2;exact hw ⟨by omega,by omega⟩
 show wpAny _ _ (if(((sIx items.size 0 lo:Nat):Int)==0&&(1:Int)==1&&(sIx items.size items.size hi - sIx items.size 0 lo)==items.size)=true then _ else _) _ _ s;rw[if_neg hno,UT]
 first
  |exact wpAny_bind (m:=Builtin.Tuple.tupleExact _) (wpAny_newObj_type (wpAny_pure ⟨_,rfl,wpAny_pure h⟩) htake)
  |exact wpAny_bind (m:=Builtin.Tuple.tupleExact _) (wpAny_newObj_type (wpAny_bind (wpAny_pure (wpAny_pure ⟨_,rfl,wpAny_pure h⟩))) htake)
  |exact wpAny_bind (wpAny_bind (m:=Builtin.Tuple.tupleExact _) (wpAny_newObj_type (wpAny_pure (wpAny_pure ⟨_,rfl,wpAny_pure h⟩)) htake))
  |exact wpAny_bind (wpAny_bind (m:=Builtin.Tuple.tupleExact _) (wpAny_newObj_type (wpAny_pure ⟨_,rfl,wpAny_pure h⟩) htake))
end
end HT
namespace L2
open PySem PySem.Spec PyProof.Rows
abbrev TO:=St->Hp->(Option Int->Hp->Prop)->Prop
def PO (X:Cx) (e:Option Expr) (t:TO):Prop :=
 ∀ (pins:List (Addr×Obj)) (s:Shared) (σ:St) (H:Hp) (Q:Option Int->Hp->Prop),Inv X pins σ H s->t σ H Q->
  wpAny (model X.prog X.w) X.A (evalPart e X.env) (fun u s'=>∃ o H',Inv X pins σ H' s'/\IsPart u o/\Q o H') X.xe s
def BI:TO:=fun _ H Q=>Q none H
def Gx (t:TE):TO:=fun σ H Q=>t σ H fun x H1=>∃ i,x=.int i/\Q (some i) H1
theorem ZF{ns:List Int}:∀ {us:List Value},Vals (ns.map V.int) us->IntsAre us ns:=by
 induction ns with
 |nil=>intro us r;rw[List.map_nil]at r;cases r;exact .nil
 |cons n ns ih =>
  intro us r;rw[qG]at r;cases r with
  |cons r1 r2 =>obtain⟨t,e⟩:=r1;subst e;exact .cons n t (ih r2)
section
variable {X:Cx}{e:Expr}{te:TE}{lo hi:Option Expr}{tl th:TO}{pos p2:Pos}
theorem po_none:PO X none BI:=by intro pins s σ H Q I h;rw[evalPart_none];exact wpAny_pure ⟨none,H,I,.none,h⟩
theorem BN(h:PE X e te):PO X (some e) (Gx te):=by intro pins s σ H Q I hw;rw[evalPart_some];refine thn (h pins s σ H _ I hw) fun u s1 ⟨x,H1,I1,r1,q1⟩=>?_;obtain⟨i,rfl,q⟩:=q1;obtain⟨t,rfl⟩:=r1;exact⟨some i,H1,I1,.int i t,q⟩
def SlR (X:Cx) (r:V->Option Int->Option Int->Hp->VK->Prop):Prop :=
 ∀ (pins:List (Addr×Obj)) (s:Shared) (σ:St) (H:Hp) (x:V) (v vl vu:Value) (lo hi:Option Int) (sl:Addr) (Q:VK),Inv X pins σ H s->RelV x v->s.heap.IsSliceOf sl vl vu .none->IsPart vl lo->IsPart vu hi->r x lo hi H Q->
  ∃ T id,typeLookup (.type T) "__getitem__" = pure (some (.builtin id))/\s.TypeIs v T/\wpAny (model X.prog X.w) X.A (getItem v (.ref sl)) (EP X pins σ Q) X.xe s
theorem SlR.or{r r':V->Option Int->Option Int->Hp->VK->Prop}(h:SlR X r)(h':SlR X r'):SlR X (fun x lo hi H Q=>r x lo hi H Q\/r' x lo hi H Q):=by
 intro pins s σ H x v vl vu lo hi sl Q I rx hs pl pu q;rcases q with q|q
 .exact h pins s σ H x v vl vu lo hi sl Q I rx hs pl pu q
 .exact h' pins s σ H x v vl vu lo hi sl Q I rx hs pl pu q
def tSl (r:V->Option Int->Option Int->Hp->VK->Prop) (te:TE) (tl th:TO):TE:=fun σ H Q=>te σ H fun x H1=>tl σ H1 fun l H2=>th σ H2 fun u H3=>r x l u H3 Q
theorem Au {r:V->Option Int->Option Int->Hp->VK->Prop}(hr:SlR X r) (he:PE X e te) (hl:PO X lo tl) (hu:PO X hi th):PE X (.Subscript e (.Slice lo hi none p2) pos) (tSl r te tl th):=by intro pins s σ H Q I h;refine Subscript_ (thn (he pins s σ H _ I h) fun v s1 ⟨x,H1,I1,r1,q1⟩=>?_);refine wpAny_Slice (thn (hl pins s1 σ H1 _ I1 q1) fun vl s2 ⟨l,H2,I2,pl,q2⟩=>thn (hu pins s2 σ H2 _ I2 q2) fun vu s3 ⟨u,H3,I3,pu,q3⟩=>?_);rw[evalPart_none];refine wpAny_pure ?_;have I4:Inv X pins σ H3 {s3 with heap:=s3.heap.push {cls:=.type "slice",data:=.fields #[vl,vu,.none]}}:=I3.kept (t':=s3.toks) fun b ob q=>Heap.get?_push_of_some _ q;obtain⟨T,id,hT,ht,hg⟩:=hr pins {s3 with heap:=s3.heap.push {cls:=.type "slice",data:=.fields #[vl,vu,.none]}} σ H3 x v vl vu l u s3.heap.objs.size Q I4 r1 (Heap.IsSliceOf.new ..) pl pu q3;show wpAny (model X.prog X.w) X.A (subscriptTail e (.Slice lo hi none p2) v (.ref s3.heap.objs.size)) (EP X pins σ Q) X.xe {s3 with heap:=s3.heap.push {cls:=.type "slice",data:=.fields #[vl,vu,.none]}};exact tail_any (ops:=[.ref s3.heap.objs.size,v]) ht hT hg (by with_unfolding_all rfl)
def Jm (xs:List V) (lo hi:Option Int):List V:=(xs.drop (HT.sIx xs.length 0 lo)).take (HT.sIx xs.length xs.length hi - HT.sIx xs.length 0 lo)
theorem Xg(xs:List V)(lo hi:Option Int):(Jm xs lo hi).length<=xs.length:=by unfold Jm;rw[qV,List.length_drop];omega
def GJ (K:PySem.W.Frag):V->Option Int->Option Int->Hp->VK->Prop:=fun x lo hi H Q=>∃ a xs,x=.ref a/\SqT K H a xs/\
 ¬ (HT.sIx xs.length 0 lo=0/\HT.sIx xs.length xs.length hi=xs.length)/\∀ p,H p=none->Q (.ref p) (upd H p (.tup (Jm xs lo hi)))
theorem sl_tup:SlR X (GJ X.K):=by
 intro pins s σ H x v vl vu lo hi sl Q I rx hs pl pu h;obtain⟨a,xs,rfl,hx,hw,q⟩:=h;cases rx;obtain⟨its,r,ht,hz⟩:=I.tuple hx;have hlen:its.toArray.size=xs.length:=by rw[qC];exact r.length.symm
 refine⟨"tuple",_,PyProof.Rows.slot_tuple_getitem.lookup,ht.typeIs,?_⟩;refine HT.getItem_tuple_cut ht hs pl pu (by rw[hlen];exact hw) ?_ (by rw[hlen];exact hz);rw[hlen];refine⟨.ref s.heap.objs.size,_,I.laid (t':=s.toks) (o:=.tup (Jm xs lo hi)) (fun b ob q=>Heap.get?_push_of_some _ q) (zG _) ?_,rfl,q _ (I.hok.fresh (zG _))⟩;exact⟨zE (Xg xs lo hi) hz,_,(r.drop (HT.sIx xs.length 0 lo)).take (HT.sIx xs.length xs.length hi - HT.sIx xs.length 0 lo),IsTup.new _ _⟩
def GH (K:PySem.W.Frag):R2:=fun x y H Q=>∃ a b ns ms,x=.ref a/\y=.ref b/\SqT K H a (ns.map V.int)/\SqT K H b (ms.map V.int)/\Q (.bl (HT.lexLt ns ms)) H
theorem Ep(hu:X.A.units<cLine):OpR X (compareOp .Lt) (GH X.K):=by intro pins s σ H x y v u Q I rx ry h;obtain⟨a,b,ns,ms,rfl,rfl,ha,hb,q⟩:=h;cases rx;cases ry;obtain⟨its,r1,p1,_⟩:=I.tuple ha;obtain⟨its2,r2,p2,_⟩:=I.tuple hb;have i1:IntsAre its.toArray.toList ns:=ZF r1;have i2:IntsAre its2.toArray.toList ms:=ZF r2;exact HT.lt_tupInts p1 p2 i1 i2 hu ⟨.bl (HT.lexLt ns ms),H,I,rfl,q⟩
def CT (K:PySem.W.Frag):R2:=fun x y H Q=>∃ a b xs ys,x=.ref a/\y=.ref b/\SqT K H a xs/\SqT K H b ys/\xs≠[]/\xs.length+ys.length<=sizeLine/\
 (ys=[]->Q (.ref a) H)/\(ys≠[]->∀ p,H p=none->Q (.ref p) (upd H p (.tup (xs++ys))))
theorem Vals.nil_iff{xs:List V}{us:List Value}(r:Vals xs us):us=[]↔xs=[]:=by
 cases r with
 |nil=>simp
 |cons _ _=>simp
theorem BE:OpR X (binaryOp .Add) (CT X.K):=by intro pins s σ H x y v u Q I rx ry h;obtain⟨a,b,xs,ys,rfl,rfl,ha,hb,hx,hz,q1,q2⟩:=h;cases rx;cases ry;obtain⟨its,r1,p1,_⟩:=I.tuple ha;obtain⟨its2,r2,p2,_⟩:=I.tuple hb;refine HT.cat_tup p1 p2 (fun z=>hx (r1.nil_iff.mp z)) (fun z=>⟨.ref a,H,I,rfl,q1 (r2.nil_iff.mp z)⟩) (fun z=>?_) (by rw[<-r1.length,<-r2.length];exact hz);refine⟨.ref s.heap.objs.size,_,I.laid (t':=s.toks) (o:=.tup (xs++ys)) (fun b ob q=>Heap.get?_push_of_some _ q) (zG _) ?_,rfl,q2 (fun w=>z (r2.nil_iff.mpr w)) _ (I.hok.fresh (zG _))⟩;exact⟨by rw[qU];exact hz,_,r1.append r2,IsTup.new _ _⟩
end
def ixN (n:Nat) (i:Int):Option Nat:=if 0<=i then(if i<n then some i.toNat else none)else if -(n:Int)<=i then some (i+n).toNat else none
def atI {α:Type}(xs:List α) (i:Int):Option α:=(ixN xs.length i).bind fun j=>xs[j]?
theorem MR{n:Nat}{i:Int}{j:Nat}(h:ixN n i=some j):seqIndex? i n=some j/\j<n/\-(n:Int)<=i/\i<n:=by
 unfold ixN at h;by_cases h0:0<=i
 .rw[if_pos h0]at h;by_cases h1:i<n
  .rw[if_pos h1]at h;have e:i.toNat=j:=Option.some.inj h;exact⟨by rw[seqIndex_of h0 h1,e],by omega,by omega,h1⟩
  .rw[if_neg h1]at h;cases h
 .rw[if_neg h0]at h;by_cases h1:-(n:Int)<=i
  .rw[if_pos h1]at h;have e:(i+n).toNat=j:=Option.some.inj h;exact⟨by rw[seqIndex_neg (by omega) h1,e],by omega,h1,by omega⟩
  .rw[if_neg h1]at h;cases h
theorem Jz{α:Type}{xs:List α}{i:Int}{v:α}(h:atI xs i=some v):∃ j,seqIndex? i xs.length=some j/\xs[j]?=some v/\j<xs.length/\-(xs.length:Int)<=i/\i<xs.length:=by
 unfold atI at h;cases e:ixN xs.length i with
 |none=>rw[e]at h;cases h
 |some j =>rw[e]at h;obtain⟨h1,h2,h3,h4⟩:=MR e;exact⟨j,h1,h,h2,h3,h4⟩
def JP (b:Expr):Prop:=∀ o i,subscripted b false o i=operate [o,i] (getItem o i)
def IxR (X:Cx) (r:R2):Prop :=
 ∀ (value slice:Expr) (pins:List (Addr×Obj)) (s:Shared) (σ:St) (H:Hp) (x y:V) (v u:Value) (Q:VK),Inv X pins σ H s->RelV x v->RelV y u->r x y H Q->
  subscripted slice false v u=operate [v,u] (getItem v u)->wpAny (model X.prog X.w) X.A (subscriptTail value slice v u) (EP X pins σ Q) X.xe s
def MtR (X:Cx) (id:String) (r:V->List V->Hp->VK->Prop):Prop :=
 ∀ (pins:List (Addr×Obj)) (s:Shared) (σ:St) (H:Hp) (x:V) (xs:List V) (v:Value) (us:List Value) (Q:VK),Inv X pins σ H s->RelV x v->Vals xs us->r x xs H Q->
  wpAny (model X.prog X.w) X.A (call (.builtin id) (v::us)) (EP X pins σ Q) X.xe s
section
variable {X:Cx}{a b:Expr}{ta tb:TE}{pos:Pos}
theorem IxR.or{r r':R2}(h:IxR X r)(h':IxR X r'):IxR X (fun x y H Q=>r x y H Q\/r' x y H Q):=by
 intro value slice pins s σ H x y v u Q I rx ry q hs;rcases q with q|q
 .exact h value slice pins s σ H x y v u Q I rx ry q hs
 .exact h' value slice pins s σ H x y v u Q I rx ry q hs
theorem MtR.or{id:String}{r r':V->List V->Hp->VK->Prop}(h:MtR X id r)(h':MtR X id r'):MtR X id (fun x xs H Q=>r x xs H Q\/r' x xs H Q):=by
 intro pins s σ H x xs v us Q I rx rs q;rcases q with q|q
 .exact h pins s σ H x xs v us Q I rx rs q
 .exact h' pins s σ H x xs v us Q I rx rs q
theorem GX{r:R2}(hr:IxR X r)(ha:PE X a ta)(hb:PE X b tb)(hs:JP b):PE X (.Subscript a b pos) (tOp r ta tb):=by intro pins s σ H Q I h;exact Subscript_ (EJ ha hb I h fun v u s2 x y H2 I2 rx ry q=>hr a b pins s2 σ H2 x y v u Q I2 rx ry q (hs _ _))
def FW (K:PySem.W.Frag):R2:=fun x y H Q=>∃ p xs i v,x=.ref p/\y=.int i/\SqL K H p xs/\atI xs i=some v/\Q v H
def Gu (K:PySem.W.Frag):R2:=fun x y H Q=>∃ p xs i v,x=.ref p/\y=.int i/\SqT K H p xs/\atI xs i=some v/\Q v H
def Ht:R2:=fun x y H Q=>∃ z i c,x=.str z/\y=.int i/\z.length<=sizeLine/\atI z.cps.toList i=some c/\Q (.str ⟨#[c]⟩) H
theorem ix_list:IxR X (FW X.K):=by
 intro value slice pins s σ H x y v u Q I rx ry h hs;obtain⟨p,xs,i,z,rfl,rfl,hq,he,q⟩:=h;cases rx;obtain⟨t,rfl⟩:=ry;obtain⟨its,r,pl,hz⟩:=I.list hq;obtain⟨j,h1,h2,h3,h4,h5⟩:=Jz he;obtain⟨w,ew,rw'⟩:=r.get h2;have hl:=r.length;have hn:=Yy;have fin:EP X pins σ Q w s:=⟨z,H,I,rw',q⟩
 by_cases h0:0<=i
 .have hj:i.toNat=j:=by
   rw[seqIndex_of h0 h5]at h1;exact Option.some.inj h1
  exact item_listR pl.isList h0 (by omega) (by rw[hj];simpa using ew) fin hs
 .have hj:(i+(its.toArray.size:Int)).toNat=j:=by
   rw[seqIndex_neg (by omega) h4]at h1;rw[qC,<-hl];exact Option.some.inj h1
  exact subscriptTail_builtinR (x:=w) pl.isList.typeIs slot_list_getitem.lookup
   (wpAny_getItem_list_neg (Q:=fun r s'=>r=w/\EP X pins σ Q r s') pl.isList (by omega) (by rw[qC]<;>omega) (by omega) (by rw[hj];simpa using ew) ⟨rfl,fin⟩) hs
theorem ix_tup:IxR X (Gu X.K):=by
 intro value slice pins s σ H x y v u Q I rx ry h hs;obtain⟨p,xs,i,z,rfl,rfl,hq,he,q⟩:=h;cases rx;obtain⟨t,rfl⟩:=ry;obtain⟨its,r,pl,hz⟩:=I.tuple hq;obtain⟨j,h1,h2,h3,h4,h5⟩:=Jz he;obtain⟨w,ew,rw'⟩:=r.get h2;have hl:=r.length;have hn:=Yy;have fin:EP X pins σ Q w s:=⟨z,H,I,rw',q⟩
 exact subscriptTail_builtinR (x:=w) pl.typeIs slot_tuple_getitem.lookup
  (getItem_tuple (j:=j) (Q:=fun r s'=>r=w/\EP X pins σ Q r s') pl (by omega) (by omega) (by rw[qC,<-hl];exact h1) (by simpa using ew) ⟨rfl,fin⟩) hs
theorem Du:IxR X Ht:=by
 intro value slice pins s σ H x y v u Q I rx ry h hs;obtain⟨z,i,c,rfl,rfl,hz,he,q⟩:=h;obtain⟨t,rfl⟩:=rx;obtain⟨t',rfl⟩:=ry;obtain⟨j,h1,h2,h3,h4,h5⟩:=Jz he;have hl:z.cps.toList.length=z.length:=by simp[Str.length]
 rw[hl]at h1 h4 h5;have hn:=Yy;exact tail_any (typeIs_str s z t) slot_str_getitem.lookup (getItem_str (c:=c) (by
   have e1:decide (i < -(2 ^ 63:Int))=false:=qP (by omega)
   have e2:decide (i≥2 ^ 63)=false:=qP (by omega)
   rw[e1,e2,Bool.or_false]) (by rw[h1];simpa using h2) ⟨.str ⟨#[c]⟩,H,I.tok _,⟨_,rfl⟩,q⟩) hs
def rIx (K:PySem.W.Frag):R2:=fun x y H Q=>FW K x y H Q\/Gu K x y H Q\/Ht x y H Q
theorem ix_seq:IxR X (rIx X.K):=ix_list.or (ix_tup.or Du)
theorem Mg (its:List Value) (n j:Nat) (u:Value):Obj.mapSeq (·.setIfInBounds j u) {cls:=.type "list",data:=.seq its.toArray n}={cls:=.type "list",data:=.seq (its.set j u).toArray n}:=by simp[Obj.mapSeq]
theorem Inv.lst{pins:List (Addr×Obj)}{σ:St}{H:Hp}{s:Shared}{p:Addr}{xs:List V}(I:Inv X pins σ H s)(h:H p=some (.lst xs)) :
  ∃ (its:List Value) (n:Nat),Vals xs its/\s.heap.get? p=some {cls:=.type "list",data:=.seq its.toArray n}/\xs.length<=sizeLine:=by
 obtain⟨z,its,n,r,e⟩:=I.hok p _ h;exact⟨its,n,r,e,z⟩
theorem Inv.lstUpd{pins:List (Addr×Obj)}{σ:St}{H:Hp}{s:Shared}{p:Addr}{xs ys:List V}{its its':List Value}{n n':Nat}{f:Obj->Obj}(I:Inv X pins σ H s)(h:H p=some (.lst xs))
  (ho:s.heap.get? p=some {cls:=.type "list",data:=.seq its.toArray n}) (hf:f {cls:=.type "list",data:=.seq its.toArray n}={cls:=.type "list",data:=.seq its'.toArray n'}) (r:Vals ys its') (hz:ys.length<=sizeLine) (t:Nat) :
  Inv X pins σ (upd H p (.lst ys)) {s with heap:=s.heap.update p f,toks:=t}:=by
 have e:(s.heap.update p f).get? p=some {cls:=.type "list",data:=.seq its'.toArray n'}:=by rw[Heap.get?_update_self f ho (by rw[hf]<;>rfl),hf]
 refine I.write (x:=p) (e:=p) (by rw[h];trivial) (.inl rfl) (fun b u hb q=>(Heap.get?_update_other _ _ (Ne.symm hb)).trans q) ⟨_,e⟩ ?_;exact⟨hz,its',n',r,e⟩
def CJ:V->V->V->Hp->(Hp->Prop)->Prop:=fun o i v H Q=>∃ p xs k j,o=.ref p/\i=.int k/\H p=some (.lst xs)/\ixN xs.length k=some j/\Q (upd H p (.lst (xs.set j v)))
theorem Uv:PSet X CJ:=by
 intro pins s σ H o i v ov iv u Q I ro ri rv h;obtain⟨p,xs,k,j,rfl,rfl,hp,hj,q⟩:=h;cases ro;obtain⟨t,rfl⟩:=ri;obtain⟨its,n,r,ho,hz⟩:=I.lst hp;obtain⟨h1,h2,h3,h4⟩:=MR hj;have hl:=r.length;have hn:=Yy;have I':Inv X pins σ (upd H p (.lst (xs.set j v))) {s with heap:=s.heap.update p (Obj.mapSeq (·.setIfInBounds j u))} :=
  I.lstUpd hp ho (Mg its n j u) (r.set rv j) (by rw[List.length_set];exact hz) s.toks
 by_cases h0:0<=k
 .have hk:k.toNat=j:=by
   rw[seqIndex_of h0 h4]at h1;exact Option.some.inj h1
  exact PySem.W.ki_setAt ho h0 (by omega) (by rw[qC,<-hl];exact h4) (by rw[hk];exact⟨_,I',q⟩)
 .have hk:(k+(its.toArray.size:Int)).toNat=j:=by
   rw[seqIndex_neg (by omega) h3]at h1;rw[qC,<-hl];exact Option.some.inj h1
  exact PySem.W.ki_setBack ho (by omega) (by rw[qC,<-hl];exact h3) (by omega) (by rw[hk];exact⟨_,I',q⟩)
theorem Jk(lo hi:Option Int)(n:Nat):(sliceBounds lo hi none n).1=((HT.sIx n 0 lo:Nat):Int)/\(sliceBounds lo hi none n).2.1=((HT.sIx n n hi:Nat):Int)/\(sliceBounds lo hi none n).2.2=1:=by
 refine⟨?_,?_,rfl⟩
 .cases lo with
  |none=>simp[sliceBounds,HT.sIx]
  |some i =>
   simp only[sliceBounds,HT.sIx,Option.getD_none,show(1:Int) > 0 by decide,if_true];by_cases h:i<0
   .simp only[h,if_true]<;>omega
   .simp only[h,if_false]<;>omega
 .cases hi with
  |none=>simp[sliceBounds,HT.sIx]
  |some i =>
   simp only[sliceBounds,HT.sIx,Option.getD_none,show(1:Int) > 0 by decide,if_true];by_cases h:i<0
   .simp only[h,if_true]<;>omega
   .simp only[h,if_false]<;>omega
theorem WE(its:List Value)(lo hi:Option Int):slicePick its.toArray lo hi none=((its.drop (HT.sIx its.length 0 lo)).take (HT.sIx its.length its.length hi - HT.sIx its.length 0 lo)).toArray:=by obtain⟨h1,h2,h3⟩:=Jk lo hi its.toArray.size;unfold slicePick;rw[h1,h2,h3];simp only[sliceRange_one,pick_run,qC]<;>rfl
def Gg (K:PySem.W.Frag):V->Option Int->Option Int->Hp->VK->Prop:=fun x lo hi H Q=>∃ a xs,x=.ref a/\SqL K H a xs/\∀ p,H p=none->Q (.ref p) (upd H p (.lst (Jm xs lo hi)))
theorem sl_list:SlR X (Gg X.K):=by intro pins s σ H x v vl vu lo hi sl Q I rx hs pl pu h;obtain⟨a,xs,rfl,hx,q⟩:=h;cases rx;obtain⟨its,r,ht,hz⟩:=I.list hx;have hlen:=r.length;refine⟨"list",_,slot_list_getitem.lookup,ht.isList.typeIs,?_⟩;refine wpAny_getItem_list_slice ht.isList hs pl pu .none (by simp) ?_ (by rw[qC]<;>omega);rw[WE,<-hlen];refine⟨.ref s.heap.objs.size,_,I.laid (t':=s.toks) (o:=.lst (Jm xs lo hi)) (fun b ob q=>Heap.get?_push_of_some _ q) (zG _) ?_,rfl,q _ (I.hok.fresh (zG _))⟩;exact⟨zE (Xg xs lo hi) hz,_,0,(r.drop (HT.sIx xs.length 0 lo)).take (HT.sIx xs.length xs.length hi - HT.sIx xs.length 0 lo),Heap.get?_push_size _ rfl⟩
def eqV:V->V->Bool
 |.non,.non=>true
 |.bl a,.bl b=>a==b
 |.bl a,.int b=>(if a then 1 else 0)==b
 |.int a,.bl b=>a==(if b then 1 else 0)
 |.int a,.int b=>a==b
 |.str a,.str b=>a==b
 |_,_=>false
def inV (x:V) (xs:List V):Bool:=xs.any fun y=>eqV y x
theorem Jy:OpR X (compareOp .NotIn) (fun x y H Q=>∃ i j,x=.str i/\y=.str j/\Q (.bl (!(!(Builtin.Str.occurrences j i 0 j.length 1).isEmpty))) H):=by intro pins s σ H x y v u Q I rx ry h;obtain⟨i,j,rfl,rfl,q⟩:=h;obtain⟨t,rfl⟩:=rx;obtain⟨t',rfl⟩:=ry;exact notIn_str ⟨.bl _,H,I,rfl,q⟩
theorem call_len_seq:CallR X (.builtin "len") (fun xs H Q=>∃ p ys,xs=[.ref p]/\(SqL X.K H p ys\/SqT X.K H p ys)/\Q (.int ys.length) H):=by
 intro pins s σ H xs us Q I r h;obtain⟨p,ys,rfl,hq,q⟩:=h;obtain⟨u,rfl,rx⟩:=ZQ r;cases rx;have hn:=Yy;rcases hq with hq|hq
 .obtain⟨its,r',pl,hz⟩:=I.list hq;have hlen:=r'.length;exact Calls.call_len_list pl.isList (by simp only[qC]<;>omega) ⟨.int ys.length,H,I.tok _,⟨s.toks+1,by rw[qC,hlen]⟩,q⟩
 .obtain⟨its,r',pl,hz⟩:=I.tuple hq;have hlen:=r'.length;exact len_tuple pl (by simp only[qC]<;>omega) ⟨.int ys.length,H,I.tok _,⟨s.toks+1,by rw[qC,hlen]⟩,q⟩
theorem JM:CallR X (.builtin "len") (fun xs H Q=>∃ z,xs=[.str z]/\z.length<=sizeLine/\Q (.int z.length) H):=by intro pins s σ H xs us Q I r h;obtain⟨z,rfl,hz,q⟩:=h;obtain⟨u,rfl,t,rfl⟩:=ZQ r;have hn:=Yy;exact len_str (by omega) ⟨.int z.length,H,I.tok _,⟨_,rfl⟩,q⟩
theorem CallR.or{f:Value}{r r':List V->Hp->VK->Prop}(h:CallR X f r)(h':CallR X f r'):CallR X f (fun xs H Q=>r xs H Q\/r' xs H Q):=by
 intro pins s σ H xs us Q I rs q;rcases q with q|q
 .exact h pins s σ H xs us Q I rs q
 .exact h' pins s σ H xs us Q I rs q
theorem Je:CallR X (.type "list") (fun xs H Q=>∃ p ys,xs=[.ref p]/\(SqL X.K H p ys\/SqT X.K H p ys)/\∀ l,H l=none->Q (.ref l) (upd H l (.lst ys))):=by
 intro pins s σ H xs us Q I r h;obtain⟨p,ys,rfl,hq,q⟩:=h;obtain⟨u,rfl,rx⟩:=ZQ r;cases rx;have fin:∀ (its:List Value),Vals ys its->ys.length<=sizeLine->∀ (h':Heap) (c':Nat),(∀ b o',s.heap.get? b=some o'->h'.get? b=some o')->
   h'.get? s.heap.objs.size=some {cls:=.type "list",dict:=none,data:=.seq its.toArray c',slots:=#[]}->EP X pins σ Q (.ref s.heap.objs.size) {s with heap:=h'}:=fun its r' hz h' c' kp e =>
  ⟨.ref s.heap.objs.size,_,I.laid (t':=s.toks) kp (zG _) (show ObjOk X.prog X.w _ h' _ (.lst ys) from ⟨hz,its,c',r',e⟩),rfl,q _ (I.hok.fresh (zG _))⟩
 rcases hq with hq|hq
 .obtain⟨its,r',pl,hz⟩:=I.list hq;have hlen:=r'.length;obtain⟨o,ho,hc,n,hd⟩:=pl.isList;exact call_list_seq p (.inl rfl) ho hc hd (fun h' c' kp e=>fin its r' hz h' c' kp e) (by simp only[qC]<;>omega)
 .obtain⟨its,r',pl,hz⟩:=I.tuple hq;have hlen:=r'.length;obtain⟨o,ho,hc,n,hd⟩:=pl;exact call_list_seq p (.inr rfl) ho hc hd (fun h' c' kp e=>fin its r' hz h' c' kp e) (by simp only[qC]<;>omega)
theorem WB:CallR X (.type "tuple") (fun xs H Q=>∃ p ys,xs=[.ref p]/\((SqL X.K H p ys/\∀ l,H l=none->Q (.ref l) (upd H l (.tup ys)))\/(SqT X.K H p ys/\Q (.ref p) H))):=by
 intro pins s σ H xs us Q I r h;obtain⟨p,ys,rfl,h⟩:=h;obtain⟨u,rfl,rx⟩:=ZQ r;cases rx;rcases h with⟨hq,q⟩|⟨hq,q⟩
 .obtain⟨its,r',pl,hz⟩:=I.list hq;have hlen:=r'.length;refine call_tuple_list pl.isList (fun h' kp=>?_) (by simp only[qC]<;>omega);have I1:Inv X pins σ H {s with heap:=h'}:=I.kept (t':=s.toks) kp;have I2:Inv X pins σ (upd H h'.objs.size (.tup ys)) {s with heap:=h'.push {cls:=.type "tuple",data:=.seq its.toArray}} :=
   I1.laid (t':=s.toks) (fun b o e=>Heap.get?_push_of_some _ e) (zG _) (show ObjOk X.prog X.w _ _ _ (.tup ys) from ⟨hz,its,r',IsTup.new _ _⟩)
  exact⟨.ref h'.objs.size,_,I2,rfl,q _ (I1.hok.fresh (zG _))⟩
 .obtain⟨its,r',pl,hz⟩:=I.tuple hq;exact call_tuple_same pl ⟨.ref p,H,I,rfl,q⟩
def tyV (K:PySem.W.Frag) (T:String) (x:V) (H:Hp):Prop:=match x with
 |.str _=>T = "str"
 |.int _=>T = "int"
 |.ref p=>(T = "list"/\∃ xs,SqL K H p xs)\/(T = "tuple"/\∃ o,K.lookup p=some o/\o.cls=.type "tuple"/\o.dict=none)\/
   (T = "dict"/\((∃ kvs,H p=some (.dK kvs))\/∃ kvs,H p=some (.dT kvs)))\/(T = "set"/\∃ S n,H p=some (.set S n))
 |_=>False
theorem Am{pins:List (Addr×Obj)}{σ:St}{H:Hp}{s:Shared}{T:String}{x:V}{v:Value}(I:Inv X pins σ H s)(r:RelV x v)(ty:tyV X.K T x H) :
  s.TypeIs v T/\∀ a,v=.ref a->∃ ob,s.heap.get? a=some ob/\ob.dict=none:=by
 cases x with
 |str z =>obtain⟨t,rfl⟩:=r;cases (show T = "str" from ty);exact⟨typeIs_str s z t,fun _ e=>nomatch e⟩
 |int i =>obtain⟨t,rfl⟩:=r;cases (show T = "int" from ty);exact⟨typeIs_int s i t,fun _ e=>nomatch e⟩
 |ref p =>
  cases r;rcases ty with⟨rfl,xs,hq⟩|⟨rfl,o,hk,hc,hd⟩|⟨rfl,hk⟩|⟨rfl,S,n,hk⟩
  .obtain⟨its,_,pl,_⟩:=I.list hq;refine⟨pl.isList.typeIs,fun a e=>?_⟩;cases e;obtain⟨o,n,e,c,hd,_⟩:=pl;exact⟨o,e,hd⟩
  .refine⟨⟨o,I.kIn p o hk,hc⟩,fun a e=>?_⟩;cases e;exact⟨o,I.kIn _ o hk,hd⟩
  .have z:∃ o,s.heap.get? p=some o/\o.ExactDict:=by
    rcases hk with⟨kvs,hk⟩|⟨kvs,hk⟩
    .obtain⟨_,_,_,_,o,_,_,e,ex,_⟩:=I.hok p _ hk;exact⟨o,e,ex⟩
    .obtain⟨_,_,_,_,o,_,_,e,ex,_⟩:=I.hok p _ hk;exact⟨o,e,ex⟩
   obtain⟨o,e,ex⟩:=z;refine⟨⟨o,e,ex.1⟩,fun a e2=>?_⟩;cases e2;exact⟨o,e,ex.2.1⟩
  .obtain⟨o,_,_,_,e,ex,_⟩:=I.hok p _ hk;refine⟨⟨o,e,ex.1⟩,fun a e2=>?_⟩;cases e2;exact⟨o,e,ex.2.1⟩
 |_=>exact False.elim ty
def IR (K:PySem.W.Frag) (T:String) (r:V->List V->Hp->VK->Prop) (to:TE):TE:=fun σ H Q=>to σ H fun x H1=>tyV K T x H1/\r x [] H1 Q
def tBM (K:PySem.W.Frag) (T:String) (r:V->List V->Hp->VK->Prop) (to:TE) (t:TA):TE:=fun σ H Q=>to σ H fun x H1=>tyV K T x H1/\t σ H1 fun xs H2=>r x xs H2 Q
variable {o e:Expr}{es:List Expr}{to:TE}{t:TA}{name:Str}{apos cpos:Pos}{T id:String}{r:V->List V->Hp->VK->Prop}
theorem Fv (pa:PlainAttrs T) (slot:Slot T name id) (hty:typeOf (.builtin id)=pure (.type "method_descriptor")) (hm:MtR X id r) (ho:PE X o to)
  (hbase:attributeBase o name X.env (eval o X.env)=eval o X.env:=by rfl) (hline:(apos.endLine==cpos.line)=true:=by rfl):PE X (.Call (.Attribute o name apos) [] [] cpos) (IR X.K T r to):=by
 intro pins s σ H Q I h;refine wpAny_Call_method0_late hbase hline (thn (ho pins s σ H _ I h) fun v s1 ⟨x,H1,I1,r1,ty,q1⟩=>?_);obtain⟨h1,h2⟩:=Am I1 r1 ty;exact⟨T,id,pa,slot,hty,h1,h2,Calls.callWith_builtin rfl (PySem.evalArgs_none (hm pins s1 σ H1 x [] v [] Q I1 r1 .nil q1))⟩
theorem F8 (pa:PlainAttrs T) (slot:Slot T name id) (hty:typeOf (.builtin id)=pure (.type "method_descriptor")) (hm:MtR X id r) (ho:PE X o to) (ha:PA X (e::es) t)
  (hbase:attributeBase o name X.env (eval o X.env)=eval o X.env:=by rfl)
  (hfew:((backTo cpos (starEach (e::es) X.env)).all (fun x=>!x.1)&&(backToKw cpos (keywordEach [] X.env)).all (fun x=>x.1.isSome)
    && decide ((e::es).length+([]:List Keyword).length+(if([]:List Keyword).isEmpty then 0 else 1)<30))=true:=by rfl)
  (hline:(apos.endLine==cpos.line)=true:=by rfl) (hs:starEach (e::es) X.env=(false,eval e X.env)::starEach es X.env:=by rfl) (hplain:(backTo cpos (starEach es X.env)).any (·.1)=false:=by rfl) :
  PE X (.Call (.Attribute o name apos) (e::es) [] cpos) (tBM X.K T r to t):=by
 intro pins s σ H Q I h;refine wpAny_Call_method_late hbase hfew hline rfl (thn (ho pins s σ H _ I h) fun v s1 ⟨x,H1,I1,r1,ty,q1⟩=>?_);obtain⟨h1,h2⟩:=Am I1 r1 ty;refine⟨T,id,pa,slot,hty,h1,h2,?_⟩;have hA:=ha cpos pins s1 σ H1 _ I1 q1;rw[hs]at hA ⊢;refine Calls.callWith_builtin (by show(false||(backTo cpos (starEach es X.env)).any (·.1))=false;rw[hplain]<;>rfl) (Calls.evalArgs_plain ?_);exact thn hA fun us s2 ⟨vs,H2,I2,r2,q2⟩=>hm pins s2 σ H2 x vs v us Q I2 r1 r2 q2
/- xs.append(e),list.index on a module's tuple .. are MtR facts of 06m -/
end
def MtM (X:Cx) (id:String) (r:V->List V->Hp->VK->Prop):Prop :=
 ∀ (pins:List (Addr×Obj)) (s:Shared) (σ:St) (H:Hp) (x:V) (xs:List V) (v:Value) (us:List Value) (Q:VK),Inv X pins σ H s->RelV x v->Vals xs us->r x xs H Q->
  wpAny (model X.prog X.w) X.A (call (.builtin id) (v::us)) (EP X pins σ Q) X.xe s
theorem Vals.one:∀ {x:V}{us:List Value},Vals [x] us->∃ u,us=[u]/\RelV x u
 |_,_,.cons r .nil=>⟨_,rfl,r⟩
theorem Vals.two:∀ {x y:V}{us:List Value},Vals [x,y] us->∃ u v,us=[u,v]/\RelV x u/\RelV y v
 |_,_,_,.cons r (.cons q .nil)=>⟨_,_,rfl,r,q⟩
theorem Vals.zero:∀ {us:List Value},Vals [] us->us=[]
 |_,.nil=>rfl
theorem Vals.dropLast{xs:List V}{us:List Value}(h:Vals xs us):Vals xs.dropLast us.dropLast:=by
 induction h with
 |nil=>exact .nil
 |cons r t ih =>
  cases t with
  |nil=>exact .nil
  |cons q t'=>exact .cons r ih
theorem Vals.eraseIdx:∀ {xs:List V}{us:List Value}(i:Nat),Vals xs us->Vals (xs.eraseIdx i) (us.eraseIdx i)
 |_,_,_,.nil=>.nil
 |_,_,0,.cons _ t=>t
 |_,_,i+1,.cons r t=>.cons r (Vals.eraseIdx i t)
theorem Vals.reverse{xs:List V}{us:List Value}(h:Vals xs us):Vals xs.reverse us.reverse:=by
 induction h with
 |nil=>exact .nil
 |cons r t ih=>rw[List.reverse_cons,List.reverse_cons];exact Vals.append ih (.cons r .nil)
theorem Vals.rep{xs:List V}{us:List Value}(h:Vals xs us):∀ k:Nat,Vals (List.replicate k xs).flatten (List.replicate k us).flatten
 |0=>.nil
 |k+1=>by rw[List.replicate_succ,List.replicate_succ,List.flatten_cons,List.flatten_cons];exact Vals.append h (Vals.rep h k)
theorem WQ(its:List Value):∀ (k:Nat) (acc:List Value),
  List.foldl (fun x1 x2=>x1++x2) acc.toArray (List.replicate k its.toArray)=(acc++(List.replicate k its).flatten).toArray
 |0,acc=>by simp
 |k+1,acc=>by
  have e:acc.toArray++its.toArray=(acc++its).toArray:=by simp
  have e2:(acc++its)++(List.replicate k its).flatten=acc++(List.replicate (k+1) its).flatten:=by rw[List.replicate_succ,List.flatten_cons,List.append_assoc]
  rw[<-e2,<-WQ its k (acc++its),<-e,List.replicate_succ,List.foldl_cons]
section
variable {X:Cx}{pins:List (Addr×Obj)}{σ:St}{H:Hp}{s:Shared}{l b:Addr}{xs ys zs:List V}
theorem Inv.lset{its its':List Value}{n:Nat}{f:Array Value->Array Value}{t':Nat}(I:Inv X pins σ H s)(hH:H l=some (.lst xs))
  (e:s.heap.get? l=some {cls:=.type "list",data:=.seq its.toArray n}) (hf:f its.toArray=its'.toArray) (hv:Vals ys its') (hz:ys.length<=sizeLine) :
  Inv X pins σ (upd H l (.lst ys)) {s with heap:=s.heap.update l (Obj.mapSeq f),toks:=t'}:=by
 have q:=PySem.IsL.update e f;rw[hf]at q;refine I.write (x:=l) (e:=l) (by rw[hH];exact trivial) (.inl rfl) (fun b' u hb hu=>(Heap.get?_update_other s.heap (Obj.mapSeq f) (Ne.symm hb)).trans hu) ⟨_,q⟩ ?_;exact⟨hz,its',_,hv,q⟩
theorem Inv.lnew{its:List Value}{t':Nat}(I:Inv X pins σ H s)(hv:Vals ys its)(hz:ys.length<=sizeLine) :
  Inv X pins σ (upd H s.heap.objs.size (.lst ys)) {s with heap:=s.heap.push {cls:=.type "list",data:=.seq its.toArray},toks:=t'} :=
 I.laid (fun _ _ q=>Heap.get?_push_of_some _ q) (zG _) ⟨hz,its,0,hv,Heap.get?_push_size _ rfl⟩
theorem Inv.fresh(I:Inv X pins σ H s):H s.heap.objs.size=none:=I.hok.fresh (zG _)
theorem Inv.lstM (I:Inv X pins σ H s) (hH:H l=some (.lst xs)):xs.length<=sizeLine/\∃ (its:List Value) (n:Nat),Vals xs its/\xs.length=its.length/\s.heap.get? l=some {cls:=.type "list",data:=.seq its.toArray n}:=by obtain⟨z,its,n,r,e⟩:=I.hok l _ hH;exact⟨z,its,n,r,r.length,e⟩
theorem OI{n:Nat}(h:n<=sizeLine):Builtin.List.listTooLong n=false:=by unfold Builtin.List.listTooLong;exact qP (by omega)
end
section
variable {X:Cx}
def M4:V->List V->Hp->VK->Prop:=fun x vs H Q=>∃ l xs y,x=.ref l/\vs=[y]/\H l=some (.lst xs)/\xs.length<sizeLine/\Q .non (upd H l (.lst (xs++[y])))
theorem NW:MtM X "list.append" M4:=by intro pins s σ H x vs v us Q I rx rv h;obtain⟨l,xs,y,rfl,rfl,hH,hz,q⟩:=h;cases rx;obtain⟨u,rfl,ru⟩:=rv.one;obtain⟨z,its,n,r,hl,e⟩:=I.lstM hH;refine call_meets F.slot_list_append ⟨_,e,rfl⟩ F.entry_list_append (F.args_list_append_2 _ _) (PySem.list_append l its.toArray n u (by rw[qC];omega)) ⟨e,?_⟩;refine⟨.non,_,I.lset (its':=its++[u]) hH e (by simp) (r.append (.cons ru .nil)) ?_,rfl,q⟩;rw[qU,List.length_singleton];omega
def OK:V->List V->Hp->VK->Prop:=fun x vs H Q=>∃ l xs,x=.ref l/\vs=[]/\H l=some (.lst xs)/\Q .non (upd H l (.lst []))
theorem UI:MtM X "list.clear" OK:=by intro pins s σ H x vs v us Q I rx rv h;obtain⟨l,xs,rfl,rfl,hH,q⟩:=h;cases rx;have hus:=rv.zero;subst hus;obtain⟨z,its,n,r,hl,e⟩:=I.lstM hH;refine call_meets F.slot_list_clear ⟨_,e,rfl⟩ F.entry_list_clear (F.args_list_clear_1 _) (AutoSeq1.list_clear_list_0 l its.toArray n (by rw[qC];omega)) ⟨e,?_⟩;exact⟨.non,_,I.lset (its':=[]) (ys:=[]) hH e rfl .nil (Nat.zero_le _),rfl,q⟩
def FX:R2:=fun x y H Q=>∃ l b xs zs,x=.ref l/\y=.ref b/\H l=some (.lst xs)/\H b=some (.lst zs)/\xs.length+zs.length<=sizeLine/\∀ p,H p=none->Q (.ref p) (upd H p (.lst (xs++zs)))
theorem Ej:OpR X (binaryOp .Add) FX:=by
 intro pins s σ H x y v u Q I rx ry h;obtain⟨l,b,xs,zs,rfl,rfl,hH,hB,hz,q⟩:=h;cases rx;cases ry;obtain⟨z,its,n,r,hl,e⟩:=I.lstM hH;obtain⟨z2,its2,n2,r2,hl2,e2⟩:=I.lstM hB;refine PySem.P.add_list e e2 ?_ (by rw[qC,qC];omega);have ea:its.toArray++its2.toArray=(its++its2).toArray:=by simp
 rw[ea];exact⟨.ref _,_,I.lnew (t':=s.toks) (r.append r2) (by rw[qU];omega),rfl,q _ I.fresh⟩
def FU:R2:=fun x y H Q=>∃ l k xs,x=.ref l/\y=.int k/\H l=some (.lst xs)/\-(2 ^ 63)<=k/\k<2 ^ 63/\xs.length*k.toNat<=sizeLine/\
 ∀ p,H p=none->Q (.ref p) (upd H p (.lst (List.replicate k.toNat xs).flatten))
theorem Cp{α:Type}(xs:List α)(k:Nat):(List.replicate k xs).flatten.length=k*xs.length:=by
 induction k with
 |zero=>simp
 |succ k ih=>rw[List.replicate_succ,List.flatten_cons,qU,ih,Nat.succ_mul,Nat.add_comm]
theorem op_rep:OpR X (binaryOp .Mult) FU:=by
 intro pins s σ H x y v u Q I rx ry h;obtain⟨l,k,xs,rfl,rfl,hH,h1,h2,hz,q⟩:=h;cases rx;obtain⟨t,rfl⟩:=ry;obtain⟨z,its,n,r,hl,e⟩:=I.lstM hH;have hlen:its.toArray.size*k.toNat<=sizeLine:=by rw[qC,<-hl];exact hz
 have hcap:¬ its.toArray.size*k.toNat > (2 ^ 63 - 1) / 8:=by
  have:(sizeLine:Nat)<=(2 ^ 63 - 1) / 8:=by decide
  omega
 have hfit:¬ (!Builtin.List.listFitsIndex k)=true:=by rw[fitsIndex_both h1 h2];exact Bool.false_ne_true
 have hlong:¬ Builtin.List.listTooLong (its.toArray.size*k.toNat)=true:=by rw[OI hlen];exact Bool.false_ne_true
 have hnew:List.foldl (fun x1 x2=>x1++x2) #[] (List.replicate (if its.toArray.isEmpty=true then 0 else k.toNat) its.toArray)=(List.replicate k.toNat its).flatten.toArray:=by
  have f0:∀ m:Nat,List.foldl (fun x1 x2=>x1++x2) #[] (List.replicate m its.toArray)=(List.replicate m its).flatten.toArray:=fun m=>by have:=WQ its m [];rw[List.nil_append]at this;exact this
  rw[f0];cases its with
  |nil=>simp
  |cons a r'=>rw[if_neg (by simp)]
 refine wpAny_binaryOp_repeat_ref (T:="list") (U:="int") (by decide) ⟨_,e,rfl⟩ (fun s'=>typeIs_int s' k t) noFill_list_mul F.fills_int_mul F.slot_int_rmul repeat_list F.slot_int_index.lookup
  (call_meets F.slot_int_rmul (typeIs_int s k t) F.entry_int_rmul (F.args_int_rmul_2 _ _) (int___rmul___int_list k t l its.toArray n)
    ⟨e,rfl,⟨_,e,rfl⟩,call_meets F.slot_list_mul ⟨_,e,rfl⟩ F.entry_list_mul (F.args_list_mul_2 _ _) (AutoListH.list___mul___list_int_3 l its.toArray n k t hfit hcap hlong) ⟨e,?_⟩⟩)
 rw[hnew];exact⟨.ref _,_,I.lnew (t':=s.toks) (r.rep k.toNat) (by rw[Cp,Nat.mul_comm];exact hz),rfl,q _ I.fresh⟩
end
end L2
namespace Att
open PySem PySem.W PySem.Calls PyProof.Rows
theorem Xo{P:Params}{h:Heap}:∀ (ns:List Int) (vs:List Value),WellAll P h vs (ns.map WData.int)->IntsAre vs ns:=by
 intro ns;induction ns with
 |nil =>intro vs w;rw[List.map_nil]at w;cases w;exact .nil
 |cons n ns ih =>
  intro vs w;rw[qG]at w;cases w with
  |cons a b =>cases a;exact .cons _ _ (ih _ b)
theorem N1{l:OpenLaw}{n:Nat}(hn:l.most=some n){P:Params}{h:Heap}{args:List WData}{vals:List Value}
  (hpre:l.row.toRowW.claim.pre args=true) (hwl:WellAll P h vals args) :
  ∃ a vs ns,vals=[Value.ref a]/\args=[WData.list (ns.map WData.int)]/\h.get? a=some {cls:=.type "list",data:=.seq vs.toArray}/\IntsAre vs ns/\ns.length<=n:=by
 have hsh:WShape.hasAll [] args [.list .int]=true:=(pre_splitW hpre).1;have hc:l.pre.holds [] {args:=args}=true:=(pre_splitW hpre).2;obtain⟨d,r,rfl,h1,h2⟩:=hasAllW_cons hsh;obtain rfl:=hasAllW_nil h2;obtain⟨xs,rfl,h3⟩:=hasW_list h1;obtain⟨ns,rfl⟩:=items_int h3;have hlen:ns.length<=n:=by
  unfold OpenLaw.pre at hc;have h4:(WTm.not (.lt (.lit (.int (n:Int))) (.len (.arg 0)))).holds [] {args:=[.list (ns.map .int)]}=true:=by have h4:=(holds_andW hc).1;rw[hn]at h4;exact h4
  have h5:=condW_of h4 (w_not (w_lt w_lit (w_len_list (w_arg rfl))));rw[qA]at h5;refine Nat.le_of_not_lt fun q=>?_;have q':(n:Int)<((ns.length:Nat):Int):=by omega
  first
   |(rw[qQ q']at h5;exact absurd h5 (by decide))
   |(simp at h5;omega)
 cases hwl with
 |cons w1 w2 =>
  cases w2;cases w1 with
  |list ho hall=>exact⟨_,_,ns,rfl,rfl,ho,Xo ns _ hall,hlen⟩
theorem Ou(l:OpenLaw)(args:List WData):l.row.toRowW.claim.post args (.bool true) args=true :=
 postW_of (r:=l.row.toRowW) (X:=(true==true))
  (show WShape.has [] (.bool true) .bool=true by first|rfl|decide|simp[WShape.has,WShape.arms,WShape.armsAll])
  (show(WTm.eq .res (.lit (.bool true))).value [] {args:=args,res:=some (.bool true),after:=args}=some (.bool (true==true)) from w_eq_bool (w_res rfl) w_lit) rfl
theorem attach_call{l:OpenLaw}{n:Nat}{q:Program}{loose:List Str}{XP:(Str->Option Value)->Heap->Prop}{YP:World->Heap->Prop}{d:DefRec}
  (hn:l.most=some n) (hdf:d.params.defaults=[])
  (call:∀ (w:World) (s₀ s₁:Shared) (mg mb:Str->Option Value) (fa:Addr) (o:Obj) (pm cd doc:Value) (a:Addr) (vs:List Value) (ns:List Int),
    Ground q loose [] XP w s₀ mg mb s₁.heap->YP w s₁.heap->
    s₁.heap.get? fa=some o->o.data=.func (docDef d.name d.params d.body d.scope pm cd doc)->s₁.heap.CodeRec cd d.name->mg d.name=some (.ref fa)->
    s₁.heap.get? a=some {cls:=.type "list",data:=.seq vs.toArray}->IntsAre vs ns->ns.length<=n->s₁.gens=#[]->
    codeAny (model l.prog w) callerA (.call (.ref fa) ⟨[.ref a],[]⟩) (fun r s'=>r=.ok (.ret (.bool true))/\OldK s₁.heap s'.heap/\s'.os=s₁.os/\AllBare s'.gens) s₁) :
  WalkO q loose XP YP l.row.toRowW d [] (fun f vs=>PySem.call f vs):=by
 intro w s₀ s₁ mg mb G Y fa o pm cd doc dV kV ho hd hcd hD hmg hg args vals as hpre hlay hrd hwl hlo;obtain rfl:dV=.none:=Dflts.none hD hdf;obtain rfl:kV=.none:=Dflts.noKw hD;obtain⟨a,vs,ns,rfl,rfl,hobj,hints,hlen⟩:=N1 hn hpre hwl;refine enter_call (codeAny_mono (call w s₀ s₁ mg mb fa o pm cd doc a vs ns G Y ho (fd_plain hd) hcd hmg hobj hints hlen hg) fun r s' hq=>?_);obtain⟨rfl,h2,h3,h4⟩:=hq;exact⟨.inl ⟨.bool true,.bool true,[],rfl,fun _=>rfl,.bool true,Ou l _,fun _=>⟨List.Pairwise.nil,fun _ hm=>(nomatch hm)⟩⟩,h2,h3,h4⟩
end Att
namespace L2
open PySem PySem.Spec PyProof.Rows
theorem YZ:∀ {vs:List Value}{ns:List Int},IntsAre vs ns->Vals (ns.map V.int) vs
 |_,_,.nil=>.nil
 |_,_,.cons n t h=>.cons ⟨t,rfl⟩ (YZ h)
def EO (H:Hp):Prop:=∀ b,H b=none\/∃ o xs,H b=some (.frz o (.lst xs))
theorem OF{P:Program}{w:World}{K:PySem.W.Frag}{mg mb:Str->Option Value}{CX:CXT}{k:Nat}{fa a:Addr}{fd:FuncData}{x:Str}{sp:Sp}{s₁:Shared}{vs:List Value}{ns:List Int}
  (KX:K.In s₁.heap) (hns:s₁.heap.Ns mainGlobals mg) (hb:s₁.heap.Ns builtinsNs mb) (hbb:∀ x:Str,x≠"__name__"->mb x=bootBuiltins x) (hlim:s₁.heap.NoLimit) (hg:s₁.gens=#[])
  (ha:s₁.heap.get? a=some {cls:=.type "list",data:=.seq vs.toArray}) (hi:IntsAre vs ns) (hl:ns.length<=sizeLine) (hr:Room k callerA)
  (F:∀ base:Heap,K.In base->base.Ns mainGlobals mg->FnOk P w K mg base CX k fa fd [x] sp) (hbind:∀ (s:Shared) (u:Value),BindsTo s fd ⟨[u],[]⟩ [(x,u)])
  (hsp:∀ H:Hp,EO H->SqL K H a (ns.map V.int)->sp [.ref a] H (fun v _=>v=.bl true) fun _ _ _=>False)
  (hCX:∀ H e s',CX [] H s₁ (fun _ _ _=>False) e s'->False) :
  codeAny (model P w) callerA (.call (.ref fa) ⟨[.ref a],[]⟩) (fun r s'=>r=.ok (.ret (.bool true))/\OldK s₁.heap s'.heap/\s'.os=s₁.os/\AllBare s'.gens) s₁:=by
 have rv:=YZ hi;have lenV:=hi.length;have core:∀ H:Hp,EO H->SqL K H a (ns.map V.int)->HOk P w H s₁.heap->(∀ b,H b≠none->b=a)->(H a≠none->K.lookup a=none)->
   codeAny (model P w) callerA (.call (.ref fa) ⟨[.ref a],[]⟩) (fun r s'=>r=.ok (.ret (.bool true))/\OldK s₁.heap s'.heap/\s'.os=s₁.os/\AllBare s'.gens) s₁:=by
  intro H hO hS hok hA hK;have base_of:∀ {b:Addr}{o:Obj},s₁.heap.get? b=some o->H b=none->(Jn s₁.heap H).get? b=some o:=fun e n=>O4 e n;have noA:∀ {b:Addr}{o:Obj}{es:Array DictEntry}{ep:Nat},s₁.heap.get? b=some o->o.data=.dict es ep->H b=none:=fun {b o es ep} e d=>by
   cases q:H b with
   |none=>rfl
   |some u =>have e':b=a:=hA b (by rw[q];simp);subst e';rw[ha]at e;cases e;have d':Data.seq vs.toArray _=Data.dict es ep:=d;cases d'
  have nsK:∀ {b:Addr}{m:Str->Option Value},s₁.heap.Ns b m->(Jn s₁.heap H).Ns b m:=fun {b m} ⟨o,es,ep,e,d,r⟩=>⟨o,es,ep,base_of e (noA e d),d,r⟩
  have hKb:K.In (Jn s₁.heap H):=fun b o e=>base_of (KX b o e) (by
    cases q:H b with
    |none=>rfl
    |some u =>
      have e':b=a:=hA b (by rw[q];simp)
      subst e'
      rw[hK (by rw[q];simp)]at e;cases e)
  have hM:Mod K mg (Jn s₁.heap H):=⟨hKb,nsK hns,⟨mb,nsK hb,hbb⟩,let ⟨mc,h1,h2⟩:=hlim;⟨mc,nsK h1,h2⟩⟩
  have e0:Env0 P w K mg (Jn s₁.heap H) callerA [] s₁ H:=⟨rfl,hM,fun b o e=>Cg e,Nat.le_of_eq (Os _ _),trivial,fun b hb=>absurd (show b∈([]:List Addr) from hb) (by simp),hok,.of_eq hg⟩
  refine codeAny_mono ((F _ hKb (nsK hns)).run callerA [] s₁ H ⟨[.ref a],[]⟩ [.ref a] [.ref a] _ _ hr e0 (hbind s₁ (.ref a)) (.cons rfl .nil) (hsp H hO hS)) fun r s' h=>?_;cases r with
  |error e=>exact(hCX H e s' h).elim
  |ok fl =>
   cases fl with
   |next=>exact False.elim h
   |brk=>exact False.elim h
   |cont=>exact False.elim h
   |ret u =>
    obtain⟨v,H',os,bare,un,hok',r',q⟩:=h;have q':v=.bl true:=q;subst q';obtain rfl:u=Value.bool true:=r';refine⟨rfl,OldK.of_keep fun b o e=>?_,os,bare⟩;cases q:H b with
    |none=>exact un.keep b o e q (by intro z;exact absurd (show b∈([]:List Addr) from z) (by simp)) (by simp)
    |some u =>
     rcases hO b with z|⟨ob,xs,z⟩
     .rw[q]at z;cases z
     .have z2:=un.frzs b ob _ z;obtain⟨e1,_⟩:=hok b _ z;obtain⟨e2,_⟩:=hok' b _ z2;rw[e]at e1;cases e1;exact e2
 cases hk:K.lookup a with
 |some o =>have e:=KX a o hk;rw[ha]at e;cases e;refine core (fun _=>none) (fun _=>.inl rfl) (.inr ⟨_,vs.toArray,_,hk,rfl,rfl,rfl,by rw[qC,lenV];exact hl,by simpa using rv⟩) (fun b u z=>by have z':(none:Option HO)=some u:=z;cases z') (fun b z=>absurd rfl z) fun z=>absurd rfl z
 |none =>
  refine core (fun b=>if b=a then some (.frz {cls:=.type "list",data:=.seq vs.toArray} (.lst (ns.map V.int)))else none) (fun b=>?_) (.inl (.inr ⟨{cls:=.type "list",data:=.seq vs.toArray},if_pos rfl⟩)) (fun b u z=>?_) (fun b z=>?_) fun _=>hk
  .by_cases hb:b=a
   .exact .inr ⟨_,_,if_pos hb⟩
   .exact .inl (if_neg hb)
  .by_cases hb:b=a
   .have z':=(if_pos hb).symm.trans z;cases z';subst hb;exact⟨ha,by rw[qA];exact hl,vs,_,rv,ha⟩
   .have z':=(if_neg hb).symm.trans z;cases z'
  .by_cases hb:b=a
   .exact hb
   .exact absurd (if_neg hb) z
def Z5 (s:Stmt):Arguments:=match s with
 |.FunctionDef _ a _ _ _ _ _ _ _ _=>a
 |_=>{posonlyargs:=[],args:=[],vararg:=none,kwonlyargs:=[],kw_defaults:=[],kwarg:=none,defaults:=[]}
def ZC (s:Stmt):List Stmt:=match s with
 |.FunctionDef _ _ b _ _ _ _ _ _ _=>b
 |_=>[]
def Zk (s:Stmt):Scope:=match s with
 |.FunctionDef _ _ _ _ _ _ sc _ _ _=>sc
 |_=>{kind:=.function,names:=[],isGenerator:=false,isCoroutine:=false}
abbrev CX0:CXT:=fun _ _ _ _ _ _=>False
structure Fun (K:PySem.W.Frag) (x qual:Str) (st:Stmt) (f:Addr) (fd:FuncData):Prop where
 ex:∃ (oc:Value) (od:Option Addr) (kV doc pm:Value) (an:Option Addr) (cdv ct:Value) (osl:Array (Option Value)),
  fd=PySem.W.fnOf x qual (Z5 st) (ZC st) (Zk st) .none kV doc pm an cdv ct/\K.lookup f=some ⟨oc,od,.func fd,osl⟩/\PySem.W.codeIn K cdv qual=true
 kp:PySem.W.keepIn K (.ref f)=true
section
variable {P:Program}{w:World}{K:PySem.W.Frag}{mg:Str->Option Value}{base:Heap}
theorem Fun.ok{x qual:Str}{st:Stmt}{f:Addr}{fd:FuncData}{N ps:List Str}{k:Nat}{sp:Sp}(F:Fun K x qual st f fd)(S:FnScope N ps (Zk st))(len:∀ vs H Q E,sp vs H Q E->vs.length=ps.length)
  (hbody:∀ (cdv:Value) (A:Around) (outer:List Env) (s:Shared) (H:Hp) (vs:List V) (Q:VK) (E:XK),Room k (A.deeper (envOfC qual (Zk st) s.heap.objs.size f cdv))->sp vs H Q E->
    ∃ t,PSs (Wq CX0 P w K mg base N qual (Zk st) f cdv A outer s H E).nox (ZC st) t/\t { nx:=fun _ H'=>Q .non H',rt:=Q } (start N vs) H):FnOk P w K mg base CX0 (k+1) f fd ps sp:=by
 obtain⟨oc,od,kV,doc,pm,an,cdv,ct,osl,rfl,lk,hcd⟩:=F.ex;refine C6 lk hcd S len fun A outer s H vs Q E hr hsp=>?_;obtain⟨t,h,q⟩:=hbody cdv A outer s H vs Q E hr hsp;exact⟨t,h.nox,q⟩
theorem Fun.binds{x qual:Str}{st:Stmt}{f:Addr}{fd:FuncData}{ps:List Str}(F:Fun K x qual st f fd)
  (h:∀ (kV doc pm:Value) (an:Option Addr) (cdv ct:Value) (us:List Value),us.length=ps.length->bindArgs (PySem.W.fnOf x qual (Z5 st) (ZC st) (Zk st) .none kV doc pm an cdv ct) ⟨us,[]⟩=pure (ps.zip us)):Binds K fd ps []:=by
 obtain⟨oc,od,kV,doc,pm,an,cdv,ct,osl,rfl,lk,hcd⟩:=F.ex;exact .all (h kV doc pm an cdv ct)
theorem UQ{x qual:Str}{st:Stmt}{f:Addr}{oc:Value}{od an:Option Addr}{osl:Array (Option Value)}{kV doc pm cdv ct:Value}(l:K.lookup f=some ⟨oc,od,.func (PySem.W.fnOf x qual (Z5 st) (ZC st) (Zk st) .none kV doc pm an cdv ct),osl⟩)
  (c:PySem.W.codeIn K cdv qual=true) (k:PySem.W.keepIn K (.ref f)=true):Fun K x qual st f (PySem.W.fnOf x qual (Z5 st) (ZC st) (Zk st) .none kV doc pm an cdv ct):=⟨⟨oc,od,kV,doc,pm,an,cdv,ct,osl,rfl,l,c⟩,k⟩
end
def Same (H H':Hp):Prop:=∀ b o,H b=some o->H' b=some o
theorem Same.refl(H:Hp):Same H H:=fun _ _ h=>h
theorem Same.trans{H H1 H2:Hp}(a:Same H H1)(b:Same H1 H2):Same H H2:=fun c o h=>b c o (a c o h)
theorem Same.free{H H':Hp}(e:Same H H'){l:Addr}(h:H' l=Option.none):H l=Option.none:=by
 cases q:H l with
 |none=>rfl
 |some o =>rw[e l o q]at h;cases h
theorem Same.seq{K:PySem.W.Frag}{H H':Hp}{a:Addr}{xs:List V}(e:Same H H')(h:SqL K H a xs):SqL K H' a xs:=by
 rcases h with(h|⟨o,h⟩)|h
 .exact .inl (.inl (e _ _ h))
 .exact .inl (.inr ⟨o,e _ _ h⟩)
 .exact .inr h
end L2
set_option maxHeartbeats 4000000
namespace L2
open PySem PySem.Spec PyProof.Rows
theorem HOk.track{P:Program}{w:World}{H:Hp}{h:Heap}{a:Addr}{o:HO}(x:HOk P w H h)(hn:H a=none)(new:ObjOk P w (upd H a o) h a o):HOk P w (upd H a o) h:=fun b u e=>by
 by_cases hb:b=a
 .subst hb;rw[upd_same]at e;cases e;exact new
 .rw[upd_ne hb]at e;exact(x b u e).stay (fun c v _ q=>q) (fun c q=>by rw[upd_ne (Zg q hn)];exact q) fun c xs q=>by rw[upd_ne (Zg q hn)];exact q
theorem HOk.same{P:Program}{w:World}{H:Hp}{h h':Heap}{C:Addr}(x:HOk P w H h)(hn:H C=none)(hs:Heap.SameBut C h h'):HOk P w H h':=fun b u e=>by
 refine(x b u e).stay (fun c v hc q=>hs.extBut c v ?_ q) (fun _ q=>q) fun _ _ q=>q;rcases hc with z|z
 .rw[z];exact Zg e hn
 .exact Zg z hn
def Zu (X:Cx) (scope:Scope) (N':List Str) (cl:List (Str×Addr)) (C:Addr) (s:Shared) (H:Hp) (ex:List Addr):Cx where
 prog:=X.prog
 w:=X.w
 K:=X.K
 mg:=X.mg
 base:=X.base
 A:=X.A
 N:=N'
 s₀:=s
 H₀:=H
 env:=compEnvC scope cl C X.env
 outer:=X.stack
 stack:=X.stack
 ex:=ex
 fn:=fun _=>false
 calm:=X.calm
 pn:=[]
 xe:=fun _ _=>False
def ZL (X:Cx) (x:List Str) (caps:List Nat):List Str:=x++caps.map fun j=>X.N.getD j Str.empty
def MJ (σ:St) (caps:List Nat):St:=caps.map fun j=>(σ[j]?).getD none
structure BlkOk (X:Cx) (scope:Scope) (x:List Str) (caps:List Nat):Prop where
 kind:scope.kind=.function
 nocell:∀ y∈scope.names,y.2≠.cell
 locs:∀ y∈scope.names,y.2=.local->scope.names.lookup y.1=some .local
 own:∀ y∈x,scope.names.lookup y=some .local
 frees:∀ y∈scope.names,y.2=.free->X.env.kindOf y.1=some .cell
 cap:∀ j∈caps,(X.N[j]?).isSome=true/\X.env.kindOf (X.N.getD j Str.empty)=some .cell/\scope.names.lookup (X.N.getD j Str.empty)=some .free
 nd:(ZL X x caps).Nodup
theorem Z2{env:Env}:∀ (names:List (Str×NameKind)) (acc:List (Str×Addr)),(∀ y∈names,y.2=.free->∃ c,env.cells.lookup y.1=some c)->(∀ x c,acc.lookup x=some c->env.cells.lookup x=some c)->
  ∃ cl,(forIn names acc fun(p:Str×NameKind) (r:List (Str×Addr))=>(do
    if(p.2 == NameKind.free)=true then do let a<-cellOf env p.1;pure (ForInStep.yield ((p.1,a)::r))else pure (ForInStep.yield r):Sem _))=pure cl/\
   (∀ x c,cl.lookup x=some c->env.cells.lookup x=some c)/\(∀ x c,acc.lookup x=some c->∃ c',cl.lookup x=some c')/\∀ x,(x,NameKind.free)∈names->∃ c,cl.lookup x=some c
 |[],acc,_,ha=>⟨acc,rfl,ha,fun x c h=>⟨c,h⟩,fun x h=>nomatch h⟩
 |(n,k)::r,acc,hn,ha=>by
  by_cases hk:k=.free
  .subst hk;obtain⟨c,hc⟩:=hn (n,.free) qT rfl;have ha':∀ x d,(((n,c)::acc:List (Str×Addr))).lookup x=some d->env.cells.lookup x=some d:=fun x d h=>by
    rw[qO]at h;cases e:x==n with
    |true =>
     rw[e]at h;have:x=n:=by simpa using e
     subst this;cases h;exact hc
    |false=>rw[e]at h;exact ha x d h
   obtain⟨cl,h1,h2,h3,h4⟩:=Z2 r ((n,c)::acc) (fun y hy=>hn y (qI _ hy)) ha';refine⟨cl,?_,h2,fun x d h=>?_,fun x hx=>?_⟩
   .rw[List.forIn_cons];have e:cellOf env n=pure c:=by unfold cellOf;rw[hc]
    simp only[beq_self_eq_true,if_true,e];exact h1
   .by_cases hx:x=n
    .subst hx;exact h3 x c (by rw[qO];simp)
    .exact h3 x d (by rw[qO,beq_false_of_ne hx];exact h)
   .rcases qE.mp hx with e|hx
    .cases e;exact h3 _ c (by rw[qO];simp)
    .exact h4 x hx
  .have hb:(k==NameKind.free)=false:=by simpa using hk
   obtain⟨cl,h1,h2,h3,h4⟩:=Z2 r acc (fun y hy=>hn y (qI _ hy)) ha;refine⟨cl,?_,h2,h3,fun x hx=>?_⟩
   .rw[List.forIn_cons];simp only[hb,Bool.false_eq_true,if_false];exact h1
   .rcases qE.mp hx with e|hx
    .cases e;exact absurd rfl hk
    .exact h4 x hx
theorem ZH{env:Env}:∀ {names:List (Str×NameKind)}{x:Str}{k:NameKind},(names.map fun(n,k)=>if(k==NameKind.free&&env.scope.kind == .function&&env.kindOf n==some .cell)then(n,NameKind.cell)else(n,k)).lookup x=some k->
  (∃ k0,(x,k0)∈names/\names.lookup x=some k0/\(k0=k\/(k0=.free/\k=.cell)))
 |[],_,_,h=>by simp at h
 |(n,k0)::r,x,k,h=>by
  rw[qG,qO]at h;cases hx:x==n with
  |true =>
   have e:x=n:=by simpa using hx
   subst e;refine⟨k0,qT,by rw[qO];simp,?_⟩;by_cases hc:(k0==NameKind.free&&env.scope.kind == .function&&env.kindOf x==some .cell)=true
   .rw[if_pos hc]at h;simp at h;have:k0=.free:=by
     simp only[bAq]at hc;simpa using hc.1.1
    exact .inr ⟨this,h.symm⟩
   .rw[if_neg hc]at h;simp at h;exact .inl h
  |false =>
   have h':(r.map fun(n,k)=>if(k==NameKind.free&&env.scope.kind == .function&&env.kindOf n==some .cell)then(n,NameKind.cell)else(n,k)).lookup x=some k:=by
    by_cases hc:(k0==NameKind.free&&env.scope.kind == .function&&env.kindOf n==some .cell)=true
    .rw[if_pos hc]at h;simpa[hx]using h
    .rw[if_neg hc]at h;simpa[hx]using h
   obtain⟨k1,a,b,c⟩:=ZH h';exact⟨k1,qI _ a,by rw[qO,hx];exact b,c⟩
def PIfs (X:Cx) (ifs:List Expr) (t:TT):Prop :=
 ∀ (pins:List (Addr×Obj)) (s:Shared) (σ:St) (H:Hp) (Q:Bool->Hp->Prop),Inv X pins σ H s->t σ H Q->
  wpAny (model X.prog X.w) X.A (forIn ifs true fun c r=>if r=true then do let ok<-isTrue c X.env (eval c X.env);pure (ForInStep.yield ok)else pure (ForInStep.yield r)) (TP X pins σ Q) X.xe s
def IX:TT:=fun _ H Q=>Q true H
theorem pifs_nil{X:Cx}:PIfs X [] IX:=fun _ _ _ H _ I h=>wpAny_tests_nil ⟨H,I,h⟩
theorem YU{X:Cx}{c:Expr}{t:TT}(h:PT X c t):PIfs X [c] t:=fun pins s σ H Q I hq=>wpAny_tests_one (h pins s σ H Q I hq)
def CL (J:It) (tg:TG) (tc:TT) (te:TE) (Fin:List V->Hp->Prop) (W:Nat->Nat->List V->St->Hp->Prop):Prop :=
 ∀ i m ys τ H,W i m ys τ H->ys.length<sizeLine/\((J.stop i H/\Fin ys H)\/(J.go i H/\∃ N:List V->St->Hp->Prop,(∀ ys' τ' H',N ys' τ' H'->∃ m',m'<m/\W (i+1) m' ys' τ' H')/\∀ x H',J.yld i H x H'->
   tg x τ H' fun τ' H1=>tc τ' H1 fun b H2=>if b=true then te τ' H2 fun y H3=>N (ys++[y]) τ' H3 else N ys τ' H2))
def O0 (wi:TI) (k:Nat) (caps:List Nat) (tg:TG) (tc:TT) (te:TE):TE:=fun σ H Q=>wi σ H fun J H1=>∃ W:Nat->Nat->List V->St->Hp->Prop,(∃ m,W 0 m [] (List.replicate k none++MJ σ caps) H1)/\
 CL J tg tc te (fun ys H=>∀ p,H p=none->Q (.ref p) (upd H p (.lst ys))) W
section
variable {X:Cx}{pins:List (Addr×Obj)}{σ:St}{H2:Hp}{s2:Shared}
theorem Of{scope:Scope}{x:List Str}{caps:List Nat}{cl:List (Str×Addr)}{fp:List Addr}{s3:Shared}{D:Addr}{h1:Heap}{tk:Nat}{m:Str->Option Value}(B:BlkOk X scope x caps)(I2:Inv X pins σ H2 s2)(f2:∀ b∈fp,YX X pins H2 b)
  (c1:∀ x c,cl.lookup x=some c->X.env.cells.lookup x=some c) (c2:∀ x,(x,NameKind.free)∈scope.names->∃ c,cl.lookup x=some c)
  (I3:Inv X pins σ H2 s3) (hD:D=s2.heap.objs.size) (h3:s3.heap.objs.size=D+1) (old:∀ b o,s3.heap.get? b=some o->h1.get? b=some o) (hfp:∀ b∈fp,b<s2.heap.objs.size)
  (hn:h1.Ns s3.heap.objs.size m) :
  Inv (Zu X scope (ZL X x caps) cl s3.heap.objs.size s3 H2 (D::fp)) [] (List.replicate x.length none++MJ σ caps) H2 {s3 with heap:=h1,toks:=tk}:=by
 have neD:∀ b o,s2.heap.get? b=some o->b≠D:=fun b o e=>by rw[hD];exact zF (Heap.lt_size e)
 have exlt:∀ b∈D::fp,b<s3.heap.objs.size:=fun b hb=>by
  rw[h3];rcases qE.mp hb with e|hb
  .rw[e];exact Nat.lt_succ_self _
  .exact Nat.lt_succ_of_lt (by rw[hD];exact hfp b hb)
 have keeps:=I3.hok.kept (h':=h1) old;refine⟨⟨I2.mod,B.kind,I2.ok.glob,I2.ok.blt,zG _,fun y z c e1 e2=>?_,fun y hy=>?_,fun y c e _=>(by cases e),fun hc=>I2.ok.hd hc,I2.ok.frames,.inl rfl,fun b hb=>?_,fun b o e=>?_,?_,fun b o e hb=>?_,fun b hb hf=>?_,I3.stack,fun b hb=>I2.stkFree b hb⟩,
   rfl,I3.bare,Un.kept old,⟨m,hn,fun i y v e1 e2 e3=>?_⟩,fun y c e=>?_,I3.hok.fresh (zG _),fun y c e=>I3.freeC y c (c1 y c e),fun p hp=>(nomatch hp),keeps,?_⟩
 .exact I2.ok.inj y z c (c1 y c e1) (c1 z c e2)
 .have hy:(relabel scope X.env).names.lookup y=some .cell\/(relabel scope X.env).names.lookup y=some .free:=hy;rcases hy with hy|hy
  .obtain⟨k0,a,b,c⟩:=ZH hy;rcases c with c|⟨c,_⟩
   .subst c;exact absurd rfl (B.nocell _ a)
   .subst c;exact c2 y a
  .obtain⟨k0,a,b,c⟩:=ZH hy;rcases c with c|⟨_,c⟩
   .subst c;exact c2 y a
   .cases c
 .refine⟨zF (exlt b hb),fun y c e z=>?_⟩;have e':=c1 y c e;rcases qE.mp hb with q|q
  .obtain⟨v,o,ho,_⟩:=I2.cell y c e';exact neD c o ho (z.trans q)
  .exact(f2 b q).2.2.2.2.1 y c e' z
 .exact I3.bs b o e
 .exact zE I2.ok.bsz (zE I2.sz (show s2.heap.objs.size<=s3.heap.objs.size by rw[h3,hD];exact Nat.le_succ _))
 .rcases qE.mp hb with q|q
  .exact neD b o (I2.bk b o e) q
  .rcases (f2 b q).2.2.2.1 with z|z
   .exact I2.ok.noex b o e z
   .exact absurd (qR (Heap.lt_size (I2.ok.bs b o e).1) z) (zK _)
 .have hf:b∈frs X.stack:=hf;rcases qE.mp (I2.stkSub b hf)with z|z
  .rcases qE.mp hb with q|q
   .exact absurd I2.lt (by rw[<-z,q,hD];exact zK _)
   .exact(f2 b q).2.1 z
  .rcases qE.mp hb with q|q
   .exact I2.nofs (a:=b) (by rw[q,hD];exact zG _) z
   .exact(f2 b q).2.2.1 z
 .by_cases hik:i<x.length
  .rw[List.getElem?_append_left (by rw[qW];exact hik),List.getElem?_replicate,if_pos hik]at e2;cases e2
  .have e1:(x++caps.map fun j=>X.N.getD j Str.empty)[i]?=some y:=e1;rw[List.getElem?_append_right (by omega)]at e1;rw[List.getElem?_append_right (by rw[qW];omega),qW]at e2;generalize i - x.length=j at e1 e2;have e2:(caps.map fun j=>(σ[j]?).getD none)[j]?=some (some v):=e2;rw[qF]at e1 e2;cases hj:caps[j]? with
   |none=>rw[hj]at e1;cases e1
   |some q =>
    rw[hj]at e1 e2;have e1':X.N.getD q Str.empty=y:=Option.some.inj e1;have e2':(σ[q]?).getD none=some v:=Option.some.inj e2;obtain⟨hs,hk,hsc⟩:=B.cap q (qX hj);obtain⟨y',hy'⟩:=Option.isSome_iff_exists.mp hs;have ey:y'=y:=by rw[<-e1',qN,hy'];rfl
    subst ey;have es:σ[q]?=some (some v):=by
     cases hq:σ[q]? with
     |none=>rw[hq]at e2';cases e2'
     |some o=>rw[hq]at e2';exact congrArg some e2'
    rw[e1']at hk hsc;obtain⟨m2,_,hl⟩:=I3.loc;have hk':X.env.scope.names.lookup y'=some .cell:=hk;obtain⟨u,r,l⟩:=hl q y' v hy' es (.inr (.inl hk'));refine⟨u,r,.inr ⟨?_,?_⟩⟩
    .rcases e3 with e3|e3|e3
     .obtain⟨k0,a,b,c⟩:=ZH (show(relabel scope X.env).names.lookup y'=some .local from e3);rw[hsc]at b;cases b;rcases c with c|⟨_,c⟩<;>cases c
     .exact .inl e3
     .exact .inr e3
    .rcases l with⟨l,_⟩|⟨_,c,hc,z⟩
     .rw[hk]at l;cases l
     .obtain⟨c',hc'⟩:=c2 y' (PySem.mem_of_lookup hsc);have ec:c'=c:=Option.some.inj ((c1 y' c' hc').symm.trans hc);subst ec;obtain⟨o,ho,hd⟩:=z;exact⟨c',hc',o,old c' o ho,hd⟩
 .obtain⟨v,o,ho,hd⟩:=I3.cell y c (c1 y c e);exact⟨v,o,old c o ho,hd⟩
 .show _=(ZL X x caps).length;unfold ZL MJ;rw[qU,qU,qA,qA,qW]
theorem Ys{scope:Scope}{env:Env}(h:∀ y∈scope.names,y.2=.free->∃ c,env.cells.lookup y.1=some c) :
  ∃ cl,closureFor scope env=pure cl/\(∀ x c,cl.lookup x=some c->env.cells.lookup x=some c)/\∀ x,(x,NameKind.free)∈scope.names->∃ c,cl.lookup x=some c:=by
 obtain⟨cl,h1,h2,_,h4⟩:=Z2 (env:=env) scope.names [] h (fun x c e=>nomatch e);refine⟨cl,?_,h2,h4⟩;simp only[closureFor];have e:(forIn scope.names ([]:List (Str×Addr)) fun x r =>
     (match x with
     | (name,kind)=>if(kind == NameKind.free)=true then do let a<-cellOf env name;pure (ForInStep.yield ((name,a)::r))else pure (ForInStep.yield r):Sem (ForInStep (List (Str×Addr)))))=pure cl:=h1
 first
  |(rw[e];rfl)
  |(refine Eq.trans (congrArg (· >>= pure) ?_) (rfl:(pure cl >>= pure:Sem _)=pure cl);exact e)
theorem JR{prog:Program}{w:World}{A:Around}{R:Result->Shared->Prop}{s:Shared}{elt target iter:Expr}{ifs:List Expr}{scope:Scope}{pos:Pos}{it acc:Value}{env:Env}(I:Nat->Shared->Prop)
  (turn:∀ n s,I n s->wpAny (model prog w) A (pyNext it) (fun r s₁=>match r with
    |none=>R (.ok .next) s₁
    | some v=>wpAny (model prog w) A (letOwnedTupleGo target it v) (fun _ s₁=>wpAny (model prog w) A (assign target env v) (fun _ s₂ =>
        wpAny (model prog w) A (forIn ifs true fun c r=>if r=true then do let ok<-isTrue c env (eval c env);pure (ForInStep.yield ok)else pure (ForInStep.yield r)) (fun ok s₃ =>
          if ok=true then wpAny (model prog w) A (eval elt env) (fun x s₄ =>
            wpAny (model prog w) A (call (.builtin "list.append") [acc,x]) (fun _ s₅=>∃ m,m<n/\I m s₅) (fun _ _=>False) s₄) (fun _ _=>False) s₃
          else ∃ m,m<n/\I m s₃) (fun _ _=>False) s₂) (fun _ _=>False) s₁) (fun _ _=>False) s₁) (fun _ _=>False) s)
  (n:Nat) (h:I n s) :
  codeAny (model prog w) A (.compLoop (.ListComp elt [⟨target,iter,ifs,0⟩] scope pos) 0 it acc env) R s:=by
 refine codeAny_loop rfl I (fun n s hI=>?_) n h;show wpAny _ A ((compTurn (.ListComp elt [⟨target,iter,ifs,0⟩] scope pos) 0 it acc env).onRaise (fun x=>do noteFrame x env;theTreesLotGoes x)) _ _ s;refine wpAny_noted ?_;rw[compTurn_list];refine wpAny_bind (wpAny_standAt (wpAny_bind (wpAny_mono (turn n s hI) (fun r s₁ h₁=>?_) fun _ _ h'=>h'.elim)));cases r with
 |none=>exact wpAny_pure h₁
 |some v =>
  refine wpAny_bind (wpAny_mono h₁ (fun _ s₁ h₁=>?_) fun _ _ h'=>h'.elim);refine wpAny_bind (wpAny_mono h₁ (fun _ s₂ h₂=>wpAny_bind (wpAny_mono h₂ (fun ok s₃ h₃=>?_) fun _ _ h'=>h'.elim)) fun _ _ h'=>h'.elim);cases ok with
  |false=>exact wpAny_pure ⟨rfl,h₃⟩
  |true =>exact wpAny_bind (wpAny_bind (wpAny_mono h₃ (fun x s₄ h₄=>wpAny_bind (wpAny_mono h₄ (fun _ s₅ h₅=>wpAny_pure (wpAny_pure ⟨rfl,h₅⟩)) fun _ _ h'=>h'.elim)) fun _ _ h'=>h'.elim))
theorem WH{scope:Scope}{x:List Str}{tgt:Expr}{tg:TG}{caps:List Nat}{elt iter:Expr}{ifs:List Expr}{pos:Pos}{cl:List (Str×Addr)}{fp:List Addr}{it:Addr}{tn:Nat->Heap->Prop}{J:It}{tc:TT}{te:TE}{Fin:List V->Hp->Prop}{W:Nat->Nat->List V->St->Hp->Prop}{E:Value->Shared->Prop}
  {RR:Value->Addr->Result->Shared->Prop}{m0:Nat}(hc:X.calm=true) (B:BlkOk X scope x caps) (I2:Inv X pins σ H2 s2) (T:Turn X.prog X.w X.K tgt J fp it tn) (st2:tn 0 s2.heap) (f2:∀ b∈fp,YX X pins H2 b)
  (c1:∀ x c,cl.lookup x=some c->X.env.cells.lookup x=some c) (c2:∀ x,(x,NameKind.free)∈scope.names->∃ c,cl.lookup x=some c)
  (hI:∀ cl C s H ex,PIfs (Zu X scope (ZL X x caps) cl C s H ex) ifs tc) (hE:∀ cl C s H ex,PE (Zu X scope (ZL X x caps) cl C s H ex) elt te)
  (hG:∀ cl C s H ex,PG (Zu X scope (ZL X x caps) cl C s H ex) tgt tg) (w0:W 0 m0 [] (List.replicate x.length none++MJ σ caps) H2) (cw:CL J tg tc te Fin W)
  (hRR:∀ D C s' H' ys m,H' D=none->s'.heap.Ns C m->YX X pins (upd H' D (.lst ys)) C->Inv X pins σ (upd H' D (.lst ys)) s'->Fin ys H'->RR (.ref D) C (.ok .next) s') :
  wpAny (model X.prog X.w) X.A (newList []) (fun acc s₃=>wpAny (model X.prog X.w) X.A (newFunctionEnv scope X.env.globals cl [] X.env.qual none .none (some X.env)) (fun cenv s₄ =>
    codeAny (model X.prog X.w) X.A (.compStart (.ListComp elt [⟨tgt,iter,ifs,0⟩] scope pos) 0 (.ref it) acc { cenv with scope:=relabel scope X.env }) (RR acc cenv.locals) s₄) E s₃) E s2:=by
 refine wpAny_newObj_type (wpAny_newFunctionEnv B.nocell (by intro y hy;simp at hy) (fun h₁ hns₁ hsb₁=>?_) B.kind);dsimp only at hns₁ hsb₁ ⊢;have hfp:∀ b∈fp,b<s2.heap.objs.size:=fun b hb=>by obtain⟨o,e,_⟩:=T.obj _ _ st2 b hb;exact Heap.lt_size e
 have I3:Inv X pins σ H2 {s2 with heap:=s2.heap.push {cls:=.type "list",dict:=none,data:=.seq ([]:List Value).toArray}}:=I2.kept (t':=s2.toks) fun b o e=>Heap.get?_push_of_some _ e;have h3:(s2.heap.push {cls:=.type "list",dict:=none,data:=.seq ([]:List Value).toArray}).objs.size=s2.heap.objs.size+1:=Heap.size_push ..;have hobj:(s2.heap.push {cls:=.type "list",dict:=none,data:=.seq ([]:List Value).toArray}).get? s2.heap.objs.size=some {cls:=.type "list",dict:=none,data:=.seq ([]:List Value).toArray}:=Heap.get?_push_size _ rfl;have old3:∀ b o,s2.heap.get? b=some o->(s2.heap.push {cls:=.type "list",dict:=none,data:=.seq ([]:List Value).toArray}).get? b=some o:=fun b o e=>Heap.get?_push_of_some _ e;generalize hH3:s2.heap.push {cls:=.type "list",dict:=none,data:=.seq ([]:List Value).toArray}=h3' at hns₁ hsb₁ I3 h3 hobj old3 ⊢;have old:∀ b o,h3'.get? b=some o->h₁.get? b=some o:=fun b o e=>hsb₁.extBut b o (zF (Heap.lt_size e)) (Heap.get?_push_of_some _ e);have hDC:s2.heap.objs.size≠h3'.objs.size:=by rw[h3];exact zF (Nat.lt_succ_self _)
 have IB:=Of (cl:=cl) (fp:=fp) (s3:={s2 with heap:=h3'}) (D:=s2.heap.objs.size) (h1:=h₁) (tk:=s2.toks+([]:List (Str×Value)).length) B I2 f2 c1 c2 I3 rfl h3 old hfp hns₁;generalize hY:Zu X scope (ZL X x caps) cl h3'.objs.size {s2 with heap:=h3'} H2 (s2.heap.objs.size::fp)=Y at IB;have yP:Y.prog=X.prog:=by rw[<-hY];rfl
 have yw:Y.w=X.w:=by rw[<-hY];rfl
 have yK:Y.K=X.K:=by rw[<-hY];rfl
 have yA:Y.A=X.A:=by rw[<-hY];rfl
 have yc:Y.calm=true:=by rw[<-hY];exact hc
 have yenv:Y.env=compEnvC scope cl h3'.objs.size X.env:=by rw[<-hY];rfl
 have hIY:PIfs Y ifs tc:=by rw[<-hY];exact hI _ _ _ _ _
 have hEY:PE Y elt te:=by rw[<-hY];exact hE _ _ _ _ _
 have yxe:Y.xe=fun _ _=>False:=by rw[<-hY];rfl
 have ypn:Y.pn=[]:=by rw[<-hY];rfl
 have hgN:PG Y tgt tg:=by rw[<-hY];exact hG _ _ _ _ _
 have fD:∀ {H':Hp},H' s2.heap.objs.size=none->YX Y [] H' s2.heap.objs.size:=fun {H'} hn=>by
  refine⟨hn,?_,?_,?_,?_,fun p hp=>?_⟩
  .rw[yenv];exact hDC
  .exact IB.ok.exfs _ (by rw[<-hY];exact qT)
  .exact .inl (by rw[<-hY];exact qT)
  .exact fun y c e=>(IB.ok.exf _ (by rw[<-hY];exact qT)).2 y c e
  .rw[ypn]at hp;exact nomatch hp
 have fF:∀ {H':Hp},(∀ b∈fp,H' b=none)->∀ b∈fp,YX Y [] H' b:=fun {H'} hn b hb=>by
  have hm:b∈Y.ex:=by rw[<-hY];exact qI _ hb
  refine⟨hn b hb,?_,IB.ok.exfs b hm,.inl hm,fun y c e=>(IB.ok.exf b hm).2 y c e,fun p hp=>?_⟩
  .exact(IB.ok.exf b hm).1
  .rw[ypn]at hp;exact nomatch hp
 have acc0:h₁.PlainList s2.heap.objs.size ([]:List Value).toArray:=⟨0,by exact old _ _ hobj⟩
 have loop:∀ s₃:Shared,s₃={s2 with heap:=h₁,toks:=s2.toks+([]:List (Str×Value)).length}->
   codeAny (model X.prog X.w) X.A (.compLoop (.ListComp elt [⟨tgt,iter,ifs,0⟩] scope pos) 0 (.ref it) (.ref s2.heap.objs.size) (compEnvC scope cl h3'.objs.size X.env)) (RR (.ref s2.heap.objs.size) h3'.objs.size) s₃:=by
  rintro s₃ rfl;refine JR (fun n s'=>∃ i ys its τ H',Inv Y [] τ H' s'/\tn i s'.heap/\(∀ b∈fp,H' b=none)/\H' s2.heap.objs.size=none/\Vals ys its/\s'.heap.PlainList s2.heap.objs.size its.toArray/\W i n ys τ H') ?_ m0
   ⟨0,[],[],_,H2,IB,T.keep _ _ _ st2 (fun b hb o e=>old _ _ (old3 _ _ e)),fun b hb=>(f2 b hb).1,I2.fresh,.nil,acc0,w0⟩
  rintro n s3 ⟨i,ys,its,τ,H3,I3',st3,fr3,frD,rv,pl,w3⟩;have cv:∀ {α:Type}{f:Sem α}{Q Q':α->Shared->Prop}{s:Shared},wpAny (model Y.prog Y.w) Y.A f Q Y.xe s->(∀ a s',Q a s'->Q' a s')->wpAny (model X.prog X.w) X.A f Q' (fun _ _=>False) s:=fun {α f Q Q' s} h hq=>by rw[yP,yw,yA,yxe]at h;exact wpAny_mono h hq fun _ _ e=>e
  have cvX:∀ {α:Type}{f:Sem α}{Q Q':α->Shared->Prop}{s:Shared},wpAny (model X.prog X.w) Y.A f Q (fun _ _=>False) s->(∀ a s',Q a s'->Q' a s')->wpAny (model X.prog X.w) X.A f Q' (fun _ _=>False) s:=fun {α f Q Q' s} h hq=>by rw[yA]at h;exact wpAny_mono h hq fun _ _ e=>e
  obtain⟨nD,hD3⟩:=id pl;have plD:∀ b∈[s2.heap.objs.size],∃ o,s3.heap.get? b=some o/\∀ v,o.data≠.cell v:=fun b hb=>by
   have e:b=s2.heap.objs.size:=by simpa using hb
   subst e;exact⟨_,hD3,fun v z=>by cases z⟩
  have IP:=I3'.pinned (fp:=[s2.heap.objs.size]) (fun b hb=>by
    have e:b=s2.heap.objs.size:=by simpa using hb
    subst e
    exact fD frD) plD
  have memD:=ZG (fp:=[s2.heap.objs.size]) (zH.mpr rfl) hD3;have fF':∀ b∈fp,YX Y ([]++YD [s2.heap.objs.size] s3.heap) H3 b:=fun b hb=>by
   obtain⟨q1,q2,q3,q4,q5,q6⟩:=fF fr3 b hb;refine⟨q1,q2,q3,q4,q5,fun p hp=>?_⟩;rw[ypn]at hp;obtain⟨hp1,_⟩:=W4 (show p∈YD [s2.heap.objs.size] s3.heap by simpa using hp);have e:p.1=s2.heap.objs.size:=by simpa using hp1
   rw[e];exact(zF (hfp b hb)).symm
  obtain⟨hys,h|⟨go,N,hN,step⟩⟩:=cw i n ys τ H3 w3
  .obtain⟨stop,fin⟩:=h;refine cvX (T.done Y yP yw yK yc i _ s3 _ H3 _ IP fF' st3 stop) fun r s4 ⟨hr,I4⟩=>?_;subst hr;obtain⟨m4,hm4,_⟩:=I4.loc;rw[yenv]at hm4;have base4:Un (frs X.stack) (s2.heap.objs.size::fp) H2 H3 h3' s4.heap:=by
    have:=I4.base;rw[<-hY]at this;exact this
   have hok4:HOk X.prog X.w H3 s4.heap:=by have:=I4.hok;rw[yP,yw]at this;exact this
   have pl4:=(I4.pin _ (qL _ (qL _ memD))).1;have nC:H3 h3'.objs.size=none:=by have:=I4.free;rw[yenv]at this;exact this
   have hlen:ys.length<=sizeLine:=Nat.le_of_lt hys;have osEq:s4.os=s2.os:=by have:=I4.os;rw[<-hY]at this;exact this
   have neD:∀ b o,s2.heap.get? b=some o->b≠s2.heap.objs.size:=fun b o e=>zF (Heap.lt_size e);have nin:∀ b o,s2.heap.get? b=some o->b∉fp->b∉s2.heap.objs.size::fp:=fun b o e hb z=>(qE.mp z).elim (neD b o e) hb;have hokN:HOk X.prog X.w (upd H3 s2.heap.objs.size (.lst ys)) s4.heap:=hok4.track frD ⟨hlen,its,nD,rv,pl4⟩;have U:Un (frs X.stack) fp H2 (upd H3 s2.heap.objs.size (.lst ys)) s2.heap s4.heap:=by
    refine⟨fun b o e hn hf hx=>base4.keep b o (old3 b o e) hn hf (nin b o e hx),fun b o e hn hf hx=>base4.slot b o (old3 b o e) hn hf (nin b o e hx),fun b o e hn hx=>?_,fun b o e hx=>base4.there b o (old3 b o e) (nin b o e hx),fun b xs e=>?_,fun b o xs e=>?_,fun b ps e=>?_⟩
    .rw[upd_ne (neD b o e)];exact base4.free b o (old3 b o e) hn (nin b o e hx)
    .have q:=base4.tups b xs e;rw[upd_ne (Zg q frD)];exact q
    .have q:=base4.frzs b o xs e;rw[upd_ne (Zg q frD)];exact q
    .obtain⟨more,q⟩:=base4.tbls b ps e;exact⟨more,by rw[upd_ne (Zg q frD)];exact q⟩
   have I5:Inv X pins σ (upd H3 s2.heap.objs.size (.lst ys)) s4:=I2.call' (ch:=fp) osEq U hokN I4.bare fun b hb=>by obtain⟨_,q2,_,q4,q5,q6⟩:=f2 b hb;exact⟨q4,q2,q5,q6⟩
   exact hRR _ _ _ _ _ m4 frD hm4 (I2.fpOk (Nat.le_of_lt (by rw[h3];exact Nat.lt_succ_self _)) (by rw[upd_ne hDC.symm];exact nC)) I5 fin
  .refine cvX (T.item Y yP yw yK yc i _ s3 _ H3 _ IP fF' st3 go) fun r s4 ⟨u,hr,h4⟩=>?_;subst hr;refine cvX h4 fun _ s5 ⟨y,H5,I5,r5,y5,st5,fr5⟩=>?_;have frD5:H5 s2.heap.objs.size=none:=(I5.pin _ (qL _ (qL _ memD))).2.1;have hD5:=(I5.pin _ (qL _ (qL _ memD))).1;have I5p:=I5.unpinned.pinned (fp:=s2.heap.objs.size::fp) (fun b hb=>by
     rcases qE.mp hb with e|hb
     . subst e;exact fD frD5
     . exact fF fr5 b hb) (fun b hb=>by
     rcases qE.mp hb with e|hb
     . subst e;exact⟨_,hD5,fun v z=>by cases z⟩
     . exact T.obj _ _ st5 b hb)
   have memD5:=ZG (fp:=s2.heap.objs.size::fp) qT hD5;rw[<-yenv];refine cv (hgN _ s5 _ H5 y u _ I5p r5 (step y H5 y5)) fun _ s6 ⟨σ6,H6,I6,q6⟩=>?_;have back:∀ {m':Nat}{σ7:St}{H7:Hp}{s7:Shared}{ys':List V}{its':List Value},Inv Y [] σ7 H7 s7->tn (i+1) s7.heap->(∀ b∈fp,H7 b=none)->H7 s2.heap.objs.size=none->Vals ys' its'->s7.heap.PlainList s2.heap.objs.size its'.toArray->m'<n/\W (i+1) m' ys' σ7 H7->
     ∃ m,m<n/\∃ i ys its τ H',Inv Y [] τ H' s7/\tn i s7.heap/\(∀ b∈fp,H' b=none)/\H' s2.heap.objs.size=none/\Vals ys its/\s7.heap.PlainList s2.heap.objs.size its.toArray/\W i m ys τ H' :=
    fun {m' σ7 H7 s7 ys' its'} J1 st7 fr7 fd7 rv7 pl7 wm=>⟨m',wm.1,i+1,ys',its',σ7,H7,J1,st7,fr7,fd7,rv7,pl7,wm.2⟩
   have stay:∀ {σ7:St}{H7:Hp}{s7:Shared},Inv Y ([]++YD (s2.heap.objs.size::fp) s5.heap) σ7 H7 s7->tn (i+1) s7.heap/\(∀ b∈fp,H7 b=none)/\H7 s2.heap.objs.size=none/\s7.heap.get? s2.heap.objs.size=some {cls:=.type "list",data:=.seq its.toArray nD}:=by intro σ7 H7 s7 J1;refine⟨T.keep _ _ _ st5 fun b hb o e=>(J1.pin (b,o) (qL _ (qL _ (ZG (qI _ hb) e)))).1,fun b hb=>?_,(J1.pin _ (qL _ (qL _ memD5))).2.1,(J1.pin _ (qL _ (qL _ memD5))).1⟩;obtain⟨o,e,d⟩:=T.obj _ _ st5 b hb;exact(J1.pin (b,o) (qL _ (qL _ (ZG (qI _ hb) e)))).2.1
   refine cv (hIY _ s6 _ H6 _ I6 q6) fun ok s7 ⟨H7,I7,q7⟩=>?_;cases ok with
   |false =>rw[if_neg (by decide)]at q7;rw[if_neg (by decide)];obtain⟨m',wm⟩:=hN _ _ _ q7;obtain⟨a1,a2,a3,a4⟩:=stay I7;exact back I7.unpinned a1 a2 a3 rv ⟨nD,a4⟩ wm
   |true =>
    rw[if_pos rfl]at q7;rw[if_pos rfl];refine cv (hEY _ s7 _ H7 _ I7 q7) fun z s8 ⟨vz,H8,I8,rz,wm⟩=>?_;obtain⟨m',wm⟩:=hN _ _ _ wm;obtain⟨a1,a2,a3,a4⟩:=stay I8;have hlen:=rv.length;refine wpAny_list_append_plain (hsz:=by rw[qC];omega) (⟨nD,a4⟩:s8.heap.PlainList _ its.toArray) fun h9 hl9 hs9=>?_;obtain⟨q1,q2,q3,q4,q5,q6⟩:=fD a3;have I9:Inv Y [] _ H8 {s8 with heap:=h9}:=I8.unpinned.turned (t':=s8.toks) (fun b o hb e=>hs9.extBut b o hb e) q1 q2 q4 q5 q6;refine back I9 (T.keep _ _ _ a1 fun b hb o e=>hs9.extBut b o (zF (hfp b hb)) e) a2 a3 (its':=its++[z]) (rv.append (.cons rz .nil)) ?_ wm;have e:its.toArray.push z=(its++[z]).toArray:=by simp
    rw[e]at hl9;exact hl9
 exact codeAny_compStart_list (loop _ rfl) (T.self _ 0 _ _ _ (T.keep _ _ _ st2 (fun b hb o e=>old _ _ (old3 _ _ e))) (loop _ rfl))
theorem UB{scope:Scope}{x:List Str}{tgt:Expr}{tg:TG}{caps:List Nat}{elt iter:Expr}{ifs:List Expr}{pos:Pos}{wi:TI}{tc:TT}{te:TE}(hc:X.calm=true)(B:BlkOk X scope x caps)(hi:PI X tgt iter wi)(hG:∀ cl C s H ex,PG (Zu X scope (ZL X x caps) cl C s H ex) tgt tg)
  (hI:∀ cl C s H ex,PIfs (Zu X scope (ZL X x caps) cl C s H ex) ifs tc) (hE:∀ cl C s H ex,PE (Zu X scope (ZL X x caps) cl C s H ex) elt te)
  (hs:∀ x,foldedSetIterable iter X.env x=pure x:=by intro _;rfl):PE X (.ListComp elt [⟨tgt,iter,ifs,0⟩] scope pos) (O0 wi x.length caps tg tc te):=by
 intro pins s σ H Q I h;obtain⟨cl,hcl,c1,c2⟩:=Ys (scope:=scope) (env:=X.env) fun y hy e=>I.ok.has y.1 (.inl (B.frees y hy e));rw[eval_ListComp];refine wpAny_comprehension_free (use:=none) rfl hs hcl B.kind B.locs (thn (hi pins s σ H _ I h) fun v s1 h1=>thn h1 fun itv s2 h2=>?_);obtain⟨it,fp,tn,J,H2,e,I2,T,st2,f2,W,⟨m0,w0⟩,cw⟩:=h2;subst e;refine WH (RR:=fun acc C=>compPost (model X.prog X.w) X.A X.xe none (EP X pins σ Q) acc C) hc B I2 T st2 f2 c1 c2 hI hE hG w0 cw ?_;intro D C s' H' ys m hD hn fC I' fin;obtain⟨q1,q2,q3,q4,q5,q6⟩:=fC;exact⟨m,hn,fun h' hs'=>⟨.ref D,_,I'.turned (t':=s'.toks) (fun b o hb e=>hs'.extBut b o hb e) q1 q2 q4 q5 q6,rfl,fin D hD⟩⟩
theorem Ai{scope:Scope}{x:List Str}{y:Str}{tgt:Expr}{tg:TG}{py:Pos}{i:Nat}{caps:List Nat}{elt iter:Expr}{ifs:List Expr}{pos spos:Pos}{wi:TI}{tc:TT}{te:TE}(hN:X.N.Nodup)(hi':X.N[i]?=some y)(hy:Loc X.env.scope y)(hc:X.calm=true)(B:BlkOk X scope x caps)(hi:PI X tgt iter wi)(hG:∀ cl C s H ex,PG (Zu X scope (ZL X x caps) cl C s H ex) tgt tg)
  (hI:∀ cl C s H ex,PIfs (Zu X scope (ZL X x caps) cl C s H ex) ifs tc) (hE:∀ cl C s H ex,PE (Zu X scope (ZL X x caps) cl C s H ex) elt te)
  (hs:∀ x,foldedSetIterable iter X.env x=pure x:=by intro _;rfl)
  (hsw:swapsWith (.ListComp elt [⟨tgt,iter,ifs,0⟩] scope pos) (some (.Name y py)) spos.line X.env=pure true:=by rfl)
  (hf:X.fn y=true\/X.env.scope.names.lookup y=some .local:=by first|exact .inl rfl|exact .inr rfl|assumption) :
  PS X (.Assign [.Name y py] (.ListComp elt [⟨tgt,iter,ifs,0⟩] scope pos) spos) (GC (O0 wi x.length caps tg tc te) (CU i)):=by
 intro pins s σ H D I h;obtain⟨cl,hcl,c1,c2⟩:=Ys (scope:=scope) (env:=X.env) fun y hy e=>I.ok.has y.1 (.inl (B.frees y hy e));rw[exec_Assign_Name_used _ _ _ _ hsw];refine wpAny_bind (wpAny_standAt (wpAny_bind ?_));show wpAny _ X.A (do let _<-comprehension (.ListComp elt [⟨tgt,iter,ifs,0⟩] scope pos) scope X.env _ (newList []) false (eval iter X.env) (some (assign (.Name y py) X.env))) _ _ s;refine wpAny_bind (wpAny_mono (wpAny_comprehension_free (use:=some (assign (.Name y py) X.env)) (Q:=fun _ s'=>SP X pins D .next s') rfl hs hcl B.kind B.locs
   (thn (hi pins s σ H _ I h) fun v s1 h1=>thn h1 fun itv s2 h2=>?_)) (fun _ s' hq=>wpAny_pure (wpAny_pure hq)) fun _ _ e=>e)
 obtain⟨it,fp,tn,J,H2,e,I2,T,st2,f2,W,⟨m0,w0⟩,cw⟩:=h2;subst e;refine WH (RR:=fun acc C=>compPost (model X.prog X.w) X.A X.xe (some (assign (.Name y py) X.env)) (fun _ s'=>SP X pins D .next s') acc C) hc B I2 T st2 f2 c1 c2 hI hE hG w0 cw ?_;intro Dd C s' H' ys m hD hn fC I' fin;obtain⟨q1,q2,q3,q4,q5,q6⟩:=fC;show wpAny _ _ (assign (.Name y py) X.env (.ref Dd)) _ _ _;refine wpAny_assign_Name (Jb I' hN hi' hy (v:=.ref Dd) rfl (fun s2 I2 ⟨a,hs2,ha⟩=>?_) hf);have ne:C≠a:=by
  rcases ha with z|z
  .rw[z];exact q2
  .exact(q5 y a z).symm
 refine⟨m,hn.sameBut hs2 ne,fun h' hs'=>?_⟩;exact⟨_,_,I2.turned (t':=s2.toks) (fun b o hb e=>hs'.extBut b o hb e) q1 q2 q4 q5 q6,fin Dd hD⟩
end
mutual
inductive IsD (K:PySem.W.Frag) (H:Hp):V->PyData->Prop
 |non:IsD K H .non .none
 |bl (b:Bool):IsD K H (.bl b) (.bool b)
 |int (i:Int):IsD K H (.int i) (.int i)
 |str (x:Str):IsD K H (.str x) (.str x)
 |lst {a:Addr}{xs:List V}{ds:List PyData}:SqL K H a xs->IsDs K H xs ds->IsD K H (.ref a) (.list ds)
 |tup {a:Addr}{xs:List V}{ds:List PyData}:SqT K H a xs->IsDs K H xs ds->IsD K H (.ref a) (.tuple ds)
inductive IsDs (K:PySem.W.Frag) (H:Hp):List V->List PyData->Prop
 |nil:IsDs K H [] []
 |cons {x:V}{xs:List V}{d:PyData}{ds:List PyData}:IsD K H x d->IsDs K H xs ds->IsDs K H (x::xs) (d::ds)
end
section
variable {X:Cx}{pins:List (Addr×Obj)}{σ:St}{H:Hp}{s:Shared}
mutual
theorem IsD.reads(I:Inv X pins σ H s):∀ {v:V}{d:PyData}{u:Value},IsD X.K H v d->RelV v u->∃ as,Reads s.heap u d as
 |_,_,_,.non,r=>by cases r;exact⟨_,.none⟩
 |_,_,_,.bl b,r=>by cases r;exact⟨_,.bool b⟩
 |_,_,_,.int i,r=>by obtain⟨t,rfl⟩:=r;exact⟨_,.int i t⟩
 |_,_,_,.str x,r=>by obtain⟨t,rfl⟩:=r;exact⟨_,.str x t⟩
 |_,_,_,.lst q qs,r=>by cases r;obtain⟨its,rv,⟨o,n,e,c,_,d⟩,_⟩:=I.list q;obtain⟨as,ra⟩:=IsDs.reads I qs rv;exact⟨_,.list e c d (by simpa using ra)⟩
 |_,_,_,.tup q qs,r=>by cases r;obtain⟨its,rv,⟨o,e,c,n,d⟩,_⟩:=I.tuple q;obtain⟨as,ra⟩:=IsDs.reads I qs rv;exact⟨_,.tuple e c d (by simpa using ra)⟩
theorem IsDs.reads(I:Inv X pins σ H s):∀ {vs:List V}{ds:List PyData}{us:List Value},IsDs X.K H vs ds->Vals vs us->∃ as,ReadsAll s.heap us ds as
 |_,_,_,.nil,.nil=>⟨_,.nil⟩
 |_,_,_,.cons q qs,.cons r rs=>by obtain⟨as,ra⟩:=IsD.reads I q r;obtain⟨bs,rb⟩:=IsDs.reads I qs rs;exact⟨_,.cons ra rb⟩
end
end
theorem Same.sqT{K:PySem.W.Frag}{H H':Hp}{a:Addr}{xs:List V}(e:Same H H')(h:SqT K H a xs):SqT K H' a xs:=by
 rcases h with(h|⟨o,h⟩)|h
 .exact .inl (.inl (e _ _ h))
 .exact .inl (.inr ⟨o,e _ _ h⟩)
 .exact .inr h
mutual
theorem IsD.same{K:PySem.W.Frag}{H H':Hp}(e:Same H H'):∀ {v:V}{d:PyData},IsD K H v d->IsD K H' v d
 |_,_,.non=>.non
 |_,_,.bl b=>.bl b
 |_,_,.int i=>.int i
 |_,_,.str x=>.str x
 |_,_,.lst q qs=>.lst (e.seq q) (IsDs.same e qs)
 |_,_,.tup q qs=>.tup (e.sqT q) (IsDs.same e qs)
theorem IsDs.same{K:PySem.W.Frag}{H H':Hp}(e:Same H H'):∀ {vs:List V}{ds:List PyData},IsDs K H vs ds->IsDs K H' vs ds
 |_,_,.nil=>.nil
 |_,_,.cons q qs=>.cons (IsD.same e q) (IsDs.same e qs)
end
theorem IsDs.ints{K:PySem.W.Frag}{H:Hp}:∀ ns:List Int,IsDs K H (ns.map V.int) (ns.map PyData.int)
 |[]=>.nil
 |n::ns=>.cons (.int n) (IsDs.ints ns)
theorem IsDs.length{K:PySem.W.Frag}{H:Hp}:∀ {vs:List V}{ds:List PyData},IsDs K H vs ds->vs.length=ds.length
 |_,_,.nil=>rfl
 |_,_,.cons _ t=>by rw[qB,qB,IsDs.length t]
theorem IsDs.get{K:PySem.W.Frag}{H:Hp}:∀ {vs:List V}{ds:List PyData}{i:Nat}{v:V},IsDs K H vs ds->vs[i]?=some v->∃ d,ds[i]?=some d/\IsD K H v d
 |_,_,_,_,.nil,e=>by simp at e
 |_,_,0,_,.cons q _,e=>by simp at e;subst e;exact⟨_,rfl,q⟩
 |_,_,i+1,v,.cons _ t,e=>by obtain⟨d,h1,h2⟩:=IsDs.get (i:=i) (v:=v) t (by simpa using e);exact⟨d,by simpa using h1,h2⟩
theorem IsDs.append{K:PySem.W.Frag}{H:Hp}:∀ {xs ys:List V}{ds es:List PyData},IsDs K H xs ds->IsDs K H ys es->IsDs K H (xs++ys) (ds++es)
 |_,_,_,_,.nil,h=>h
 |_,_,_,_,.cons q t,h=>.cons q (IsDs.append t h)
section
variable {X:Cx}
def GK (K:PySem.W.Frag):R2:=fun x y H Q=>∃ d e,IsD K H x d/\IsD K H y e/\SeqAt.shaped d=true/\SeqAt.shaped e=true/\Q (.bl (PyData.eqv d e)) H
def DP (K:PySem.W.Frag):R2:=fun x y H Q=>∃ d e,IsD K H x d/\IsD K H y e/\SeqAt.shaped d=true/\SeqAt.shaped e=true/\Q (.bl (!PyData.eqv d e)) H
theorem EU(hu:X.A.units+64<cLine):OpR X (compareOp .Eq) (GK X.K):=by intro pins s σ H x y v u Q I rx ry h;obtain⟨d,e,hd,he,sd,se,q⟩:=h;obtain⟨as,ra⟩:=hd.reads I rx;obtain⟨bs,rb⟩:=he.reads I ry;exact SeqAt.compareEq_shaped ra rb sd se hu ⟨.bl _,H,I,rfl,q⟩
theorem UN(hu:X.A.units+64<cLine):OpR X (compareOp .NotEq) (DP X.K):=by intro pins s σ H x y v u Q I rx ry h;obtain⟨d,e,hd,he,sd,se,q⟩:=h;obtain⟨as,ra⟩:=hd.reads I rx;obtain⟨bs,rb⟩:=he.reads I ry;exact SeqAt.compareNe_shaped ra rb sd se hu ⟨.bl _,H,I,rfl,q⟩
inductive TyV (K:PySem.W.Frag) (H:Hp):V->Value->Prop
 |of {x:V}{t:Value}:TyOf K H x t->TyV K H x t
 |tup {a:Addr}{xs:List V}:SqT K H a xs->TyV K H (.ref a) (.type "tuple")
 |lst {a:Addr}{xs:List V}:SqL K H a xs->TyV K H (.ref a) (.type "list")
theorem TyV.int {K:PySem.W.Frag}{H:Hp}(i:Int):TyV K H (.int i) (.type "int"):=.of (.int i)
theorem UK:CallR X (.builtin "isinstance") (fun xs H Q=>∃ x T t b,xs=[x,.ty T]/\TyV X.K H x t/\PySem.W.kitOne X.K t (.type T)=some b/\Q (.bl b) H):=by
 intro pins s σ H xs us Q I r h;obtain⟨x,T,t,b,rfl,ty,e,q⟩:=h;obtain⟨u,v,rfl,ru,rv⟩:=CK r;cases rv;cases ty with
 |of ty=>exact WW I ru ty e fun tk=>⟨.bl b,H,I.tok tk,rfl,q⟩
 |tup hq =>cases ru;obtain⟨its,_,⟨o,h1,h2,_⟩,_⟩:=I.tuple hq;exact PySem.W.kia_one PySem.W.kitx_tuple I.kIn ⟨o,h1,h2⟩ e (fun z=>nomatch z) fun tk=>⟨.bl b,H,I.tok tk,rfl,q⟩
 |lst hq =>cases ru;obtain⟨its,_,⟨o,n,h1,h2,_⟩,_⟩:=I.list hq;exact PySem.W.kia_one PySem.W.kitx_list I.kIn ⟨o,h1,h2⟩ e (fun z=>nomatch z) fun tk=>⟨.bl b,H,I.tok tk,rfl,q⟩
theorem AI (hc:X.calm=true):CallR X (.builtin "all") (fun xs H Q=>∃ p,∃ bs:List Bool,xs=[.ref p]/\SqL X.K H p (bs.map V.bl)/\Q (.bl (bs.all id)) H):=by
 intro pins s σ H xs us Q I r h;obtain⟨p,bs,rfl,hq,q⟩:=h;obtain⟨u,rfl,rx⟩:=ZQ r;cases rx;obtain⟨its,rv,pl,hz⟩:=I.list hq;have hlen:=rv.length;rw[qA]at hlen;have hlt:p<s.heap.objs.size:=by obtain⟨o,n,e,_⟩:=pl;exact Heap.lt_size e
 refine call_all_walk (wpAny_pyIter_list pl.isList ?_);refine⟨s.heap.objs.size,_,_,its.toArray.size,_,_,fun i=>bs.getD i true,rfl,Walks.list (A:=X.A.in1) (I.ok.hd hc) s.heap.objs.size p (zF hlt) its.toArray,⟨⟨_,Heap.get?_push_size _ rfl,rfl,rfl⟩,pl.isList.push _⟩,?_,fun h' tk hk=>?_⟩
 .intro i v s' Q' E' hP hQ;have hP:its[i]?=some v:=by simpa using hP
  have hb:(bs.map V.bl)[i]?=some (.bl (bs.getD i true)):=by
   have hi:i<bs.length:=by have:=(qK.mp hP).1;omega
   rw[qF,qN];simp[hi]
  obtain⟨u,hu,ru⟩:=rv.get hb;rw[hP]at hu;cases hu;cases ru;exact wpAny_truthy_bool hQ
 .have e:(List.range its.toArray.size).all (fun i=>bs.getD i true)=bs.all id:=by
   rw[qC,<-hlen,Bool.eq_iff_iff,List.all_eq_true,List.all_eq_true];constructor
   .intro h b hb;obtain⟨i,hi,rfl⟩:=List.mem_iff_getElem.mp hb;have:=h i (List.mem_range.mpr hi);rw[qN,qH hi]at this;exact this
   .intro h i hi;have hi:=List.mem_range.mp hi;rw[qN,qH hi];exact h _ (List.getElem_mem hi)
  rw[e];refine⟨.bl _,H,I.kept (t':=tk) (fun b o e=>hk b o (fun hm=>?_) (Heap.get?_push_of_some _ e)),rfl,q⟩;have:b=s.heap.objs.size:=by simpa using hm
  exact absurd (this▸Heap.lt_size e) (zK _)
def sortI (ns:List Int):List Int:=ns.mergeSort fun a b=>decide (a<=b)
theorem YC(ns:List Int):(sortI ns).Perm ns:=List.mergeSort_perm ns _
theorem Ku(ns:List Int):(sortI ns).Pairwise (·<=·):=by have h:=List.pairwise_mergeSort (le:=fun a b:Int=>decide (a<=b)) (fun a b c h1 h2=>by simp at *;omega) (fun a b=>by simp;omega) ns;exact h.imp fun h=>by simpa using h
theorem Z3{ns ms:List Int}(hp:ms.Perm ns)(hs:ms.Pairwise (·<=·)):ms=sortI ns:=PySem.W.ksm_same (hp.trans (YC ns).symm) hs (Ku ns)
theorem WG{ns ms:List Int}(hp:ms.Perm ns):sortI ms=sortI ns:=Z3 ((YC ms).trans hp) (Ku ms)
theorem Z1(ns:List Int):(sortI ns).length=ns.length:=(YC ns).length_eq
theorem Z7:∀ {vs:List Value}{ns:List Int},IntsAre vs ns->Vals (ns.map V.int) vs:=YZ
theorem call_sorted:CallR X (.builtin "sorted") (fun xs H Q=>∃ p,∃ ns:List Int,xs=[.ref p]/\SqL X.K H p (ns.map V.int)/\ns.length<64/\∀ l,H l=none->Q (.ref l) (upd H l (.lst ((sortI ns).map V.int)))):=by intro pins s σ H xs us Q I r h;obtain⟨p,ns,rfl,hq,h64,q⟩:=h;obtain⟨u,rfl,rx⟩:=ZQ r;cases rx;obtain⟨its,rv,pl,hz⟩:=I.list hq;have hlen:=rv.length;rw[qA]at hlen;refine sorted_ints pl.isList (ZF rv) (by omega) fun out ns' a1 a2 a3=>?_;have e:=Z3 a2 a3;subst e;obtain⟨n,he⟩:=sortedAll_at s.heap its out;refine⟨.ref (s.heap.objs.size+1),_,I.laid (a:=s.heap.objs.size+1) (o:=.lst ((sortI ns).map V.int)) (t':=s.toks) (fun b o e=>sortedAll_old e) (Nat.le_succ _) ?_,rfl,q _ (I.hok.fresh (Nat.le_succ _))⟩;exact⟨by rw[qA,Z1];rw[qA]at hz;exact hz,out.toList,n,Z7 a1,by simpa[seqObj]using he⟩
end
section
variable {X:Cx}{x:Str}{p pos:Pos}{e:Expr}{es:List Expr}{t:TA}
theorem Gy {T:String}(hg:Gl X x) (hm:X.mg x=none) (hv:bootBuiltins x=some (.type T)) (hn:x≠"__name__":=by decide) (hd:(x==("__debug__" : Str))=false:=by decide):PE X (.Name x pos) (tC (.ty T)):=BF hg hm hv rfl hn hd
end
def ZU (scope sc:Scope) (N:List Str) (x:List Str) (caps:List Nat):Bool :=
 scope.names.all (fun y=>y.2 != .cell)&&scope.names.all (fun y=>y.2 != .local||scope.names.lookup y.1==some .local)&&x.all (fun y=>scope.names.lookup y==some .local) &&
 scope.names.all (fun y=>y.2 != .free||sc.names.lookup y.1==some .cell) &&
 caps.all (fun j=>decide (j<N.length)&&sc.names.lookup (N.getD j Str.empty)==some .cell&&scope.names.lookup (N.getD j Str.empty)==some .free)&&decide (x++caps.map fun j=>N.getD j Str.empty).Nodup
theorem Mh{X:Cx}{scope sc:Scope}{x:List Str}{caps:List Nat}{N:List Str}(hsc:X.env.scope=sc)(hN:X.N=N)(hk:scope.kind=.function)(h:ZU scope sc N x caps=true):BlkOk X scope x caps:=by
 unfold ZU at h;simp only[bAq]at h;obtain⟨⟨⟨⟨⟨h1,h2⟩,h3⟩,h4⟩,h5⟩,h6⟩:=h;rw[List.all_eq_true]at h1 h2 h4 h5;refine⟨hk,fun y hy=>by simpa using h1 y hy,fun y hy e=>?_,fun y hy=>by simpa using List.all_eq_true.mp h3 y hy,fun y hy e=>?_,fun j hj=>?_,?_⟩
 .have:=h2 y hy;rw[e]at this;simpa using this
 .have:=h4 y hy;rw[e]at this;show X.env.scope.names.lookup y.1=_;rw[hsc];simpa using this
 .have:=h5 j hj;simp only[bAq,decide_eq_true_eq,beq_iff_eq]at this;obtain⟨⟨a,b⟩,c⟩:=this;refine⟨?_,?_,?_⟩
  .rw[hN,qH a];rfl
  .show X.env.scope.names.lookup _=_;rw[hsc,hN];exact b
  .rw[hN];exact c
 .unfold ZL;rw[hN];exact of_decide_eq_true h6
def Keep (r:Addr) (H H':Hp):Prop:=∀ b o,H b=some o->b≠r->H' b=some o
theorem Same.keep{H H':Hp}(e:Same H H')(r:Addr):Keep r H H':=fun b o h _=>e b o h
theorem Keep.refl(r:Addr)(H:Hp):Keep r H H:=fun _ _ h _=>h
theorem Keep.trans{r:Addr}{H H1 H2:Hp}(a:Keep r H H1)(b:Keep r H1 H2):Keep r H H2:=fun c o h n=>b c o (a c o h n) n
theorem Keep.upd{r:Addr}{H:Hp}{o:HO}:Keep r H (L2.upd H r o):=fun b u h n=>by rw[upd_ne n];exact h
theorem Keep.free{r:Addr}{H H':Hp}(e:Keep r H H'){l:Addr}(hr:∃ o,H' r=some o)(h:H' l=Option.none):H l=Option.none:=by
 cases q:H l with
 |none=>rfl
 |some o =>
  by_cases hl:l=r
  .subst hl;obtain⟨o',z⟩:=hr;rw[h]at z;cases z
  .rw[e l o q hl]at h;cases h
mutual
def K5:PyData->Bool
 |.list _=>false
 |.tuple xs=>noLists xs
 |.dict _=>false
 |_=>true
def noLists:List PyData->Bool
 |[]=>true
 |x::xs=>K5 x&&noLists xs
end
theorem SqT.keep{K:PySem.W.Frag}{r a:Addr}{H H':Hp}{zs xs:List V}(k:Keep r H H')(hr:H r=some (.lst zs))(h:SqT K H a xs):SqT K H' a xs:=by
 rcases h with(h|⟨o,h⟩)|h
 .exact .inl (.inl (k _ _ h (U3 h hr (by intro z;cases z))))
 .exact .inl (.inr ⟨o,k _ _ h (U3 h hr (by intro z;cases z))⟩)
 .exact .inr h
theorem SqL.keep{K:PySem.W.Frag}{r a:Addr}{H H':Hp}{xs:List V}(k:Keep r H H')(hr:a≠r)(h:SqL K H a xs):SqL K H' a xs:=by
 rcases h with(h|⟨o,h⟩)|h
 .exact .inl (.inl (k _ _ h hr))
 .exact .inl (.inr ⟨o,k _ _ h hr⟩)
 .exact .inr h
mutual
theorem IsD.keep{K:PySem.W.Frag}{r:Addr}{H H':Hp}{zs:List V}(k:Keep r H H')(hr:H r=some (.lst zs)):∀ {v:V}{d:PyData},IsD K H v d->K5 d=true->IsD K H' v d
 |_,_,.non,_=>.non
 |_,_,.bl b,_=>.bl b
 |_,_,.int i,_=>.int i
 |_,_,.str x,_=>.str x
 |_,_,.lst q qs,h=>by cases h
 |_,_,.tup q qs,h=>.tup (q.keep k hr) (IsDs.keep k hr qs h)
theorem IsDs.keep{K:PySem.W.Frag}{r:Addr}{H H':Hp}{zs:List V}(k:Keep r H H')(hr:H r=some (.lst zs)):∀ {vs:List V}{ds:List PyData},IsDs K H vs ds->noLists ds=true->IsDs K H' vs ds
 |_,_,.nil,_=>.nil
 |_,_,.cons q qs,h=>by have h':=Bool.and_eq_true_iff.mp (show(K5 _&&noLists _)=true from h);exact .cons (IsD.keep k hr q h'.1) (IsDs.keep k hr qs h'.2)
end
abbrev Tie:=Int×Int×Int
def Lg (t:Tie):PyData:=.tuple [.int t.1,.int t.2.1,.int t.2.2]
theorem IsD.tie{K:PySem.W.Frag}{H:Hp}{a:Addr}{x y c:Int}(h:SqT K H a [.int x,.int y,.int c]):IsD K H (.ref a) (Lg (x,y,c)):=.tup h (.cons (.int x) (.cons (.int y) (.cons (.int c) .nil)))
theorem ifT{c:Bool}{A B:Prop}(e:c=true)(h:A):if c=true then A else B:=by rw[if_pos e];exact h
theorem ifF{c:Bool}{A B:Prop}(e:c=false)(h:B):if c=true then A else B:=by rw[e,if_neg Bool.false_ne_true];exact h
structure BrOk (ns:List Int):Prop where
 one:1<=ns.length
 ten:ns.length<=10
 rng:∀ n∈ns,0<=n/\n<=999
 nd:ns.Nodup
structure TieOk (ns:List Int) (t:Tie):Prop where
 a:t.1∈ns
 b:t.2.1∈ns
 ne:t.1≠t.2.1
 lo:1<=t.2.2
 hi:t.2.2<=1000
structure TsOk (ns:List Int) (ts:List Tie):Prop where
 few:ts.length<=16
 each:∀ t∈ts,TieOk ns t
def mn (x y:Int):Int:=if y<x then y else x
def mx (x y:Int):Int:=if y > x then y else x
def loT (t:Tie):Tie:=(mn t.1 t.2.1,mx t.1 t.2.1,t.2.2)
theorem BrOk.perm{ns ms:List Int}(h:BrOk ns)(p:ms.Perm ns):BrOk ms:=⟨by rw[p.length_eq];exact h.one,by rw[p.length_eq];exact h.ten,fun n hn=>h.rng n (p.mem_iff.mp hn),p.nodup_iff.mpr h.nd⟩
theorem TsOk.perm{ns ms:List Int}{ts:List Tie}(h:TsOk ns ts)(p:ms.Perm ns):TsOk ms ts:=⟨h.few,fun t ht=>let ⟨a,b,c,d,e⟩:=h.each t ht;⟨p.mem_iff.mpr a,p.mem_iff.mpr b,c,d,e⟩⟩
section
variable {X:Cx}(K:PySem.W.Frag) (h:X.K=K)
include h
end
section
variable {prog:Program}{w:World}{A:Around}{E:Value->Shared->Prop}{s:Shared}
theorem KR{it t:Addr}{i:Nat}{items:Array Value}{x:Value}{Q:Value->Shared->Prop}(hit:s.heap.IsTupleIter it t i)(ht:s.heap.IsTuple t items)(hx:items[i]?=some x)
  (hQ:∀ h',h'.IsTupleIter it t (i+1)->Heap.SameBut it s.heap h'->Q x {s with heap:=h'}):wpAny (model prog w) A (Builtin.SmallTypes.nextOf (.ref it)) Q E s:=by
 obtain⟨o,ho,hc,hd⟩:=id hit;obtain⟨ot,hot,_,nt,hdt⟩:=ht;unfold Builtin.SmallTypes.nextOf;refine wpAny_bind (wpAny_callSpecial?_slot (name:=Str.ofString "__next__") hit.typeIs F.slot_tuple_iterator_next (wpAny_call_entry F.slot_tuple_iterator_next hit.typeIs F.entry_tuple_iterator_next ?_ (F.args_tuple_iterator_next_1 _)));show wpAny _ _ (field (.ref it) 0 >>= _) _ _ s;refine wpAny_bind (wpAny_field ho hd (x:=.ref t) rfl ?_);show wpAny _ _ (if(Value.ref t==Value.none)=true then _ else _) _ _ s;rw[if_neg (show ¬ ((Value.ref t==Value.none)=true) from Bool.false_ne_true)];show wpAny _ _ (field (.ref it) 1 >>= _) _ _ s;refine wpAny_bind (wpAny_field ho hd (x:=.int i 0) rfl ?_);show wpAny _ _ (seqItems? (.ref t) >>= _) _ _ s;refine wpAny_bind (wpAny_seqItems hot hdt ?_);simp only[Int.toNat_natCast,hx];refine wpAny_bind (wpAny_setField ho hd (by simp) (wpAny_pure ⟨x,rfl,wpAny_pure (hQ _ ⟨_,Heap.get?_update_self _ ho (Obj.isFreed_of_fields (Obj.data_mapFields hd _)),(Obj.cls_mapFields ..).trans hc,?_⟩ (Heap.SameBut.update ..))⟩));rw[Obj.data_mapFields hd];simp[rawInt]
theorem W0{it t:Addr}{i:Nat}{items:Array Value}{Q:Value->Shared->Prop}(hh:A.handled=none)(hit:s.heap.IsTupleIter it t i)(ht:s.heap.IsTuple t items)(hx:items[i]?=none)
  (hE:∀ h' e,Heap.ExtBut it s.heap h'->(∃ o,h'.get? e=some o/\o.cls=.type "StopIteration")->E (.ref e) {s with heap:=h'}):wpAny (model prog w) A (Builtin.SmallTypes.nextOf (.ref it)) Q E s:=by
 obtain⟨o,ho,hc,hd⟩:=id hit;obtain⟨ot,hot,_,nt,hdt⟩:=ht;unfold Builtin.SmallTypes.nextOf;refine wpAny_bind (wpAny_callSpecial?_slot (name:=Str.ofString "__next__") hit.typeIs F.slot_tuple_iterator_next (wpAny_call_entry F.slot_tuple_iterator_next hit.typeIs F.entry_tuple_iterator_next ?_ (F.args_tuple_iterator_next_1 _)));show wpAny _ _ (field (.ref it) 0 >>= _) _ _ s;refine wpAny_bind (wpAny_field ho hd (x:=.ref t) rfl ?_);show wpAny _ _ (if(Value.ref t==Value.none)=true then _ else _) _ _ s;rw[if_neg (show ¬ ((Value.ref t==Value.none)=true) from Bool.false_ne_true)];show wpAny _ _ (field (.ref it) 1 >>= _) _ _ s;refine wpAny_bind (wpAny_field ho hd (x:=.int i 0) rfl ?_);show wpAny _ _ (seqItems? (.ref t) >>= _) _ _ s;refine wpAny_bind (wpAny_seqItems hot hdt ?_);simp only[Int.toNat_natCast,hx];refine wpAny_bind (wpAny_rule (wpAny_bind (wpAny_setField ho hd (by simp) ?_)));show wpAny _ _ (newExc (.type "StopIteration") [] >>= _) _ _ _;refine wpAny_bind ?_;simp only[newExc,newTuple];refine wpAny_bind (wpAny_newObj_type (wpAny_bind (m:=firstArgMember _ _) (wpAny_of_eq (a:=Value.none) (by first|rfl|(simp only[firstArgMember];rfl)) (wpAny_newObj_type ?_ (by size_fits)))) (by size_fits));simp only[raiseNew];refine wpAny_bind (wpAny_handled ?_)
 first
 |rw[show A.in1.handled=none from hh]
 |rw[hh]
 exact wpAny_bind (wpAny_pure (wpAny_throw (hE _ _ (((Heap.SameBut.update ..).extBut.push _).push _) ⟨_,Heap.get?_push_size _ rfl,rfl⟩)))
end
theorem DX{prog:Program}{w:World}{A:Around}(hh:A.handled=none)(it t:Addr)(hne:t≠it)(items:Array Value) :
  Draws prog w A it [it,t] items.size (fun i v=>items[i]?=some v) (fun i h=>h.IsTupleIter it t i/\h.IsTuple t items) where
 live:=fun _ _ st=>let ⟨o,ho,_⟩:=st.1;⟨o,ho⟩
 frame:=fun _ _ _ st hk=>⟨st.1.at fun o e=>hk it (by simp) o e,st.2.at fun o e=>hk t (by simp) o e⟩
 item:=fun i s Q E hi st hQ=>KR st.1 st.2 (x:=items[i]) (by simp[hi]) fun h' hit' hs'=>hQ _ h' s.toks (by simp[hi]) ⟨hit',st.2.extBut hs'.extBut hne⟩ hs'
 done:=fun s Q E st hE=>W0 hh st.1 st.2 (by simp) hE
open AutoSeq1 (wpAny_loadPart') in
theorem Fp(l:Addr)(items:Array Value)(n:Nat)(dct:Option Addr)(sl:Array (Option Value)) :
  Meets (Builtin.«enumerate.__new__» ⟨[.type "enumerate",.ref l],[]⟩) (fun _ R s=>s.heap.get? l=some { cls:=.type "tuple",dict:=dct,data:=.seq items n,slots:=sl }/\
    R (.ok (.ret (.ref (s.heap.push {cls:=.type "tuple_iterator",data:=.fields #[.ref l,.int 0 0]}).objs.size)))
      { s with heap:=(s.heap.push { cls:=.type "tuple_iterator",data:=.fields #[.ref l,.int 0 0] }).push { cls:=.type "enumerate",data:=.fields #[.none,.bool false,.ref s.heap.objs.size,rawInt 0,.none,.none] } }) :=
 .of_wp fun prog w A R s h=>by
  obtain⟨hp,g,d,tk,os⟩:=s;obtain⟨hl,h⟩:=h;have hsub:=sub_enumerate;have hL:Heap.IsTuple (Shared.heap ⟨hp,g,d,tk,os⟩) l items:=⟨_,hl,rfl,n,rfl⟩
  wp_walk using wpAny_loadPart' hl
  refine wpAny_stack_any fun st=>wpAny_pure ?_;split
  .rename_i c _ _ _ _ _;cases (c==Value.type "enumerate")<;>(wp_walk using wpAny_loadPart' hl,wpAny_pyIter_tuple hL;exact⟨_,rfl,h⟩)
  .wp_walk using wpAny_loadPart' hl,wpAny_pyIter_tuple hL;exact⟨_,rfl,h⟩
theorem KY{prog:Program}{w:World}{A:Around}{E:Value->Shared->Prop}{s:Shared}{l:Addr}{items:Array Value}{Q:Value->Shared->Prop}(hL:s.heap.IsTuple l items)
  (h:∀ h',IsEnum h' (s.heap.objs.size+1) s.heap.objs.size 0 .none->h'.IsTupleIter s.heap.objs.size l 0->(∀ b o,s.heap.get? b=some o->h'.get? b=some o)->Q (.ref (s.heap.objs.size+1)) {s with heap:=h'}) :
  wpAny (model prog w) A (call (.type "enumerate") [.ref l]) Q E s:=by
 obtain⟨⟨c,dct,dt,sl⟩,hl,hc,n,hd⟩:=hL;simp only at hc hd;subst hc hd;refine callType_new F.called_enumerate (by decide) (F.typeCall_enumerate_1 _) (F.newCall_enumerate_1 _) (fun obj=>F.args_object_init_2 obj _) F.entry_enumerate_new (Fp l items n dct sl) ⟨hl,?_⟩;have hz:(s.heap.push {cls:=.type "tuple_iterator",data:=.fields #[.ref l,.int 0 0]}).objs.size=s.heap.objs.size+1:=Heap.size_push ..;have hg:=Heap.get?_push_size (s.heap.push {cls:=.type "tuple_iterator",data:=.fields #[.ref l,.int 0 0]}) (o:={cls:=.type "enumerate",data:=.fields #[.none,.bool false,.ref s.heap.objs.size,rawInt 0,.none,.none]}) rfl;rw[hz]at hg;show _/\_;rw[hz];exact⟨⟨_,hg,rfl⟩,h _ hg ⟨_,Heap.get?_push_of_some _ (Heap.get?_push_size _ rfl),rfl,rfl⟩ fun b o x=>Heap.get?_push_of_some _ (Heap.get?_push_of_some _ x)⟩
section
variable {X:Cx}{pins:List (Addr×Obj)}{σ:St}{H:Hp}{s:Shared}{h':Heap}
theorem Inv.turnedL{t':Nat}{ch:List Addr}(I:Inv X pins σ H s)(k:∀ b o,b∉ch->s.heap.get? b=some o->h'.get? b=some o)(hc:∀ b∈ch,YX X pins H b):Inv X pins σ H {s with heap:=h',toks:=t'}:=by
 have nit:∀ b u,H b=some u->b∉ch:=fun b u e z=>by rw[(hc b z).1]at e;cases e
 refine I.step (g':=s.gens) (d':=s.drawn) (ch:=ch) (fun b hb=>?_) (fun b o _ _ hcb e _=>k b o hcb e) (fun b o _ _ hcb e _=>⟨o.slots,k b o hcb e⟩) (fun _ _ _ _ n=>n)
  (fun b o hcb e=>⟨o,k b o hcb e⟩) (fun _ _ e=>e) (fun _ _ _ e=>e) (fun b ps e=>⟨#[],by rw[e];simp⟩) (fun m hm=>?_) (fun b u e=>?_) I.bare
 .obtain⟨_,q2,_,q4,q5,q6⟩:=hc b hb;exact⟨q4,q2,q5,q6⟩
 .obtain⟨o,es,ep,ho,r⟩:=hm;exact⟨o,es,ep,k _ o (fun z=>(hc _ z).2.1 rfl) ho,r⟩
 .refine(I.hok b u e).stay (fun c v hcc q=>k c v ?_ q) (fun _ q=>q) fun _ _ q=>q;rcases hcc with z|z
  .rw[z];exact nit b u e
  .exact nit c _ z
theorem Inv.track{T:Addr}{o:HO}(I:Inv X pins σ H s)(hT:H T=none)(h0:X.s₀.heap.objs.size<=T)(hL:T≠X.env.locals)(hcl:∀ x c,X.env.cells.lookup x=some c->c≠T)(hp:∀ p∈X.pn++pins,p.1≠T)
  (new:ObjOk X.prog X.w (upd H T o) s.heap T o):Inv X pins σ (upd H T o) s:=by
 have neT:∀ b ob,X.s₀.heap.get? b=some ob->b≠T:=fun b ob e=>zF (qR (Heap.lt_size e) h0);refine⟨I.ok,I.os,I.bare,⟨I.base.keep,I.base.slot,fun b ob e n hx=>?_,I.base.there,fun b xs e=>?_,fun b ob xs e=>?_,fun b ps e=>?_⟩,I.loc,I.cell,?_,fun x c e=>?_,fun p hpp=>?_,I.hok.track hT new,I.len⟩
 .rw[upd_ne (neT b ob e)];exact I.base.free b ob e n hx
 .have q:=I.base.tups b xs e;rw[upd_ne (Zg q hT)];exact q
 .have q:=I.base.frzs b ob xs e;rw[upd_ne (Zg q hT)];exact q
 .obtain⟨m,q⟩:=I.base.tbls b ps e;exact⟨m,by rw[upd_ne (Zg q hT)];exact q⟩
 .rw[upd_ne hL.symm];exact I.free
 .rw[upd_ne (hcl x c e)];exact I.freeC x c e
 .obtain⟨a,b,c,d,e⟩:=I.pin p hpp;exact⟨a,by rw[upd_ne (hp p hpp)];exact b,c,d,e⟩
end
def Ite (K:PySem.W.Frag) (a:Addr):It :=
 ⟨fun i H=>∃ xs x,SqT K H a xs/\xs[i]?=some x,fun i H v H'=>∃ p,v=.ref p/\H p=none/\∀ xs x,SqT K H a xs->xs[i]?=some x->H'=upd H p (.tup [.int i,x]),fun i H=>∃ xs,SqT K H a xs/\xs.length<=i⟩
theorem K8{P:Program}{w:World}{K:PySem.W.Frag}{es:List Expr}{kk:Nat}{tp:Pos}(a it e:Addr)(hne:e≠it) :
  Turn P w K (.Tuple es kk tp) (Ite K a) [e,it] e (fun i h=>(∃ old,IsEnum h e it i old)/\h.IsTupleIter it a i) where
 mem:=by simp
 obj:=fun i h st b hb=>by
  obtain⟨⟨old,h1⟩,o2,e2,_,d2⟩:=st;rcases qE.mp hb with q|q
  .subst q;exact⟨_,h1,fun v z=>by cases z⟩
  .have q:b=it:=by simpa using q
   subst q;exact⟨o2,e2,fun v z=>by rw[d2]at z;cases z⟩
 keep:=fun i h h' st k=>⟨let ⟨old,h1⟩:=st.1;⟨old,k e (by simp) _ h1⟩,st.2.at fun o q=>k it (by simp) o q⟩
 item:=by
  intro X hP hw hK hc i pins s σ H E I hf st hg;subst hP hw hK;obtain⟨xs,x,hq,hx⟩:=hg;obtain⟨its,rv,pl,hz⟩:=I.tuple hq;obtain⟨u,hu,ru⟩:=rv.get hx;have hsz:=rv.length;have hi:i<its.toArray.size:=by rw[qC];exact(qK.mp hu).1
  obtain⟨⟨old,h1⟩,h2⟩:=st;have hfi:=hf it (by simp);have hai:a≠it:=fun z=>by obtain⟨o,ho,hcl,_⟩:=h2;obtain⟨o',ho',hcl',_⟩:=pl;rw[z,ho]at ho';cases ho';rw[hcl]at hcl';exact absurd (Value.type.inj hcl') (by decide)
  have hae:e∉[it,a]:=fun z=>by
   rcases qE.mp z with z|z
   .exact hne z
   .have z:e=a:=by simpa using z
    obtain⟨o',ho',hcl',_⟩:=pl;rw[<-z,h1]at ho';cases ho';exact absurd (Value.type.inj hcl') (by decide)
  refine wpAny_pyNext_enum_itemD (DX (A:=X.A.in1) (I.ok.hd hc) it a hai its.toArray) h1 ⟨h2,pl⟩ hi hne hae fun v h3 tk hv hout hst3 hT _ hk=>?_;have ev:v=u:=by
   have hv:its[i]?=some v:=by simpa using hv
   rw[hu]at hv;exact(Option.some.inj hv).symm
  subst ev;have nT:∀ b∈[e,it],s.heap.objs.size≠b:=fun b hb z=>by
   rcases qE.mp hb with q|q
   .exact absurd (Heap.lt_size h1) (by rw[<-q,<-z];exact zK _)
   .have q:b=it:=by simpa using q
    obtain⟨o,ho,_⟩:=h2;exact absurd (Heap.lt_size ho) (by rw[<-q,<-z];exact zK _)
  have hfr:=I.fpOk (H':=H) (zG s.heap.objs.size) I.fresh;refine⟨.ref s.heap.objs.size,rfl,wpAny_letOwnedTupleGo_enum hout fun h4 he4 hs4=>?_⟩;have I4:Inv X pins σ H {s with heap:=h4,toks:=tk+1}:=I.turnedL (t':=tk+1) (ch:=[e,it]) (fun b o hb q=>hs4.extBut b o (fun z=>hb (by simp[z])) (hk b o (fun z=>hb (by simp[z])) (fun z=>hb (by simp[z])) q)) hf;have hT4:h4.get? s.heap.objs.size=some {cls:=.type "tuple",data:=.seq #[.int i tk,v]}:=hs4.extBut _ _ (nT e (by simp)) hT;obtain⟨f0,f1,f2,f3,f4,f5⟩:=hfr;have I5:Inv X pins σ (upd H s.heap.objs.size (.tup [.int i,x])) {s with heap:=h4,toks:=tk+1}:=I4.track f0 I.sz f1 f4 f5 ⟨by show 2<=sizeLine;decide,[.int i tk,v],.cons ⟨tk,rfl⟩ (.cons ru .nil),_,hT4,rfl,_,rfl⟩;refine⟨.ref s.heap.objs.size,_,I5,rfl,⟨s.heap.objs.size,rfl,f0,fun ys y hy hyi=>?_⟩,⟨⟨v,by simpa using he4⟩,hst3.1.at fun o q=>hs4.extBut it o (Ne.symm hne) q⟩,fun b hb=>?_⟩
  .have ey:ys=xs:=I.tuple_inj hy hq;rw[ey,hx]at hyi;rw[Option.some.inj hyi]
  .rw[upd_ne (nT b hb).symm];exact(hf b hb).1
 done:=by
  intro X hP hw hK hc i pins s σ H E I hf st hg;subst hP hw hK;obtain⟨xs,hq,hx⟩:=hg;obtain⟨its,rv,pl,hz⟩:=I.tuple hq;have hl:=rv.length;obtain⟨⟨old,h1⟩,h2⟩:=st;have hai:a≠it:=fun z=>by obtain⟨o,ho,hcl,_⟩:=h2;obtain⟨o',ho',hcl',_⟩:=pl;rw[z,ho]at ho';cases ho';rw[hcl]at hcl';exact absurd (Value.type.inj hcl') (by decide)
  have hT:s.TypeIs (.ref e) "enumerate":=⟨_,h1,rfl⟩
  unfold pyNext;refine wpAny_bind (wpAny_attempt (wpAny_callSpecial?_slot (name:=Str.ofString "__next__") hT F.slot_enumerate_next (wpAny_call_entry F.slot_enumerate_next hT F.entry_enumerate_next ?_ (F.args_enumerate_next_1 _))));show wpAny _ _ (field (.ref e) 2 >>= _) _ _ _;refine wpAny_bind (wpAny_field h1 rfl (x:=.ref it) rfl ?_);refine wpAny_bind (W0 (A:=X.A.in1) (I.ok.hd hc) h2 pl (by simp;omega) fun h' x he' hx'=>?_);obtain⟨o,ho,hcl⟩:=hx';refine wpAny_bind (wpAny_isInstance (T:="StopIteration") (b:=true) ⟨o,ho,hcl⟩ isSubtype_stop (wpAny_pure ⟨rfl,?_⟩));exact I.turnedL (t':=s.toks) (ch:=[it]) (fun b ob hb q=>he' b ob (fun z=>hb (by simp[z])) q) fun b hb=>hf b (qI _ hb)
 self:=fun A i s Q E st h=>by obtain⟨⟨old,h1⟩,_⟩:=st;exact wpAny_pyIter_enum h1 h
section
variable {X:Cx}
def DA (K:PySem.W.Frag) (ta:TA):TI:=fun σ H R=>ta σ H fun vs H1=>∃ a,vs=[.ref a]/\(∃ xs,SqT K H1 a xs)/\R (Ite K a) H1
theorem OQ {es:List Expr}{kk:Nat}{tp p pos:Pos}{e:Expr}{ta:TA}(hg:Gl X "enumerate") (hm:X.mg "enumerate" = none) (ha:PA X [e] ta) (hs:starEach [e] X.env=[(false,eval e X.env)]:=by rfl) :
  PI X (.Tuple es kk tp) (.Call (.Name "enumerate" p) [e] [] pos) (DA X.K ta):=by
 intro pins s σ H R I h;refine Call_ (YB (u:=.type "enumerate") I hg hm (by kernel_rfl) (PyProof.Rows.callWith_type1 (T:="enumerate") (thn (ha pos pins s σ H _ I h) fun us s1 ⟨vs,H1,I1,r1,q1⟩=>?_) hs rfl));obtain⟨a,e1,⟨xs,hq⟩,q⟩:=q1;subst e1;obtain⟨u,rfl,ru⟩:=ZQ r1;cases ru;obtain⟨its,rv,pl,hz⟩:=I1.tuple hq;refine KY pl fun h2 he2 hi2 hk2=>?_;have I2:Inv X pins σ H1 {s1 with heap:=h2}:=I1.kept (t':=s1.toks) hk2;refine wpAny_pyIter_enum he2 ⟨s1.heap.objs.size+1,[s1.heap.objs.size+1,s1.heap.objs.size],_,_,H1,rfl,I2,K8 a s1.heap.objs.size (s1.heap.objs.size+1) (Nat.ne_of_gt (Nat.lt_succ_self _)),⟨⟨_,he2⟩,hi2⟩,fun b hb=>?_,q⟩;have hb':s1.heap.objs.size<=b:=by
  rcases qE.mp hb with z|z
  .rw[z];exact Nat.le_succ _
  .have z:b=s1.heap.objs.size:=by simpa using z
   rw[z];exact zG _
 exact I1.fpOk hb' (I1.hok.fresh hb')
end
end L2
namespace L2
open PySem PySem.Spec PyProof.Rows
open PySem.Builtin PySem.Builtin.Str
abbrev TJ:=St->Hp->Str->(Str->Hp->Prop)->Prop
def PJ (X:Cx) (vs:List Expr) (t:TJ):Prop :=
 ∀ (pins:List (Addr×Obj)) (s:Shared) (σ:St) (H:Hp) (acc:Str) (Q:Str->Hp->Prop),Inv X pins σ H s->t σ H acc Q->
  Joins (model X.prog X.w) X.A X.xe (evalEach vs X.env) acc (fun out s1=>∃ H1,Inv X pins σ H1 s1/\out.length<=sizeLine/\Q out H1) s
def IU:TJ:=fun _ H acc Q=>acc.length<=sizeLine/\Q acc H
def G0 (te:TE) (tr:TJ):TJ:=fun σ H acc Q=>te σ H fun x H1=>∃ y,x=.str y/\(acc++y).length<=sizeLine/\tr σ H1 (acc++y) Q
section
variable {X:Cx}{e:Expr}{es:List Expr}{te:TE}{tr:TJ}{pos:Pos}
theorem pj_nil:PJ X [] IU:=fun pins s σ H acc Q I h=>⟨H,I,h.1,h.2⟩
theorem Bo(he:PE X e te)(hr:PJ X es tr)(hs:evalEach (e::es) X.env=eval e X.env::evalEach es X.env:=by rfl):PJ X (e::es) (G0 te tr):=by intro pins s σ H acc Q I h;rw[hs];show wpAny _ _ _ _ _ _;refine thn (he pins s σ H _ I h) fun v s1 ⟨x,H1,I1,r1,y,e1,hz,q1⟩=>?_;subst e1;obtain⟨t,rfl⟩:=r1;exact⟨y,t,rfl,hz,hr pins s1 σ H1 (acc++y) Q I1 q1⟩
theorem Joins.imp{M:Model}{A:Around}{E:Value->Shared->Prop}:∀ {ps:List (Sem Value)}{acc:Str}{Q Q':Str->Shared->Prop}{s:Shared},(∀ o s,Q o s->Q' o s)->Joins M A E ps acc Q s->Joins M A E ps acc Q' s
 |[],_,_,_,_,f,h=>f _ _ h
 |_::_,_,_,_,_,f,h=>thn h fun v s1 ⟨y,t,e,hz,hr⟩=>⟨y,t,e,hz,Joins.imp f hr⟩
end
def Xh (x:Str):List Nat:=x.cps.toList
def dg (n:Int):Str:=Str.ofString (toString n)
def Ow (m:Nat):List Nat:=(Nat.toDigits 10 m).map Char.toNat
theorem OX(m:Nat):Xh (dg (m:Int))=Ow m:=PySem.W.KIN.signs_num m
def Cy (m:Nat):Bool:=decide (1<=(Ow m).length)&&decide ((Ow m).length<=4)&&(Ow m).all (fun c=>decide (48<=c)&&decide (c<=57))&&(if m=0 then Ow m==[48]else(Ow m).head? != some 48)
theorem Cd:(List.range 1001).all Cy=true:=by decide +kernel
structure FigOk (n:Int):Prop where
 one:1<=(Xh (dg n)).length
 four:(Xh (dg n)).length<=4
 fig:∀ c∈Xh (dg n),48<=c/\c<=57
 nought:n=0->Xh (dg n)=[48]
 first:n≠0->(Xh (dg n)).head?≠some 48
theorem DG{n:Int}(h0:0<=n)(h1:n<=1000):FigOk n:=by
 obtain⟨m,rfl⟩:∃ m:Nat,n=(m:Int):=⟨n.toNat,by omega⟩
 have h:=List.all_eq_true.mp Cd m (List.mem_range.mpr (by omega));unfold Cy at h;simp only[bAq,decide_eq_true_eq]at h;obtain⟨⟨⟨a,b⟩,c⟩,d⟩:=h;rw[<-OX]at a b c d;refine⟨a,b,fun k hk=>?_,fun e=>?_,fun e=>?_⟩
 .have:=List.all_eq_true.mp c k hk;simpa using this
 .have e:m=0:=by omega
  rw[if_pos e]at d;simpa using d
 .have e:¬ m=0:=by omega
  rw[if_neg e]at d;simpa using d
def wT:Str:="tie"
def nl:Str:="\n"
def fl (ls:List Str):List Nat:=(ls.map fun l=>Xh l++[10]).flatten
structure NetOk (bs:List Int) (ts:List Tie):Prop where
 br:BrOk bs
 ti:TsOk bs ts
 so:sortI bs=bs
 lo:ts.map loT=ts
theorem BrOk.fig{bs:List Int}(h:BrOk bs){n:Int}(hn:n∈bs):FigOk n:=DG (h.rng n hn).1 (by have:=(h.rng n hn).2;omega)
theorem FigOk.no{n:Int}(h:FigOk n){c:Nat}(hc:c<48):c∉Xh (dg n):=fun m=>by have:=(h.fig c m).1;omega
end L2
namespace L2
open PySem PySem.Spec PyProof.Rows
theorem ObjOk.obj{P:Program}{w:World}{H:Hp}{h:Heap}{a:Addr}{o:HO}(x:ObjOk P w H h a o):∃ u,h.get? a=some u:=by
 cases o with
 |lst xs=>obtain⟨_,_,_,_,e⟩:=x;exact⟨_,e⟩
 |tup xs=>obtain⟨_,_,_,ob,e,_⟩:=x;exact⟨_,e⟩
 |dK kvs=>obtain⟨_,_,_,_,o,_,_,e,_⟩:=x;exact⟨_,e⟩
 |dT kvs=>obtain⟨_,_,_,_,o,_,_,e,_⟩:=x;exact⟨_,e⟩
 |set S n=>obtain⟨o,_,_,_,e,_⟩:=x;exact⟨_,e⟩
 |ins C dx fs=>obtain⟨_,_,_,e,_⟩:=x;exact⟨_,e⟩
 |own y=>exact x
 |xd fs=>obtain⟨_,⟨_,_,_,e,_⟩,_⟩:=x;exact⟨_,e⟩
 |rng lo hi=>obtain⟨_,_,_,e⟩:=x;exact⟨_,e⟩
 |frz ob u=>exact⟨_,x.1⟩
 |tbl ps=>exact⟨_,(show h.get? a=some _ from x)⟩
 |met f y=>exact⟨_,(show h.get? a=some _ from x)⟩
 |ext φ=>exact x.2.1
theorem HOk.none_of{P:Program}{w:World}{H:Hp}{h:Heap}{a:Addr}(x:HOk P w H h)(e:h.get? a=none):H a=none:=by
 cases q:H a with
 |none=>rfl
 |some u =>obtain⟨ob,z⟩:=(x a u q).obj;rw[e]at z;cases z
def GI (h:Heap) (a:Addr) (cls:Value) (T:Option Addr):Prop :=
 ∃ oe vs a0,h.get? a=some oe/\oe.cls=cls/\oe.data=.fields vs/\vs[0]?=some a0/\
  match T with
  |none=>vs[1]?=some .none
  |some T=>vs[1]?=some (.ref T)/\T≠a/\∃ oT ts,h.get? T=some oT/\oT.data=.fields ts/\ts[3]?=some .none
structure Fl (P:Program) (w:World) (l:List Env) (H:Hp) (s:Shared) (H':Hp) (a:Addr) (cls:Value) (s':Shared):Prop where
 os:s'.os=s.os
 bare:AllBare s'.gens
 un:Un (frs l) [] H H' s.heap s'.heap
 hok:HOk P w H' s'.heap
 na:s.heap.get? a=none
 ha:H' a=none
 ex:∃ T,GI s'.heap a cls T/\∀ t,T=some t->s.heap.get? t=none/\H' t=none
def CX1 (P:Program) (w:World):CXT:=fun l H s E e s'=>∃ a cls H',e=.ref a/\Fl P w l H s H' a cls s'/\E cls none H'
def XW (X:Cx) (E:XK):Prop:=∀ (pins:List (Addr×Obj)) (σ:St) (H:Hp) (s:Shared) (H':Hp) (a:Addr) (cls:Value) (s':Shared),
 Inv X pins σ H s->Fl X.prog X.w X.stack H s H' a cls s'->E cls none H'->X.xe (.ref a) s'
theorem XW.passes{X:Cx}{E:XK}(h:XW X E):Yi (CX1 X.prog X.w) X E:=fun pins σ H s e s' I ⟨a,cls,H',z,f,q⟩=>by subst z;exact h pins σ H s H' a cls s' I f q
section
variable {M:Model}{A:Around}{E:Value->Shared->Prop}{s:Shared}{B:Heap}{env:Env}{outer:List Env}{L a:Addr}{cls:Value}{T:Option Addr}{Q:Unit->Shared->Prop}
def X6 (h:Heap) (l:List Env) (a:Addr) (T:Option Addr):Heap:=PySem.W.hideAll h (a::(T.toList++frs l))
theorem Xd(h:Heap)(l:List Env)(a:Addr)(T:Option Addr):(X6 h l a T).StaysIn h:=fun b o e=>PySem.W.of_hideAll _ e
theorem Kf{h:Heap}{l:List Env}(a:Addr)(T:Option Addr)(hl:h.FunFrames B l):h.FunFrames (X6 h l a T) l :=
 PySem.W.funFrames_hide hl fun e he b hb=>qI _ (qL _ (zI.mpr ⟨e,he,hb⟩))
theorem MU(h:Heap)(l:List Env)(a:Addr)(T:Option Addr):(X6 h l a T).get? a=none:=PySem.W.hideAll_none _ qT
theorem BS(h:Heap)(l:List Env)(a t:Addr):(X6 h l a (some t)).get? t=none:=PySem.W.hideAll_none _ (qI _ (qM _ (by simp)))
theorem KQ(hfr:A.frames=some (env::outer))(hf:env.frame=some L)(hl:s.heap.FunFrames B (env::outer))(hx:GI s.heap a cls T)
  (h:∀ h' a0,Heap.LeftW (X6 s.heap (env::outer) a T) (env::outer) a cls a0 s.heap h'->Q () {s with heap:=h'}):wpAny M A (leaving env (.ref a)) Q E s:=by
 obtain⟨oe,vs,a0,he,hc,hd,h0,ht⟩:=hx;cases T with
 |none =>subst hc;exact wpAny_leaving_firstW hfr (Kf a none hl) hf he (Xd _ _ _ _) (MU _ _ _ _) hd ht h0 fun h' z=>h h' a0 z
 |some t =>obtain⟨h1,hne,oT,ts,e1,e2,e3⟩:=ht;exact wpAny_leaving_nextW hfr (Kf a (some t) hl) hf ⟨oe,vs,t,oT,ts,he,⟨hc,h0⟩,hd,h1,BS _ _ _ _,hne,e1,e2,e3⟩ (Xd _ _ _ _) (MU _ _ _ _) fun h' z=>h h' a0 z
end
theorem Fl.left{P:Program}{w:World}{l:List Env}{H H':Hp}{s s':Shared}{a:Addr}{cls a0:Value}{h' B:Heap}(f:Fl P w l H s H' a cls s'){T:Option Addr}(hT:∀ t,T=some t->s.heap.get? t=none/\H' t=none)
  (hl:s'.heap.FunFrames B l) (hfr:∀ b∈frs l,H' b=none) (z:Heap.LeftW (X6 s'.heap l a T) l a cls a0 s'.heap h'):Fl P w l H s H' a cls {s' with heap:=h'}:=by
 obtain⟨k1,k2,k3,k4⟩:=z;have inb:∀ b o,s'.heap.get? b=some o->b≠a->(∀ t,T=some t->b≠t)->b∉frs l->h'.get? b=some o:=fun b o e na nt nf=>k1 b o (PySem.W.hideAll_get _ e (by
   intro m
   rcases qE.mp m with m|m
   . exact na m
   . rcases q8.mp m with m|m
     . cases T with
       |none=>cases m
       |some t=>exact nt t rfl (by simpa using m)
     . exact nf m))
 have slot:∀ b o,s'.heap.get? b=some o->b∈frs l->∃ sl,h'.get? b=some {o with slots:=sl}:=fun b o e hb=>by obtain⟨_,o2,e2,nf⟩:=hl.mem hb;rw[e]at e2;cases e2;exact k4 b o e nf
 have old:∀ b o,s.heap.get? b=some o->b≠a/\∀ t,T=some t->b≠t:=fun b o e=>⟨(fun z=>by rw[z,f.na]at e;cases e),(fun t ht z=>by rw[z,(hT t ht).1]at e;cases e)⟩
 refine⟨f.os,f.bare,⟨fun b o e n nf _=>?_,fun b o e n hb _=>?_,f.un.free,fun b o e _=>?_,f.un.tups,f.un.frzs,f.un.tbls⟩,?_,f.na,f.ha,?_⟩
 .exact inb b o (f.un.keep b o e n nf (by simp)) (old b o e).1 (old b o e).2 nf
 .obtain⟨sl,e1⟩:=f.un.slot b o e n hb (by simp);obtain⟨sl',e2⟩:=slot b _ e1 hb;exact⟨sl',e2⟩
 .obtain⟨o1,e1⟩:=f.un.there b o e (by simp);by_cases hb:b∈frs l
  .obtain⟨sl,e2⟩:=slot b _ e1 hb;exact⟨_,e2⟩
  .exact⟨o1,inb b o1 e1 (old b o e).1 (old b o e).2 hb⟩
 .intro b u e;have good:∀ c v,H' c=some v->∀ ob,s'.heap.get? c=some ob->h'.get? c=some ob:=fun c v ec ob eo =>
   inb c ob eo (fun z=>by rw[z,f.ha]at ec;cases ec) (fun t ht z=>by rw[z,(hT t ht).2]at ec;cases ec) fun m=>by rw[hfr c m]at ec;cases ec
  refine(f.hok b u e).stay (fun c v hc q=>?_) (fun _ q=>q) fun _ _ q=>q;rcases hc with z|z
  .rw[z]at q ⊢;exact good b u e v q
  .exact good c _ z v q
 .obtain⟨oe,vs,t',oT,ts,e1,⟨e2,e3⟩,e4,e5,e6,e7,e8,e9,e10⟩:=k3;refine⟨some t',⟨oe,vs,a0,e1,e2,e4,e3,e5,e7,oT,ts,e8,e9,e10⟩,fun t ht=>?_⟩;cases ht;have hid:∀ o,s'.heap.get? t'=some o->T=some t':=fun o e=>by
   have nin:¬ (t'∉(a::(T.toList++frs l))):=fun m=>by have q:(X6 s'.heap l a T).get? t'=some o:=PySem.W.hideAll_get _ e m;rw[e6]at q;cases q
   have m:=Classical.not_not.mp nin;rcases qE.mp m with m|m
   .exact absurd m e7
   .rcases q8.mp m with m|m
    .cases T with
     |none=>cases m
     |some t=>rw[show t'=t by simpa using m]
    .obtain⟨_,o2,q,nf⟩:=k2.mem m;rw[e8]at q;cases q;exact absurd e9 (nf ts)
  constructor
  .cases q:s.heap.get? t' with
   |none=>rfl
   |some o =>obtain⟨o1,q1⟩:=f.un.there t' o q (by simp);have:=(hT t' (hid o1 q1)).1;rw[q]at this;cases this
  .cases q:H' t' with
   |none=>rfl
   |some u =>obtain⟨o1,q1⟩:=(f.hok t' u q).obj;have:=(hT t' (hid o1 q1)).2;rw[q]at this;cases this
section
variable {P:Program}{w:World}{K:PySem.W.Frag}{mg:Str->Option Value}{base:Heap}
theorem Inv.raised{X:Cx}{pins:List (Addr×Obj)}{σ:St}{H H':Hp}{s s':Shared}{a:Addr}{cls:Value}(I:Inv X pins σ H s)(f:Fl X.prog X.w X.stack H s H' a cls s'):Inv X pins σ H' s' :=
 I.call' (ch:=[]) f.os f.un f.hok f.bare (fun b z=>absurd z (by simp))
theorem Mz{X:Cx}(ok:X.Ok)(h:X.stack=X.env::X.outer):X.env.frame=some X.env.locals:=by
 rcases ok.stk with e|e
 .rw[h]at e;exact absurd (congrArg List.length e) (by simp)
 .exact e.2
theorem Dp{N:List Str}{qual:Str}{scope:Scope}{f:Addr}{cd:Value}{A:Around}{outer:List Env}{s:Shared}{H:Hp}{E:XK}:XW (Wq (CX1 P w) P w K mg base N qual scope f cd A outer s H E) E:=by
 intro pins σ H2 s2 H' a cls s' I f q;have J:=I.raised f;obtain⟨T,hx,hT⟩:=f.ex;show wpAny _ _ (leaving _ _) _ _ _;refine KQ (outer:=outer) J.ok.frames (Mz J.ok rfl) J.stack hx fun h' a0 z=>?_;have f2:=f.left hT J.stack J.stkFree z;have J2:=I.raised f2;have back:∀ b,s2.heap.get? b=none->s.heap.get? b=none:=fun b e=>by
  cases z:s.heap.get? b with
  |none=>rfl
  |some o =>obtain⟨o',e'⟩:=I.base.there b o z (by intro m;cases m);rw[e]at e';cases e'
 obtain⟨T2,hx2,hT2⟩:=f2.ex;exact⟨a,cls,H',rfl,⟨J2.os,J2.bare,J2.base,J2.hok,back a f2.na,f2.ha,T2,hx2,fun t ht=>⟨back t (hT2 t ht).1,(hT2 t ht).2⟩⟩,q⟩
theorem Fun.ok1{x qual:Str}{st:Stmt}{f:Addr}{fd:FuncData}{N ps:List Str}{k:Nat}{sp:Sp}(F:Fun K x qual st f fd)(S:FnScope N ps (Zk st))(len:∀ vs H Q E,sp vs H Q E->vs.length=ps.length)
  (hbody:∀ (cdv:Value) (A:Around) (outer:List Env) (s:Shared) (H:Hp) (vs:List V) (Q:VK) (E:XK),Room k (A.deeper (envOfC qual (Zk st) s.heap.objs.size f cdv))->sp vs H Q E->
    XW (Wq (CX1 P w) P w K mg base N qual (Zk st) f cdv A outer s H E) E->
    ∃ t,PSs (Wq (CX1 P w) P w K mg base N qual (Zk st) f cdv A outer s H E) (ZC st) t/\t { nx:=fun _ H'=>Q .non H',rt:=Q } (start N vs) H):FnOk P w K mg base (CX1 P w) (k+1) f fd ps sp:=by
 obtain⟨oc,od,kV,doc,pm,an,cdv,ct,osl,rfl,lk,hcd⟩:=F.ex;exact C6 lk hcd S len fun A outer s H vs Q E hr hsp=>hbody cdv A outer s H vs Q E hr hsp Dp
end
def XP (X:Cx) (pins:List (Addr×Obj)) (σ:St) (E:XK) (v:Value) (s':Shared):Prop :=
 ∃ a cls H1 H' s1,v=.ref a/\Inv X pins σ H1 s1/\Fl X.prog X.w X.stack H1 s1 H' a cls s'/\E cls none H'
def xcO (a:Addr) (cls:Value):HO:=.ext fun h=>∃ o vs,h.get? a=some o/\o.cls=cls/\o.data=.fields vs
abbrev Cx.caught (X:Cx) (a:Addr):Cx:={X with A:=X.A.mark (some (.ref a)),calm:=false,xe:=fun _ _=>False}
section
variable {X:Cx}{pins:List (Addr×Obj)}{σ:St}{H H':Hp}{s s':Shared}{a:Addr}{cls:Value}
theorem Inv.caught(I:Inv X pins σ H s)(a:Addr):Inv (X.caught a) pins σ H s :=
 ⟨⟨I.ok.mod,I.ok.kind,I.ok.glob,I.ok.blt,I.ok.above,I.ok.inj,I.ok.has,I.ok.cab,fun z=>Bool.noConfusion z,I.ok.frames,I.ok.stk,I.ok.exf,I.ok.bs,I.ok.bsz,I.ok.noex,I.ok.exfs,I.ok.funs,I.ok.frf⟩,I.os,I.bare,I.base,I.loc,I.cell,I.free,I.freeC,I.pin,I.hok,I.len⟩
end
end L2
namespace L2
open PySem PySem.Spec PySem.W PySem.Calls PyProof.Rows PySem.Builtin PySem.Builtin.ObjectAttr PySem.Builtin.Getset_descriptor
section
variable {prog:Program}{w:World}{A:Around}{E:Value->Shared->Prop}{K:Frag}{h:Heap}{g:Array GenState}{d:Drawn}{t:Nat}{os:OsState}{a C:Addr}{o:Obj}
structure XCls (K:Frag) (C:Addr):Prop where
 ga:findIn K (.ref C) "__getattribute__" = some (some (.builtin "BaseException.__getattribute__"))
 gr:findIn K (.ref C) "__getattr__" = some none
 cl:findIn K (.ref C) "__class__" = some (some (.builtin "object.__class__"))
 mo:mroIn K C (.type "object")=some true
 mb:mroIn K C (.type "BaseException")=some true
 ci:(clsIn K C).isSome=true
end
end L2
namespace L2
open PySem PySem.Spec PyProof.Rows
section
variable {X:Cx}
theorem WA:CallR X (.type "int") (fun xs H Q=>∃ z n,xs=[.str z]/\PySem.intText? z=some n/\z.length<=640/\Q (.int n) H):=by intro pins s σ H xs us Q I r h;obtain⟨z,n,rfl,e,hl,q⟩:=h;obtain⟨u,rfl,t,rfl⟩:=ZQ r;exact PySem.W.KIN.call_text e hl ⟨.int n,H,I.tok _,⟨_,rfl⟩,q⟩
end
end L2
namespace L2
open PySem PySem.Spec PyProof.Rows
open PySem.Builtin PySem.Builtin.Str
def NM (z:Str) (lo hi:Option Int):Str:=if(strSliceIndices lo hi 1 z.length).length=z.length then z else⟨((strSliceIndices lo hi 1 z.length).filterMap (z.cps[·]?)).toArray⟩
theorem UY(z:Str)(lo hi:Option Int):(NM z lo hi).length<=z.length:=by
 unfold NM;split
 .exact zG _
 .show((strSliceIndices lo hi 1 z.length).filterMap (z.cps[·]?)).toArray.size<=_;rw[qC];exact zE (List.length_filterMap_le _ _) (indices_len_le lo hi z.length)
section
variable {X:Cx}
def F6:V->Option Int->Option Int->Hp->VK->Prop:=fun x lo hi H Q=>∃ z,x=.str z/\z.length<=sizeLine/\Q (.str (NM z lo hi)) H
theorem NE{v:Value}{lo:Option Int}(h:IsPart v lo):∃ l:Option (Int×Tok),v=partValue l/\l.map (·.1)=lo:=by
 cases h with
 |none=>exact⟨none,rfl,rfl⟩
 |int i t=>exact⟨some (i,t),rfl,rfl⟩
theorem sl_str:SlR X F6:=by
 intro pins s σ H x v vl vu lo hi sl Q I rx hs pl pu h;obtain⟨z,rfl,hz,q⟩:=h;obtain⟨t,rfl⟩:=rx;refine⟨"str",_,slot_str_getitem.lookup,typeIs_str s z t,?_⟩;obtain⟨l,rfl,el⟩:=NE pl;obtain⟨u,rfl,eu⟩:=NE pu;have hs':s.heap.IsSlice sl l u none:=hs;refine wpAny_getItem_str_slice hs' rfl ?_;have e:sliceMade z t l u none=if(strSliceIndices lo hi 1 z.length).length=z.length then .val (.str z t)else .str ⟨((strSliceIndices lo hi 1 z.length).filterMap (z.cps[·]?)).toArray⟩:=by unfold sliceMade slicePicked;rw[el,eu];simp
 rw[e];have cl:=UY z lo hi;unfold NM at q cl;split
 .rename_i hh;rw[if_pos hh]at q;exact⟨.str z,H,I,⟨t,rfl⟩,q⟩
 .rename_i hh;rw[if_neg hh]at q cl;exact⟨zE cl hz,.str _,H,I.tok _,⟨_,rfl⟩,q⟩
end
section
variable {X:Cx}
theorem Nh(z:Str):∀ (n:Nat) (a:Array Nat),((List.replicate n z.cps).foldl (· ++ ·) a).size=a.size+n*z.cps.size
 |0,a=>by simp
 |n+1,a=>by rw[List.replicate_succ,List.foldl_cons,Nh z n,Array.size_append,Nat.succ_mul];omega
theorem Vals.ins{xs:List V}{us:List Value}{y:V}{u:Value}(r:Vals xs us)(ry:RelV y u)(k:Nat):Vals (xs.take k++y::xs.drop k) (us.take k++u::us.drop k):=(r.take k).append (.cons ry (r.drop k))
end
end L2
namespace L2
open PySem PySem.Spec PyProof.Rows
section
variable {X:Cx}(K:PySem.W.Frag) (h:X.K=K)
include h
end
end L2
namespace L2
open PySem PySem.Spec PyProof.Rows
open PySem.Builtin PySem.Builtin.Str
section
variable {X:Cx}
def Ek (z:Str) (n:Nat):Str:=⟨(List.replicate n z.cps).foldl (· ++ ·) #[]⟩
theorem WM(z:Array Nat):∀ (n:Nat) (a:Array Nat),((List.replicate n z).foldl (· ++ ·) a).toList=a.toList++(List.replicate n z.toList).flatten
 |0,a=>by simp
 |n+1,a=>by rw[List.replicate_succ,List.foldl_cons,WM z n,List.replicate_succ,List.flatten_cons,Array.toList_append,List.append_assoc]
def CQ:R2:=fun x y H Q=>∃ z k,x=.str z/\y=.int k/\2<=k/\k<=1000000/\1<=z.length/\z.length*k.toNat<=1000000/\Q (.str (Ek z k.toNat)) H
theorem Bp:OpR X (binaryOp .Mult) CQ:=by
 intro pins s σ H x y v u Q I rx ry h;obtain⟨z,k,rfl,rfl,h2,h6,h1,hz,q⟩:=h;obtain⟨t,rfl⟩:=rx;obtain⟨t',rfl⟩:=ry;have big:(1000000:Nat)<=sizeLine:=by decide
 have nb:(k==1||z.length==0)=false:=by have e1:(k==1)=false:=beq_false_of_ne (by omega);have e2:(z.length==0)=false:=beq_false_of_ne (by omega);rw[e1,e2];rfl
 have zl:z.length<=1000000:=by have:z.length*1<=z.length*k.toNat:=Nat.mul_le_mul_left _ (by omega);omega
 have hr:(decide (k < -(2 ^ 63:Int))||decide (k≥2 ^ 63))=false:=by rw[qP (by omega),qP (by omega)];rfl
 have hb:¬ k<1->(k==1||z.length==0)=false->¬ ((z.length:Int) > (2 ^ 63 - 1) / k):=fun _ _=>by have:(1000000:Int)<=(2 ^ 63 - 1) / k:=(Int.le_ediv_iff_mul_le (by omega)).mpr (by omega);omega
 have hl:¬ k<1->(k==1||z.length==0)=false->tooLong (z.length*k.toNat)=false:=fun _ _=>by unfold tooLong;exact qP (by omega)
 refine P.mul_str hr hb hl ?_;rw[if_neg (by omega),if_neg (by rw[nb];exact Bool.false_ne_true)];have el:(⟨(List.replicate k.toNat z.cps).foldl (· ++ ·) #[]⟩:Str).length=z.length*k.toNat:=by show((List.replicate k.toNat z.cps).foldl (· ++ ·) #[]).size=_;rw[Nh,Nat.mul_comm z.length];simp[Str.length]
 exact⟨by rw[el];omega,.str _,H,I.tok _,⟨_,rfl⟩,q⟩
variable {c y z a b:Str}{k1 k2 k3:Nat}{p1 p2 p3 p4 pa pb apos cpos:Pos}
end
end L2
namespace L2
open PySem PySem.Spec PyProof.Rows
section
variable {X:Cx}
def C4 (K:PySem.W.Frag):R2:=fun x y H Q=>∃ a b ys,x=.ref a/\y=.ref b/\SqT K H a []/\SqT K H b ys/\Q (.ref b) H
theorem op_cat0:OpR X (binaryOp .Add) (C4 X.K):=by
 intro pins s σ H x y v u Q I rx ry h;obtain⟨a,b,ys,rfl,rfl,ha,hb,q⟩:=h;cases rx;cases ry;obtain⟨its,r1,p1,_⟩:=I.tuple ha;obtain⟨its2,r2,p2,_⟩:=I.tuple hb;cases r1;obtain⟨⟨cls,dd,data,sl⟩,ho,hc,n,hd⟩:=id p1;obtain⟨⟨cls2,dd2,data2,sl2⟩,ho2,hc2,n2,hd2⟩:=id p2;simp only at hc hd hc2 hd2;subst hc hd hc2 hd2;exact concat_meets ⟨_,ho,rfl⟩ ⟨_,ho2,rfl⟩ noFill_tuple_add seq_tuple_add PySem.F.slot_tuple_add PySem.F.entry_tuple_add (PySem.F.args_tuple_add_2 _ _)
  (tuple_addW0 a b _ _ n n2 dd dd2 sl sl2 rfl) ⟨ho,ho2,.ref b,H,I,rfl,q⟩
end
mutual
inductive SamV (K:PySem.W.Frag) (H:Hp):Nat->V->V->Prop
 |non {n:Nat}:SamV K H n .non .non
 |bl {n:Nat}(b:Bool):SamV K H n (.bl b) (.bl b)
 |int {n:Nat}(i:Int):SamV K H n (.int i) (.int i)
 |str {n:Nat}(x:Str):SamV K H n (.str x) (.str x)
 |ref {n:Nat}(a:Addr):SamV K H n (.ref a) (.ref a)
 |lst {n:Nat}{a b:Addr}{xs ys:List V}:SqL K H a xs->SqL K H b ys->SamVs K H n xs ys->SamV K H (n+1) (.ref a) (.ref b)
 |tup {n:Nat}{a b:Addr}{xs ys:List V}:SqT K H a xs->SqT K H b ys->SamVs K H n xs ys->SamV K H (n+1) (.ref a) (.ref b)
inductive SamVs (K:PySem.W.Frag) (H:Hp):Nat->List V->List V->Prop
 |nil {n:Nat}:SamVs K H n [] []
 |cons {n:Nat}{x y:V}{xs ys:List V}:SamV K H n x y->SamVs K H n xs ys->SamVs K H n (x::xs) (y::ys)
end
theorem Jw(n:Nat):(List.range n).all (fun _=>true)=true:=by simp
theorem SamVs.length{K:PySem.W.Frag}{H:Hp}:∀ {n:Nat}{xs ys:List V},SamVs K H n xs ys->xs.length=ys.length
 |_,_,_,.nil=>rfl
 |_,_,_,.cons _ t=>by rw[qB,qB,SamVs.length t]
section
variable {X:Cx}{pins:List (Addr×Obj)}{σ:St}{H:Hp}{s:Shared}
mutual
theorem SamV.eqAt(I:Inv X pins σ H s):∀ {n:Nat}{x y:V}{u v:Value}{A:Around},SamV X.K H n x y->RelV x u->RelV y v->A.units+n<cLine->SeqAt.EqAt A s u v true
 |_,_,_,_,_,A,.non,r,q,_=>by cases r;cases q;exact SeqAt.EqAt.same _
 |_,_,_,_,_,A,.bl b,r,q,_=>by cases r;cases q;exact SeqAt.EqAt.same _
 |_,_,_,_,_,A,.int i,r,q,_=>by
  obtain⟨t,rfl⟩:=r;obtain⟨t',rfl⟩:=q;have:=SeqAt.EqAt.int_int (A:=A) (s:=s) i t i t'
  rwa [beq_self_eq_true]at this
 |_,_,_,_,_,A,.str x,r,q,_=>by
  obtain⟨t,rfl⟩:=r;obtain⟨t',rfl⟩:=q;have:=SeqAt.EqAt.str_str (A:=A) (s:=s) x t x t'
  rwa [beq_self_eq_true]at this
 |_,_,_,_,_,A,.ref a,r,q,_=>by cases r;cases q;exact SeqAt.EqAt.same _
 |n+1,_,_,_,_,A,.lst (a:=a) (b:=b) ha hb hs,r,q,hu=>by
  cases r;cases q;by_cases hab:a=b
  .subst hab;exact SeqAt.EqAt.same _
  .obtain⟨its,rv,pl,_⟩:=I.list ha;obtain⟨its2,rv2,pl2,_⟩:=I.list hb;have hl:=hs.length;have h1:=rv.length;have h2:=rv2.length;have hz:its.toArray.size=its2.toArray.size:=by rw[qC,qC,<-h1,<-h2,hl]
   have:=SeqAt.RcAt.lists (A:=A) (e:=fun _=>true) pl.isList pl2.isList hz (by omega) fun j j1 j2=>SamVs.eqAt I hs rv rv2 (A:=A.in1) (by have:A.in1.units=A.units+1:=rfl;omega) j j1 j2;rw[Jw]at this;exact SeqAt.EqAt.of_refs hab this
 |n+1,_,_,_,_,A,.tup (a:=a) (b:=b) ha hb hs,r,q,hu=>by
  cases r;cases q;by_cases hab:a=b
  .subst hab;exact SeqAt.EqAt.same _
  .obtain⟨its,rv,pl,_⟩:=I.tuple ha;obtain⟨its2,rv2,pl2,_⟩:=I.tuple hb;have hl:=hs.length;have h1:=rv.length;have h2:=rv2.length;have hz:its.toArray.size=its2.toArray.size:=by rw[qC,qC,<-h1,<-h2,hl]
   have:=SeqAt.RcAt.tuples (A:=A) (e:=fun _=>true) (show s.heap.IsTuple a its.toArray from pl) (show s.heap.IsTuple b its2.toArray from pl2) (by omega) fun j j1 j2=>SamVs.eqAt I hs rv rv2 (A:=A.in1) (by have:A.in1.units=A.units+1:=rfl;omega) j j1 j2;rw[Jw,hz,beq_self_eq_true,Bool.and_self]at this;exact SeqAt.EqAt.of_refs hab this
theorem SamVs.eqAt(I:Inv X pins σ H s):∀ {n:Nat}{xs ys:List V}{us vs:List Value}{A:Around},SamVs X.K H n xs ys->Vals xs us->Vals ys vs->A.units+n<cLine->∀ (j:Nat) (j1:j<us.toArray.size) (j2:j<vs.toArray.size),SeqAt.EqAt A s us.toArray[j] vs.toArray[j] true
 |_,_,_,_,_,_,.nil,.nil,_,_,j,j1,_=>by simp at j1
 |_,_,_,_,_,_,.cons h t,.cons r rs,.cons q qs,hu,0,_,_=>by simpa using SamV.eqAt I h r q hu
 |_,_,_,_,_,_,.cons h t,.cons r rs,.cons q qs,hu,j+1,j1,j2=>by have:=SamVs.eqAt I t rs qs hu j (by simpa using j1) (by simpa using j2);simpa using this
end
end
section
variable {X:Cx}
def Ei (K:PySem.W.Frag):R2:=fun x y H Q=>∃ a b xs ys,x=.ref a/\y=.ref b/\SqL K H a xs/\SqL K H b ys/\SamVs K H 8 xs ys/\Q (.bl false) H
theorem E5(hu:X.A.units+64<cLine):OpR X (compareOp .NotEq) (Ei X.K):=by
 intro pins s σ H x y v u Q I rx ry h;obtain⟨a,b,xs,ys,rfl,rfl,ha,hb,hs,q⟩:=h;cases rx;cases ry;obtain⟨its,rv,pl,_⟩:=I.list ha;obtain⟨its2,rv2,pl2,_⟩:=I.list hb;have hz:its.toArray.size=its2.toArray.size:=by rw[qC,qC,<-rv.length,<-rv2.length,hs.length]
 have:=SeqAt.RcNeAt.lists (A:=X.A) (e:=fun _=>true) pl.isList pl2.isList hz (by omega) fun j j1 j2=>hs.eqAt I rv rv2 (A:=X.A.in1) (by have:X.A.in1.units=X.A.units+1:=rfl;omega) j j1 j2;rw[Jw]at this;exact this X.prog X.w X.xe _ ⟨.bl false,H,I,rfl,q⟩
end
def ZSt (z TI TO i1 i2 a b:Addr) (i:Nat) (h:Heap):Prop:=IsZip h z TI TO .none/\IsPair h TI (.ref i1) (.ref i2)/\(∃ u v,IsPair h TO u v)/\h.IsListIter i1 a i/\h.IsListIter i2 b i
theorem ZSt.keep{z TI TO i1 i2 a b:Addr}{i:Nat}{h h':Heap}(st:ZSt z TI TO i1 i2 a b i h)(k:∀ c∈[z,TI,TO,i1,i2],∀ o,h.get? c=some o->h'.get? c=some o):ZSt z TI TO i1 i2 a b i h':=by obtain⟨h1,h2,⟨u,v,h3⟩,h4,h5⟩:=st;exact⟨k z (by simp) _ h1,k TI (by simp) _ h2,⟨u,v,k TO (by simp) _ h3⟩,h4.at fun o q=>k i1 (by simp) o q,h5.at fun o q=>k i2 (by simp) o q⟩
theorem ZSt.obj {z TI TO i1 i2 a b:Addr}{i:Nat}{h:Heap}(st:ZSt z TI TO i1 i2 a b i h):∀ c∈[z,TI,TO,i1,i2],∃ o,h.get? c=some o/\(∀ v,o.data≠.cell v)/\o.cls≠.type "list":=by
 obtain⟨h1,h2,⟨u,v,h3⟩,⟨o4,e4,c4,d4⟩,⟨o5,e5,c5,d5⟩⟩:=st;intro c hc;simp only[qE,List.not_mem_nil,or_false]at hc;rcases hc with rfl|rfl|rfl|rfl|rfl
 .exact⟨_,h1,(fun v z=>(by cases z)),(show Value.type "zip"≠.type "list" by decide)⟩
 .exact⟨_,h2,(fun v z=>(by cases z)),(show Value.type "tuple"≠.type "list" by decide)⟩
 .exact⟨_,h3,(fun v z=>(by cases z)),(show Value.type "tuple"≠.type "list" by decide)⟩
 .exact⟨_,e4,(fun v z=>(by rw[d4]at z;cases z)),(by rw[c4];decide)⟩
 .exact⟨_,e5,(fun v z=>(by rw[d5]at z;cases z)),(by rw[c5];decide)⟩
section
variable {X:Cx}
theorem Jp:CallR X (.type "str") (fun xs H Q=>∃ z,xs=[.str z]/\Q (.str z) H):=by intro pins s σ H xs us Q I r h;obtain⟨z,rfl,q⟩:=h;obtain⟨u,rfl,t,rfl⟩:=ZQ r;exact PySem.P.str_of_str ⟨.str _,H,I,⟨_,rfl⟩,q⟩
def Ga (te:TE):TE:=fun σ H Q=>te σ H fun x H1=>(∃ i,x=.int i/\i.natAbs.log2<1920/\Q (.str (toString i)) H1)\/∃ z,x=.str z/\z.length<=sizeLine/\Q (.str z) H1
theorem A0{e:Expr}{te:TE}{pos:Pos}(he:PE X e te):PE X (.FormattedValue e (-1) none pos) (Ga te):=by
 intro pins s σ H Q I h;refine wpAny_FormattedValue_plain (thn (he pins s σ H _ I h) fun v s1 ⟨x,H1,I1,r1,q1⟩=>?_);rcases q1 with⟨i,e1,hd,q1⟩|⟨z,e1,hz,q1⟩
 .subst e1;obtain⟨t,rfl⟩:=r1;exact wpAny_formatField_int hd ⟨.str _,H1,I1.tok _,⟨_,rfl⟩,q1⟩
 .subst e1;obtain⟨t,rfl⟩:=r1;exact wpAny_formatField_str ⟨.str _,H1,I1,⟨_,rfl⟩,q1⟩ ⟨.str _,H1,I1.tok _,⟨_,rfl⟩,q1⟩ hz
def A1 (K:PySem.W.Frag) (neg:Bool):R2:=fun x y H Q=>∃ ds d,(IsD K H y (.tuple ds)\/IsD K H y (.list ds))/\IsD K H x d/\PyData.canLayAll0 ds=true/\d.canLay0=true/\d.depth<=64/\Q (.bl (if neg then !ds.any (fun e=>PyData.eqv e d)else ds.any fun e=>PyData.eqv e d)) H
theorem E8(hu:X.A.units+65<cLine):OpR X (compareOp .In) (A1 X.K false):=by
 intro pins s σ H x y v u Q I rx ry h;obtain⟨ds,d,hd,he,sd,se,hdp,q⟩:=h;obtain⟨bs,rb⟩:=he.reads I rx;have hr:X.A.units+1+min (PyData.depthAll ds) d.depth<cLine:=by have:min (PyData.depthAll ds) d.depth<=d.depth:=Nat.min_le_right _ _;omega
 rcases hd with hd|hd
 .obtain⟨as,ra⟩:=hd.reads I ry;exact SeqAt.in_tuple_reads ra rb sd se hr ⟨.bl _,H,I,rfl,q⟩
 .obtain⟨as,ra⟩:=hd.reads I ry;exact SeqAt.in_list_reads ra rb sd se hr ⟨.bl _,H,I,rfl,q⟩
theorem Og(hu:X.A.units+65<cLine):OpR X (compareOp .NotIn) (A1 X.K true):=by
 intro pins s σ H x y v u Q I rx ry h;obtain⟨ds,d,hd,he,sd,se,hdp,q⟩:=h;obtain⟨bs,rb⟩:=he.reads I rx;have hr:X.A.units+1+min (PyData.depthAll ds) d.depth<cLine:=by have:min (PyData.depthAll ds) d.depth<=d.depth:=Nat.min_le_right _ _;omega
 rcases hd with hd|hd
 .obtain⟨as,ra⟩:=hd.reads I ry;exact SeqAt.notIn_tuple_reads ra rb sd se hr ⟨.bl _,H,I,rfl,q⟩
 .obtain⟨as,ra⟩:=hd.reads I ry;exact SeqAt.notIn_list_reads ra rb sd se hr ⟨.bl _,H,I,rfl,q⟩
end
def ZSy (z TI TO i1 i2 a b:Addr) (i:Nat) (h:Heap):Prop:=IsZip h z TI TO .none/\IsPair h TI (.ref i1) (.ref i2)/\(∃ u v,IsPair h TO u v)/\h.IsTupleIter i1 a i/\h.IsTupleIter i2 b i
theorem ZSy.keep{z TI TO i1 i2 a b:Addr}{i:Nat}{h h':Heap}(st:ZSy z TI TO i1 i2 a b i h)(k:∀ c∈[z,TI,TO,i1,i2],∀ o,h.get? c=some o->h'.get? c=some o):ZSy z TI TO i1 i2 a b i h':=by obtain⟨h1,h2,⟨u,v,h3⟩,h4,h5⟩:=st;exact⟨k z (by simp) _ h1,k TI (by simp) _ h2,⟨u,v,k TO (by simp) _ h3⟩,h4.at fun o q=>k i1 (by simp) o q,h5.at fun o q=>k i2 (by simp) o q⟩
theorem ZSy.obj{z TI TO i1 i2 a b:Addr}{i:Nat}{h:Heap}(st:ZSy z TI TO i1 i2 a b i h):∀ c∈[z,TI,TO,i1,i2],∃ o,h.get? c=some o/\∀ v,o.data≠.cell v:=by
 obtain⟨h1,h2,⟨u,v,h3⟩,⟨o4,e4,c4,d4⟩,⟨o5,e5,c5,d5⟩⟩:=st;intro c hc;simp only[qE,List.not_mem_nil,or_false]at hc;rcases hc with rfl|rfl|rfl|rfl|rfl
 .exact⟨_,h1,fun v z=>by cases z⟩
 .exact⟨_,h2,fun v z=>by cases z⟩
 .exact⟨_,h3,fun v z=>by cases z⟩
 .exact⟨_,e4,fun v z=>by rw[d4]at z;cases z⟩
 .exact⟨_,e5,fun v z=>by rw[d5]at z;cases z⟩
section
variable {κ:Type} [DecidableEq κ]
def ZY (kvs:List (κ×V)) (k:κ):Option V:=(kvs.find? fun kv=>decide (kv.1=k)).map (·.2)
def putK (kvs:List (κ×V)) (k:κ) (v:V):List (κ×V) :=
 if(kvs.any fun kv=>decide (kv.1=k))=true then kvs.map (fun kv=>if kv.1=k then(kv.1,v)else kv)else kvs++[(k,v)]
def dropK (kvs:List (κ×V)) (k:κ):List (κ×V):=kvs.filter fun kv=>decide (kv.1≠k)
theorem Yc{p:κ×V}{r:List (κ×V)}{k:κ}(e:p.1=k):ZY (p::r) k=some p.2:=by simp[ZY,List.find?_cons,e]
theorem Yg{p:κ×V}{r:List (κ×V)}{k:κ}(e:¬ p.1=k):ZY (p::r) k=ZY r k:=by simp[ZY,List.find?_cons,e]
theorem Ye(k:κ):∀ kvs:List (κ×V),(kvs.any fun kv=>decide (kv.1=k))=(ZY kvs k).isSome
 |[]=>rfl
 |p::r=>by
  rw[List.any_cons];by_cases e:p.1=k
  .simp only[Yc e,qQ e,Bool.true_or,Option.isSome_some]
  .rw[Yg e,qP e,Bool.false_or];exact Ye k r
theorem Yk(kvs:List (κ×V))(k:κ)(v:V):(putK kvs k v).length<=kvs.length+1:=by
 unfold putK;split
 .rw[qA];omega
 .rw[qU,qB,List.length_nil];omega
theorem RelO.isSome_eq{o:Option V}{u:Option Value}(r:RelO o u):o.isSome=u.isSome:=by
 cases o with
 |none=>cases u with
  |none=>rfl
  |some _=>exact(show False from r).elim
 |some _=>cases u with
  |none=>exact(show False from r).elim
  |some _=>rfl
theorem RelO.getD{o:Option V}{u:Option Value}{d:V}{d':Value}(r:RelO o u)(rd:RelV d d'):RelV (o.getD d) (u.getD d'):=by
 cases o with
 |none=>cases u with
  |none=>exact rd
  |some _=>exact(show False from r).elim
 |some _=>cases u with
  |none=>exact(show False from r).elim
  |some _=>exact r
theorem KV.val{kvs:List (κ×V)}{vs:List (κ×Value)}(r:KV kvs vs)(k:κ):RelO (ZY kvs k) (valueAt vs k):=by
 unfold KV at r;induction r with
 |nil=>exact True.intro
 |@cons p q ps qs h t ih =>
  obtain⟨h1,h2⟩:=h;by_cases e:p.1=k
  .have e':q.1=k:=h1.symm.trans e;have b:valueAt (q::qs) k=some q.2:=by simp[valueAt,List.find?_cons,e']
   rw[Yc e,b];exact h2
  .have e':¬ q.1=k:=fun z=>e (h1.trans z);have b:valueAt (q::qs) k=valueAt qs k:=by simp[valueAt,List.find?_cons,e']
   rw[Yg e,b];exact ih
theorem KV.any{kvs:List (κ×V)}{vs:List (κ×Value)}(r:KV kvs vs)(k:κ):(kvs.any fun kv=>decide (kv.1=k))=vs.any fun kv=>decide (kv.1=k):=by
 unfold KV at r;induction r with
 |nil=>rfl
 |cons h t ih=>rw[List.any_cons,List.any_cons,ih,h.1]
theorem KV.repl{kvs:List (κ×V)}{vs:List (κ×Value)}(r:KV kvs vs)(k:κ){y:V}{u:Value}(ry:RelV y u) :
  KV (kvs.map fun kv=>if kv.1=k then(kv.1,y)else kv) (vs.map fun kv=>if kv.1=k then(kv.1,u)else kv):=by
 unfold KV at r ⊢;induction r with
 |nil=>exact .nil
 |@cons p q ps qs h t ih =>
  rw[qG,qG];refine .cons ?_ ih;obtain⟨h1,h2⟩:=h;by_cases e:p.1=k
  .rw[if_pos e,if_pos (h1.symm.trans e)];exact⟨h1,ry⟩
  .rw[if_neg e,if_neg (fun z=>e (h1.trans z))];exact⟨h1,h2⟩
theorem KV.put{kvs:List (κ×V)}{vs:List (κ×Value)}(r:KV kvs vs)(k:κ){y:V}{u:Value}(ry:RelV y u):KV (putK kvs k y) (stored vs k u):=by
 unfold putK stored;rw[r.any k];by_cases e:(vs.any fun kv=>decide (kv.1=k))=true
 .rw[if_pos e,if_pos e];exact r.repl k ry
 .rw[if_neg e,if_neg e];exact Paired.snoc r ⟨rfl,ry⟩
theorem KV.drop{kvs:List (κ×V)}{vs:List (κ×Value)}(r:KV kvs vs)(k:κ):KV (dropK kvs k) (without vs k):=by
 unfold KV at r ⊢;unfold dropK without;induction r with
 |nil=>exact .nil
 |@cons p q ps qs h t ih =>
  obtain⟨h1,h2⟩:=h;rw[List.filter_cons,List.filter_cons];by_cases e:p.1=k
  .have a:¬ decide (p.1≠k)=true:=by simp[e]
   have b:¬ decide (q.1≠k)=true:=by simp[h1.symm.trans e]
   rw[if_neg a,if_neg b];exact ih
  .have e':¬ q.1=k:=fun z=>e (h1.trans z);have a:decide (p.1≠k)=true:=by simp[e]
   have b:decide (q.1≠k)=true:=by simp[e']
   rw[if_pos a,if_pos b];exact .cons ⟨h1,h2⟩ ih
theorem KV.keys{kvs:List (κ×V)}{vs:List (κ×Value)}(r:KV kvs vs):kvs.map (·.1)=vs.map (·.1):=by
 unfold KV at r;induction r with
 |nil=>rfl
 |cons h t ih=>rw[qG,qG,ih,h.1]
theorem KV.length{kvs:List (κ×V)}{vs:List (κ×Value)}(r:KV kvs vs):kvs.length=vs.length:=Paired.length r
theorem OU(kvs:List (κ×V))(k:κ):(dropK kvs k).length<=kvs.length:=List.length_filter_le _ _
end
theorem YN{P:Program}{w:World}{k:Key}{u:Value}(r:RelV (kV k) u):(Zh P w).is k u=true:=by
 cases k with
 |inl i=>obtain⟨t,e⟩:=(show ∃ t,u=Value.int i t from r);subst e;exact KJ P w i t
 |inr x=>obtain⟨t,e⟩:=(show ∃ t,u=Value.str x t from r);subst e;exact Ke P w x t
theorem WZ{P:Program}{w:World}:∀ {ks:List Key}{us:List Value},Vals (ks.map kV) us->ItemsAre (Zh P w) ks us
 |[],_,r=>by rw[List.map_nil]at r;cases r;exact .nil
 |k::ks,_,r=>by
  rw[qG]at r;cases r with
  |cons h t=>exact .cons (YN h) (WZ t)
abbrev KTd (H:Hp):List (List Key×V)->List (List Key×Addr×Value)->Prop:=Paired fun p q=>p.1=q.1/\H q.2.1=some (.tup (p.1.map kV))/\RelV p.2 q.2.2
theorem KTd.val{H:Hp}{kvs:List (List Key×V)}{xs:List (List Key×Addr×Value)}(r:KTd H kvs xs)(k:List Key):RelO (ZY kvs k) ((atKey xs k).map (·.2)):=by
 induction r with
 |nil=>exact True.intro
 |@cons p q ps qs h t ih =>
  obtain⟨h1,_,h2⟩:=h;by_cases e:p.1=k
  .have e':q.1=k:=h1.symm.trans e;have b:atKey (q::qs) k=some q.2:=by simp[atKey,List.find?_cons,e']
   rw[Yc e,b];exact h2
  .have e':¬ q.1=k:=fun z=>e (h1.trans z);have b:atKey (q::qs) k=atKey qs k:=by simp[atKey,List.find?_cons,e']
   rw[Yg e,b];exact ih
theorem KTd.repl{H:Hp}{kvs:List (List Key×V)}{xs:List (List Key×Addr×Value)}(r:KTd H kvs xs)(k:List Key){y:V}{u:Value}(ry:RelV y u) :
  KTd H (kvs.map fun kv=>if kv.1=k then(kv.1,y)else kv) (xs.map (putAt k u)):=by
 induction r with
 |nil=>exact .nil
 |@cons p q ps qs h t ih =>
  rw[qG,qG];refine .cons ?_ ih;obtain⟨h1,h2,h3⟩:=h;unfold putAt;by_cases e:p.1=k
  .rw[if_pos e,if_pos (h1.symm.trans e)];exact⟨h1,h2,ry⟩
  .rw[if_neg e,if_neg (fun z=>e (h1.trans z))];exact⟨h1,h2,h3⟩
theorem KTd.put{H:Hp}{kvs:List (List Key×V)}{xs:List (List Key×Addr×Value)}(r:KTd H kvs xs)(k:List Key){b:Addr}{y:V}{u:Value}(hb:H b=some (.tup (k.map kV)))(ry:RelV y u) :
  KTd H (putK kvs k y) (storedH xs k b u):=by
 have e:(kvs.any fun kv=>decide (kv.1=k))=(atKey xs k).isSome:=by rw[Ye,(r.val k).isSome_eq,Option.isSome_map]
 unfold putK storedH;rw[e];by_cases q:(atKey xs k).isSome=true
 .rw[if_pos q,if_pos q];exact r.repl k ry
 .rw[if_neg q,if_neg q];exact Paired.snoc r ⟨rfl,hb,ry⟩
theorem KTd.keeps{H H':Hp}{kvs:List (List Key×V)}{xs:List (List Key×Addr×Value)}(r:KTd H kvs xs)(ht:∀ b ys,H b=some (.tup ys)->H' b=some (.tup ys)):KTd H' kvs xs :=
 Paired.mapP r fun _ _ z=>⟨z.1,ht _ _ z.2.1,z.2.2⟩
section
variable {P:Program}{w:World}{H:Hp}{h:Heap}{a:Addr}
theorem De{u:HO}(ok:HOk P w H h)(e:Rd H a u):ObjOk P w H h a u:=e.ok ok
theorem Xi{kvs:List (Key×V)}(ok:HOk P w H h)(e:Rd H a (.dK kvs)):kvs.length<=sizeLine/\(a==sysModules)=false/\∃ vs,KV kvs vs/\h.DictOf (Zh P w) a vs :=
 show ObjOk P w H h a (.dK kvs) from De ok e
theorem Ky{kvs:List (Key×V)}(ok:HOk P w H h)(e:H a=some (.dK kvs)):kvs.length<=sizeLine/\(a==sysModules)=false/\∃ vs,KV kvs vs/\h.DictOf (Zh P w) a vs:=Xi ok (.inl e)
theorem key_of{ks:List Key}(ok:HOk P w H h)(e:H a=some (.tup (ks.map kV))):(tupleKind (Zh P w)).is h ks a:=by
 obtain⟨_,its,r,o,h1,h2,n,h3⟩:=(show ObjOk P w H h a (.tup (ks.map kV)) from ok a _ e)
 exact⟨o,its.toArray,n,h1,h2,h3,by simpa using WZ r⟩
theorem W6{kvs:List (List Key×V)}(ok:HOk P w H h)(e:Rd H a (.dT kvs)):kvs.length<=sizeLine/\(a==sysModules)=false/\
  ∃ xs,KTd H kvs xs/\h.DictOfH (tupleKind (Zh P w)) a xs:=by
 obtain⟨z,y,xs,r,o,es,ep,h1,h2,h3,h4,h5⟩:=(show ObjOk P w H h a (.dT kvs) from De ok e)
 refine⟨z,y,xs,r,o,es,ep,h1,h2,h3,h4,fun x hx=>?_,h5⟩;have all:∀ {l:List (List Key×V)}{m:List (List Key×Addr×Value)},KTd H l m->∀ x∈m,(tupleKind (Zh P w)).is h x.1 x.2.1:=by
  intro l m q;induction q with
  |nil=>intro x hx;exact nomatch hx
  |@cons p q ps qs hq t ih =>
   intro x hx;rcases qE.mp hx with e|hx
   .subst e;exact key_of ok (by rw[<-hq.1];exact hq.2.1)
   .exact ih x hx
 exact all r x hx
theorem GZ{kvs:List (List Key×V)}(ok:HOk P w H h)(e:H a=some (.dT kvs)):kvs.length<=sizeLine/\(a==sysModules)=false/\
  ∃ xs,KTd H kvs xs/\h.DictOfH (tupleKind (Zh P w)) a xs:=W6 ok (.inl e)
end
def DGet (H:Hp) (a:Addr) (y:V) (r:Option V):Prop :=
 (∃ kvs k,Rd H a (.dK kvs)/\y=kV k/\r=ZY kvs k)\/∃ kvs k b,Rd H a (.dT kvs)/\y=.ref b/\H b=some (.tup (k.map kV))/\r=ZY kvs k
def DPut (H:Hp) (a:Addr) (y v:V) (H':Hp):Prop :=
 (∃ kvs k,H a=some (.dK kvs)/\y=kV k/\kvs.length<sizeLine/\H'=upd H a (.dK (putK kvs k v)))\/
 ∃ kvs k b,H a=some (.dT kvs)/\y=.ref b/\H b=some (.tup (k.map kV))/\kvs.length<sizeLine/\H'=upd H a (.dT (putK kvs k v))
theorem DGet.k{H:Hp}{a:Addr}{kvs:List (Key×V)}{k:Key}(e:H a=some (.dK kvs)):DGet H a (kV k) (ZY kvs k):=.inl ⟨kvs,k,.inl e,rfl,rfl⟩
theorem DGet.t{H:Hp}{a b:Addr}{kvs:List (List Key×V)}{k:List Key}(e:H a=some (.dT kvs))(eb:H b=some (.tup (k.map kV))):DGet H a (.ref b) (ZY kvs k):=.inr ⟨kvs,k,b,.inl e,rfl,eb,rfl⟩
theorem DPut.k{H:Hp}{a:Addr}{kvs:List (Key×V)}{k:Key}{v:V}(e:H a=some (.dK kvs))(hl:kvs.length<sizeLine):DPut H a (kV k) v (upd H a (.dK (putK kvs k v))):=.inl ⟨kvs,k,e,rfl,hl,rfl⟩
theorem DPut.t{H:Hp}{a b:Addr}{kvs:List (List Key×V)}{k:List Key}{v:V}(e:H a=some (.dT kvs))(eb:H b=some (.tup (k.map kV)))(hl:kvs.length<sizeLine) :
  DPut H a (.ref b) v (upd H a (.dT (putK kvs k v))):=.inr ⟨kvs,k,b,e,rfl,eb,hl,rfl⟩
section
variable {X:Cx}{pins:List (Addr×Obj)}{σ:St}{H:Hp}{s:Shared}{a:Addr}{y v:V}{u r:Value}{o:Option V}{A:Around}{E:Value->Shared->Prop}
theorem Inv.big(I:Inv X pins σ H s):sysModules<s.heap.objs.size:=by have h:mainGlobals<s.heap.objs.size:=(I.mod.glob.keeps I.bk).lt;exact Nat.lt_trans (by decide) h
theorem Oy{Q:Value->Shared->Prop}(hu:A.units+1<cLine)(I:Inv X pins σ H s)(g:DGet H a y (some v))(ry:RelV y u)(h:∀ w' s',Inv X pins σ H s'->RelV v w'->Q w' s') :
  wpAny (model X.prog X.w) A (getItem (.ref a) u) Q E s:=by
 rcases g with⟨kvs,k,e,ey,l⟩|⟨kvs,k,b,e,ey,eb,l⟩
 .subst ey;obtain⟨z,hd,vs,rel,dd⟩:=Xi I.hok e;obtain⟨w',hw,rw'⟩:=RelO.some_of (v:=v) (o:=valueAt vs k) (by rw[l];exact rel.val k);exact wpAny_getItem_of (YN ry) dd.mapOf hw (h w' _ (I.tok _) rw')
 .subst ey;cases (show u=Value.ref b from ry);obtain⟨z,hd,xs,rel,dd⟩:=W6 I.hok e;obtain⟨w',hw,rw'⟩:=RelO.some_of (v:=v) (o:=(atKey xs k).map (·.2)) (by rw[l];exact rel.val k);obtain⟨p,hp,hp2⟩:=qD.mp hw;refine wpAny_getItem_heap (tupleKind_room_in1 hu) (key_of I.hok eb) dd hp ?_;rw[hp2];exact h w' _ (I.tok _) rw'
theorem Li{Q:Value->Shared->Prop}(hu:A.units+1<cLine)(I:Inv X pins σ H s)(g:DGet H a y o)(ry:RelV y u)(h:∀ s',Inv X pins σ H s'->Q (.bool o.isSome) s') :
  wpAny (model X.prog X.w) A (compareOp .In u (.ref a)) Q E s:=by
 rcases g with⟨kvs,k,e,ey,l⟩|⟨kvs,k,b,e,ey,eb,l⟩
 .subst ey;obtain⟨z,hd,vs,rel,dd⟩:=Xi I.hok e;refine wpAny_in_of (YN ry) hd dd.mapOf ?_;rw[<-(rel.val k).isSome_eq,<-l];exact h _ (I.tok _)
 .subst ey;cases (show u=Value.ref b from ry);obtain⟨z,hd,xs,rel,dd⟩:=W6 I.hok e;refine wpAny_in_heap (tupleKind_room_in1 hu) (key_of I.hok eb) hd dd ?_;have q:=(rel.val k).isSome_eq;rw[Option.isSome_map]at q;rw[<-q,<-l];exact h _ (I.tok _)
theorem A5{Q:Value->Shared->Prop}(hu:A.units+1<cLine)(I:Inv X pins σ H s)(g:DGet H a y o)(ry:RelV y u)(h:∀ s',Inv X pins σ H s'->Q (.bool (!o.isSome)) s') :
  wpAny (model X.prog X.w) A (compareOp .NotIn u (.ref a)) Q E s:=by
 rcases g with⟨kvs,k,e,ey,l⟩|⟨kvs,k,b,e,ey,eb,l⟩
 .subst ey;obtain⟨z,hd,vs,rel,dd⟩:=Xi I.hok e;refine wpAny_notIn_of (YN ry) hd dd.mapOf ?_;rw[<-(rel.val k).isSome_eq,<-l];exact h _ (I.tok _)
 .subst ey;cases (show u=Value.ref b from ry);obtain⟨z,hd,xs,rel,dd⟩:=W6 I.hok e;refine wpAny_notIn_heap (tupleKind_room_in1 hu) (key_of I.hok eb) hd dd ?_;have q:=(rel.val k).isSome_eq;rw[Option.isSome_map]at q;rw[<-q,<-l];exact h _ (I.tok _)
theorem XB{h':Heap}{t':Nat}{ob:HO}(I:Inv X pins σ H s)(mu:Mut (H a))(hs:Heap.SameBut a s.heap h')(he:∃ q,h'.get? a=some q)(new:ObjOk X.prog X.w (upd H a ob) h' a ob) :
  Inv X pins σ (upd H a ob) {s with heap:=h',toks:=t'} :=
 I.write (x:=a) (e:=a) mu (.inl rfl) (fun b q hb z=>(hs.2 b hb).trans z) he new
theorem ME{P:Program}{w:World}{H':Hp}{h':Heap}{kvs:List (Key×V)}{vs:List (Key×Value)}(z:kvs.length<=sizeLine)(hd:(a==sysModules)=false)(rel:KV kvs vs)(dd:h'.DictOf (Zh P w) a vs) :
  ObjOk P w H' h' a (.dK kvs):=⟨z,hd,vs,rel,dd⟩
theorem NP{H':Hp}{Q:Unit->Shared->Prop}(hu:A.units+1<cLine)(I:Inv X pins σ H s)(g:DPut H a y v H')(ry:RelV y u)(rv:RelV v r)(h:∀ s',Inv X pins σ H' s'->Q () s') :
  wpAny (model X.prog X.w) A (setItem (.ref a) u r) Q E s:=by
 rcases g with⟨kvs,k,e,ey,l,eH⟩|⟨kvs,k,b,e,ey,eb,l,eH⟩
 .subst ey eH;obtain⟨z,hd,vs,rel,dd⟩:=Ky I.hok e;have hz:vs.length<=sizeLine:=by rw[<-rel.length];exact z
  have hl:(putK kvs k v).length<=sizeLine:=by have:=Yk kvs k v;omega
  refine wpAny_setItem_pairs (hsz:=hz) (YN ry) dd fun h' dd' hs=>h _ ?_;have he:∃ q,h'.get? a=some q:=let ⟨q,_,_,hq,_⟩:=dd';⟨q,hq⟩;exact XB I (by rw[e];exact True.intro) hs he (ME hl hd (rel.put k rv) dd')
 .subst ey eH;cases (show u=Value.ref b from ry);obtain⟨z,hd,xs,rel,dd⟩:=GZ I.hok e;have hz:xs.length<=sizeLine:=by rw[<-Paired.length rel];exact z
  have hl:(putK kvs k v).length<=sizeLine:=by have:=Yk kvs k v;omega
  refine wpAny_setItem_heap (hsz:=hz) (tupleKind_room_in1 hu) (key_of I.hok eb) dd fun h' dd' hs=>h _ ?_;obtain⟨q,es,ep,hq,h2,h3,h4,_,h5⟩:=dd';refine XB I (by rw[e];exact True.intro) hs ⟨q,hq⟩ ⟨hl,hd,_,(rel.put k eb rv).keeps fun c ys ec=>?_,q,es,ep,hq,h2,h3,h4,h5⟩;rw[upd_ne (U3 ec e (fun z=>nomatch z))];exact ec
end
section
variable {X:Cx}{pins:List (Addr×Obj)}{σ:St}{H:Hp}{s:Shared}{a:Addr}{kvs:List (Key×V)}{k:Key}{u:Value}{A:Around}{E:Value->Shared->Prop}
theorem CZ{v:V}{more:List Value}{Q:Value->Shared->Prop}(I:Inv X pins σ H s)(e:H a=some (.dK kvs))(ry:RelV (kV k) u)(l:ZY kvs k=some v)(hm:more=[]\/∃ x,more=[x])
  (h:∀ w' s',Inv X pins σ (upd H a (.dK (dropK kvs k))) s'->RelV v w'->Q w' s'):wpAny (model X.prog X.w) A (call (.builtin "dict.pop") (.ref a::u::more)) Q E s:=by
 obtain⟨z,hd,vs,rel,dd⟩:=Ky I.hok e;obtain⟨w',hw,rw'⟩:=RelO.some_of (v:=v) (o:=valueAt vs k) (by rw[<-l];exact rel.val k);have hp:(keyPart u).isSome=true:=by
  cases k with
  |inl i=>obtain⟨t,q⟩:=(show ∃ t,u=Value.int i t from ry);subst q;rfl
  |inr x=>obtain⟨t,q⟩:=(show ∃ t,u=Value.str x t from ry);subst q;rfl
 have ha:argsOk "dict.pop" ⟨.ref a::u::more,[]⟩:=by
  rcases hm with q|⟨x,q⟩
  .subst q;exact PySem.F.args_dict_pop_2 _ _
  .subst q;exact PySem.F.args_dict_pop_3 _ _ _
 refine call_meetsIn PySem.F.slot_dict_pop dd.typeIs PySem.F.entry_dict_pop ha (meets_dict_pop_there (Zh X.prog X.w) a (YN ry) more hm hp)
  ⟨vs,w',dd,by rw[<-rel.length];exact z,hw,fun h' dd' hs=>h w' _ ?_ rw'⟩
 have he:∃ q,h'.get? a=some q:=let ⟨q,_,_,hq,_⟩:=dd';⟨q,hq⟩;exact XB I (by rw[e];exact True.intro) hs he (ME (zE (OU kvs k) z) hd (rel.drop k) dd')
theorem Dy{r:Value}{Q:Value->Shared->Prop}(I:Inv X pins σ H s)(e:H a=some (.dK kvs))(ry:RelV (kV k) u)(l:ZY kvs k=none)(h:∀ s',Inv X pins σ H s'->Q r s') :
  wpAny (model X.prog X.w) A (call (.builtin "dict.pop") [.ref a,u,r]) Q E s:=by
 obtain⟨z,hd,vs,rel,dd⟩:=Ky I.hok e;have hn:valueAt vs k=none:=RelO.none_of (by rw[<-l];exact rel.val k);have hp:(keyPart u).isSome=true:=by
  cases k with
  |inl i=>obtain⟨t,q⟩:=(show ∃ t,u=Value.int i t from ry);subst q;rfl
  |inr x=>obtain⟨t,q⟩:=(show ∃ t,u=Value.str x t from ry);subst q;rfl
 exact call_meetsIn PySem.F.slot_dict_pop dd.typeIs PySem.F.entry_dict_pop (PySem.F.args_dict_pop_3 _ _ _) (meets_dict_pop_default (Zh X.prog X.w) a (YN ry) hd hp r) ⟨vs,dd,hn,h _ (I.tok _)⟩
theorem Gi {Q:Value->Shared->Prop}(I:Inv X pins σ H s) (e:Rd H a (.dK kvs)) (h:∀ t s',Inv X pins σ H s'->Q (.int kvs.length t) s'):wpAny (model X.prog X.w) A (call (.builtin "len") [.ref a]) Q E s:=by obtain⟨z,hd,vs,rel,dd⟩:=Xi I.hok e;refine call_len_dict hd dd (by rw[<-rel.length];rw[sizeLine_eq]at z;omega) ?_;rw[<-rel.length];exact h _ _ (I.tok _)
end
theorem JT {X:Cx}{pins:List (Addr×Obj)}{σ:St}{H:Hp}{s:Shared}{a:Addr}{y:V}{o:Option V}(I:Inv X pins σ H s) (g:DGet H a y o):s.TypeIs (.ref a) "dict":=by
 rcases g with⟨kvs,k,e,_,_⟩|⟨kvs,k,b,e,_,_,_⟩
 .obtain⟨_,_,vs,_,dd⟩:=Xi I.hok e;exact dd.typeIs
 .obtain⟨_,_,xs,_,dd⟩:=W6 I.hok e;exact dd.typeIs
theorem J3 {P:Program}{w:World}{H:Hp}(h:Heap) (hb:sysModules<h.objs.size):ObjOk P w H (h.push {cls:=.type "dict",data:=.dict #[]}) h.objs.size (.dK []) :=
 ⟨Nat.zero_le _,beq_eq_false_iff_ne.mpr (Ne.symm (zF hb)),[],.nil,Heap.DictOf.new h⟩
def Fu:TE:=fun _ H Q=>∀ p,H p=none->Q (.ref p) (upd H p (.dK []))
section
variable {X:Cx}{pos:Pos}
theorem pe_dnewK:PE X (.Dict [] [] pos) Fu:=fun pins s σ H Q I h =>
 wpAny_Dict_empty ⟨.ref s.heap.objs.size,_,I.laid (a:=s.heap.objs.size) (o:=.dK []) (t':=s.toks) (fun _ _ q=>Heap.get?_push_of_some _ q) (zG _) (J3 s.heap I.big),rfl,h _ (I.hok.fresh (zG _))⟩
end
def Jo:List (TE×TE)->St->Hp->(List (V×V)->Hp->Prop)->Prop
 |[],_,H,Q=>Q [] H
 |(tk,tv)::r,σ,H,Q=>tk σ H fun x H1=>tv σ H1 fun y H2=>Jo r σ H2 fun ps H3=>Q ((x,y)::ps) H3
abbrev VV:List (V×V)->List (Value×Value)->Prop:=Paired fun p q=>RelV p.1 q.1/\RelV p.2 q.2
def PPs (X:Cx) (pos:Pos) (keys:List (Option Expr)) (values:List Expr) (trs:List (TE×TE)):Prop :=
 ∀ (pins:List (Addr×Obj)) (s:Shared) (σ:St) (H:Hp) (Q:List (V×V)->Hp->Prop),Inv X pins σ H s->Jo trs σ H Q->
  wpAny (model X.prog X.w) X.A (evalPairs (pairTrees keys values X.env pos)) (fun vs s'=>∃ ps H',Inv X pins σ H' s'/\VV ps vs/\Q ps H') X.xe s
theorem BG{X:Cx}{pos:Pos}:PPs X pos [] [] []:=fun pins s σ H Q I h=>pairTrees_nil_walk ⟨[],H,I,.nil,h⟩
theorem UM{X:Cx}{pos:Pos}{k v:Expr}{ks:List (Option Expr)}{vs:List Expr}{tk tv:TE}{trs:List (TE×TE)}(hk:PE X k tk)(hv:PE X v tv)(hr:PPs X pos ks vs trs) :
  PPs X pos (some k::ks) (v::vs) ((tk,tv)::trs):=fun pins s σ H Q I h =>
 pairTrees_cons_walk (thn (hk pins s σ H _ I h) fun u s1 ⟨x,H1,I1,rx,q1⟩=>thn (hv pins s1 σ H1 _ I1 q1) fun w2 s2 ⟨y,H2,I2,ry,q2⟩ =>
   thn (hr pins s2 σ H2 _ I2 q2) fun ws s3 ⟨ps,H3,I3,rel,q3⟩=>⟨(x,y)::ps,H3,I3,.cons ⟨rx,ry⟩ rel,q3⟩)
def Yj (kvs more:List (Key×V)):List (Key×V):=more.foldl (fun acc kv=>putK acc kv.1 kv.2) kvs
theorem KV.merge:∀ {more:List (Key×V)}{rs:List (Key×Value)}{kvs:List (Key×V)}{vs:List (Key×Value)},KV more rs->KV kvs vs->KV (Yj kvs more) (merged vs rs):=by
 intro more rs kvs vs r;unfold KV at r;induction r generalizing kvs vs with
 |nil=>intro q;exact q
 |@cons p q ps qs h t ih =>
  intro r0;have e:KV (putK kvs p.1 p.2) (stored vs q.1 q.2):=by have:=r0.put p.1 h.2;rw[<-h.1];exact this
  exact ih e
theorem Yr:∀ (more kvs:List (Key×V)),(Yj kvs more).length<=kvs.length+more.length
 |[],kvs=>by show kvs.length<=kvs.length+0;omega
 |p::r,kvs=>by have h1:=Yr r (putK kvs p.1 p.2);have h2:=Yk kvs p.1 p.2;show(Yj (putK kvs p.1 p.2) r).length<=_;rw[qB];omega
theorem Wc{P:Program}{w:World}:∀ {kvs:List (Key×V)}{ws:List (Value×Value)},VV (kvs.map fun kv=>(kV kv.1,kv.2)) ws->∃ rs,Carries (Zh P w) ws rs/\KV kvs rs
 |[],_,r=>by rw[List.map_nil]at r;cases r;exact⟨[],True.intro,.nil⟩
 |p::kvs,_,r=>by
  rw[qG]at r;cases r with
  |@cons a b as bs h t =>obtain⟨rs,c,q⟩:=Wc (P:=P) (w:=w) t;obtain⟨b1,b2⟩:=b;exact⟨(p.1,b2)::rs,⟨YN h.1,rfl,c⟩,.cons ⟨rfl,h.2⟩ q⟩
def FN (trs:List (TE×TE)):TE:=fun σ H Q=>∀ p,H p=none->Jo trs σ (upd H p (.dK [])) fun ps H2=>H2 p=some (.dK [])/\∃ kvs:List (Key×V),ps=kvs.map (fun kv=>(kV kv.1,kv.2))/\kvs.length<=15/\Q (.ref p) (upd H2 p (.dK (Yj [] kvs)))
theorem By{X:Cx}{pos:Pos}{keys:List (Option Expr)}{values:List Expr}{trs:List (TE×TE)}(h:PPs X pos keys values trs)(hall:keys.all (·.isSome)=true)(hl:keys.length=values.length)(h0:keys≠[])
  (h15:keys.length<=15):PE X (.Dict keys values pos) (FN trs):=by
 intro pins s σ H Q I q;have hn:=I.hok.fresh (zG s.heap.objs.size);have I1:=I.laid (a:=s.heap.objs.size) (o:=.dK []) (h':=s.heap.push {cls:=.type "dict",data:=.dict #[]}) (t':=s.toks) (fun _ _ q=>Heap.get?_push_of_some _ q) (zG _) (J3 s.heap I.big);refine wpAny_Dict_walk (knd:=Zh X.prog X.w) hall hl h0 h15 (thn (h pins _ σ _ _ I1 (q _ hn)) fun ws s2 ⟨ps,H2,I2,rel,e,kvs,ep,lk,q2⟩=>?_);subst ep;obtain⟨rs,c,rk⟩:=Wc (P:=X.prog) (w:=X.w) rel;obtain⟨z,hd,vs0,r0,dd⟩:=Ky I2.hok e;cases r0;refine⟨rs,c,dd,fun h' dd' hs=>⟨.ref s.heap.objs.size,_,?_,rfl,q2⟩⟩;have hz:(Yj [] kvs).length<=sizeLine:=by have h1:=Yr kvs [];rw[List.length_nil]at h1;rw[sizeLine_eq];omega
 have he:∃ q,h'.get? s.heap.objs.size=some q:=let ⟨q,_,_,hq,_⟩:=dd';⟨q,hq⟩;exact XB I2 (by rw[e];exact True.intro) hs he (ME hz hd (rk.merge .nil) dd')
section
variable {X:Cx}{pins:List (Addr×Obj)}{σ:St}{H:Hp}{s:Shared}{a:Addr}{y d:V}{u r:Value}{o:Option V}{A:Around}{E:Value->Shared->Prop}
theorem EL{Q:Value->Shared->Prop}(hu:A.units+1<cLine)(I:Inv X pins σ H s)(g:DGet H a y o)(ry:RelV y u)(h:∀ w' s',Inv X pins σ H s'->RelV (o.getD .non) w'->Q w' s') :
  wpAny (model X.prog X.w) A (call (.builtin "dict.get") [.ref a,u]) Q E s:=by
 rcases g with⟨kvs,k,e,ey,l⟩|⟨kvs,k,b,e,ey,eb,l⟩
 .subst ey;obtain⟨z,hd,vs,rel,dd⟩:=Xi I.hok e;refine call_meetsIn PySem.F.slot_dict_get dd.typeIs PySem.F.entry_dict_get (PySem.F.args_dict_get_2 _ _) (meets_dict_get (Zh X.prog X.w) a (YN ry) hd) ⟨_,dd.mapOf,h _ _ (I.tok _) ?_⟩;rw[l];exact(rel.val k).getD rfl
 .subst ey;cases (show u=Value.ref b from ry);obtain⟨z,hd,xs,rel,dd⟩:=W6 I.hok e;refine call_meetsIn PySem.F.slot_dict_get dd.typeIs PySem.F.entry_dict_get (PySem.F.args_dict_get_2 _ _) (meetsH_dict_get (tupleKind (Zh X.prog X.w)) a b hd) ⟨tupleKind_room_in1 hu,k,xs,key_of I.hok eb,dd,h _ _ (I.tok _) ?_⟩;rw[l];exact(rel.val k).getD rfl
end
section
variable {X:Cx}
theorem Oj:CallR X (.builtin "len") (fun xs H Q=>∃ a kvs,xs=[V.ref a]/\H a=some (.dK kvs)/\Q (.int kvs.length) H):=by intro pins s σ H xs us Q I r h;obtain⟨a,kvs,rfl,ha,q⟩:=h;obtain⟨u,rfl,ru⟩:=ZQ r;cases ru;exact Gi I (.inl ha) fun t s' I'=>⟨.int kvs.length,H,I',⟨t,rfl⟩,q⟩
end
end L2
namespace Own
noncomputable abbrev Ad:=Nat
inductive Val where
 |non|bl (b:Bool)|int (i:Int)|str (s:String)|tup (xs:List Val)|ref (a:Ad)|scr (ns:List Int)|key (i j:Int)
 deriving Inhabited
mutual
noncomputable def Val.eqb:Val->Val->Bool
 |.non,.non=>true
 |.bl a,.bl b=>a==b
 |.int a,.int b=>a==b
 |.str a,.str b=>a==b
 |.tup a,.tup b=>Val.eqs a b
 |.ref a,.ref b=>a==b
 |.scr a,.scr b=>a==b
 |.key a b,.key c d=>a==c&&b==d
 |_,_=>false
noncomputable def Val.eqs:List Val->List Val->Bool
 |[],[]=>true
 |x::xs,y::ys=>Val.eqb x y&&Val.eqs xs ys
 |_,_=>false
end
mutual
theorem Val.eqb_iff:∀ {a b:Val},Val.eqb a b=true↔a=b
 |.non,b=>by cases b<;>simp[Val.eqb]
 |.bl _,b=>by cases b<;>simp[Val.eqb]
 |.int _,b=>by cases b<;>simp[Val.eqb]
 |.str _,b=>by cases b<;>simp[Val.eqb]
 |.tup _,b=>by cases b<;>simp[Val.eqb,Val.eqs_iff]
 |.ref _,b=>by cases b<;>simp[Val.eqb]
 |.scr _,b=>by cases b<;>simp[Val.eqb]
 |.key _ _,b=>by cases b<;>simp[Val.eqb]
theorem Val.eqs_iff:∀ {a b:List Val},Val.eqs a b=true↔a=b
 |[],b=>by cases b<;>simp[Val.eqs]
 |_::_,b=>by cases b<;>simp[Val.eqs,Val.eqb_iff,Val.eqs_iff]
end
noncomputable instance:DecidableEq Val:=fun a b=>if h:Val.eqb a b=true then isTrue (Val.eqb_iff.mp h)else isFalse fun e=>h (Val.eqb_iff.mpr e)
inductive Ob where
 |lst (xs:List Val)|dct (kvs:List (Val×Val))|ins (C:String) (fs:List (String×Val))|exc (C:String)|frz (kvs:List (Val×Val))|dtp (kvs:List (Val×Val))
 deriving Inhabited
noncomputable def CS (sep:List Char):List (List Char)->List Char
 |[]=>[]
 |[x]=>x
 |x::y::r=>x++(sep++CS sep (y::r))
noncomputable def C7 (sep:String) (xs:List String):String:=String.ofList (CS sep.toList (xs.map String.toList))
noncomputable def Mx (c:Char):List Char->List (List Char)
 |[]=>[[]]
 |x::xs=>if x=c then []::Mx c xs else match Mx c xs with
  |[]=>[[x]]
  |y::ys=>(x::y)::ys
noncomputable def MG (c:Char) (s:String):List String:=(Mx c s.toList).map String.ofList
noncomputable def figB (c:Char):Bool:=decide (48<=c.toNat)&&decide (c.toNat<=57)
noncomputable def decN (l:List Char):Nat:=l.foldl (fun a c=>10*a+(c.toNat - 48)) 0
noncomputable def Up:List Val->Option (List String)
 |[]=>some []
 |.str s::xs=>(Up xs).map (s :: ·)
 |_=>none
noncomputable def Xl:Val->Option String
 |.str s=>some s
 |_=>none
noncomputable def oneC (s:String):Option Char:=match s.toList with
 |[c]=>some c
 |_=>none
noncomputable def Nf (i:Int):String:=toString i
noncomputable def fmtV:Val->Option String
 |.str s=>some s
 |.int i=>if i.natAbs<10 ^ 200 then some (Nf i)else none
 |_=>none
noncomputable abbrev Hs:=Ad->Option Ob
@[irreducible] noncomputable def upd (h:Hs) (a:Ad) (o:Ob):Hs:=fun b=>if b=a then some o else h b
theorem upd_same{h:Hs}{a:Ad}{o:Ob}:upd h a o a=some o:=by simp[upd]
theorem upd_ne{h:Hs}{a b:Ad}{o:Ob}(e:b≠a):upd h a o b=h b:=by simp[upd,e]
theorem upd_upd{h:Hs}{a:Ad}{o u:Ob}:upd (upd h a o) a u=upd h a u:=by funext b;simp only[upd];split<;>rfl
noncomputable abbrev Env:=List (Option Val)
noncomputable abbrev Q1:=Val->Hs->Prop
noncomputable abbrev XQ:=String->Hs->Prop
noncomputable abbrev Fs:=String->List Val->Hs->Q1->XQ->Prop
noncomputable def lim:Nat:=1000000
@[irreducible] noncomputable def go {α:Type}(o:Option α) (k:α->Prop):Prop:=match o with|some a=>k a|none=>False
@[simp] theorem go_some{α:Type}{a:α}{k:α->Prop}:go (some a) k=k a:=by unfold go;rfl
@[simp] theorem HN{α:Type}{k:α->Prop}:go none k=False:=by unfold go;rfl
theorem go_of{α:Type}{o:Option α}{a:α}{k:α->Prop}(e:o=some a)(h:k a):go o k:=by rw[e,go_some];exact h
inductive Bop where|add|sub|mul|fdiv|mod|pow
inductive Cop where|eq|ne|lt|le|gt|ge|isin|notin|is|isnot|nes|eqE|neE|ntT|neX
inductive Bi where
 |len|int|str|bool|abs|min2|max2|minL|maxL|minD|sum|all|any|sorted|sortedI|sortedSet|lenSet|list|tuple|dict|isi (Ts:List String)|isx (Ts:List String)|isc (C:String)|repr|listRev|listRange|tupRange|dictEnum
inductive Bm where
 |append|extend|pop|popAt|insert|remove|clear|reverse|index|count|dget|dgetD|dpop|dpopD|setdefault|join|split|replace|upper|partition|sidx
inductive Pt where|one (i:Nat)|many (is:List Nat)|nest (i:Nat) (is:List Nat)
mutual
inductive E where
 |cst (v:Val)|var (i:Nat)|glob (x:String) (v:Val)
 |bin (op:Bop) (a b:E)|neg (a:E)|not (a:E)|and (a b:E)|or (a b:E)
 |cmp (op:Cop) (a b:E)|chain (o1 o2:Cop) (a b c:E)
 |call (f:String) (as:Es)|make (C:String) (as:Es)|meth (C m:String) (o:E) (as:Es)|fld (o:E) (f:String)
 |bi (f:Bi) (as:Es)|bm (m:Bm) (o:E) (as:Es)
 |idx (a i:E)|slc (a:E) (lo hi:Oe)|rev (a:E)
 |tup (es:Es)|lst (es:Es)|dct (es:Es)
 |ife (c:Tt) (a b:E)
 |comp (caps:List Nat) (n:Nat) (p:Pt) (it:It) (c:Tt) (e:E)
 |fstr (es:Es)
 |split (o a:E)
 |repl (o:E) (y z:String)
 |key (es:Es)|dctP
inductive Es where|nil|cons (e:E) (es:Es)
inductive Oe where|none|some (e:E)
inductive Tt where|yes|val (e:E)|not (t:Tt)|and (a b:Tt)|or (a b:Tt)
inductive It where
 |seq (e:E)|chars (e:E)|range (a:E)|range2 (a b:E)|enum (e:E)|zip (a b:E)|items (e:E)|rev (e:E)
end
mutual
inductive S where
 |set (p:Pt) (e:E)|setIdx (a i e:E)|setFld (o:E) (f:String) (e:E)
 |augVar (i:Nat) (op:Bop) (e:E)|augFld (o:E) (f:String) (op:Bop) (n:Int)|augIdx (a i:E) (op:Bop) (n:Int)
 |setPair (a i b j e:E)
 |expr (e:E)|ret (e:E)|retN|ite (c:Tt) (a b:Ss)|whl (c:Tt) (b:Ss)|for (p:Pt) (it:It) (b:Ss)|forI (k:Bool) (p:Pt) (e:E) (b:Ss)
 |never|brk|cnt|pass|raise (C:String) (as:Es)|try (t:Option Nat) (e:E) (hs:Hn)
inductive Ss where|nil|cons (s:S) (ss:Ss)
inductive Hn where|nil|cons (C:String) (n:Option Nat) (b:Ss) (r:Hn)
end
noncomputable def ixN (n:Nat) (i:Int):Option Nat:=if 0<=i then(if i<n then some i.toNat else none)else if -(n:Int)<=i then some (i+n).toNat else none
noncomputable def atI {α:Type}(xs:List α) (i:Int):Option α:=(ixN xs.length i).bind fun j=>xs[j]?
noncomputable def cutAt (n d:Nat):Option Int->Nat
 |none=>d
 |some i=>if 0<=i then min i.toNat n else(i+n).toNat
noncomputable def cut {α:Type}(xs:List α) (lo hi:Option Int):List α:=(xs.drop (cutAt xs.length 0 lo)).take (cutAt xs.length xs.length hi - cutAt xs.length 0 lo)
noncomputable def lsOf:Option Ob->Option (List Val)
 |some (.lst xs)=>some xs
 |_=>none
@[simp] theorem Kl{xs:List Val}:lsOf (some (.lst xs))=some xs:=rfl
noncomputable def YJ (h:Hs):Val->Option (List Val)
 |.ref a=>lsOf (h a)
 |.tup xs=>some xs
 |.scr ns=>some (ns.map .int)
 |_=>none
noncomputable def dcOf:Option Ob->Option (List (Val×Val))
 |some (.dct kvs)=>some kvs
 |_=>none
noncomputable def lookK (kvs:List (Val×Val)) (k:Val):Option Val:=(kvs.find? fun p=>p.1==k).map (·.2)
noncomputable def hasK (kvs:List (Val×Val)) (k:Val):Bool:=kvs.any fun p=>p.1==k
noncomputable def putK (kvs:List (Val×Val)) (k v:Val):List (Val×Val):=if hasK kvs k then kvs.map fun p=>if p.1==k then(k,v)else p else kvs++[(k,v)]
noncomputable def dropK (kvs:List (Val×Val)) (k:Val):List (Val×Val):=kvs.filter fun p=>!(p.1==k)
noncomputable def isKey:Val->Bool
 |.int _=>true
 |.str _=>true
 |_=>false
inductive D where
 |non|bl (b:Bool)|int (i:Int)|str (s:String)|tup (ds:List D)|lst (ds:List D)
 deriving Inhabited
mutual
noncomputable def D.eqv:D->D->Bool
 |.non,.non=>true
 |.bl a,.bl b=>a==b
 |.bl a,.int i=>(if a then 1 else 0)==i
 |.int i,.bl a=>i==(if a then 1 else 0)
 |.int a,.int b=>a==b
 |.str a,.str b=>a==b
 |.tup a,.tup b=>D.eqvs a b
 |.lst a,.lst b=>D.eqvs a b
 |_,_=>false
noncomputable def D.eqvs:List D->List D->Bool
 |[],[]=>true
 |x::xs,y::ys=>D.eqv x y&&D.eqvs xs ys
 |_,_=>false
end
noncomputable def dat (h:Hs):Nat->Val->Option D
 |_,.non=>some .non
 |_,.bl b=>some (.bl b)
 |_,.int i=>some (.int i)
 |_,.str s=>some (.str s)
 |0,_=>none
 |n+1,.tup xs=>(xs.mapM (dat h n)).map .tup
 |n+1,.ref a=>(lsOf (h a)).bind fun xs=>(xs.mapM (dat h n)).map .lst
 |n+1,.scr ns=>some (.lst (ns.map .int))
 |_+1,.key _ _=>none
noncomputable def deep:Nat:=12
noncomputable def eqV (h:Hs) (v u:Val):Option Bool:=(dat h deep v).bind fun d=>(dat h deep u).map fun e=>D.eqv d e
noncomputable def intsOf:List Val->Option (List Int)
 |[]=>some []
 |.int i::xs=>(intsOf xs).map (i :: ·)
 |_=>none
noncomputable def lexI:List Int->List Int->Bool
 |[],[]=>false
 |[],_::_=>true
 |_::_,[]=>false
 |x::xs,y::ys=>if x=y then lexI xs ys else decide (x<y)
noncomputable def ltV:Val->Val->Option Bool
 |.int i,.int j=>some (decide (i<j))
 |.tup xs,.tup ys=>(intsOf xs).bind fun ns=>(intsOf ys).map fun ms=>lexI ns ms
 |_,_=>none
noncomputable def inL (h:Hs) (x:Val) (ys:List Val):Option Bool:=(dat h deep x).bind fun d=>(ys.mapM (dat h (deep - 1))).map fun ds=>ds.any fun e=>D.eqv e d
noncomputable def leV:Val->Val->Option Bool
 |.int i,.int j=>some (decide (i<=j))
 |_,_=>none
noncomputable def isKeyT:Val->Bool
 |.key _ _=>true
 |_=>false
noncomputable def inV (h:Hs) (v u:Val):Option Bool:=match u with
 |.tup xs=>inL h v xs
 |.ref a=>match h a with
  |some (.lst xs)=>inL h v xs
  |some (.dct kvs)=>if isKey v then some (hasK kvs v)else none
  |some (.frz kvs)=>if isKey v then some (hasK kvs v)else none
  |some (.dtp kvs)=>if isKeyT v then some (hasK kvs v)else none
  |_=>none
 |.str t=>(match v with|.str s=>(oneC s).map fun c=>decide (c∈t.toList)|_=>none)
 |_=>none
noncomputable def isV (v u:Val):Option Bool:=match u with
 |.non=>some (decide (v=.non))
 |.bl b=>some (decide (v=.bl b))
 |_=>none
noncomputable def samL (f:Val->Val->Bool):List Val->List Val->Bool
 |[],[]=>true
 |x::xs,y::ys=>f x y&&samL f xs ys
 |_,_=>false
noncomputable def sam (h:Hs):Nat->Val->Val->Bool
 |_,.non,.non=>true
 |_,.bl a,.bl b=>a==b
 |_,.int a,.int b=>a==b
 |_,.str a,.str b=>a==b
 |0,.ref a,.ref b=>a==b
 |n+1,.tup xs,.tup ys=>samL (sam h n) xs ys
 | n+1,.ref a,.ref b=>a == b||(match lsOf (h a),lsOf (h b)with
   |some xs,some ys=>samL (sam h n) xs ys
   | _,_=>false)
 |_,_,_=>false
noncomputable def asLst (h:Hs):Val->Option (List Val)
 |.ref a=>lsOf (h a)
 |_=>none
noncomputable def noPairs:Option Ob->Bool
 |some (.dct [])=>true
 |_=>false
noncomputable def sam0 (h:Hs) (v u:Val):Bool:=(match asLst h v,asLst h u with
    |some xs,some ys=>samL (sam h 8) xs ys
    |_,_=>false)||(match v,u with
    |.ref a,.ref b=>a==b&&noPairs (h a)
    | _,_=>false)
noncomputable def cmpV (h:Hs) (op:Cop) (v u:Val):Option Bool:=match op with
 |.eq=>eqV h v u
 |.ne=>(eqV h v u).map (!·)
 |.lt=>ltV v u
 |.gt=>ltV u v
 |.le=>leV v u
 |.ge=>leV u v
 |.isin=>inV h v u
 |.notin=>(inV h v u).map (!·)
 |.is=>isV v u
 |.isnot=>(isV v u).map (!·)
 |.nes=>(asLst h v).bind fun xs=>(asLst h u).bind fun ys=>if samL (sam h 8) xs ys then some false else none
 |.eqE=>(asLst h v).bind fun xs=>(asLst h u).bind fun ys=>if ys.isEmpty then some xs.isEmpty else none
 |.neE=>(asLst h v).bind fun xs=>(asLst h u).bind fun ys=>if ys.isEmpty then some (!xs.isEmpty)else none
 |.neX=>if sam0 h v u=true then some false else(eqV h v u).map (!·)
 |.ntT=>match v,u with
  |.bl a,.bl b=>some (a != b)
  |_,_=>none
noncomputable def Yv (h:Hs):Val->Option Bool
 |.bl b=>some b
 |.int i=>some (decide (i≠0))
 |.non=>some false
 |.str s=>if s.length<=lim then some (decide (s.length≠0))else none
 |.tup xs=>some (!xs.isEmpty)
 |.scr ns=>some (!ns.isEmpty)
 |.ref a=>match h a with
  |some (.lst xs)=>some (!xs.isEmpty)
  |some (.dct kvs)=>some (!kvs.isEmpty)
  |_=>none
 |.key _ _=>none
def mulOk (i j:Int):Prop:=(i.natAbs<2 ^ 64\/j.natAbs<2 ^ 64)\/(i.natAbs<=10 ^ 200/\j.natAbs<=10 ^ 200)
instance (i j:Int):Decidable (mulOk i j):=inferInstanceAs (Decidable (_\/_))
@[irreducible] noncomputable def new (h:Hs) (o:Ob) (Q:Q1):Prop:=∀ p,h p=none->Q (.ref p) (upd h p o)
theorem Ju{h:Hs}{o:Ob}{Q:Q1}(q:∀ p,h p=none->Q (.ref p) (upd h p o)):new h o Q:=by unfold new;exact q
inductive Rs where|val (v:Val)|new (o:Ob)|no
@[irreducible] noncomputable def Rs.wp (r:Rs) (h:Hs) (Q:Q1):Prop:=match r with|.val v=>Q v h|.new o=>Own.new h o Q|.no=>False
@[simp] theorem Rs.wp_val{v:Val}{h:Hs}{Q:Q1}:(Rs.val v).wp h Q=Q v h:=by unfold Rs.wp;rfl
@[simp] theorem Rs.wp_new{o:Ob}{h:Hs}{Q:Q1}:(Rs.new o).wp h Q=Own.new h o Q:=by unfold Rs.wp;rfl
@[simp] theorem Rs.wp_no{h:Hs}{Q:Q1}:Rs.no.wp h Q=False:=by unfold Rs.wp;rfl
noncomputable def Rs.ofO:Option Val->Rs
 |some v=>.val v
 |none=>.no
noncomputable def Rs.lst (xs:List Val):Rs:=if xs.length<=lim then .new (.lst xs)else .no
noncomputable def addV (h:Hs):Val->Val->Rs
 |.int i,.int j=>.val (.int (i+j))
 |.str s,.str t=>if s.length+t.length<=lim then .val (.str (s++t))else .no
 |.tup xs,.tup ys=>if xs.length+ys.length<=lim then .val (.tup (xs++ys))else .no
 |.ref a,.ref b=>match h a,h b with
  |some (.lst xs),some (.lst ys)=>Rs.lst (xs++ys)
  |_,_=>.no
 |_,_=>.no
noncomputable def repT (s:String) (n:Nat):String:=String.ofList (List.replicate n s.toList).flatten
noncomputable def mulV (h:Hs):Val->Val->Rs
 |.int i,.int j=>if mulOk i j then .val (.int (i*j))else .no
 |.ref a,.int k=>match h a with
  |some (.lst xs)=>if -(2 ^ 62)<k/\k<2 ^ 62/\xs.length*k.toNat<=lim then Rs.lst (List.replicate k.toNat xs).flatten else .no
  |_=>.no
 |.str s,.int k=>if 2<=k/\k<=1000000/\1<=s.length/\s.length*k.toNat<=lim then .val (.str (repT s k.toNat))else .no
 |_,_=>.no
noncomputable def intV (f:Int->Int->Rs):Val->Val->Rs
 |.int i,.int j=>f i j
 |_,_=>.no
noncomputable def binV (h:Hs) (op:Bop) (v u:Val):Rs:=match op with
 |.add=>addV h v u
 |.sub=>intV (fun i j=>.val (.int (i - j))) v u
 |.mul=>mulV h v u
 |.fdiv=>intV (fun i j=>if 0<j/\j<1073741824 then .val (.int (i / j))else .no) v u
 |.mod=>intV (fun i j=>if 0<j then .val (.int (i % j))else .no) v u
 |.pow=>intV (fun i j=>if 0<=j/\j<=1000000/\i.natAbs<2 ^ 64 then .val (.int (i ^ j.toNat))else .no) v u
noncomputable def asInt:Val->Option Int
 |.int i=>some i
 |_=>none
noncomputable def idxV (h:Hs):Val->Val->Option Val
 |.tup xs,.int k=>atI xs k
 |.str s,.int k=>if s.length<=lim then(atI s.toList k).map fun c=>.str (String.singleton c)else none
 |.ref a,k=>match h a with
  |some (.lst xs)=>(asInt k).bind (atI xs)
  |some (.dct kvs)=>if isKey k then lookK kvs k else none
  |some (.frz kvs)=>if isKey k then lookK kvs k else none
  |some (.dtp kvs)=>if isKeyT k then lookK kvs k else none
  |_=>none
 |.scr ns,.int i=>atI (ns.map .int) i
 |_,_=>none
noncomputable def slcV (h:Hs) (v:Val) (lo hi:Option Int):Rs :=
 match v with
 |.tup xs=>if cutAt xs.length 0 lo=0/\cutAt xs.length xs.length hi=xs.length then .no else .val (.tup (cut xs lo hi))
 |.ref a=>match lsOf (h a)with
  |some xs=>.new (.lst (cut xs lo hi))
  |none=>.no
 |.scr ns=>.new (.lst (cut (ns.map .int) lo hi))
 |.str s=>if s.length<=lim then .val (.str (String.ofList (cut s.toList lo hi)))else .no
 |_=>.no
noncomputable def sortI (ns:List Int):List Int:=ns.mergeSort fun a b=>decide (a<=b)
noncomputable def blsOf:List Val->Option (List Bool)
 |[]=>some []
 |.bl b::xs=>(blsOf xs).map (b :: ·)
 |_=>none
noncomputable def minL:List Val->Option Val
 |[]=>none
 |x::xs=>xs.foldl (fun m y=>m.bind fun b=>(ltV y b).map fun c=>if c then y else b) (some x)
noncomputable def maxL:List Val->Option Val
 |[]=>none
 |x::xs=>xs.foldl (fun m y=>m.bind fun b=>(ltV b y).map fun c=>if c then y else b) (some x)
noncomputable def dedup:List Int->List Int
 |[]=>[]
 |x::xs=>x::(dedup xs).filter (· != x)
noncomputable def excSub (c d:String):Bool:=c==d||d == "ShutError" || d == "ValueError" || d == "Exception"
noncomputable def kindV (h:Hs):Val->Option String
 |.non=>some "NoneType"
 |.bl _=>some "bool"
 |.int _=>some "int"
 |.str _=>some "str"
 |.tup _=>some "tuple"
 |.scr _=>some "list"
 |.ref a=>match h a with
  |some (.lst _)=>some "list"
  |some (.dct _)=>some "dict"
  |_=>none
 |.key _ _=>none
noncomputable def isiV (h:Hs) (v:Val) (T:String):Option Bool:=(kindV h v).map fun t=>t==T||(t == "bool" && T == "int")
noncomputable def G7:Option Ob->Option String
 |some (.exc c)=>some c
 |_=>none
noncomputable def Ih (h:Hs):Val->Option String
 |.ref a=>G7 (h a)
 |_=>none
noncomputable def isoV (h:Hs) (C:String):Val->Option Val
 |.ref a=>match h a with
  |some (.ins D _)=>if D=C then some (.bl true)else none
  |_=>none
 |_=>none
noncomputable def isiAny (h:Hs) (v:Val):List String->Option Bool
 |[]=>some false
 |T::Ts=>(isiV h v T).bind fun b=>(isiAny h v Ts).map (b || ·)
noncomputable def M9 (h:Hs):List Val->Option (List (Val×Val))
 |[]=>some []
 |v::vs=>match v with
  |.tup [k,x]=>if isKey k then(M9 h vs).map ((k,x) :: ·)else none
  |_=>none
noncomputable def pairUp:List Val->Option (List (Val×Val))
 |[]=>some []
 |k::v::r=>if isKey k then(pairUp r).map ((k,v) :: ·)else none
 |_=>none
noncomputable def putAll (kvs:List (Val×Val)):List (Val×Val)->List (Val×Val)
 |[]=>kvs
 |(k,v)::r=>putAll (putK kvs k v) r
noncomputable def lenV (h:Hs):Val->Rs
 |.ref a=>match h a with
  |some (.lst xs)=>.val (.int xs.length)
  |some (.dct kvs)=>.val (.int kvs.length)
  |_=>.no
 |.tup xs=>.val (.int xs.length)
 |.scr ns=>.val (.int ns.length)
 |.str s=>if s.length<=lim then .val (.int s.length)else .no
 |_=>.no
noncomputable def GF:Val->Rs
 |.int i=>.val (.int i)
 |.bl b=>.val (.int (if b then 1 else 0))
 |.str s=>if s.length<=640/\s.toList≠[]/\s.toList.all figB=true then .val (.int (decN s.toList))else .no
 |_=>.no
noncomputable def EC:Val->Rs
 |.bl b=>.val (.bl b)
 |_=>.no
noncomputable def GE:Val->Rs
 |.str s=>.val (.str s)
 |.int i=>if i.natAbs<10 ^ 200 then .val (.str (Nf i))else .no
 |_=>.no
noncomputable def absV:Val->Rs
 |.int i=>.val (.int (if i<0 then -i else i))
 |_=>.no
noncomputable def biOf1 (f:Val->Rs):List Val->Rs
 |[v]=>f v
 |_=>.no
noncomputable def Db (f:Val->Val->Rs):List Val->Rs
 |[v,u]=>f v u
 |_=>.no
noncomputable def Jg:List Val->Option (List (List Int))
 |[]=>some []
 |.tup xs::r=>(intsOf xs).bind fun ns=>(Jg r).map (ns :: ·)
 |_=>none
noncomputable def DC (b:List Int):List (List Int)->List Int
 |[]=>b
 |y::r=>DC (if lexI y b then y else b) r
noncomputable def Fi (h:Hs) (v:Val):Rs:=match v with
 |.ref a=>match (lsOf (h a)).bind Jg with
  |some []=>.val .non
  |some (x::r)=>.val (.tup ((DC x r).map .int))
  |none=>.no
 |_=>.no
noncomputable def Gf:Val->Val->Rs
 |.int i,.int j=>.val (.int (if j<i then j else i))
 |.tup xs,.tup ys=>match intsOf xs,intsOf ys with
  |some ns,some ms=>.val (if lexI ms ns=true then .tup ys else .tup xs)
  |_,_=>.no
 |_,_=>.no
noncomputable def IQ (h:Hs):Val->Rs
 |.ref a=>.ofO ((lsOf (h a)).bind fun xs=>(blsOf xs).map fun bs=>.bl (bs.any id))
 |_=>.no
noncomputable def Ip (h:Hs):Val->Rs
 |.ref a=>.ofO ((lsOf (h a)).bind fun xs=>(blsOf xs).map fun bs=>.bl (bs.all id))
 |_=>.no
noncomputable def sortOf (h:Hs):Val->Option (List Int)
 |.ref a=>(lsOf (h a)).bind intsOf
 |.scr ns=>some ns
 |_=>none
noncomputable def keysOf (kvs:List (Val×Val)):Option (List Int):=intsOf (kvs.map (·.1))
noncomputable def sortAny (h:Hs) (v:Val):Option (List Int):=match v with
 |.ref a=>match h a with
  |some (.lst xs)=>intsOf xs
  |some (.dct kvs)=>keysOf kvs
  |_=>none
 |.scr ns=>some ns
 |_=>none
noncomputable def F7 (rows:List (List Int)):List (List Int):=rows.mergeSort fun a b=>!lexI b a
noncomputable def Fw (h:Hs) (v:Val):Option (List (List Int)):=match v with
 |.ref a=>(lsOf (h a)).bind Jg
 |_=>none
noncomputable def N9 (h:Hs) (v:Val):Rs:=match Fw h v with
 |some rows=>if rows.length<64/\(rows.all fun r=>!r.isEmpty)=true then .new (.lst ((F7 rows).map fun r=>.tup (r.map .int)))else .no
 |none=>.no
noncomputable def XN (h:Hs) (v:Val):Rs:=match sortAny h v with
 |some ns=>if ns.length<64 then .new (.lst ((sortI ns).map .int))else .no
 |none=>N9 h v
noncomputable def biSortedI (h:Hs) (v:Val):Rs:=match sortAny h v with
 |some ns=>if ns.length<64 then .new (.lst ((sortI ns).map .int))else .no
 |none=>.no
noncomputable def biSortedSet (h:Hs) (v:Val):Rs:=match sortOf h v with
 |some ns=>if ns.length<64 then .new (.lst ((sortI (dedup ns)).map .int))else .no
 |none=>.no
noncomputable def AJ (h:Hs) (v:Val):Rs:=match sortOf h v with
 |some ns=>if ns.length<4000 then .val (.int (dedup ns).length)else .no
 |none=>.no
noncomputable def toList (h:Hs):Val->Rs
 |.ref a=>match h a with
  |some (.lst xs)=>.new (.lst xs)
  |_=>.no
 |.tup xs=>.new (.lst xs)
 |_=>.no
noncomputable def Jh (h:Hs):Val->Rs
 |.ref a=>match h a with
  |some (.lst xs)=>.val (.tup xs)
  |_=>.no
 |.tup xs=>.val (.tup xs)
 |_=>.no
noncomputable def Dk (h:Hs):Val->Rs
 |.ref a=>match h a with
  |some (.dct kvs)=>.new (.dct kvs)
  |some (.lst xs)=>match M9 h xs with
   |some kvs=>.new (.dct (putAll [] kvs))
   |none=>.no
  |_=>.no
 |_=>.no
noncomputable def C2:Nat->List Val->List (Val×Val)
 |_,[]=>[]
 |k,x::xs=>(.int (k:Nat),x)::C2 (k+1) xs
noncomputable def Bn:Val->Rs
 |.tup xs=>.new (.dct (C2 0 xs))
 |_=>.no
noncomputable def Iy:List Int->Int
 |[]=>0
 |x::r=>r.foldl (fun a b=>if b<a then b else a) x
noncomputable def HQ:List Int->Int
 |[]=>0
 |x::r=>r.foldl (fun a b=>if b > a then b else a) x
noncomputable def UX (h:Hs):Val->Option (List Int)
 |.ref a=>(lsOf (h a)).bind intsOf
 |_=>none
noncomputable def NG:Val->Option (Int×Int)
 |.tup [.int i,.int j]=>some (i,j)
 |_=>none
noncomputable def NV (h:Hs) (v:Val):Rs:=match asLst h v with
 |some xs=>.new (.lst xs.reverse)
 |none=>.no
noncomputable def Fj:Val->Rs
 |.int k=>if 0<=k/\k<=1000 then .new (.lst ((List.range k.toNat).map fun n=>.int (n:Nat)))else .no
 |_=>.no
noncomputable def Fd:Val->Rs
 |.int k=>if 0<=k/\k<=1000 then .val (.tup ((List.range k.toNat).map fun n=>.int (n:Nat)))else .no
 |_=>.no
noncomputable def IW:Val->Option (List Int)
 |.tup xs=>intsOf xs
 |_=>none
noncomputable def Fe (h:Hs) (v:Val):Rs:=match NG v with
 |some p=>.val (.int (if p.2<p.1 then p.2 else p.1))
 |none=>match (IW v).or (UX h v)with
  |some (x::r)=>.val (.int (Iy (x::r)))
  |_=>match (asLst h v).bind Jg with
   |some (x::r)=>.val (.tup ((DC x r).map .int))
   |_=>.no
noncomputable def EZ (h:Hs) (v:Val):Rs:=match NG v with
 |some p=>.val (.int (if p.2 > p.1 then p.2 else p.1))
 |none=>match UX h v with
  |some (x::r)=>.val (.int (HQ (x::r)))
  |_=>.no
noncomputable def biV (h:Hs) (b:Bi) (vs:List Val):Rs:=match b with
 |.len=>biOf1 (lenV h) vs
 |.int=>biOf1 GF vs
 |.str=>biOf1 GE vs
 |.bool=>biOf1 EC vs
 |.abs=>biOf1 absV vs
 |.min2=>Db Gf vs
 |.max2=>Db (intV fun i j=>.val (.int (if j > i then j else i))) vs
 |.minL=>biOf1 (Fe h) vs
 |.maxL=>biOf1 (EZ h) vs
 |.minD=>biOf1 (Fi h) vs
 |.sum=>biOf1 (fun v=>.ofO ((YJ h v).bind fun xs=>(intsOf xs).map fun ns=>.int ns.sum)) vs
 |.all=>biOf1 (Ip h) vs
 |.any=>biOf1 (IQ h) vs
 |.sorted=>biOf1 (XN h) vs
 |.sortedI=>biOf1 (biSortedI h) vs
 |.sortedSet=>biOf1 (biSortedSet h) vs
 |.lenSet=>biOf1 (AJ h) vs
 |.list=>biOf1 (toList h) vs
 |.tuple=>biOf1 (Jh h) vs
 |.dict=>biOf1 (Dk h) vs
 |.isi Ts=>biOf1 (fun v=>.ofO ((isiAny h v Ts).map .bl)) vs
 |.isx Ts=>biOf1 (fun v=>.ofO ((Ih h v).map fun c=>.bl (Ts.any (excSub c)))) vs
 |.isc C=>biOf1 (fun v=>.ofO (isoV h C v)) vs
 |.repr=>.no
 |.listRev=>biOf1 (NV h) vs
 |.listRange=>biOf1 Fj vs
 |.tupRange=>biOf1 Fd vs
 |.dictEnum=>biOf1 Bn vs
noncomputable def bmL (h:Hs) (v:Val) (f:Ad->List Val->Option (Val×Hs)):Option (Val×Hs):=match v with
 |.ref a=>(lsOf (h a)).bind (f a)
 |_=>none
noncomputable def bmD (h:Hs) (v:Val) (f:Ad->List (Val×Val)->Option (Val×Hs)):Option (Val×Hs):=match v with
 |.ref a=>(dcOf (h a)).bind (f a)
 |_=>none
noncomputable def UW (h:Hs) (vs:List Val) (a:Ad) (xs:List Val):Option (Val×Hs):=match vs with
 |[v]=>if xs.length<lim then some (.non,upd h a (.lst (xs++[v])))else none
 |_=>none
noncomputable def OJ (h:Hs) (vs:List Val) (a:Ad) (xs:List Val):Option (Val×Hs):=match vs with
 |[.ref b]=>(lsOf (h b)).bind fun ys=>if xs.length+ys.length<=lim then some (.non,upd h a (.lst (xs++ys)))else none
 |_=>none
noncomputable def GA (h:Hs) (vs:List Val) (a:Ad) (xs:List Val):Option (Val×Hs):=match vs with
 |[]=>(xs[xs.length - 1]?).map fun v=>(v,upd h a (.lst xs.dropLast))
 |_=>none
noncomputable def Cl (h:Hs) (vs:List Val) (a:Ad) (xs:List Val):Option (Val×Hs):=match vs with
 |[.int i]=>if -(2 ^ 62)<i/\i<2 ^ 62 then(ixN xs.length i).bind fun k=>(xs[k]?).map fun v=>(v,upd h a (.lst (xs.eraseIdx k)))else none
 |_=>none
noncomputable def O7 (h:Hs) (vs:List Val) (a:Ad) (xs:List Val):Option (Val×Hs):=match vs with
 |[.int i,v]=>if 0<=i/\i<=xs.length/\xs.length<lim then some (.non,upd h a (.lst (xs.take i.toNat++v::xs.drop i.toNat)))else none
 |_=>none
noncomputable def OR (h:Hs) (vs:List Val) (a:Ad) (xs:List Val):Option (Val×Hs):=match vs with
 |[.int i]=>(intsOf xs).bind fun ns=>if i∈ns then some (.non,upd h a (.lst ((ns.erase i).map .int)))else none
 |_=>none
noncomputable def AZ (h:Hs) (vs:List Val) (a:Ad) (xs:List Val):Option (Val×Hs):=match vs with
 |[]=>some (.non,upd h a (.lst []))
 |_=>none
noncomputable def NO (h:Hs) (vs:List Val) (a:Ad) (xs:List Val):Option (Val×Hs):=match vs with
 |[]=>some (.non,upd h a (.lst xs.reverse))
 |_=>none
noncomputable def Ee (h:Hs) (v:Val) (vs:List Val):Option (Val×Hs):=match v,vs with
 |.str sep,[.ref a]=>(lsOf (h a)).bind fun xs=>(Up xs).bind fun ss=>if(ss.map String.length).sum+ss.length*sep.length<=lim then some (.str (C7 sep ss),h)else none
 |_,_=>none
noncomputable def Bq (h:Hs) (v:Val) (vs:List Val):Option (Val×Hs):=match vs with
 |[.int i]=>((YJ h v).bind intsOf).bind fun ns=>if i∈ns then some (.int (ns.idxOf i),h)else none
 |_=>none
noncomputable def Gb (h:Hs) (vs:List Val) (a:Ad) (kvs:List (Val×Val)):Option (Val×Hs):=match vs with
 |[k]=>if isKey k then some ((lookK kvs k).getD .non,h)else none
 |_=>none
noncomputable def Dg (h:Hs) (vs:List Val) (a:Ad) (kvs:List (Val×Val)):Option (Val×Hs):=match vs with
 |[k,d]=>if isKey k then some ((lookK kvs k).getD d,h)else none
 |_=>none
noncomputable def Il (h:Hs):Val->Option (List (Val×Val))
 |.ref a=>match h a with
  |some (.dtp kvs)=>some kvs
  |_=>none
 |_=>none
noncomputable def DV (h:Hs) (vs:List Val) (kvs:List (Val×Val)):Option (Val×Hs):=match vs with
 |[k,d]=>if isKeyT k then some ((lookK kvs k).getD d,h)else none
 |_=>none
noncomputable def Ey (h:Hs) (v:Val) (vs:List Val):Option (Val×Hs):=match Il h v with
 |some kvs=>DV h vs kvs
 |none=>bmD h v (Dg h vs)
noncomputable def DM (h:Hs) (vs:List Val) (a:Ad) (kvs:List (Val×Val)):Option (Val×Hs):=match vs with
 |[k]=>if isKey k then(lookK kvs k).map fun v=>(v,upd h a (.dct (dropK kvs k)))else none
 |_=>none
noncomputable def BK (h:Hs) (vs:List Val) (a:Ad) (kvs:List (Val×Val)):Option (Val×Hs):=match vs with
 |[k,d]=>if isKey k then some ((lookK kvs k).getD d,upd h a (.dct (dropK kvs k)))else none
 |_=>none
noncomputable def FE (h:Hs) (v:Val) (vs:List Val):Option (Val×Hs):=match v,vs with
 |.str t,[.str s]=>if t = "0123456789" then(oneC s).bind fun c=>if figB c=true then some (.int ((c.toNat - 48:Nat):Int),h)else none else none
 |_,_=>none
noncomputable def bmV (h:Hs) (m:Bm) (v:Val) (vs:List Val):Option (Val×Hs):=match m with
 |.append=>bmL h v (UW h vs)
 |.extend=>bmL h v (OJ h vs)
 |.pop=>bmL h v (GA h vs)
 |.popAt=>bmL h v (Cl h vs)
 |.insert=>bmL h v (O7 h vs)
 |.remove=>bmL h v (OR h vs)
 |.clear=>bmL h v (AZ h vs)
 |.reverse=>bmL h v (NO h vs)
 |.index=>Bq h v vs
 |.join=>Ee h v vs
 |.sidx=>FE h v vs
 |.dget=>bmD h v (Gb h vs)
 |.dgetD=>Ey h v vs
 |.dpop=>bmD h v (DM h vs)
 |.dpopD=>bmD h v (BK h vs)
 |.count=>none
 |.setdefault=>none
 |.split=>none
 |.replace=>none
 |.upper=>none
 |.partition=>none
noncomputable def isLst:Option Ob->Bool
 |some (.lst _)=>true
 |_=>false
noncomputable def isDct:Option Ob->Bool
 |some (.dct _)=>true
 |some (.dtp _)=>true
 |_=>false
inductive Ty where|l|d|s|t
noncomputable def Bm.ty:Bm->Ty
 |.dget=>.d
 |.dgetD=>.d
 |.dpop=>.d
 |.dpopD=>.d
 |.setdefault=>.d
 |.join=>.s
 |.split=>.s
 |.replace=>.s
 |.upper=>.s
 |.partition=>.s
 |.sidx=>.s
 |.index=>.t
 |_=>.l
noncomputable def X0 (p:Option Ob->Bool) (h:Hs):Val->Bool
 |.ref a=>p (h a)
 |_=>false
noncomputable def Df:Val->Bool
 |.str _=>true
 |_=>false
noncomputable def ER:Val->Bool
 |.tup _=>true
 |_=>false
noncomputable def bmTy (h:Hs) (m:Bm) (v:Val):Bool:=match m.ty with
 |.l=>X0 isLst h v
 |.d=>X0 isDct h v
 |.s=>Df v
 |.t=>X0 isLst h v||ER v
noncomputable def putF:List (String×Val)->String->Val->List (String×Val)
 |[],f,v=>[(f,v)]
 |(g,x)::r,f,v=>if g=f then(g,v)::r else(g,x)::putF r f v
noncomputable def getV (env:Env) (i:Nat):Option Val:=match env[i]? with
 |some (some v)=>some v
 |_=>none
noncomputable def asBl:Val->Option Bool
 |.bl b=>some b
 |_=>none
noncomputable def asRef:Val->Option Ad
 |.ref a=>some a
 |_=>none
noncomputable def insOf:Option Ob->Option (String×List (String×Val))
 |some (.ins C fs)=>some (C,fs)
 |_=>none
noncomputable def G4:Val->Option (Val×Val)
 |.tup [x,y]=>some (x,y)
 |_=>none
noncomputable def tupOf:Val->Option (List Val)
 |.tup xs=>some xs
 |_=>none
noncomputable def bindL:List Nat->List Val->Env->Option Env
 |[],[],env=>some env
 |i::is,x::xs,env=>bindL is xs (env.set i (some x))
 |_,_,_=>none
noncomputable def bind (p:Pt) (h:Hs) (v:Val) (env:Env):Option Env :=
 match p with
 |.one i=>some (env.set i (some v))
 |.many is=>(tupOf v).bind fun xs=>bindL is xs env
 |.nest i is=>(tupOf v).bind fun xs=>match xs with
  |[x,y]=>(tupOf y).bind fun ys=>bindL is ys (env.set i (some x))
  |_=>none
def wComp (st:Hs->Prop) (step:Val->Hs->(Option Val->Hs->Prop)->XQ->Prop):List Val->List Val->Hs->(List Val->Hs->Prop)->XQ->Prop
 |[],acc,h,Q,_=>st h/\Q acc h
 |v::vs,acc,h,Q,X=>st h/\step v h (fun r h'=>wComp st step vs (acc++r.toList) h' Q X) X
noncomputable def enumL:Nat->List Val->List Val
 |_,[]=>[]
 |k,x::xs=>.tup [.int k,x]::enumL (k+1) xs
noncomputable def DT:List Val->List Val->List Val
 |x::xs,y::ys=>.tup [x,y]::DT xs ys
 |_,_=>[]
noncomputable def Hh (s:String):List Val:=s.toList.map fun c=>.str (String.singleton c)
noncomputable def itV (h:Hs):Val->Option ((Hs->Prop)×List Val)
 |.tup xs=>some (fun _=>True,xs)
 |.scr ns=>some (fun _=>True,ns.map .int)
 |.ref a=>(lsOf (h a)).map fun xs=>(fun g=>lsOf (g a)=some xs,xs)
 |_=>none
noncomputable def Gp (h:Hs):Val->Val->Option ((Hs->Prop)×List Val)
 |.tup xs,.tup ys=>some (fun _=>True,DT xs ys)
 |.ref p,.ref q=>(lsOf (h p)).bind fun xs=>(lsOf (h q)).map fun ys=>(fun g=>lsOf (g p)=some xs/\lsOf (g q)=some ys,DT xs ys)
 |_,_=>none
noncomputable def JG (k:Bool) (p:Val×Val):Val:=if k then p.1 else .tup [p.1,p.2]
noncomputable def rangeV (i j:Int):List Val:=(List.range (j - i).toNat).map fun(k:Nat)=>.int (i+k)
noncomputable def putV (h:Hs) (o k v:Val):Option Hs :=
 match o with
 |.ref p=>match h p with
  |some (.lst xs)=>(asInt k).bind fun n=>(ixN xs.length n).map fun j=>upd h p (.lst (xs.set j v))
  |some (.dct kvs)=>if isKey k/\kvs.length<lim then some (upd h p (.dct (putK kvs k v)))else none
  |some (.dtp kvs)=>if isKeyT k/\kvs.length<lim then some (upd h p (.dtp (putK kvs k v)))else none
  |_=>none
 |_=>none
noncomputable def putFV (h:Hs) (o:Val) (f:String) (v:Val):Option Hs :=
 match o with
 |.ref p=>match h p with
  |some (.ins C fs)=>if fs.length<900 then some (upd h p (.ins C (putF fs f v)))else none
  |_=>none
 |_=>none
noncomputable def fldV (h:Hs) (o:Val) (f:String):Option Val:=(asRef o).bind fun a=>(insOf (h a)).bind fun p=>p.2.lookup f
noncomputable def clsV (h:Hs) (o:Val) (m:String):Option String:=(asRef o).bind fun a=>(insOf (h a)).bind fun p=>if(p.2.lookup m).isNone then some p.1 else none
noncomputable def KS (op:Bop) (x y:Val):Option Val:=match op,x,y with
 |.add,.int i,.int j=>some (.int (i+j))
 |.sub,.int i,.int j=>some (.int (i - j))
 |_,_,_=>none
mutual
def xE (Z:Fs):E->Env->Hs->Q1->XQ->Prop
 |.cst v,_,h,Q,_=>Q v h
 |.glob _ v,_,h,Q,_=>Q v h
 |.var i,env,h,Q,_=>go (getV env i) fun v=>Q v h
 |.bin op a b,env,h,Q,X=>xE Z a env h (fun v h1=>xE Z b env h1 (fun u h2=>(binV h2 op v u).wp h2 Q) X) X
 |.neg a,env,h,Q,X=>xE Z a env h (fun v h1=>go (asInt v) fun i=>Q (.int (-i)) h1) X
 |.not a,env,h,Q,X=>xE Z a env h (fun v h1=>go (asBl v) fun b=>Q (.bl (!b)) h1) X
 |.and a b,env,h,Q,X=>xE Z a env h (fun v h1=>go (asBl v) fun c=>if c=true then xE Z b env h1 Q X else Q (.bl false) h1) X
 |.or a b,env,h,Q,X=>xE Z a env h (fun v h1=>go (asBl v) fun c=>if c=true then Q (.bl true) h1 else xE Z b env h1 Q X) X
 |.cmp op a b,env,h,Q,X=>xE Z a env h (fun v h1=>xE Z b env h1 (fun u h2=>go (cmpV h2 op v u) fun c=>Q (.bl c) h2) X) X
 | .chain o1 o2 a b c,env,h,Q,X=>xE Z a env h (fun v h1=>xE Z b env h1 (fun u h2=>go (cmpV h2 o1 v u) fun k =>
     if k=true then xE Z c env h2 (fun w h3=>go (cmpV h3 o2 u w) fun k2=>Q (.bl k2) h3) X else Q (.bl false) h2) X) X
 |.call f as,env,h,Q,X=>xA Z as env h (fun vs h1=>Z f vs h1 Q X) X
 |.make C as,env,h,Q,X=>xA Z as env h (fun vs h1=>∀ p,h1 p=none->Z (C ++ ".__init__") (.ref p::vs) (upd h1 p (.ins C [])) (fun v h2=>v=.non/\Q (.ref p) h2) X) X
 |.meth C m o as,env,h,Q,X=>xE Z o env h (fun v h1=>clsV h1 v m=some C/\xA Z as env h1 (fun vs h2=>Z (C ++ "." ++ m) (v::vs) h2 Q X) X) X
 |.fld o f,env,h,Q,X=>xE Z o env h (fun v h1=>go (fldV h1 v f) fun u=>Q u h1) X
 |.bi f as,env,h,Q,X=>xA Z as env h (fun vs h1=>(biV h1 f vs).wp h1 Q) X
 |.bm m o as,env,h,Q,X=>xE Z o env h (fun v h1=>bmTy h1 m v=true/\xA Z as env h1 (fun vs h2=>go (bmV h2 m v vs) fun r=>Q r.1 r.2) X) X
 |.idx a i,env,h,Q,X=>xE Z a env h (fun v h1=>xE Z i env h1 (fun k h2=>go (idxV h2 v k) fun u=>Q u h2) X) X
 |.slc a lo hi,env,h,Q,X=>xE Z a env h (fun v h1=>xO Z lo env h1 (fun l h2=>xO Z hi env h2 (fun u h3=>(slcV h3 v l u).wp h3 Q) X) X) X
 |.rev a,env,h,Q,X=>xE Z a env h (fun v h1=>go (asRef v) fun p=>go (lsOf (h1 p)) fun xs=>new h1 (.lst xs.reverse) Q) X
 |.tup es,env,h,Q,X=>xA Z es env h (fun vs h1=>Q (.tup vs) h1) X
 |.key es,env,h,Q,X=>xA Z es env h (fun vs h1=>go (NG (.tup vs)) fun p=>Q (.key p.1 p.2) h1) X
 |.dctP,env,h,Q,X=>new h (.dtp []) Q
 |.lst es,env,h,Q,X=>xA Z es env h (fun vs h1=>new h1 (.lst vs) Q) X
 |.dct es,env,h,Q,X=>new h (.dct []) fun r h1=>go (asRef r) fun p=>xA Z es env h1 (fun vs h2=>go (pairUp vs) fun kvs=>h2 p=some (.dct [])/\Q (.ref p) (upd h2 p (.dct (putAll [] kvs)))) X
 |.ife c a b,env,h,Q,X=>xT Z c env h (fun k h1=>if k=true then xE Z a env h1 Q X else xE Z b env h1 Q X) X
 | .comp caps n p it c e,env,h,Q,X=>xI Z it env h (fun st xs h1=>xs.length<lim/\
     wComp st (fun v h2 K X2=>go (bind p h2 v (List.replicate n none++caps.map fun j=>(env[j]?).getD none)) fun env2 =>
       xT Z c env2 h2 (fun k h3=>if k=true then xE Z e env2 h3 (fun u h4=>K (some u) h4) X2 else K none h3) X2) xs [] h1 (fun ys h5=>new h5 (.lst ys) Q) fun _ _=>False) X
 |.fstr es,env,h,Q,X=>xJ Z es env h "" (fun s h1=>Q (.str s) h1) X
 |.split o a,env,h,Q,X=>xE Z o env h (fun v h1=>go (Xl v) fun s=>xE Z a env h1 (fun u h2=>go ((Xl u).bind oneC) fun c=>s.length+2<=lim/\new h2 (.lst ((MG c s).map .str)) Q) X) X
 |.repl o y z,env,h,Q,X=>xE Z o env h (fun v h1=>go (Xl v) fun s=>go (oneC y) fun c=>(s.length<=lim/\z.length<=8/\y≠z)/\Q (.str (C7 z (MG c s))) h1) X
def xA (Z:Fs):Es->Env->Hs->(List Val->Hs->Prop)->XQ->Prop
 |.nil,_,h,Q,_=>Q [] h
 |.cons e es,env,h,Q,X=>xE Z e env h (fun v h1=>xA Z es env h1 (fun vs h2=>Q (v::vs) h2) X) X
def xJ (Z:Fs):Es->Env->Hs->String->(String->Hs->Prop)->XQ->Prop
 |.nil,_,h,acc,Q,_=>Q acc h
 |.cons e es,env,h,acc,Q,X=>xE Z e env h (fun v h1=>go (fmtV v) fun s=>acc.length+s.length<=lim/\xJ Z es env h1 (acc++s) Q X) X
def xO (Z:Fs):Oe->Env->Hs->(Option Int->Hs->Prop)->XQ->Prop
 |.none,_,h,Q,_=>Q none h
 |.some e,env,h,Q,X=>xE Z e env h (fun v h1=>go (asInt v) fun i=>Q (some i) h1) X
def xT (Z:Fs):Tt->Env->Hs->(Bool->Hs->Prop)->XQ->Prop
 |.yes,_,h,Q,_=>Q true h
 |.val e,env,h,Q,X=>xE Z e env h (fun v h1=>go (Yv h1 v) fun k=>Q k h1) X
 |.not a,env,h,Q,X=>xT Z a env h (fun k h1=>Q (!k) h1) X
 |.and a b,env,h,Q,X=>xT Z a env h (fun k h1=>if k=true then xT Z b env h1 Q X else Q false h1) X
 |.or a b,env,h,Q,X=>xT Z a env h (fun k h1=>if k=true then Q true h1 else xT Z b env h1 Q X) X
def xI (Z:Fs):It->Env->Hs->((Hs->Prop)->List Val->Hs->Prop)->XQ->Prop
 |.seq e,env,h,Q,X=>xE Z e env h (fun v h1=>go (itV h1 v) fun p=>Q p.1 p.2 h1) X
 |.chars e,env,h,Q,X=>xE Z e env h (fun v h1=>go (Xl v) fun s=>Q (fun _=>True) (Hh s) h1) X
 |.range a,env,h,Q,X=>xE Z a env h (fun v h1=>go (asInt v) fun n=>(-(2 ^ 62)<=n/\n<2 ^ 62)/\Q (fun _=>True) (rangeV 0 n) h1) X
 | .range2 a b,env,h,Q,X=>xE Z a env h (fun v h1=>xE Z b env h1 (fun u h2=>go (asInt v) fun i=>go (asInt u) fun j =>
     (-(2 ^ 62)<=i/\i<2 ^ 62/\-(2 ^ 62)<=j/\j<2 ^ 62)/\Q (fun _=>True) (rangeV i j) h2) X) X
 |.enum e,env,h,Q,X=>xE Z e env h (fun v h1=>go (tupOf v) fun xs=>Q (fun _=>True) (enumL 0 xs) h1) X
 |.zip a b,env,h,Q,X=>xE Z a env h (fun v h1=>xE Z b env h1 (fun u h2=>go (Gp h2 v u) fun p=>Q p.1 p.2 h2) X) X
 |.items e,env,h,Q,X=>xE Z e env h (fun v h1=>go (asRef v) fun a=>go (dcOf (h1 a)) fun kvs=>Q (fun g=>g a=some (.frz kvs)) (kvs.map (JG true)) (upd h1 a (.frz kvs))) X
 |.rev e,env,h,Q,X=>xE Z e env h (fun v h1=>go (YJ h1 v) fun xs=>Q (fun g=>YJ g v=some xs) xs.reverse h1) X
end
@[irreducible] noncomputable def wE:Fs->E->Env->Hs->Q1->XQ->Prop:=xE
@[irreducible] noncomputable def wA:Fs->Es->Env->Hs->(List Val->Hs->Prop)->XQ->Prop:=xA
@[irreducible] noncomputable def wJ:Fs->Es->Env->Hs->String->(String->Hs->Prop)->XQ->Prop:=xJ
theorem JQ:wJ=xJ:=by unfold wJ;rfl
@[irreducible] noncomputable def wO:Fs->Oe->Env->Hs->(Option Int->Hs->Prop)->XQ->Prop:=xO
@[irreducible] noncomputable def wT:Fs->Tt->Env->Hs->(Bool->Hs->Prop)->XQ->Prop:=xT
@[irreducible] noncomputable def wI:Fs->It->Env->Hs->((Hs->Prop)->List Val->Hs->Prop)->XQ->Prop:=xI
theorem wE_eq:wE=xE:=by unfold wE;rfl
theorem Zb:wA=xA:=by unfold wA;rfl
theorem Zd:wO=xO:=by unfold wO;rfl
theorem Zc:wT=xT:=by unfold wT;rfl
theorem Za:wI=xI:=by unfold wI;rfl
noncomputable abbrev NQ:=Env->Hs->Prop
noncomputable abbrev EQ:=Env->String->Hs->Prop
def wFor (st:Hs->Prop) (W:Val->Env->Hs->NQ->NQ->Prop) (N:NQ):List Val->Env->Hs->Prop
 |[],env,h=>st h/\N env h
 |v::vs,env,h=>st h/\W v env h (fun e g=>wFor st W N vs e g) N
def MI (T:Env->Hs->(Bool->Hs->Prop)->Prop) (W:Env->Hs->NQ->NQ->Prop) (N:NQ):Nat->Env->Hs->Prop
 |0,_,_=>False
 |n+1,env,h=>T env h fun k h1=>if k=true then W env h1 (fun e g=>MI T W N n e g) N else N env h1
def wC (Z:Fs):E->Env->Hs->Q1->XQ->Prop
 |.call f as,env,h,Q,X=>wA Z as env h (fun vs h1=>Z f vs h1 Q X) fun _ _=>False
 |.meth C m o as,env,h,Q,X=>wE Z o env h (fun v h1=>clsV h1 v m=some C/\wA Z as env h1 (fun vs h2=>Z (C ++ "." ++ m) (v::vs) h2 Q X) fun _ _=>False) fun _ _=>False
 |_,_,_,_,_=>False
noncomputable def Uz (env:Env):Option Nat->Val->Env
 |none,_=>env
 |some j,v=>env.set j (some v)
mutual
def xS (Z:Fs):S->Env->Hs->NQ->Q1->NQ->NQ->EQ->Prop
 |.set p e,env,h,N,_,_,_,X=>wE Z e env h (fun v h1=>go (bind p h1 v env) fun env2=>N env2 h1) (X env)
 |.setIdx a i e,env,h,N,_,_,_,X=>wE Z e env h (fun v h1=>wE Z a env h1 (fun o h2=>wE Z i env h2 (fun k h3=>go (putV h3 o k v) fun g=>N env g) (X env)) (X env)) (X env)
 |.setFld o f e,env,h,N,_,_,_,X=>wE Z e env h (fun v h1=>wE Z o env h1 (fun u h2=>go (putFV h2 u f v) fun g=>N env g) (X env)) (X env)
 |.augVar i op e,env,h,N,_,_,_,X=>go (getV env i) fun x=>wE Z e env h (fun v h1=>go (KS op x v) fun y=>N (env.set i (some y)) h1) (X env)
 |.augFld o f op n,env,h,N,_,_,_,X=>wE Z o env h (fun u h1=>go (fldV h1 u f) fun x=>go (KS op x (.int n)) fun y=>go (putFV h1 u f y) fun g=>N env g) (X env)
 |.augIdx a i op n,env,h,N,_,_,_,X=>wE Z a env h (fun o h1=>wE Z i env h1 (fun k h2=>go (idxV h2 o k) fun x=>go (KS op x (.int n)) fun y=>go (putV h2 o k y) fun g=>N env g) (X env)) (X env)
 | .setPair a i b j e,env,h,N,_,_,_,X=>wE Z e env h (fun v h1=>go (G4 v) fun p=>wE Z a env h1 (fun o h2=>wE Z i env h2 (fun k h3=>go (putV h3 o k p.1) fun g =>
     wE Z b env g (fun o2 h4=>wE Z j env h4 (fun k2 h5=>go (putV h5 o2 k2 p.2) fun g2=>N env g2) (X env)) (X env)) (X env)) (X env)) (X env)
 |.expr e,env,h,N,_,_,_,X=>wE Z e env h (fun _ h1=>N env h1) (X env)
 |.ret e,env,h,_,R,_,_,X=>wE Z e env h R (X env)
 |.retN,_,h,_,R,_,_,_=>R .non h
 |.ite c a b,env,h,N,R,B,C,X=>wT Z c env h (fun k h1=>if k=true then xSs Z a env h1 N R B C X else xSs Z b env h1 N R B C X) (X env)
 |.whl c b,env,h,N,R,_,_,X=>∃ n,MI (fun e g K=>wT Z c e g K (X e)) (fun e g K M=>xSs Z b e g K R M K X) N n env h
 |.for p it b,env,h,N,R,_,_,X=>wI Z it env h (fun st xs h1=>wFor st (fun v e g K M=>go (bind p g v e) fun e2=>xSs Z b e2 g K R M K X) N xs env h1) (X env)
 | .forI k p e b,env,h,N,R,_,_,X=>wE Z e env h (fun v h1=>go (asRef v) fun a=>go (dcOf (h1 a)) fun kvs =>
     wFor (fun g=>g a=some (.frz kvs)) (fun v e g K M=>go (bind p g v e) fun e2=>xSs Z b e2 g K (fun u g2=>g2 a=some (.frz kvs)/\R u (upd g2 a (.dct kvs))) M K fun _ _ _=>False)
       (fun e g=>g a=some (.frz kvs)/\N e (upd g a (.dct kvs))) (kvs.map (JG k)) env (upd h1 a (.frz kvs))) (X env)
 |.never,_,_,_,_,_,_,_=>False
 |.brk,env,h,_,_,B,_,_=>B env h
 |.cnt,env,h,_,_,_,C,_=>C env h
 |.pass,env,h,N,_,_,_,_=>N env h
 |.raise C as,env,h,_,_,_,_,X=>wA Z as env h (fun _ h1=>X env C h1) (X env)
 |.try t e hs,env,h,N,R,B,C,X=>wC Z e env h (fun v h1=>N (Uz env t v) h1) fun c g=>xH Z hs c env g N R B C
def xSs (Z:Fs):Ss->Env->Hs->NQ->Q1->NQ->NQ->EQ->Prop
 |.nil,env,h,N,_,_,_,_=>N env h
 |.cons s ss,env,h,N,R,B,C,X=>xS Z s env h (fun e g=>xSs Z ss e g N R B C X) R B C X
def xH (Z:Fs):Hn->String->Env->Hs->NQ->Q1->NQ->NQ->Prop
 |.nil,_,_,_,_,_,_,_=>False
 |.cons K none b r,c,env,h,N,R,B,C=>if excSub c K=true then xSs Z b env h N R B C (fun _ _ _=>False)else xH Z r c env h N R B C
 |.cons K (some i) b r,c,env,h,N,R,B,C=>if excSub c K=true then(∀ p,h p=none->xSs Z b (env.set i (some (.ref p))) (upd h p (.exc c)) (fun e g=>N (e.set i none) g) R (fun e g=>B (e.set i none) g) (fun e g=>C (e.set i none) g) fun _ _ _=>False)
  else xH Z r c env h N R B C
end
@[irreducible] noncomputable def wS:Fs->S->Env->Hs->NQ->Q1->NQ->NQ->EQ->Prop:=xS
@[irreducible] noncomputable def wSs:Fs->Ss->Env->Hs->NQ->Q1->NQ->NQ->EQ->Prop:=xSs
@[irreducible] noncomputable def wH:Fs->Hn->String->Env->Hs->NQ->Q1->NQ->NQ->Prop:=xH
theorem Zr:wS=xS:=by unfold wS;rfl
theorem Zi:wSs=xSs:=by unfold wSs;rfl
theorem Zt:wH=xH:=by unfold wH;rfl
structure Fn where
 ar:Nat
 sz:Nat
 body:Ss
noncomputable abbrev Pg:=String->Option Fn
class In (P:Pg) (f:String) (d:outParam Fn):Prop where
 eq:P f=some d
noncomputable def Fn.env (d:Fn) (vs:List Val):Env:=vs.map some++List.replicate (d.sz - d.ar) none
noncomputable def wF0 (P:Pg):Nat->Fs
 |0=>fun _ _ _ _ _=>False
 |n+1=>fun f vs h Q X=>go (P f) fun d=>vs.length=d.ar/\wSs (wF0 P n) d.body (d.env vs) h (fun _ g=>Q .non g) Q (fun _ _=>False) (fun _ _=>False) fun _ c g=>X c g
@[irreducible] noncomputable def wF (P:Pg) (n:Nat):Fs:=wF0 P n
theorem wF_eq{P:Pg}{n:Nat}:wF P n=wF0 P n:=by unfold wF;rfl
theorem Zo{P:Pg}{n:Nat}{f:String}{d:Fn}{vs:List Val}{h:Hs}{Q:Q1}{X:XQ}(e:P f=some d)(hl:vs.length=d.ar)
  (q:wSs (wF P n) d.body (d.env vs) h (fun _ g=>Q .non g) Q (fun _ _=>False) (fun _ _=>False) fun _ c g=>X c g):wF P (n+1) f vs h Q X:=by
 rw[wF_eq]at q ⊢;exact go_of e ⟨hl,q⟩
section
variable {Z:Fs}{env:Env}{h:Hs}{Q:Q1}{X:XQ}{a b c e o:E}{as:Es}{v u:Val}
theorem e_cst(q:Q v h):wE Z (.cst v) env h Q X:=by simp only[wE_eq,Zb,Zd,Zc,Za]at q ⊢;exact q
theorem Lc{x:String}(q:Q v h):wE Z (.glob x v) env h Q X:=by simp only[wE_eq,Zb,Zd,Zc,Za]at q ⊢;exact q
theorem FV{i:Nat}(g:getV env i=some v)(q:Q v h):wE Z (.var i) env h Q X:=by rw[wE_eq];exact go_of g q
theorem e_bin{op:Bop}(q:wE Z a env h (fun v h1=>wE Z b env h1 (fun u h2=>(binV h2 op v u).wp h2 Q) X) X):wE Z (.bin op a b) env h Q X:=by simp only[wE_eq,Zb,Zd,Zc,Za]at q ⊢;exact q
theorem Lx(q:wE Z a env h (fun v h1=>go (asInt v) fun i=>Q (.int (-i)) h1) X):wE Z (.neg a) env h Q X:=by simp only[wE_eq,Zb,Zd,Zc,Za]at q ⊢;exact q
theorem e_not(q:wE Z a env h (fun v h1=>go (asBl v) fun b=>Q (.bl (!b)) h1) X):wE Z (.not a) env h Q X:=by simp only[wE_eq,Zb,Zd,Zc,Za]at q ⊢;exact q
theorem e_and(q:wE Z a env h (fun v h1=>go (asBl v) fun c=>if c=true then wE Z b env h1 Q X else Q (.bl false) h1) X):wE Z (.and a b) env h Q X:=by simp only[wE_eq,Zb,Zd,Zc,Za]at q ⊢;exact q
theorem LD(q:wE Z a env h (fun v h1=>go (asBl v) fun c=>if c=true then Q (.bl true) h1 else wE Z b env h1 Q X) X):wE Z (.or a b) env h Q X:=by simp only[wE_eq,Zb,Zd,Zc,Za]at q ⊢;exact q
theorem e_cmp{op:Cop}(q:wE Z a env h (fun v h1=>wE Z b env h1 (fun u h2=>go (cmpV h2 op v u) fun c=>Q (.bl c) h2) X) X):wE Z (.cmp op a b) env h Q X:=by simp only[wE_eq,Zb,Zd,Zc,Za]at q ⊢;exact q
theorem e_chain{o1 o2:Cop}(q:wE Z a env h (fun v h1=>wE Z b env h1 (fun u h2=>go (cmpV h2 o1 v u) fun k =>
      if k=true then wE Z c env h2 (fun w h3=>go (cmpV h3 o2 u w) fun k2=>Q (.bl k2) h3) X else Q (.bl false) h2) X) X):wE Z (.chain o1 o2 a b c) env h Q X:=by simp only[wE_eq,Zb,Zd,Zc,Za]at q ⊢;exact q
theorem e_call{f:String}(q:wA Z as env h (fun vs h1=>Z f vs h1 Q X) X):wE Z (.call f as) env h Q X:=by simp only[wE_eq,Zb,Zd,Zc,Za]at q ⊢;exact q
theorem e_make {C:String}(q:wA Z as env h (fun vs h1=>∀ p,h1 p=none->Z (C ++ ".__init__") (.ref p::vs) (upd h1 p (.ins C [])) (fun v h2=>v=.non/\Q (.ref p) h2) X) X):wE Z (.make C as) env h Q X:=by simp only[wE_eq,Zb,Zd,Zc,Za]at q ⊢;exact q
theorem e_meth {C m:String}(q:wE Z o env h (fun v h1=>clsV h1 v m=some C/\wA Z as env h1 (fun vs h2=>Z (C ++ "." ++ m) (v::vs) h2 Q X) X) X):wE Z (.meth C m o as) env h Q X:=by simp only[wE_eq,Zb,Zd,Zc,Za]at q ⊢;exact q
theorem e_fld{f:String}(q:wE Z o env h (fun v h1=>go (fldV h1 v f) fun u=>Q u h1) X):wE Z (.fld o f) env h Q X:=by simp only[wE_eq,Zb,Zd,Zc,Za]at q ⊢;exact q
theorem e_bi{f:Bi}(q:wA Z as env h (fun vs h1=>(biV h1 f vs).wp h1 Q) X):wE Z (.bi f as) env h Q X:=by simp only[wE_eq,Zb,Zd,Zc,Za]at q ⊢;exact q
theorem e_bm{m:Bm}(q:wE Z o env h (fun v h1=>bmTy h1 m v=true/\wA Z as env h1 (fun vs h2=>go (bmV h2 m v vs) fun r=>Q r.1 r.2) X) X):wE Z (.bm m o as) env h Q X:=by simp only[wE_eq,Zb,Zd,Zc,Za]at q ⊢;exact q
theorem e_idx{i:E}(q:wE Z a env h (fun v h1=>wE Z i env h1 (fun k h2=>go (idxV h2 v k) fun u=>Q u h2) X) X):wE Z (.idx a i) env h Q X:=by simp only[wE_eq,Zb,Zd,Zc,Za]at q ⊢;exact q
theorem e_slc{lo hi:Oe}(q:wE Z a env h (fun v h1=>wO Z lo env h1 (fun l h2=>wO Z hi env h2 (fun u h3=>(slcV h3 v l u).wp h3 Q) X) X) X):wE Z (.slc a lo hi) env h Q X:=by simp only[wE_eq,Zb,Zd,Zc,Za]at q ⊢;exact q
theorem Lu{es:Es}(q:wA Z es env h (fun vs h1=>go (NG (.tup vs)) fun p=>Q (.key p.1 p.2) h1) X):wE Z (.key es) env h Q X:=by simp only[wE_eq,Zb,Zd,Zc,Za]at q ⊢;exact q
theorem HV(q:new h (.dtp []) Q):wE Z .dctP env h Q X:=by simp only[wE_eq,Zb,Zd,Zc,Za]at q ⊢;exact q
theorem e_tup{es:Es}(q:wA Z es env h (fun vs h1=>Q (.tup vs) h1) X):wE Z (.tup es) env h Q X:=by simp only[wE_eq,Zb,Zd,Zc,Za]at q ⊢;exact q
theorem e_lst{es:Es}(q:wA Z es env h (fun vs h1=>new h1 (.lst vs) Q) X):wE Z (.lst es) env h Q X:=by simp only[wE_eq,Zb,Zd,Zc,Za]at q ⊢;exact q
theorem e_dct{es:Es}(q:new h (.dct []) fun r h1=>go (asRef r) fun p=>wA Z es env h1 (fun vs h2=>go (pairUp vs) fun kvs=>h2 p=some (.dct [])/\Q (.ref p) (upd h2 p (.dct (putAll [] kvs)))) X):wE Z (.dct es) env h Q X:=by simp only[wE_eq,Zb,Zd,Zc,Za]at q ⊢;exact q
theorem e_ife{t:Tt}(q:wT Z t env h (fun k h1=>if k=true then wE Z a env h1 Q X else wE Z b env h1 Q X) X):wE Z (.ife t a b) env h Q X:=by simp only[wE_eq,Zb,Zd,Zc,Za]at q ⊢;exact q
theorem e_comp{caps:List Nat}{n:Nat}{p:Pt}{it:It}{t:Tt}(q:wI Z it env h (fun st xs h1=>xs.length<lim/\
      wComp st (fun v h2 K X2=>go (bind p h2 v (List.replicate n none++caps.map fun j=>(env[j]?).getD none)) fun env2 =>
        wT Z t env2 h2 (fun k h3=>if k=true then wE Z e env2 h3 (fun u h4=>K (some u) h4) X2 else K none h3) X2) xs [] h1 (fun ys h5=>new h5 (.lst ys) Q) fun _ _=>False) X):wE Z (.comp caps n p it t e) env h Q X:=by simp only[wE_eq,Zb,Zd,Zc,Za]at q ⊢;exact q
theorem Ie {es:Es}(q:wJ Z es env h "" (fun s h1=>Q (.str s) h1) X):wE Z (.fstr es) env h Q X:=by simp only[wE_eq,JQ]at q ⊢;exact q
theorem Lw{acc:String}{QJ:String->Hs->Prop}(q:QJ acc h):wJ Z .nil env h acc QJ X:=by rw[JQ];exact q
theorem IE{es:Es}{acc:String}{QJ:String->Hs->Prop}(q:wE Z e env h (fun v h1=>go (fmtV v) fun s=>acc.length+s.length<=lim/\wJ Z es env h1 (acc++s) QJ X) X):wJ Z (.cons e es) env h acc QJ X:=by simp only[wE_eq,JQ]at q ⊢;exact q
theorem HL(q:wE Z o env h (fun v h1=>go (Xl v) fun s=>wE Z a env h1 (fun u h2=>go ((Xl u).bind oneC) fun c=>s.length+2<=lim/\new h2 (.lst ((MG c s).map .str)) Q) X) X):wE Z (.split o a) env h Q X:=by simp only[wE_eq,Zb,Zd,Zc,Za]at q ⊢;exact q
variable {QA:List Val->Hs->Prop}{QO:Option Int->Hs->Prop}{QT:Bool->Hs->Prop}{QI:(Hs->Prop)->List Val->Hs->Prop}
theorem a_nil(q:QA [] h):wA Z .nil env h QA X:=by simp only[wE_eq,Zb,Zd,Zc,Za]at q ⊢;exact q
theorem a_cons{es:Es}(q:wE Z e env h (fun v h1=>wA Z es env h1 (fun vs h2=>QA (v::vs) h2) X) X):wA Z (.cons e es) env h QA X:=by simp only[wE_eq,Zb,Zd,Zc,Za]at q ⊢;exact q
theorem o_none(q:QO none h):wO Z .none env h QO X:=by simp only[wE_eq,Zb,Zd,Zc,Za]at q ⊢;exact q
theorem o_some(q:wE Z e env h (fun v h1=>go (asInt v) fun i=>QO (some i) h1) X):wO Z (.some e) env h QO X:=by simp only[wE_eq,Zb,Zd,Zc,Za]at q ⊢;exact q
theorem t_yes(q:QT true h):wT Z .yes env h QT X:=by simp only[wE_eq,Zb,Zd,Zc,Za]at q ⊢;exact q
theorem t_val(q:wE Z e env h (fun v h1=>go (Yv h1 v) fun k=>QT k h1) X):wT Z (.val e) env h QT X:=by simp only[wE_eq,Zb,Zd,Zc,Za]at q ⊢;exact q
theorem t_not{t:Tt}(q:wT Z t env h (fun k h1=>QT (!k) h1) X):wT Z (.not t) env h QT X:=by simp only[wE_eq,Zb,Zd,Zc,Za]at q ⊢;exact q
theorem t_and{s t:Tt}(q:wT Z s env h (fun k h1=>if k=true then wT Z t env h1 QT X else QT false h1) X):wT Z (.and s t) env h QT X:=by simp only[wE_eq,Zb,Zd,Zc,Za]at q ⊢;exact q
theorem t_or{s t:Tt}(q:wT Z s env h (fun k h1=>if k=true then QT true h1 else wT Z t env h1 QT X) X):wT Z (.or s t) env h QT X:=by simp only[wE_eq,Zb,Zd,Zc,Za]at q ⊢;exact q
theorem i_seq(q:wE Z e env h (fun v h1=>go (itV h1 v) fun p=>QI p.1 p.2 h1) X):wI Z (.seq e) env h QI X:=by simp only[wE_eq,Zb,Zd,Zc,Za]at q ⊢;exact q
theorem HP(q:wE Z e env h (fun v h1=>go (Xl v) fun s=>QI (fun _=>True) (Hh s) h1) X):wI Z (.chars e) env h QI X:=by simp only[wE_eq,Zb,Zd,Zc,Za]at q ⊢;exact q
theorem i_range(q:wE Z a env h (fun v h1=>go (asInt v) fun n=>(-(2 ^ 62)<=n/\n<2 ^ 62)/\QI (fun _=>True) (rangeV 0 n) h1) X):wI Z (.range a) env h QI X:=by simp only[wE_eq,Zb,Zd,Zc,Za]at q ⊢;exact q
theorem FO (q:wE Z a env h (fun v h1=>wE Z b env h1 (fun u h2=>go (asInt v) fun i=>go (asInt u) fun j =>
      (-(2 ^ 62)<=i/\i<2 ^ 62/\-(2 ^ 62)<=j/\j<2 ^ 62)/\QI (fun _=>True) (rangeV i j) h2) X) X):wI Z (.range2 a b) env h QI X:=by simp only[wE_eq,Zb,Zd,Zc,Za]at q ⊢;exact q
theorem i_enum(q:wE Z e env h (fun v h1=>go (tupOf v) fun xs=>QI (fun _=>True) (enumL 0 xs) h1) X):wI Z (.enum e) env h QI X:=by simp only[wE_eq,Zb,Zd,Zc,Za]at q ⊢;exact q
theorem Lq(q:wE Z a env h (fun v h1=>wE Z b env h1 (fun u h2=>go (Gp h2 v u) fun p=>QI p.1 p.2 h2) X) X):wI Z (.zip a b) env h QI X:=by simp only[wE_eq,Zb,Zd,Zc,Za]at q ⊢;exact q
theorem HK(q:wE Z e env h (fun v h1=>go (asRef v) fun a=>go (dcOf (h1 a)) fun kvs=>QI (fun g=>g a=some (.frz kvs)) (kvs.map (JG true)) (upd h1 a (.frz kvs))) X):wI Z (.items e) env h QI X:=by simp only[wE_eq,Zb,Zd,Zc,Za]at q ⊢;exact q
theorem Lr(q:wE Z e env h (fun v h1=>go (YJ h1 v) fun xs=>QI (fun g=>YJ g v=some xs) xs.reverse h1) X):wI Z (.rev e) env h QI X:=by simp only[wE_eq,Zb,Zd,Zc,Za]at q ⊢;exact q
end
section
variable {Z:Fs}{env:Env}{h:Hs}{N B C:NQ}{R:Q1}{X:EQ}{a b c e o i:E}{as:Es}{v u:Val}{t:Tt}{s1 s2:Ss}{s:S}{p:Pt}{it:It}{hs:Hn}
theorem s_set(q:wE Z e env h (fun v h1=>go (bind p h1 v env) fun env2=>N env2 h1) (X env)):wS Z (.set p e) env h N R B C X:=by simp only[Zr,Zi,Zt]at q ⊢;exact q
theorem s_setIdx(q:wE Z e env h (fun v h1=>wE Z a env h1 (fun o h2=>wE Z i env h2 (fun k h3=>go (putV h3 o k v) fun g=>N env g) (X env)) (X env)) (X env)):wS Z (.setIdx a i e) env h N R B C X:=by simp only[Zr,Zi,Zt]at q ⊢;exact q
theorem s_setFld{f:String}(q:wE Z e env h (fun v h1=>wE Z o env h1 (fun u h2=>go (putFV h2 u f v) fun g=>N env g) (X env)) (X env)):wS Z (.setFld o f e) env h N R B C X:=by simp only[Zr,Zi,Zt]at q ⊢;exact q
theorem GD{k:Nat}{op:Bop}(q:go (getV env k) fun x=>wE Z e env h (fun v h1=>go (KS op x v) fun y=>N (env.set k (some y)) h1) (X env)):wS Z (.augVar k op e) env h N R B C X:=by simp only[Zr,Zi,Zt]at q ⊢;exact q
theorem FS{f:String}{op:Bop}{n:Int}(q:wE Z o env h (fun u h1=>go (fldV h1 u f) fun x=>go (KS op x (.int n)) fun y=>go (putFV h1 u f y) fun g=>N env g) (X env)):wS Z (.augFld o f op n) env h N R B C X:=by simp only[Zr,Zi,Zt]at q ⊢;exact q
theorem Hm{i:E}{op:Bop}{n:Int}(q:wE Z a env h (fun o h1=>wE Z i env h1 (fun k h2=>go (idxV h2 o k) fun x=>go (KS op x (.int n)) fun y=>go (putV h2 o k y) fun g=>N env g) (X env)) (X env)):wS Z (.augIdx a i op n) env h N R B C X:=by simp only[Zr,Zi,Zt]at q ⊢;exact q
theorem s_expr(q:wE Z e env h (fun _ h1=>N env h1) (X env)):wS Z (.expr e) env h N R B C X:=by simp only[Zr,Zi,Zt]at q ⊢;exact q
theorem s_ret(q:wE Z e env h R (X env)):wS Z (.ret e) env h N R B C X:=by simp only[Zr,Zi,Zt]at q ⊢;exact q
theorem Ik(q:R .non h):wS Z .retN env h N R B C X:=by simp only[Zr,Zi,Zt]at q ⊢;exact q
theorem s_ite(q:wT Z t env h (fun k h1=>if k=true then wSs Z s1 env h1 N R B C X else wSs Z s2 env h1 N R B C X) (X env)):wS Z (.ite t s1 s2) env h N R B C X:=by simp only[Zr,Zi,Zt]at q ⊢;exact q
theorem Lz(q:∃ n,MI (fun e g K=>wT Z t e g K (X e)) (fun e g K M=>wSs Z s1 e g K R M K X) N n env h):wS Z (.whl t s1) env h N R B C X:=by simp only[Zr,Zi,Zt]at q ⊢;exact q
theorem s_for(q:wI Z it env h (fun st xs h1=>wFor st (fun v e g K M=>go (bind p g v e) fun e2=>wSs Z s1 e2 g K R M K X) N xs env h1) (X env)):wS Z (.for p it s1) env h N R B C X:=by simp only[Zr,Zi,Zt]at q ⊢;exact q
theorem HR{k:Bool}(q:wE Z e env h (fun v h1=>go (asRef v) fun a=>go (dcOf (h1 a)) fun kvs =>
      wFor (fun g=>g a=some (.frz kvs)) (fun v e g K M=>go (bind p g v e) fun e2=>wSs Z s1 e2 g K (fun u g2=>g2 a=some (.frz kvs)/\R u (upd g2 a (.dct kvs))) M K fun _ _ _=>False)
        (fun e g=>g a=some (.frz kvs)/\N e (upd g a (.dct kvs))) (kvs.map (JG k)) env (upd h1 a (.frz kvs))) (X env)):wS Z (.forI k p e s1) env h N R B C X:=by simp only[Zr,Zi,Zt]at q ⊢;exact q
theorem Lv(q:B env h):wS Z .brk env h N R B C X:=by simp only[Zr,Zi,Zt]at q ⊢;exact q
theorem LC(q:C env h):wS Z .cnt env h N R B C X:=by simp only[Zr,Zi,Zt]at q ⊢;exact q
theorem IF(q:N env h):wS Z .pass env h N R B C X:=by simp only[Zr,Zi,Zt]at q ⊢;exact q
theorem HM{D:String}(q:wA Z as env h (fun _ h1=>X env D h1) (X env)):wS Z (.raise D as) env h N R B C X:=by simp only[Zr,Zi,Zt]at q ⊢;exact q
theorem LB{t:Option Nat}(q:wC Z e env h (fun v h1=>N (Uz env t v) h1) fun c g=>wH Z hs c env g N R B C):wS Z (.try t e hs) env h N R B C X:=by simp only[Zr,Zi,Zt]at q ⊢;exact q
theorem ss_nil(q:N env h):wSs Z .nil env h N R B C X:=by simp only[Zr,Zi,Zt]at q ⊢;exact q
theorem ss_cons{ss:Ss}(q:wS Z s env h (fun e g=>wSs Z ss e g N R B C X) R B C X):wSs Z (.cons s ss) env h N R B C X:=by simp only[Zr,Zi,Zt]at q ⊢;exact q
end
section
variable {h:Hs}{Q:Q1}{i j k:Int}{a b:Ad}{xs ys:List Val}{v u:Val}{K:Val->Prop}{KB:Bool->Prop}
theorem wp_val{r:Rs}(e:r=.val v)(q:Q v h):r.wp h Q:=by rw[e,Rs.wp_val];exact q
theorem wp_new{r:Rs}{o:Ob}(e:r=.new o)(q:new h o Q):r.wp h Q:=by rw[e,Rs.wp_new];exact q
theorem b_add(q:Q (.int (i+j)) h):(binV h .add (.int i) (.int j)).wp h Q:=wp_val rfl q
theorem b_sub(q:Q (.int (i - j)) h):(binV h .sub (.int i) (.int j)).wp h Q:=wp_val rfl q
theorem b_mul(m:mulOk i j)(q:Q (.int (i*j)) h):(binV h .mul (.int i) (.int j)).wp h Q:=wp_val (if_pos m) q
theorem b_fdiv(m:0<j/\j<1073741824)(q:Q (.int (i / j)) h):(binV h .fdiv (.int i) (.int j)).wp h Q:=wp_val (if_pos m) q
theorem b_mod(m:0<j)(q:Q (.int (i % j)) h):(binV h .mod (.int i) (.int j)).wp h Q:=wp_val (if_pos m) q
theorem b_pow(m:0<=j/\j<=1000000/\i.natAbs<2 ^ 64)(q:Q (.int (i ^ j.toNat)) h):(binV h .pow (.int i) (.int j)).wp h Q:=wp_val (if_pos m) q
theorem Fq{z:Int}(m:0<=j/\j<=1000000/\i.natAbs<2 ^ 64)(e:i ^ j.toNat=z)(q:Q (.int z) h):(binV h .pow (.int i) (.int j)).wp h Q:=b_pow m (by rw[e];exact q)
theorem HY(m:xs.length+ys.length<=lim)(q:Q (.tup (xs++ys)) h):(binV h .add (.tup xs) (.tup ys)).wp h Q:=wp_val (if_pos m) q
theorem K4(e1:h a=some (.lst xs))(e2:h b=some (.lst ys))(m:(xs++ys).length<=lim)(q:new h (.lst (xs++ys)) Q):(binV h .add (.ref a) (.ref b)).wp h Q:=by refine wp_new ?_ q;show(match h a,h b with|some (.lst xs),some (.lst ys)=>Rs.lst (xs++ys)|_,_=>.no:Rs)=_;simp only[e1,e2,Rs.lst];rw[if_pos m]
theorem lsE(e1:h a=some (.lst xs)):lsOf (h a)=some xs:=by rw[e1];rfl
theorem dcE{kvs:List (Val×Val)}(e1:h a=some (.dct kvs)):dcOf (h a)=some kvs:=by rw[e1];rfl
theorem g_int{K:Int->Prop}(q:K i):go (asInt (.int i)) K:=go_of rfl q
theorem g_bl{b:Bool}(q:KB b):go (asBl (.bl b)) KB:=go_of rfl q
theorem g_ref{K:Ad->Prop}(q:K a):go (asRef (.ref a)) K:=go_of rfl q
theorem g_tbl{b:Bool}(q:KB b):go (Yv h (.bl b)) KB:=go_of rfl q
theorem Iv(q:KB (decide (i≠0))):go (Yv h (.int i)) KB:=go_of rfl q
theorem Iz(e:h a=some (.lst xs))(q:KB (!xs.isEmpty)):go (Yv h (.ref a)) KB:=go_of (by unfold Yv;simp only[e]) q
theorem ix_tup(e:atI xs i=some v)(q:K v):go (idxV h (.tup xs) (.int i)) K:=go_of e q
theorem Ze(e1:h a=some (.lst xs))(e:atI xs i=some v)(q:K v):go (idxV h (.ref a) (.int i)) K:=go_of (by unfold idxV;simp only[e1];exact e) q
theorem Ml{kvs:List (Val×Val)}{k:Val}(e1:h a=some (.dct kvs))(hk:isKey k=true)(e:lookK kvs k=some v)(q:K v):go (idxV h (.ref a) k) K:=go_of (by unfold idxV;simp only[e1];rw[if_pos hk];exact e) q
theorem Er{ns:List Int}(e:atI (ns.map Val.int) i=some v)(q:K v):go (idxV h (.scr ns) (.int i)) K:=go_of e q
theorem c_lt(q:KB (decide (i<j))):go (cmpV h .lt (.int i) (.int j)) KB:=go_of rfl q
theorem c_gt(q:KB (decide (j<i))):go (cmpV h .gt (.int i) (.int j)) KB:=go_of rfl q
theorem c_le(q:KB (decide (i<=j))):go (cmpV h .le (.int i) (.int j)) KB:=go_of rfl q
theorem c_ge(q:KB (decide (j<=i))):go (cmpV h .ge (.int i) (.int j)) KB:=go_of rfl q
theorem M7:D.eqv (.int i) (.int j)=decide (i=j):=by rw[D.eqv];by_cases e:i=j<;>simp[e]
theorem CM{s t:String}:D.eqv (.str s) (.str t)=decide (s=t):=by rw[D.eqv];by_cases e:s=t<;>simp[e]
theorem c_eqI(q:KB (decide (i=j))):go (cmpV h .eq (.int i) (.int j)) KB:=go_of (by show some (D.eqv (.int i) (.int j))=_;rw[M7]) q
theorem c_neI(q:KB (!decide (i=j))):go (cmpV h .ne (.int i) (.int j)) KB:=go_of (by show some (!D.eqv (.int i) (.int j))=_;rw[M7]) q
theorem c_eqS{s t:String}(q:KB (decide (s=t))):go (cmpV h .eq (.str s) (.str t)) KB:=go_of (by show some (D.eqv (.str s) (.str t))=_;rw[CM]) q
theorem Lo{s t:String}(q:KB (!decide (s=t))):go (cmpV h .ne (.str s) (.str t)) KB:=go_of (by show some (!D.eqv (.str s) (.str t))=_;rw[CM]) q
theorem Ls{c d:Bool}(q:KB (c==d)):go (cmpV h .eq (.bl c) (.bl d)) KB:=go_of (by show some (D.eqv (.bl c) (.bl d))=_;rw[D.eqv]) q
theorem c_isN(q:KB (decide (v=.non))):go (cmpV h .is v .non) KB:=go_of (by unfold cmpV;rfl) q
theorem c_notN(q:KB (!decide (v=.non))):go (cmpV h .isnot v .non) KB:=go_of (by unfold cmpV;rfl) q
theorem c_neX{v u:Val}{c:Bool}(n:sam0 h v u=false)(e:eqV h v u=some c)(q:KB (!c)):go (cmpV h .neX v u) KB:=go_of (by show(if sam0 h v u=true then some false else(eqV h v u).map (!·))=_;rw[n,e];rfl) q
theorem c_nes(e1:h a=some (.lst xs))(e2:h b=some (.lst ys))(e:samL (sam h 8) xs ys=true)(q:KB false):go (cmpV h .nes (.ref a) (.ref b)) KB:=go_of (by show(lsOf (h a)).bind _=_;rw[e1,Kl];show(lsOf (h b)).bind _=_;rw[e2,Kl];show(if _ then _ else _)=_;rw[if_pos e]) q
theorem D0{n:Nat}{env env':Env}{K:Env->Prop}(e:env.set n (some v)=env')(q:K env'):go (bind (.one n) h v env) K:=by subst e;exact go_of rfl q
theorem Dw{is:List Nat}{env env':Env}{K:Env->Prop}(e:bindL is xs env=some env')(q:K env'):go (bind (.many is) h (.tup xs) env) K:=go_of e q
theorem HZ{n:Nat}{K:Hs->Prop}(e1:h a=some (.lst xs))(e:ixN xs.length i=some n)(q:K (upd h a (.lst (xs.set n v)))):go (putV h (.ref a) (.int i) v) K:=go_of (by unfold putV;simp only[e1,asInt,Option.bind_some,e,Option.map_some]) q
theorem K6{K:Hs->Prop}{kvs:List (Val×Val)}{k:Val}(e1:h a=some (.dct kvs))(m:isKey k=true/\kvs.length<lim)(q:K (upd h a (.dct (putK kvs k v)))):go (putV h (.ref a) k v) K:=go_of (by unfold putV;simp only[e1];rw[if_pos m]) q
theorem UZ{kvs:List (Val×Val)}(e1:h a=some (.dct kvs))(hk:isKey v=true)(q:KB (!hasK kvs v)):go (cmpV h .notin v (.ref a)) KB:=go_of (by show(inV h v (.ref a)).map _=_;unfold inV;simp only[e1];rw[if_pos hk];rfl) q
theorem Z4{C f:String}{fs:List (String×Val)}{K:Hs->Prop}(e1:h a=some (.ins C fs))(m:fs.length<900)(q:K (upd h a (.ins C (putF fs f v)))):go (putFV h (.ref a) f v) K:=go_of (by unfold putFV;simp only[e1];rw[if_pos m]) q
theorem DY{C f:String}{fs:List (String×Val)}(e1:h a=some (.ins C fs))(e:fs.lookup f=some v)(q:K v):go (fldV h (.ref a) f) K:=go_of (by unfold fldV asRef;simp only[e1,insOf,Option.bind_some];exact e) q
theorem DJ{C m:String}{fs:List (String×Val)}{P:Prop}(e1:h a=some (.ins C fs))(e:fs.lookup m=none)(q:P):clsV h (.ref a) m=some C/\P:=⟨by unfold clsV asRef;simp only[e1,insOf,Option.bind_some,e,Option.isNone_none,if_true],q⟩
theorem Ir(q:K (.int (i+j))):go (KS .add (.int i) (.int j)) K:=go_of rfl q
theorem ln_lst(e1:h a=some (.lst xs))(q:Q (.int xs.length) h):(biV h .len [.ref a]).wp h Q:=wp_val (by show lenV h (.ref a)=_;unfold lenV;dsimp only;rw[e1]) q
theorem ln_scr{ns:List Int}(q:Q (.int ns.length) h):(biV h .len [.scr ns]).wp h Q:=wp_val rfl q
theorem ln_tup(q:Q (.int xs.length) h):(biV h .len [.tup xs]).wp h Q:=wp_val rfl q
theorem II{s:String}(q:Q (.str s) h):(biV h .str [.str s]).wp h Q:=wp_val rfl q
theorem in_str{s:String}(m:s.length<=640/\s.toList≠[]/\s.toList.all figB=true)(q:Q (.int (decN s.toList)) h):(biV h .int [.str s]).wp h Q:=wp_val (if_pos m) q
theorem Ll(q:Q (.int (if i<0 then -i else i)) h):(biV h .abs [.int i]).wp h Q:=wp_val rfl q
theorem Lp{K:String->Prop}{s:String}(q:K s):go (Xl (.str s)) K:=go_of rfl q
theorem IJ{m:Bm}{P:Prop}{s:String}(hm:m=.join)(q:P):bmTy h m (.str s)=true/\P:=⟨by subst hm;rfl,q⟩
theorem Ic(q:Q (.int i) h):(biV h .int [.int i]).wp h Q:=wp_val rfl q
theorem LA{c:Bool}(q:Q (.int (if c then 1 else 0)) h):(biV h .int [.bl c]).wp h Q:=wp_val rfl q
theorem mn2(q:Q (.int (if j<i then j else i)) h):(biV h .min2 [.int i,.int j]).wp h Q:=wp_val rfl q
theorem mx2(q:Q (.int (if j > i then j else i)) h):(biV h .max2 [.int i,.int j]).wp h Q:=wp_val rfl q
theorem tp_lst(e1:h a=some (.lst xs))(q:Q (.tup xs) h):(biV h .tuple [.ref a]).wp h Q:=wp_val (by show Jh h (.ref a)=_;unfold Jh;dsimp only;rw[e1]) q
theorem Iu(q:Q (.tup xs) h):(biV h .tuple [.tup xs]).wp h Q:=wp_val rfl q
theorem U2{Ts:List String}{c:Bool}(e:isiAny h v Ts=some c)(q:Q (.bl c) h):(biV h (.isi Ts) [v]).wp h Q:=wp_val (by show Rs.ofO ((isiAny h v Ts).map .bl)=_;rw[e];rfl) q
theorem ls_lst(e1:h a=some (.lst xs))(q:new h (.lst xs) Q):(biV h .list [.ref a]).wp h Q:=wp_new (by show toList h (.ref a)=_;unfold toList;dsimp only;rw[e1]) q
theorem ls_tup(q:new h (.lst xs) Q):(biV h .list [.tup xs]).wp h Q:=wp_new rfl q
theorem sl_tup{lo hi:Option Int}(n:¬ (cutAt xs.length 0 lo=0/\cutAt xs.length xs.length hi=xs.length))(q:Q (.tup (cut xs lo hi)) h):(slcV h (.tup xs) lo hi).wp h Q:=wp_val (by unfold slcV;simp only;rw[if_neg n]) q
theorem E3{m:Bm}{P:Prop}(hm:m.ty=.l\/m.ty=.t)(e:h a=some (.lst xs))(q:P):bmTy h m (.ref a)=true/\P:=⟨by unfold bmTy;rcases hm with hm|hm<;>rw[hm]<;>simp[X0,e,isLst],q⟩
theorem FI{m:Bm}{P:Prop}{kvs:List (Val×Val)}(hm:m.ty=.d)(e:h a=some (.dct kvs))(q:P):bmTy h m (.ref a)=true/\P:=⟨by unfold bmTy;rw[hm];simp[X0,e,isDct],q⟩
noncomputable def D1:Bi->Bool
 |.sorted=>true
 |.sortedI=>true
 |_=>false
theorem Ux{f:Bi}{v:Val}{ns:List Int}(hf:D1 f=true)(e:sortAny h v=some ns)(m:ns.length<64)(q:new h (.lst ((sortI ns).map Val.int)) Q):(biV h f [v]).wp h Q:=by
 cases f with
 |sorted=>exact wp_new (by show XN h v=_;unfold XN;simp only[e];exact if_pos m) q
 |sortedI=>exact wp_new (by show biSortedI h v=_;unfold biSortedI;simp only[e];exact if_pos m) q
 |_=>cases hf
theorem ED{f:Bi}{ns:List Int}(e1:h a=some (.lst (ns.map Val.int)))(e2:intsOf (ns.map Val.int)=some ns)(m:ns.length<64)(q:new h (.lst ((sortI ns).map Val.int)) Q)(hf:D1 f=true:=by rfl):(biV h f [.ref a]).wp h Q:=Ux hf (by unfold sortAny;simp only[e1,e2]) m q
theorem Mb{f:Bi}{kvs:List (Val×Val)}{ns:List Int}(e1:h a=some (.dct kvs))(e2:keysOf kvs=some ns)(m:ns.length<64)(q:new h (.lst ((sortI ns).map Val.int)) Q)(hf:D1 f=true:=by rfl):(biV h f [.ref a]).wp h Q:=Ux hf (by unfold sortAny;simp only[e1,e2]) m q
theorem sl_str{s:String}{lo hi:Option Int}(n:s.length<=lim)(q:Q (.str (String.ofList (cut s.toList lo hi))) h):(slcV h (.str s) lo hi).wp h Q:=wp_val (by unfold slcV;simp only;rw[if_pos n]) q
theorem sl_lst{lo hi:Option Int}(e1:h a=some (.lst xs))(q:new h (.lst (cut xs lo hi)) Q):(slcV h (.ref a) lo hi).wp h Q:=wp_new (by unfold slcV;simp only[e1,lsOf]) q
theorem sl_scr{ns:List Int}{lo hi:Option Int}(q:new h (.lst (cut (ns.map Val.int) lo hi)) Q):(slcV h (.scr ns) lo hi).wp h Q:=wp_new rfl q
theorem Wl{K:Val×Hs->Prop}(e1:h a=some (.lst xs))(m:xs.length<lim)(q:K (.non,upd h a (.lst (xs++[v])))):go (bmV h .append (.ref a) [v]) K:=go_of (by show(lsOf (h a)).bind _=_;rw[lsE e1];exact if_pos m) q
theorem UL{K:Val×Hs->Prop}{kvs:List (Val×Val)}(e1:h a=some (.dct kvs))(hk:isKey v=true)(q:K ((lookK kvs v).getD .non,h)):go (bmV h .dget (.ref a) [v]) K:=go_of (by show(dcOf (h a)).bind _=_;rw[dcE e1];exact if_pos hk) q
theorem it_lst{K:(Hs->Prop)×List Val->Prop}(e1:h a=some (.lst xs))(q:K (fun g=>lsOf (g a)=some xs,xs)):go (itV h (.ref a)) K:=go_of (by unfold itV;simp only[e1,lsOf,Option.map_some]) q
theorem it_scr{ns:List Int}{K:(Hs->Prop)×List Val->Prop}(q:K (fun _=>True,ns.map Val.int)):go (itV h (.scr ns)) K:=go_of rfl q
theorem it_tup{K:(Hs->Prop)×List Val->Prop}(q:K (fun _=>True,xs)):go (itV h (.tup xs)) K:=go_of rfl q
theorem Ii{K:List Val->Prop}(q:K xs):go (YJ h (.tup xs)) K:=go_of rfl q
theorem Ig{K:List Val->Prop}(e1:h a=some (.lst xs))(q:K xs):go (YJ h (.ref a)) K:=go_of (by unfold YJ;simp only[e1,lsOf]) q
theorem ifT{c:Bool}{A B:Prop}(e:c=true)(q:A):if c=true then A else B:=by rw[if_pos e];exact q
theorem ifF{c:Bool}{A B:Prop}(e:c=false)(q:B):if c=true then A else B:=by rw[if_neg (by rw[e];decide)];exact q
theorem ifD{c:Bool}{A B:Prop}(q:c=true->A)(r:c=false->B):if c=true then A else B:=by cases c;exact r rfl;exact q rfl
theorem ifP{p:Prop}[Decidable p]{A B:Prop}(q:p->A)(r:¬p->B):if decide p=true then A else B:=by
 by_cases e:p
 .rw[if_pos (qQ e)];exact q e
 .rw[if_neg (by simpa using e)];exact r e
end
structure Ext (h g:Hs):Prop where
 get:∀ {a:Ad}{o:Ob},h a=some o->g a=some o
theorem Ext.refl{h:Hs}:Ext h h:=⟨fun e=>e⟩
theorem Ext.trans{h g k:Hs}(e:Ext h g)(f:Ext g k):Ext h k:=⟨fun x=>f.get (e.get x)⟩
theorem Ext.new{h:Hs}{p:Ad}{o:Ob}(e:h p=none):Ext h (upd h p o):=⟨fun {a u} x=>by
  rw[upd_ne (by intro z;rw[z,e]at x;cases x)];exact x⟩
structure ExtB (w:Ad) (h g:Hs):Prop where
 get:∀ {a:Ad}{o:Ob},a≠w->h a=some o->g a=some o
theorem ExtB.refl{h:Hs}{w:Ad}:ExtB w h h:=⟨fun _ e=>e⟩
theorem ExtB.trans{h g k:Hs}{w:Ad}(e:ExtB w h g)(f:ExtB w g k):ExtB w h k:=⟨fun n x=>f.get n (e.get n x)⟩
theorem ExtB.upd{h:Hs}{w:Ad}{o:Ob}:ExtB w h (upd h w o):=⟨fun n x=>by rw[upd_ne n];exact x⟩
theorem ExtB.of{h g:Hs}{w:Ad}(e:Ext h g):ExtB w h g:=⟨fun _ x=>e.get x⟩
theorem Zj{h:Hs}{a p:Ad}{o:Ob}(x:h a=some o)(n:h p=none):a≠p:=by intro z;rw[z,n]at x;cases x
theorem ne_none'{h:Hs}{a p:Ad}{o:Ob}(n:h p=none)(x:h a=some o):a≠p:=Zj x n
theorem upd_ne'{h:Hs}{a b:Ad}{o:Ob}{r:Option Ob}(n:b≠a)(e:h b=r):upd h a o b=r:=by rw[upd_ne n];exact e
theorem ZK{st:Hs->Prop}{W:Val->Env->Hs->NQ->NQ->Prop}{N:NQ}(I:Nat->Env->Hs->Prop){xs:List Val}{env:Env}{h:Hs}(h0:I 0 env h)(hst:∀ i e g,i<=xs.length->I i e g->st g)
  (step:∀ i v e g,xs[i]?=some v->I i e g->∀ K:NQ,(∀ e' g',I (i+1) e' g'->K e' g')->W v e g K N) (fin:∀ e g,I xs.length e g->N e g):wFor st W N xs env h:=by
 have key:∀ (ys:List Val) (i:Nat) e g,xs.drop i=ys->i<=xs.length->I i e g->wFor st W N ys e g:=by
  intro ys;induction ys with
  |nil =>
   intro i e g hd hi hI;have:i=xs.length:=by have:=congrArg List.length hd;simp at this;omega
   subst this;exact⟨hst _ e g (zG _) hI,fin e g hI⟩
  |cons v vs ih =>
   intro i e g hd hi hI;have hlt:i<xs.length:=by have:=congrArg List.length hd;simp at this;omega
   have hv:xs[i]?=some v:=by have:=congrArg (fun l=>l[0]?) hd;simpa using this
   refine⟨hst i e g hi hI,step i v e g hv hI _ fun e' g' hI'=>ih (i+1) e' g' ?_ (by omega) hI'⟩;have:=congrArg List.tail hd;simpa using this
 exact key xs 0 env h (by simp) (by omega) h0
theorem ZZ{st:Hs->Prop}{step:Val->Hs->(Option Val->Hs->Prop)->XQ->Prop}{Q:List Val->Hs->Prop}{X:XQ}(I:Nat->List Val->Hs->Prop){xs:List Val}{h:Hs}(h0:I 0 [] h)(hst:∀ i ys g,i<=xs.length->I i ys g->st g)
  (go:∀ i v ys g,xs[i]?=some v->I i ys g->∀ K,(∀ r g',I (i+1) (ys++r.toList) g'->K r g')->step v g K X) (fin:∀ ys g,I xs.length ys g->Q ys g):wComp st step xs [] h Q X:=by
 have key:∀ (zs:List Val) (i:Nat) ys g,xs.drop i=zs->i<=xs.length->I i ys g->wComp st step zs ys g Q X:=by
  intro zs;induction zs with
  |nil =>
   intro i ys g hd hi hI;have:i=xs.length:=by have:=congrArg List.length hd;simp at this;omega
   subst this;exact⟨hst _ ys g (zG _) hI,fin ys g hI⟩
  |cons v vs ih =>
   intro i ys g hd hi hI;have hlt:i<xs.length:=by have:=congrArg List.length hd;simp at this;omega
   have hv:xs[i]?=some v:=by have:=congrArg (fun l=>l[0]?) hd;simpa using this
   refine⟨hst i ys g hi hI,go i v ys g hv hI _ fun r g' hI'=>ih (i+1) _ g' ?_ (by omega) hI'⟩;have:=congrArg List.tail hd;simpa using this
 exact key xs 0 [] h (by simp) (by omega) h0
theorem Yl{st:Hs->Prop}{step:Val->Hs->(Option Val->Hs->Prop)->XQ->Prop}{Q:List Val->Hs->Prop}{X:XQ}(f:Val->Option Val){xs:List Val}{h:Hs}(hst:st h)
  (go:∀ v∈xs,∀ K,K (f v) h->step v h K X) (fin:Q (xs.filterMap f) h):wComp st step xs [] h Q X:=by
 have key:∀ (zs ys:List Val),(∀ v∈zs,v∈xs)->Q (ys++zs.filterMap f) h->wComp st step zs ys h Q X:=by
  intro zs;induction zs with
  |nil=>intro ys _ q;exact⟨hst,by simpa using q⟩
  |cons v vs ih =>
   intro ys hm q;refine⟨hst,go v (hm v (by simp)) _ (ih _ (fun w hw=>hm w (by simp[hw])) ?_)⟩;cases e:f v with
   |none=>simpa[zJ,e]using q
   |some u=>simpa[zJ,e]using q
 exact key xs [] (fun _ h=>h) (by simpa using fin)
section
variable {Z:Fs}{env:Env}{h:Hs}{Q:Q1}{X:XQ}{a b c e o:E}{as:Es}{v u:Val}
theorem q_e_cst:(wE Z (.cst v) env h Q X)=(Q v h):=by simp only[wE_eq,Zb,Zd,Zc,Za];rfl
theorem q_e_glob{x:String}:(wE Z (.glob x v) env h Q X)=(Q v h):=by simp only[wE_eq,Zb,Zd,Zc,Za];rfl
theorem q_e_bin{op:Bop}:(wE Z (.bin op a b) env h Q X)=(wE Z a env h (fun v h1=>wE Z b env h1 (fun u h2=>(binV h2 op v u).wp h2 Q) X) X):=by simp only[wE_eq,Zb,Zd,Zc,Za];rfl
theorem q_e_not:(wE Z (.not a) env h Q X)=(wE Z a env h (fun v h1=>go (asBl v) fun b=>Q (.bl (!b)) h1) X):=by simp only[wE_eq,Zb,Zd,Zc,Za];rfl
theorem q_e_and:(wE Z (.and a b) env h Q X)=(wE Z a env h (fun v h1=>go (asBl v) fun c=>if c=true then wE Z b env h1 Q X else Q (.bl false) h1) X):=by simp only[wE_eq,Zb,Zd,Zc,Za];rfl
theorem q_e_or:(wE Z (.or a b) env h Q X)=(wE Z a env h (fun v h1=>go (asBl v) fun c=>if c=true then Q (.bl true) h1 else wE Z b env h1 Q X) X):=by simp only[wE_eq,Zb,Zd,Zc,Za];rfl
theorem q_e_cmp{op:Cop}:(wE Z (.cmp op a b) env h Q X)=(wE Z a env h (fun v h1=>wE Z b env h1 (fun u h2=>go (cmpV h2 op v u) fun c=>Q (.bl c) h2) X) X):=by simp only[wE_eq,Zb,Zd,Zc,Za];rfl
theorem q_e_chain{o1 o2:Cop}:(wE Z (.chain o1 o2 a b c) env h Q X)=(wE Z a env h (fun v h1=>wE Z b env h1 (fun u h2=>go (cmpV h2 o1 v u) fun k=>if k=true then wE Z c env h2 (fun w h3=>go (cmpV h3 o2 u w) fun k2=>Q (.bl k2) h3) X else Q (.bl false) h2) X) X):=by simp only[wE_eq,Zb,Zd,Zc,Za];rfl
theorem q_e_call{f:String}:(wE Z (.call f as) env h Q X)=(wA Z as env h (fun vs h1=>Z f vs h1 Q X) X):=by simp only[wE_eq,Zb,Zd,Zc,Za];rfl
theorem q_e_make {C:String}:(wE Z (.make C as) env h Q X)=(wA Z as env h (fun vs h1=>∀ p,h1 p=none->Z (C ++ ".__init__") (.ref p::vs) (upd h1 p (.ins C [])) (fun v h2=>v=.non/\Q (.ref p) h2) X) X):=by simp only[wE_eq,Zb,Zd,Zc,Za];rfl
theorem q_e_meth {C m:String}:(wE Z (.meth C m o as) env h Q X)=(wE Z o env h (fun v h1=>clsV h1 v m=some C/\wA Z as env h1 (fun vs h2=>Z (C ++ "." ++ m) (v::vs) h2 Q X) X) X):=by simp only[wE_eq,Zb,Zd,Zc,Za];rfl
theorem q_e_fld{f:String}:(wE Z (.fld o f) env h Q X)=(wE Z o env h (fun v h1=>go (fldV h1 v f) fun u=>Q u h1) X):=by simp only[wE_eq,Zb,Zd,Zc,Za];rfl
theorem q_e_bi{f:Bi}:(wE Z (.bi f as) env h Q X)=(wA Z as env h (fun vs h1=>(biV h1 f vs).wp h1 Q) X):=by simp only[wE_eq,Zb,Zd,Zc,Za];rfl
theorem q_e_bm{m:Bm}:(wE Z (.bm m o as) env h Q X)=(wE Z o env h (fun v h1=>bmTy h1 m v=true/\wA Z as env h1 (fun vs h2=>go (bmV h2 m v vs) fun r=>Q r.1 r.2) X) X):=by simp only[wE_eq,Zb,Zd,Zc,Za];rfl
theorem q_e_idx{i:E}:(wE Z (.idx a i) env h Q X)=(wE Z a env h (fun v h1=>wE Z i env h1 (fun k h2=>go (idxV h2 v k) fun u=>Q u h2) X) X):=by simp only[wE_eq,Zb,Zd,Zc,Za];rfl
theorem q_e_slc{lo hi:Oe}:(wE Z (.slc a lo hi) env h Q X)=(wE Z a env h (fun v h1=>wO Z lo env h1 (fun l h2=>wO Z hi env h2 (fun u h3=>(slcV h3 v l u).wp h3 Q) X) X) X):=by simp only[wE_eq,Zb,Zd,Zc,Za];rfl
theorem q_e_tup{es:Es}:(wE Z (.tup es) env h Q X)=(wA Z es env h (fun vs h1=>Q (.tup vs) h1) X):=by simp only[wE_eq,Zb,Zd,Zc,Za];rfl
theorem q_e_lst{es:Es}:(wE Z (.lst es) env h Q X)=(wA Z es env h (fun vs h1=>new h1 (.lst vs) Q) X):=by simp only[wE_eq,Zb,Zd,Zc,Za];rfl
theorem q_e_dct{es:Es}:(wE Z (.dct es) env h Q X)=(new h (.dct []) fun r h1=>go (asRef r) fun p=>wA Z es env h1 (fun vs h2=>go (pairUp vs) fun kvs=>h2 p=some (.dct [])/\Q (.ref p) (upd h2 p (.dct (putAll [] kvs)))) X):=by simp only[wE_eq,Zb,Zd,Zc,Za];rfl
theorem q_e_ife{t:Tt}:(wE Z (.ife t a b) env h Q X)=(wT Z t env h (fun k h1=>if k=true then wE Z a env h1 Q X else wE Z b env h1 Q X) X):=by simp only[wE_eq,Zb,Zd,Zc,Za];rfl
theorem q_e_comp{caps:List Nat}{n:Nat}{p:Pt}{it:It}{t:Tt}:(wE Z (.comp caps n p it t e) env h Q X)=(wI Z it env h (fun st xs h1=>xs.length<lim/\wComp st (fun v h2 K X2=>go (bind p h2 v (List.replicate n none++caps.map fun j=>(env[j]?).getD none)) fun env2=>  wT Z t env2 h2 (fun k h3=>if k=true then wE Z e env2 h3 (fun u h4=>K (some u) h4) X2 else K none h3) X2) xs [] h1 (fun ys h5=>new h5 (.lst ys) Q) fun _ _=>False) X):=by simp only[wE_eq,Zb,Zd,Zc,Za];rfl
theorem q_j_nil{acc:String}{QJ:String->Hs->Prop}:(wJ Z .nil env h acc QJ X)=QJ acc h:=by rw[JQ];rfl
theorem q_j_cons{es:Es}{acc:String}{QJ:String->Hs->Prop}:(wJ Z (.cons e es) env h acc QJ X)=(wE Z e env h (fun v h1=>go (fmtV v) fun s=>acc.length+s.length<=lim/\wJ Z es env h1 (acc++s) QJ X) X):=by simp only[wE_eq,JQ];rfl
variable {QA:List Val->Hs->Prop}{QO:Option Int->Hs->Prop}{QT:Bool->Hs->Prop}{QI:(Hs->Prop)->List Val->Hs->Prop}
theorem q_a_nil:(wA Z .nil env h QA X)=(QA [] h):=by simp only[wE_eq,Zb,Zd,Zc,Za];rfl
theorem q_a_cons{es:Es}:(wA Z (.cons e es) env h QA X)=(wE Z e env h (fun v h1=>wA Z es env h1 (fun vs h2=>QA (v::vs) h2) X) X):=by simp only[wE_eq,Zb,Zd,Zc,Za];rfl
theorem q_o_none:(wO Z .none env h QO X)=(QO none h):=by simp only[wE_eq,Zb,Zd,Zc,Za];rfl
theorem q_o_some:(wO Z (.some e) env h QO X)=(wE Z e env h (fun v h1=>go (asInt v) fun i=>QO (some i) h1) X):=by simp only[wE_eq,Zb,Zd,Zc,Za];rfl
theorem q_t_yes:(wT Z .yes env h QT X)=(QT true h):=by simp only[wE_eq,Zb,Zd,Zc,Za];rfl
theorem q_t_val:(wT Z (.val e) env h QT X)=(wE Z e env h (fun v h1=>go (Yv h1 v) fun k=>QT k h1) X):=by simp only[wE_eq,Zb,Zd,Zc,Za];rfl
theorem q_t_not{t:Tt}:(wT Z (.not t) env h QT X)=(wT Z t env h (fun k h1=>QT (!k) h1) X):=by simp only[wE_eq,Zb,Zd,Zc,Za];rfl
theorem q_t_and{s t:Tt}:(wT Z (.and s t) env h QT X)=(wT Z s env h (fun k h1=>if k=true then wT Z t env h1 QT X else QT false h1) X):=by simp only[wE_eq,Zb,Zd,Zc,Za];rfl
theorem q_t_or{s t:Tt}:(wT Z (.or s t) env h QT X)=(wT Z s env h (fun k h1=>if k=true then QT true h1 else wT Z t env h1 QT X) X):=by simp only[wE_eq,Zb,Zd,Zc,Za];rfl
theorem q_i_seq:(wI Z (.seq e) env h QI X)=(wE Z e env h (fun v h1=>go (itV h1 v) fun p=>QI p.1 p.2 h1) X):=by simp only[wE_eq,Zb,Zd,Zc,Za];rfl
theorem q_i_range:(wI Z (.range a) env h QI X)=(wE Z a env h (fun v h1=>go (asInt v) fun n=>(-(2 ^ 62)<=n/\n<2 ^ 62)/\QI (fun _=>True) (rangeV 0 n) h1) X):=by simp only[wE_eq,Zb,Zd,Zc,Za];rfl
theorem q_i_enum:(wI Z (.enum e) env h QI X)=(wE Z e env h (fun v h1=>go (tupOf v) fun xs=>QI (fun _=>True) (enumL 0 xs) h1) X):=by simp only[wE_eq,Zb,Zd,Zc,Za];rfl
end
section
variable {Z:Fs}{env:Env}{h:Hs}{N B C:NQ}{R:Q1}{X:EQ}{a b c e o i:E}{as:Es}{v u:Val}{t:Tt}{s1 s2:Ss}{s:S}{p:Pt}{it:It}{hs:Hn}
theorem q_s_set:(wS Z (.set p e) env h N R B C X)=(wE Z e env h (fun v h1=>go (bind p h1 v env) fun env2=>N env2 h1) (X env)):=by simp only[Zr,Zi,Zt];rfl
theorem q_s_setIdx:(wS Z (.setIdx a i e) env h N R B C X)=(wE Z e env h (fun v h1=>wE Z a env h1 (fun o h2=>wE Z i env h2 (fun k h3=>go (putV h3 o k v) fun g=>N env g) (X env)) (X env)) (X env)):=by simp only[Zr,Zi,Zt];rfl
theorem q_s_setFld{f:String}:(wS Z (.setFld o f e) env h N R B C X)=(wE Z e env h (fun v h1=>wE Z o env h1 (fun u h2=>go (putFV h2 u f v) fun g=>N env g) (X env)) (X env)):=by simp only[Zr,Zi,Zt];rfl
theorem q_s_expr:(wS Z (.expr e) env h N R B C X)=(wE Z e env h (fun _ h1=>N env h1) (X env)):=by simp only[Zr,Zi,Zt];rfl
theorem q_s_ret:(wS Z (.ret e) env h N R B C X)=(wE Z e env h R (X env)):=by simp only[Zr,Zi,Zt];rfl
theorem q_s_ite:(wS Z (.ite t s1 s2) env h N R B C X)=(wT Z t env h (fun k h1=>if k=true then wSs Z s1 env h1 N R B C X else wSs Z s2 env h1 N R B C X) (X env)):=by simp only[Zr,Zi,Zt];rfl
theorem q_s_for:(wS Z (.for p it s1) env h N R B C X)=(wI Z it env h (fun st xs h1=>wFor st (fun v e g K M=>go (bind p g v e) fun e2=>wSs Z s1 e2 g K R M K X) N xs env h1) (X env)):=by simp only[Zr,Zi,Zt];rfl
theorem q_s_never:(wS Z .never env h N R B C X)=False:=by simp only[Zr];rfl
theorem q_ss_nil:(wSs Z .nil env h N R B C X)=(N env h):=by simp only[Zr,Zi,Zt];rfl
theorem q_ss_cons{ss:Ss}:(wSs Z (.cons s ss) env h N R B C X)=(wS Z s env h (fun e g=>wSs Z ss e g N R B C X) R B C X):=by simp only[Zr,Zi,Zt];rfl
end
section
variable {Z:Fs}{env:Env}{h:Hs}{Q:Q1}{X:XQ}{a:Ad}{v:Val}{kvs:List (Val×Val)}
theorem e_dct0(q:∀ p,h p=none->Q (.ref p) (upd h p (.dct []))):wE Z (.dct .nil) env h Q X:=by refine e_dct (Ju fun p hp=>g_ref (a_nil (go_of rfl ⟨upd_same,?_⟩)));rw[upd_upd];exact q p hp
theorem Ly{K:List (Val×Val)->Prop}(e1:h a=some (.dct kvs))(q:K kvs):go (dcOf (h a)) K:=go_of (dcE e1) q
end
end Own
namespace Snd
open PySem L2
def KT (K:PySem.W.Frag) (a:Addr) (xs:List V):Prop :=
 ∃ (o:Obj) (its:Array Value) (n:Nat),K.lookup a=some o/\o.cls=.type "tuple"/\o.data=.seq its n/\its.size<=sizeLine/\Vals xs its.toList
def KL (K:PySem.W.Frag) (a:Addr) (xs:List V):Prop :=
 ∃ (o:Obj) (its:Array Value) (n:Nat),K.lookup a=some o/\o.cls=.type "list"/\o.dict=none/\o.data=.seq its n/\its.size<=sizeLine/\Vals xs its.toList
mutual
inductive RV (K:PySem.W.Frag) (H:Hp):Own.Val->V->Prop
 |non:RV K H .non .non
 |bl (b:Bool):RV K H (.bl b) (.bl b)
 |int (i:Int):RV K H (.int i) (.int i)
 |str (s:String):RV K H (.str s) (.str (Str.ofString s))
 |tup {xs:List Own.Val}{a:Addr}{vs:List V}:(H a=some (.tup vs)\/KT K a vs)->RVs K H xs vs->RV K H (.tup xs) (.ref a)
 |ref (a:Addr):RV K H (.ref a) (.ref a)
 |scr {ns:List Int}{a:Addr}:((∃ o,H a=some (.frz o (.lst (ns.map V.int))))\/KL K a (ns.map V.int))->RV K H (.scr ns) (.ref a)
 |key {i j:Int}{a:Addr}:H a=some (.tup [.int i,.int j])->RV K H (.key i j) (.ref a)
inductive RVs (K:PySem.W.Frag) (H:Hp):List Own.Val->List V->Prop
 |nil:RVs K H [] []
 |cons {v:Own.Val}{x:V}{vs:List Own.Val}{xs:List V}:RV K H v x->RVs K H vs xs->RVs K H (v::vs) (x::xs)
end
structure Keep (H H':Hp):Prop where
 t:∀ a xs,H a=some (.tup xs)->H' a=some (.tup xs)
 f:∀ a o u,H a=some (.frz o u)->H' a=some (.frz o u)
theorem Keep.refl(H:Hp):Keep H H:=⟨fun _ _ e=>e,fun _ _ _ e=>e⟩
theorem Keep.trans{H H1 H2:Hp}(a:Keep H H1)(b:Keep H1 H2):Keep H H2:=⟨fun c xs e=>b.t c xs (a.t c xs e),fun c o u e=>b.f c o u (a.f c o u e)⟩
theorem Keep.put{H:Hp}{a:Addr}{o:HO}(h:∀ xs,H a≠some (.tup xs))(h2:∀ p u,H a≠some (.frz p u)):Keep H (upd H a o):=⟨fun b xs e=>by
  rw[upd_ne (by rintro rfl;exact h xs e)];exact e,fun b p u e=>by rw[upd_ne (by rintro rfl;exact h2 p u e)];exact e⟩
theorem Keep.new{H:Hp}{a:Addr}{o:HO}(h:H a=none):Keep H (upd H a o):=Keep.put (fun xs e=>by rw[h]at e;cases e) fun p u e=>by rw[h]at e;cases e
variable {K:PySem.W.Frag}{H H':Hp}
mutual
theorem RV.keep(k:Keep H H'):∀ {v:Own.Val}{x:V},RV K H v x->RV K H' v x
 |_,_,.non=>.non
 |_,_,.bl b=>.bl b
 |_,_,.int i=>.int i
 |_,_,.str s=>.str s
 |_,_,.tup (.inl e) r=>.tup (.inl (k.t _ _ e)) (RVs.keep k r)
 |_,_,.tup (.inr e) r=>.tup (.inr e) (RVs.keep k r)
 |_,_,.ref a=>.ref a
 |_,_,.scr (.inl ⟨o,e⟩)=>.scr (.inl ⟨o,k.f _ _ _ e⟩)
 |_,_,.scr (.inr e)=>.scr (.inr e)
 |_,_,.key e=>.key (k.t _ _ e)
theorem RVs.keep(k:Keep H H'):∀ {vs:List Own.Val}{xs:List V},RVs K H vs xs->RVs K H' vs xs
 |_,_,.nil=>.nil
 |_,_,.cons r t=>.cons (RV.keep k r) (RVs.keep k t)
end
theorem RVs.length:∀ {vs:List Own.Val}{xs:List V},RVs K H vs xs->vs.length=xs.length
 |_,_,.nil=>rfl
 |_,_,.cons _ t=>by rw[qB,qB,RVs.length t]
theorem RVs.get:∀ {vs:List Own.Val}{xs:List V}{i:Nat}{v:Own.Val},RVs K H vs xs->vs[i]?=some v->∃ x,xs[i]?=some x/\RV K H v x
 |_,_,_,_,.nil,e=>by simp at e
 |_,_,0,_,.cons r _,e=>by simp at e;subst e;exact⟨_,rfl,r⟩
 |_,_,i+1,v,.cons _ t,e=>by obtain⟨x,h1,h2⟩:=RVs.get (i:=i) (v:=v) t (by simpa using e);exact⟨x,by simpa using h1,h2⟩
theorem RVs.append:∀ {vs us:List Own.Val}{xs ys:List V},RVs K H vs xs->RVs K H us ys->RVs K H (vs++us) (xs++ys)
 |_,_,_,_,.nil,h=>h
 |_,_,_,_,.cons r t,h=>.cons r (RVs.append t h)
theorem RVs.set{v:Own.Val}{x:V}(r:RV K H v x):∀ {vs:List Own.Val}{xs:List V}(i:Nat),RVs K H vs xs->RVs K H (vs.set i v) (xs.set i x)
 |_,_,_,.nil=>.nil
 |_,_,0,.cons _ t=>.cons r t
 |_,_,i+1,.cons q t=>.cons q (RVs.set r i t)
theorem RVs.take:∀ {vs:List Own.Val}{xs:List V}(n:Nat),RVs K H vs xs->RVs K H (vs.take n) (xs.take n)
 |_,_,0,_=>.nil
 |_,_,_+1,.nil=>.nil
 |_,_,n+1,.cons r t=>.cons r (RVs.take n t)
theorem RVs.drop:∀ {vs:List Own.Val}{xs:List V}(n:Nat),RVs K H vs xs->RVs K H (vs.drop n) (xs.drop n)
 |_,_,0,r=>r
 |_,_,_+1,.nil=>.nil
 |_,_,n+1,.cons _ t=>RVs.drop n t
theorem RVs.reverse{vs:List Own.Val}{xs:List V}(r:RVs K H vs xs):RVs K H vs.reverse xs.reverse:=by
 induction r using RVs.rec (motive_1:=fun _ _ _=>True)with
 |nil=>exact .nil
 |cons r t _ ih=>rw[List.reverse_cons,List.reverse_cons];exact ih.append (.cons r .nil)
 |_=>trivial
theorem RVs.eraseIdx:∀ {vs:List Own.Val}{xs:List V}(i:Nat),RVs K H vs xs->RVs K H (vs.eraseIdx i) (xs.eraseIdx i)
 |_,_,_,.nil=>.nil
 |_,_,0,.cons _ t=>t
 |_,_,i+1,.cons q t=>.cons q (RVs.eraseIdx i t)
theorem RVs.dropLast{vs:List Own.Val}{xs:List V}(r:RVs K H vs xs):RVs K H vs.dropLast xs.dropLast:=by rw[List.dropLast_eq_take,List.dropLast_eq_take,r.length];exact r.take _
theorem Zl{a:Addr}{vs:List V}(h:H a=some (.tup vs)\/KT K a vs):SqT K H a vs:=by
 rcases h with h|h
 .exact SqT.of h
 .exact .inr h
structure Inf where
 K:PySem.W.Frag
 cl:String->Addr->Prop
 ins:String->Bool
 xc:String->Addr->Prop
def XR:Own.Val->Key->Prop
 |.int i,.inl j=>i=j
 |.str s,.inr t=>t=Str.ofString s
 |_,_=>False
inductive RKs (K:PySem.W.Frag) (H:Hp):List (Own.Val×Own.Val)->List (Key×V)->Prop
 |nil:RKs K H [] []
 |cons {k v:Own.Val}{c:Key}{x:V}{kvs:List (Own.Val×Own.Val)}{ps:List (Key×V)}:XR k c->RV K H v x->RKs K H kvs ps->RKs K H ((k,v)::kvs) ((c,x)::ps)
inductive RFs (K:PySem.W.Frag) (H:Hp):List (String×Own.Val)->List (Str×V)->Prop
 |nil:RFs K H [] []
 |cons {f:String}{v:Own.Val}{x:V}{fs:List (String×Own.Val)}{ps:List (Str×V)}:RV K H v x->RFs K H fs ps->RFs K H ((f,v)::fs) ((Str.ofString f,x)::ps)
theorem RKs.keep(k:Keep H H'):∀ {kvs:List (Own.Val×Own.Val)}{ps:List (Key×V)},RKs K H kvs ps->RKs K H' kvs ps
 |_,_,.nil=>.nil
 |_,_,.cons a r t=>.cons a (r.keep k) (RKs.keep k t)
inductive RTs (K:PySem.W.Frag) (H:Hp):List (Own.Val×Own.Val)->List (List Key×V)->Prop
 |nil:RTs K H [] []
 |cons {i j:Int}{v:Own.Val}{x:V}{kvs:List (Own.Val×Own.Val)}{ps:List (List Key×V)}:RV K H v x->RTs K H kvs ps->RTs K H ((.key i j,v)::kvs) (([.inl i,.inl j],x)::ps)
theorem RTs.keep(k:Keep H H'):∀ {kvs:List (Own.Val×Own.Val)}{ps:List (List Key×V)},RTs K H kvs ps->RTs K H' kvs ps
 |_,_,.nil=>.nil
 |_,_,.cons r t=>.cons (r.keep k) (RTs.keep k t)
theorem RFs.keep(k:Keep H H'):∀ {fs:List (String×Own.Val)}{ps:List (Str×V)},RFs K H fs ps->RFs K H' fs ps
 |_,_,.nil=>.nil
 |_,_,.cons r t=>.cons (r.keep k) (RFs.keep k t)
def RO (i:Inf) (H:Hp) (a:Addr):Own.Ob->Prop
 |.lst xs=>∃ vs,H a=some (.lst vs)/\RVs i.K H xs vs
 |.dct kvs=>∃ ps,H a=some (.dK ps)/\RKs i.K H kvs ps
 |.ins C fs=>∃ c dx ps,i.ins C=true/\i.cl C c/\H a=some (.ins c dx ps)/\RFs i.K H fs ps
 |.exc C=>∃ c,i.xc C c/\H a=some (xcO a (.ref c))
 |.frz kvs=>∃ o ps,H a=some (.frz o (.dK ps))/\RKs i.K H kvs ps
 |.dtp kvs=>∃ ps,H a=some (.dT ps)/\RTs i.K H kvs ps
theorem RO.there{i:Inf}{a:Addr}{o:Own.Ob}(r:RO i H a o):∃ u,H a=some u:=by
 cases o with
 |lst xs=>obtain⟨_,e,_⟩:=r;exact⟨_,e⟩
 |dct kvs=>obtain⟨_,e,_⟩:=r;exact⟨_,e⟩
 |ins C fs=>obtain⟨_,_,_,_,_,e,_⟩:=r;exact⟨_,e⟩
 |exc C=>obtain⟨_,_,e⟩:=r;exact⟨_,e⟩
 |frz kvs=>obtain⟨_,_,e,_⟩:=r;exact⟨_,e⟩
 |dtp kvs=>obtain⟨_,e,_⟩:=r;exact⟨_,e⟩
theorem RO.move{i:Inf}{a:Addr}{o:Own.Ob}(r:RO i H a o)(k:Keep H H')(e:H' a=H a):RO i H' a o:=by
 cases o with
 |lst xs=>obtain⟨vs,q,r⟩:=r;exact⟨vs,e.trans q,r.keep k⟩
 |dct kvs=>obtain⟨ps,q,r⟩:=r;exact⟨ps,e.trans q,r.keep k⟩
 |ins C fs=>obtain⟨c,dx,ps,h0,h,q,r⟩:=r;exact⟨c,dx,ps,h0,h,e.trans q,r.keep k⟩
 |exc C=>obtain⟨c,h,q⟩:=r;exact⟨c,h,e.trans q⟩
 |frz kvs=>obtain⟨o,ps,q,r⟩:=r;exact⟨o,ps,e.trans q,r.keep k⟩
 |dtp kvs=>obtain⟨ps,q,r⟩:=r;exact⟨ps,e.trans q,r.keep k⟩
def RH (i:Inf) (G:Own.Hs) (H:Hp):Prop:=∀ a o,G a=some o->RO i H a o
theorem RH.free{i:Inf}{G:Own.Hs}{a:Addr}(r:RH i G H)(e:H a=none):G a=none:=by
 cases q:G a with
 |none=>rfl
 |some o=>obtain⟨u,z⟩:=(r a o q).there;rw[e]at z;cases z
theorem RH.put{i:Inf}{G:Own.Hs}{a:Addr}{o:Own.Ob}{u:HO}(r:RH i G H)(k:Keep H (upd H a u))(n:RO i (upd H a u) a o):RH i (Own.upd G a o) (upd H a u):=fun b p e=>by
 by_cases hb:b=a
 .subst hb;rw[Own.upd_same]at e;cases e;exact n
 .rw[Own.upd_ne hb]at e;exact(r b p e).move k (upd_ne hb)
theorem RH.hid{i:Inf}{G:Own.Hs}(r:RH i G H)(k:Keep H H')(e:∀ a o,G a=some o->H' a=H a):RH i G H':=fun b p q=>(r b p q).move k (e b p q)
structure REn (K:PySem.W.Frag) (H:Hp) (env:Own.Env) (σ:St):Prop where
 len:env.length=σ.length
 get:∀ (i:Nat) (v:Own.Val),env[i]?=some (some v)->∃ x,σ[i]?=some (some x)/\RV K H v x
theorem REn.keep{env:Own.Env}{σ:St}(r:REn K H env σ)(k:Keep H H'):REn K H' env σ:=⟨r.len,fun i v e=>by
  obtain⟨x,h1,h2⟩:=r.get i v e
  exact⟨x,h1,h2.keep k⟩⟩
theorem REn.set{env:Own.Env}{σ:St}{v:Own.Val}{x:V}(r:REn K H env σ)(q:RV K H v x)(j:Nat):REn K H (env.set j (some v)) (σ.set j (some x)):=⟨by simp[r.len],fun i u e=>by
  by_cases hij:j=i
  . subst hij
    rw[List.getElem?_set_self']at e
    cases z:env[j]? with
    |none=>rw[z]at e;cases e
    |some w =>
      rw[z]at e
      cases e
      have hj:j<σ.length:=by rw[<-r.len];exact(qK.mp z).1
      exact⟨x,List.getElem?_set_self hj,q⟩
  . rw[List.getElem?_set_ne hij]at e
    obtain⟨y,h1,h2⟩:=r.get i u e
    exact⟨y,by rw[List.getElem?_set_ne hij];exact h1,h2⟩⟩
theorem REn.start{vs:List Own.Val}{xs:List V}{n:Nat}(r:RVs K H vs xs):REn K H (vs.map some++List.replicate n none) (xs.map some++List.replicate n none):=⟨by simp[r.length],fun i v e=>by
  by_cases hi:i<vs.length
  . rw[List.getElem?_append_left (by simpa using hi),qF]at e
    cases z:vs[i]? with
    |none=>rw[z]at e;cases e
    |some w =>
      rw[z]at e
      cases e
      obtain⟨x,h1,h2⟩:=r.get z
      exact⟨x,by rw[List.getElem?_append_left (by rw[qA,<-r.length];exact hi),qF,h1];rfl,h2⟩
  . rw[List.getElem?_append_right (by simpa using hi),List.getElem?_replicate]at e
    split at e<;>cases e⟩
theorem RVs.ints{K:PySem.W.Frag}{H:Hp}:∀ ns:List Int,RVs K H (ns.map Own.Val.int) (ns.map V.int)
 |[]=>.nil
 |n::ns=>.cons (.int n) (RVs.ints ns)
theorem ZR{a:Addr}{ns:List Int}(h:(∃ o,H a=some (.frz o (.lst (ns.map V.int))))\/KL K a (ns.map V.int)):SqL K H a (ns.map V.int):=by
 rcases h with⟨o,h⟩|h
 .exact .inl (.inr ⟨o,h⟩)
 .exact .inr h
variable {i:Inf}{X:Cx}{Z:Own.Fs}
noncomputable def XK1 (i:Inf) (H:Hp) (Em:Own.XQ):XK:=fun cls _ H'=>∃ c G' ad,cls=.ref ad/\i.xc c ad/\Keep H H'/\RH i G' H'/\Em c G'
def XOk (X:Cx) (i:Inf) (H:Hp) (Em:Own.XQ):Prop:=XW X (XK1 i H Em)
theorem XK1.go{H H1 H':Hp}{Em:Own.XQ}{cls:Value}{d:Option Addr}(k:Keep H H1)(h:XK1 i H1 Em cls d H'):XK1 i H Em cls d H':=by obtain⟨c,G',ad,e,q,k',r,m⟩:=h;exact⟨c,G',ad,e,q,k.trans k',r,m⟩
theorem XOk.go{H H1:Hp}{Em:Own.XQ}(x:XOk X i H Em)(k:Keep H H1):XOk X i H1 Em:=fun pins σ H0 s H' a cls s' I f e=>x pins σ H0 s H' a cls s' I f (e.go k)
structure Pre (X:Cx) (i:Inf) (σ:St) (H:Hp) (env:Own.Env) (G:Own.Hs) (Em:Own.XQ):Prop where
 en:REn i.K H env σ
 hp:RH i G H
 xo:XOk X i H Em
theorem Pre.go{σ:St}{H H1:Hp}{env:Own.Env}{G G1:Own.Hs}{Em:Own.XQ}(p:Pre X i σ H env G Em)(k:Keep H H1)(r:RH i G1 H1):Pre X i σ H1 env G1 Em:=⟨p.en.keep k,r,p.xo.go k⟩
def Cn (i:Inf) (H:Hp) (Q:VK) (Qm:Own.Q1):Prop:=∀ v G' H' x,Keep H H'->RH i G' H'->RV i.K H' v x->Qm v G'->Q x H'
theorem Cn.go{H H1:Hp}{Q:VK}{Qm:Own.Q1}(c:Cn i H Q Qm)(k:Keep H H1):Cn i H1 Q Qm:=fun v G' H' x k'=>c v G' H' x (k.trans k')
noncomputable def tE (X:Cx) (i:Inf) (Z:Own.Fs) (m:Own.E):TE:=fun σ H Q=>∃ env G Qm Em,Pre X i σ H env G Em/\Own.wE Z m env G Qm Em/\Cn i H Q Qm
noncomputable def tAr (X:Cx) (i:Inf) (Z:Own.Fs) (ms:Own.Es) (n:Nat):TA:=fun σ H Q=>∃ env G Qm Em,Pre X i σ H env G Em/\Own.wA Z ms env G Qm Em/\∀ vs G' H' xs,Keep H H'->RH i G' H'->RVs i.K H' vs xs->xs.length=n->Qm vs G'->Q xs H'
noncomputable def tTt (X:Cx) (i:Inf) (Z:Own.Fs) (m:Own.Tt):TT:=fun σ H Q=>∃ env G Qm Em,Pre X i σ H env G Em/\Own.wT Z m env G Qm Em/\∀ b G' H',Keep H H'->RH i G' H'->Qm b G'->Q b H'
theorem _root_.L2.PE.imp{X:Cx}{e:Expr}{t t':TE}(h:PE X e t)(f:∀ σ H Q,t' σ H Q->t σ H Q):PE X e t':=fun pins s σ H Q I q=>h pins s σ H Q I (f σ H Q q)
theorem _root_.L2.PT.imp{X:Cx}{e:Expr}{t t':TT}(h:PT X e t)(f:∀ σ H Q,t' σ H Q->t σ H Q):PT X e t':=fun pins s σ H Q I q=>h pins s σ H Q I (f σ H Q q)
theorem _root_.L2.PW.imp{X:Cx}{e:Expr}{t t':TT}(h:PW X e t)(f:∀ σ H Q,t' σ H Q->t σ H Q):PW X e t':=fun wh pins s σ H Q I q=>h wh pins s σ H Q I (f σ H Q q)
theorem _root_.L2.PA.imp{X:Cx}{es:List Expr}{t t':TA}(h:PA X es t)(f:∀ σ H Q,t' σ H Q->t σ H Q):PA X es t':=fun pos pins s σ H Q I q=>h pos pins s σ H Q I (f σ H Q q)
theorem GN{env:Own.Env}{h:Own.Hs}{Q:Own.Q1}{E:Own.XQ}{j:Nat}:(Own.wE Z (.var j) env h Q E)=(Own.go (Own.getV env j) fun v=>Q v h):=by simp only[Own.wE_eq];rfl
theorem go_some{α:Type}{o:Option α}{k:α->Prop}(h:Own.go o k):∃ a,o=some a/\k a:=by
 cases o with
 |none=>simp at h
 |some a=>exact⟨a,rfl,by simpa using h⟩
theorem N0{env:Own.Env}{j:Nat}{v:Own.Val}(h:Own.getV env j=some v):env[j]?=some (some v):=by
 unfold Own.getV at h;split at h
 .rename_i u e;cases h;exact e
 .cases h
theorem Gr {x:Str}{pos:Pos}{j:Nat}(hN:X.N[j]?=some x) (hv:Vis X.env.scope x) (hd:(x==("__debug__" : Str))=false) (hcd:(x==("__classdict__" : Str))=false):PE X (.Name x pos) (tE X i Z (.var j)) :=
 (Et hN hv hd hcd).imp fun σ H Q ⟨env,G,Qm,Em,p,w,c⟩=>by rw[GN]at w;obtain⟨v,e,q⟩:=go_some w;obtain⟨y,h1,h2⟩:=p.en.get j v (N0 e);exact⟨y,h1,c v G H y (Keep.refl H) p.hp h2 q⟩
theorem Xq{e:Expr}{v:Own.Val}{x:V}(h:PE X e (tC x))(r:∀ H,RV i.K H v x):PE X e (tE X i Z (.cst v)) :=
 h.imp fun σ H Q ⟨env,G,Qm,Em,p,w,c⟩=>by rw[Own.q_e_cst]at w;exact c v G H x (Keep.refl H) p.hp (r H) w
theorem Dn{e:Expr}{y:String}{v:Own.Val}{x:V}(h:PE X e (tC x))(r:∀ H,RV i.K H v x):PE X e (tE X i Z (.glob y v)) :=
 h.imp fun σ H Q ⟨env,G,Qm,Em,p,w,c⟩=>by rw[Own.q_e_glob]at w;exact c v G H x (Keep.refl H) p.hp (r H) w
theorem two{a b:Own.E}{σ:St}{H:Hp}{env:Own.Env}{G:Own.Hs}{Em:Own.XQ}{F:Own.Val->Own.Val->Own.Hs->Prop}{R:V->V->Hp->Prop}(p:Pre X i σ H env G Em)
  (w:Own.wE Z a env G (fun v G1=>Own.wE Z b env G1 (fun u G2=>F v u G2) Em) Em)
  (h:∀ v u G2 H2 x y,Keep H H2->Pre X i σ H2 env G2 Em->RV i.K H2 v x->RV i.K H2 u y->F v u G2->R x y H2):tE X i Z a σ H fun x H1=>tE X i Z b σ H1 fun y H2=>R x y H2 :=
 ⟨env,G,_,Em,p,w,fun v G1 H1 x k1 g1 r1 w1=>⟨env,G1,_,Em,p.go k1 g1,w1,fun u G2 H2 y k2 g2 r2 w2=>h v u G2 H2 x y (k1.trans k2) ((p.go k1 g1).go k2 g2) (r1.keep k2) r2 w2⟩⟩
theorem one{a:Own.E}{σ:St}{H:Hp}{env:Own.Env}{G:Own.Hs}{Em:Own.XQ}{F:Own.Val->Own.Hs->Prop}{R:V->Hp->Prop}(p:Pre X i σ H env G Em)
  (w:Own.wE Z a env G (fun v G1=>F v G1) Em) (h:∀ v G1 H1 x,Keep H H1->Pre X i σ H1 env G1 Em->RV i.K H1 v x->F v G1->R x H1):tE X i Z a σ H fun x H1=>R x H1 :=
 ⟨env,G,_,Em,p,w,fun v G1 H1 x k1 g1 r1 w1=>h v G1 H1 x k1 (p.go k1 g1) r1 w1⟩
def XJ (i:Inf) (op:Own.Bop) (r:R2):Prop:=∀ (v u:Own.Val) (G:Own.Hs) (H:Hp) (x y:V) (Q:VK) (Qm:Own.Q1),RH i G H->RV i.K H v x->RV i.K H u y->(Own.binV G op v u).wp G Qm->Cn i H Q Qm->r x y H Q
theorem W1{a b:Expr}{ma mb:Own.E}{op:Operator}{bop:Own.Bop}{r:R2}{pos:Pos}(ho:OpR X (binaryOp op) r)(hr:XJ i bop r)(ha:PE X a (tE X i Z ma))(hb:PE X b (tE X i Z mb)):PE X (.BinOp a op b pos) (tE X i Z (.bin bop ma mb)) :=
 (GS ho ha hb).imp fun σ H Q ⟨env,G,Qm,Em,p,w,c⟩=>by rw[Own.q_e_bin]at w;exact two p w fun v u G2 H2 x y k2 p2 rx ry q=>hr v u G2 H2 x y Q Qm p2.hp rx ry q (c.go k2)
def ZI (i:Inf) (op:Own.Cop) (r:R2):Prop:=∀ (v u:Own.Val) (G:Own.Hs) (H:Hp) (x y:V) (c:Bool) (Q:VK),RH i G H->RV i.K H v x->RV i.K H u y->Own.cmpV G op v u=some c->Q (.bl c) H->r x y H Q
theorem HE{a b:Expr}{ma mb:Own.E}{op:CmpOp}{cop:Own.Cop}{r:R2}{pos:Pos}(ho:OpR X (compareOp op) r)(hr:ZI i cop r)(ha:PE X a (tE X i Z ma))(hb:PE X b (tE X i Z mb))(hm:behindInMarks op b=false):PE X (.Compare a [op] [b] pos) (tE X i Z (.cmp cop ma mb)) :=
 (M8 ho ha hb hm).imp fun σ H Q ⟨env,G,Qm,Em,p,w,c⟩=>by
  rw[Own.q_e_cmp]at w;exact two p w fun v u G2 H2 x y k2 p2 rx ry q=>by obtain⟨d,e,q⟩:=go_some q;exact hr v u G2 H2 x y d Q p2.hp rx ry e (c (.bl d) G2 H2 (.bl d) k2 p2.hp (.bl d) q)
theorem Fy{a b:Expr}{ma mb:Own.E}{op:CmpOp}{cop:Own.Cop}{r:R2}{pos:Pos}(ho:OpR X (compareOp op) r)(hr:ZI i cop r)(ha:PE X a (tE X i Z ma))(hb:PE X b (tE X i Z mb))(hm:behindInMarks op b=false):PT X (.Compare a [op] [b] pos) (tTt X i Z (.val (.cmp cop ma mb))) :=
 (M0 ho ha hb hm).imp fun σ H Q ⟨env,G,Qm,Em,p,w,c⟩=>by
  rw[Own.q_t_val,Own.q_e_cmp]at w;exact two p w fun v u G2 H2 x y k2 p2 rx ry q=>by obtain⟨d,e,q⟩:=go_some q;obtain⟨d',e',q⟩:=go_some q;cases e';exact hr v u G2 H2 x y d _ p2.hp rx ry e ⟨d,rfl,c d G2 H2 k2 p2.hp q⟩
theorem Xc{v:Own.Val}{b:Bool}(h:Own.asBl v=some b):v=.bl b:=by cases v<;>simp_all [Own.asBl]
theorem Z6{v:Own.Val}{b:Int}(h:Own.asInt v=some b):v=.int b:=by cases v<;>simp_all [Own.asInt]
theorem XF{v:Own.Val}{b:Own.Ad}(h:Own.asRef v=some b):v=.ref b:=by cases v<;>simp_all [Own.asRef]
theorem RV.bl_inv{K:PySem.W.Frag}{H:Hp}{b:Bool}{x:V}(r:RV K H (.bl b) x):x=.bl b:=by cases r;rfl
theorem RV.int_inv{K:PySem.W.Frag}{H:Hp}{b:Int}{x:V}(r:RV K H (.int b) x):x=.int b:=by cases r;rfl
theorem RV.ref_inv{K:PySem.W.Frag}{H:Hp}{b:Addr}{x:V}(r:RV K H (.ref b) x):x=.ref b:=by cases r;rfl
theorem RV.str_inv{K:PySem.W.Frag}{H:Hp}{b:String}{x:V}(r:RV K H (.str b) x):x=.str (Str.ofString b):=by cases r;rfl
theorem RV.non_inv{K:PySem.W.Frag}{H:Hp}{x:V}(r:RV K H .non x):x=.non:=by cases r;rfl
theorem FQ{a:Expr}{ma:Own.E}{pos:Pos}(ha:PE X a (tE X i Z ma)):PE X (.UnaryOp .Not a pos) (tE X i Z (.not ma)) :=
 (EY ha).imp fun σ H Q ⟨env,G,Qm,Em,p,w,c⟩=>by
  rw[Own.q_e_not]at w;exact one p w fun v G1 H1 x k1 p1 r q=>by obtain⟨b,e,q2⟩:=go_some q;clear q;cases Xc e;exact⟨b,r.bl_inv,c _ G1 H1 _ k1 p1.hp (.bl _) q2⟩
theorem FY{a b:Expr}{rest:List Expr}{ma mb:Own.E}{pos:Pos}(ha:PE X a (tE X i Z ma))(hb:PE X (.BoolOp .And (b::rest) pos) (tE X i Z mb)):PE X (.BoolOp .And (a::b::rest) pos) (tE X i Z (.and ma mb)) :=
 (DE ha hb).imp fun σ H Q ⟨env,G,Qm,Em,p,w,c⟩=>by
  rw[Own.q_e_and]at w;exact one p w fun v G1 H1 x k1 p1 r q=>by
   obtain⟨d,e,q2⟩:=go_some q;clear q;cases Xc e;refine⟨d,r.bl_inv,?_⟩;cases d with
   |true=>exact⟨env,G1,Qm,Em,p1,by simpa using q2,c.go k1⟩
   |false=>simp at q2 ⊢;exact c _ G1 H1 _ k1 p1.hp (.bl _) q2
theorem La{a b:Expr}{rest:List Expr}{ma mb:Own.E}{pos:Pos}(ha:PE X a (tE X i Z ma))(hb:PE X (.BoolOp .Or (b::rest) pos) (tE X i Z mb)):PE X (.BoolOp .Or (a::b::rest) pos) (tE X i Z (.or ma mb)) :=
 (Hz ha hb).imp fun σ H Q ⟨env,G,Qm,Em,p,w,c⟩=>by
  rw[Own.q_e_or]at w;exact one p w fun v G1 H1 x k1 p1 r q=>by
   obtain⟨d,e,q2⟩:=go_some q;clear q;cases Xc e;refine⟨d,r.bl_inv,?_⟩;cases d with
   |false=>exact⟨env,G1,Qm,Em,p1,by simpa using q2,c.go k1⟩
   |true=>simp at q2 ⊢;exact c _ G1 H1 _ k1 p1.hp (.bl _) q2
theorem Di{a:Expr}{ma:Own.Tt}{pos:Pos}(ha:PT X a (tTt X i Z ma)):PT X (.UnaryOp .Not a pos) (tTt X i Z (.not ma)) :=
 (D9 ha).imp fun σ H Q ⟨env,G,Qm,Em,p,w,c⟩=>by rw[Own.q_t_not]at w;exact⟨env,G,_,Em,p,w,fun b G1 H1 k1 g1 q=>c (!b) G1 H1 k1 g1 q⟩
theorem EM{a b:Expr}{rest:List Expr}{ma mb:Own.Tt}{pos:Pos}(ha:PT X a (tTt X i Z ma))(hb:PW X (.BoolOp .And (b::rest) pos) (tTt X i Z mb)):PW X (.BoolOp .And (a::b::rest) pos) (tTt X i Z (.and ma mb)) :=
 (FJ ha hb).imp fun σ H Q ⟨env,G,Qm,Em,p,w,c⟩=>by
  rw[Own.q_t_and]at w;refine⟨env,G,_,Em,p,w,fun d G1 H1 k1 g1 q=>?_⟩;cases d with
  |true=>exact⟨env,G1,Qm,Em,p.go k1 g1,by simpa using q,fun b G2 H2 k2=>c b G2 H2 (k1.trans k2)⟩
  |false=>simp at q ⊢;exact c false G1 H1 k1 g1 q
theorem GM{a b:Expr}{rest:List Expr}{ma mb:Own.Tt}{pos:Pos}(ha:PT X a (tTt X i Z ma))(hb:PW X (.BoolOp .Or (b::rest) pos) (tTt X i Z mb)):PW X (.BoolOp .Or (a::b::rest) pos) (tTt X i Z (.or ma mb)) :=
 (GL ha hb).imp fun σ H Q ⟨env,G,Qm,Em,p,w,c⟩=>by
  rw[Own.q_t_or]at w;refine⟨env,G,_,Em,p,w,fun d G1 H1 k1 g1 q=>?_⟩;cases d with
  |false=>exact⟨env,G1,Qm,Em,p.go k1 g1,by simpa using q,fun b G2 H2 k2=>c b G2 H2 (k1.trans k2)⟩
  |true=>simp at q ⊢;exact c true G1 H1 k1 g1 q
theorem Cs{a:Expr}{ma:Own.Tt}{pos:Pos}(ha:PT X a (tTt X i Z ma)):PW X (.BoolOp .And [a] pos) (tTt X i Z ma):=BB ha
theorem Fz{a:Expr}{ma:Own.Tt}{pos:Pos}(ha:PT X a (tTt X i Z ma)):PW X (.BoolOp .Or [a] pos) (tTt X i Z ma):=FD ha
theorem F1{c a b:Expr}{mc:Own.Tt}{ma mb:Own.E}{pos:Pos}(hc:PT X c (tTt X i Z mc))(ha:PE X a (tE X i Z ma))(hb:PE X b (tE X i Z mb)):PE X (.IfExp c a b pos) (tE X i Z (.ife mc ma mb)) :=
 (O9 hc ha hb).imp fun σ H Q ⟨env,G,Qm,Em,p,w,c⟩=>by
  rw[Own.q_e_ife]at w;refine⟨env,G,_,Em,p,w,fun d G1 H1 k1 g1 q=>?_⟩;cases d with
  |true=>exact⟨env,G1,Qm,Em,p.go k1 g1,by simpa using q,c.go k1⟩
  |false=>exact⟨env,G1,Qm,Em,p.go k1 g1,by simpa using q,c.go k1⟩
theorem DN:PA X [] (tAr X i Z .nil 0):=pa_nil.imp fun σ H Q ⟨env,G,Qm,Em,p,w,c⟩=>by rw[Own.q_a_nil]at w;exact c [] G H [] (Keep.refl H) p.hp .nil rfl w
theorem AS{e:Expr}{es:List Expr}{m:Own.E}{ms:Own.Es}{n:Nat}(he:PE X e (tE X i Z m))(hes:PA X es (tAr X i Z ms n))(hs:starEach (e::es) X.env=(false,eval e X.env)::starEach es X.env):PA X (e::es) (tAr X i Z (.cons m ms) (n+1)) :=
 (ZT he hes hs).imp fun σ H Q ⟨env,G,Qm,Em,p,w,c⟩=>by rw[Own.q_a_cons]at w;exact⟨env,G,_,Em,p,w,fun v G1 H1 x k1 g1 r1 w1=>⟨env,G1,_,Em,p.go k1 g1,w1,fun vs G2 H2 xs k2 g2 r2 hn w2=>c (v::vs) G2 H2 (x::xs) (k1.trans k2) g2 (.cons (r1.keep k2) r2) (by rw[qB,hn]) w2⟩⟩
theorem ZE:Own.lim<=sizeLine:=by decide
theorem ZV{H:Hp}{G:Own.Hs}{Q:VK}{Qm:Own.Q1}{o:Own.Ob}{u:HO}(g:RH i G H)(w:Own.new G o Qm)(c:Cn i H Q Qm)(r:∀ p,H p=none->RO i (upd H p u) p o):∀ p,H p=none->Q (.ref p) (upd H p u):=fun p hp=>by unfold Own.new at w;exact c (.ref p) _ _ (.ref p) (Keep.new hp) (g.put (Keep.new hp) (r p hp)) (.ref p) (w p (g.free hp))
end Snd
namespace HT2
open PySem PySem.Spec PyProof.Rows L2
def ZN:List Int->List Int->Bool
 |[],[]=>false
 |[],_::_=>false
 |_::_,[]=>true
 |x::xs,y::ys=>if x=y then ZN xs ys else decide (x > y)
theorem Uf(A:Around)(s:Shared)(a:Int)(t:Tok)(c:Int)(u:Tok)(prog:Program)(w:World)(E:Value->Shared->Prop)(Q:Value->Shared->Prop)(h:Q (.bool (decide (a > c))) s) :
  wpAny (model prog w) A (richCompare .Gt (.int a t) (.int c u)) Q E s :=
 (PyProof.Rows.gt_int h:wpAny (model prog w) A (compareOp .Gt (.int a t) (.int c u)) Q E s)
section
open PySem.SeqAt
open PySem.AutoSeq1 (wpAny_loadPart')
open PySem.MeetsSeq PySem.MeetsSeq2 PySem.MeetsSeq3
theorem Wr(l b:Addr)(items items2:Array Value)(n n2:Nat)(dd dd2:Option Addr)(sl sl2:Array (Option Value))(ns ms:List Int)(hi:IntsAre items.toList ns)(hj:IntsAre items2.toList ms) :
  Meets (Builtin.«tuple.__gt__» ⟨[.ref l,.ref b],[]⟩)
   (fun _ R s=>s.heap.get? l=some { cls:=.type "tuple",dict:=dd,data:=.seq items n,slots:=sl }/\s.heap.get? b=some { cls:=.type "tuple",dict:=dd2,data:=.seq items2 n2,slots:=sl2 }/\
     R (.ok (.ret (.bool (ZN ns ms)))) s) :=
 .of_wp fun prog w A R s h=>by
  obtain⟨hp,g,d,tk,os⟩:=s;obtain⟨hl,hb,h⟩:=h;have f2:=AutoSeq1.sub_tuple_tuple;have z1:items.size=ns.length:=by rw[<-hi.length];simp
  have z2:items2.size=ms.length:=by rw[<-hj.length];simp
  wp_walk using wpAny_loadPart' hl,wpAny_loadPart' hb,wpAny_forIn_list _ (fun rest b s'=>b.1=none/\s'=⟨hp,g,d,tk,os⟩/\∃ (vs ws:List Value) (ns' ms':List Int),rest=vs.zip ws/\
    IntsAre vs ns'/\IntsAre ws ms'/\ns'.length+items2.size=ms'.length+items.size/\R (.ok (.ret (.bool (ZN ns' ms')))) ⟨hp,g,d,tk,os⟩) _
  case turn =>
   rintro⟨y,x⟩ rest b s' ⟨hb',rfl,vs,ws,ns',ms',hz,hvi,hwi,hlen,hR⟩;cases hvi with
   |nil=>rw[List.zip_nil_left]at hz;cases hz
   |cons a t hvi' =>
    cases hwi with
    |nil=>rw[List.zip_nil_right]at hz;cases hz
    |cons c u hwi' =>
     rw[List.zip_cons_cons]at hz;injection hz with hyx hrest;injection hyx with hy hx;subst hy hx;rw[ZN]at hR;simp only[qB]at hlen;obtain⟨e,he,hiff⟩:=HT.eqAt_int A.in1 ⟨hp,g,d,tk,os⟩ a t c u;refine wpAny_bind (he prog w _ _ ?_);cases e with
     |true =>
      rw[if_pos (hiff.mp rfl)]at hR
      wp_walk
      exact⟨rfl,rfl,_,_,_,_,hrest,hvi',hwi',by omega,hR⟩
     |false =>
      rw[if_neg (fun q=>absurd (hiff.mpr q) Bool.false_ne_true)]at hR;have hri:=Uf A.in1 ⟨hp,g,d,tk,os⟩ a t c u prog w
      wp_walk using hri
      exact⟨_,rfl,by simpa using hR⟩
  case fin =>
   rintro⟨b1,b2⟩ s' ⟨hb',rfl,vs,ws,ns',ms',hz,hvi,hwi,hlen,hR⟩;simp only at hb';subst hb';have hv:ZN ns' ms'=decide (items.size > items2.size):=by
    cases hvi with
    |nil =>
     cases hwi with
     |nil =>simp only[List.length_nil]at hlen;rw[ZN];exact(qP (by omega)).symm
     |cons c u hw =>simp only[List.length_nil,qB]at hlen;rw[ZN];exact(qP (by omega)).symm
    |cons a t hv =>
     cases hwi with
     |nil =>simp only[List.length_nil,qB]at hlen;rw[ZN];exact(qQ (by omega)).symm
     |cons c u hw =>rw[List.zip_cons_cons]at hz;cases hz
   rw[hv]at hR
   wp_walk
   exact⟨_,rfl,by simpa[Builtin.Tuple.tupleCompareSizes]using hR⟩
  case h =>exact⟨rfl,rfl,items.toList,items2.toList,ns,ms,rfl,hi,hj,by omega,h⟩
end
theorem Ms{prog:Program}{w:World}{A:Around}{E:Value->Shared->Prop}{s:Shared}{l b:Addr}{items items2:Array Value}{ns ms:List Int}{Q:Value->Shared->Prop}(hl:IsTup s.heap l items)(hb:IsTup s.heap b items2)(hi:IntsAre items.toList ns)(hj:IntsAre items2.toList ms)
  (hu:A.units<cLine) (h:Q (.bool (ZN ns ms)) s):wpAny (model prog w) A (compareOp .Gt (.ref l) (.ref b)) Q E s:=by
 obtain⟨⟨cls,dd,data,sl⟩,ho,hc,n,hd⟩:=id hl;obtain⟨⟨cls2,dd2,data2,sl2⟩,ho2,hc2,n2,hd2⟩:=id hb;simp only at hc hd hc2 hd2;subst hc hd hc2 hd2;exact richCompare_meets_room (op:=.Gt) ⟨_,ho,rfl⟩ ⟨_,ho2,rfl⟩ PySem.F.slot_tuple_gt PySem.F.entry_tuple_gt (PySem.F.args_tuple_gt_2 _ _) (Wr l b items items2 n n2 dd dd2 sl sl2 ns ms hi hj)
  ⟨ho,ho2,show Value.bool (ZN ns ms)≠Value.notImplemented/\Q (.bool (ZN ns ms)) s from ⟨(fun x=>nomatch x),h⟩⟩ hu
def rGtT (K:PySem.W.Frag):R2:=fun x y H Q=>∃ a b ns ms,x=.ref a/\y=.ref b/\SqT K H a (ns.map V.int)/\SqT K H b (ms.map V.int)/\Q (.bl (ZN ns ms)) H
theorem op_gtT{X:Cx}(hu:X.A.units<cLine):OpR X (compareOp .Gt) (rGtT X.K):=by intro pins s σ H x y v u Q I rx ry h;obtain⟨a,b,ns,ms,rfl,rfl,ha,hb,q⟩:=h;cases rx;cases ry;obtain⟨its,r1,p1,_⟩:=I.tuple ha;obtain⟨its2,r2,p2,_⟩:=I.tuple hb;have i1:IntsAre its.toArray.toList ns:=ZF r1;have i2:IntsAre its2.toArray.toList ms:=ZF r2;exact Ms p1 p2 i1 i2 hu ⟨.bl (ZN ns ms),H,I,rfl,q⟩
theorem lexGt_lt:∀ (ns ms:List Int),ZN ns ms=HT.lexLt ms ns
 |[],[]=>rfl
 |[],_::_=>rfl
 |_::_,[]=>rfl
 |x::xs,y::ys=>by
  rw[ZN,HT.lexLt_cons,lexGt_lt xs ys];by_cases e:x=y
  .rw[if_pos e,if_pos e.symm]
  .rw[if_neg e,if_neg (fun z=>e z.symm)]
end HT2
namespace Snd
open PySem L2
mutual
noncomputable def toD:Own.D->PyData
 |.non=>.none
 |.bl b=>.bool b
 |.int i=>.int i
 |.str s=>.str (Str.ofString s)
 |.tup ds=>.tuple (toDs ds)
 |.lst ds=>.list (toDs ds)
noncomputable def toDs:List Own.D->List PyData
 |[]=>[]
 |d::ds=>toD d::toDs ds
end
theorem ofS_inj{s t:String}:Str.ofString s=Str.ofString t↔s=t:=by
 constructor
 .intro h;rw[Str.ofString_eq_toList,Str.ofString_eq_toList]at h;injection h with h;have h2:s.toList.map Char.toNat=t.toList.map Char.toNat:=by simpa using congrArg Array.toList h
  have inj:∀ {a b:Char},a.toNat=b.toNat->a=b:=fun {a b} e=>Char.ext (UInt32.toNat.inj e);have:s.toList=t.toList:=by
   revert h2;generalize s.toList=a;generalize t.toList=b;intro h2;induction a generalizing b with
   |nil=>cases b with
    |nil=>rfl
    |cons _ _=>cases h2
   |cons x xs ih=>cases b with
    |nil=>cases h2
    |cons y ys =>simp only[qG,List.cons.injEq]at h2;rw[inj h2.1,ih _ h2.2]
  exact String.toList_inj.mp this
 .rintro rfl;rfl
theorem Bl(s t:String):(Str.ofString s==Str.ofString t)=(s==t):=by
 by_cases e:s=t
 .subst e;simp
 .have:Str.ofString s≠Str.ofString t:=fun z=>e (ofS_inj.mp z);rw[beq_eq_false_iff_ne.mpr this,beq_eq_false_iff_ne.mpr e]
theorem Oh(s:String):PyData.strOk (Str.ofString s)=true:=by
 rw[Str.ofString_eq_toList];unfold PyData.strOk;rw[Array.all_eq_true'];intro n hn;have:n∈s.toList.map Char.toNat:=by simpa using hn
 obtain⟨c,_,rfl⟩:=qZ.mp this;have:=c.valid;have h2:c.toNat=c.val.toNat:=rfl;simp only[UInt32.isValidChar,Nat.isValidChar]at this;simp only[decide_eq_true_eq];omega
mutual
theorem JC:∀ d e:Own.D,PyData.eqv (toD d) (toD e)=Own.D.eqv d e
 |.non,e=>by cases e<;>simp[toD,PyData.eqv,Own.D.eqv]
 |.bl _,e=>by cases e<;>simp[toD,PyData.eqv,Own.D.eqv]
 |.int _,e=>by cases e<;>simp[toD,PyData.eqv,Own.D.eqv]
 |.str s,e=>by cases e<;>simp only[toD,PyData.eqv,Own.D.eqv];exact Bl _ _
 |.tup ds,e=>by cases e<;>simp only[toD,PyData.eqv,Own.D.eqv];exact toDs_eqv _ _
 |.lst ds,e=>by cases e<;>simp only[toD,PyData.eqv,Own.D.eqv];exact toDs_eqv _ _
theorem toDs_eqv:∀ ds es:List Own.D,PyData.eqvAll (toDs ds) (toDs es)=Own.D.eqvs ds es
 |[],[]=>by simp[toDs,PyData.eqvAll,Own.D.eqvs]
 |[],_::_=>by simp[toDs,PyData.eqvAll,Own.D.eqvs]
 |_::_,[]=>by simp[toDs,PyData.eqvAll,Own.D.eqvs]
 |d::ds,e::es=>by simp only[toDs,PyData.eqvAll,Own.D.eqvs,JC d e,toDs_eqv ds es]
end
mutual
theorem JA:∀ d:Own.D,(toD d).canLay0=true
 |.non=>by simp[toD,PyData.canLay0]
 |.bl _=>by simp[toD,PyData.canLay0]
 |.int _=>by simp[toD,PyData.canLay0]
 |.str s=>by simp only[toD,PyData.canLay0];exact Oh s
 |.tup ds=>by simp only[toD,PyData.canLay0];exact toDs_lay ds
 |.lst ds=>by simp only[toD,PyData.canLay0];exact toDs_lay ds
theorem toDs_lay:∀ ds:List Own.D,PyData.canLayAll0 (toDs ds)=true
 |[]=>by simp[toDs,PyData.canLayAll0]
 |d::ds=>by simp only[toDs,PyData.canLayAll0,JA d,toDs_lay ds,Bool.and_self]
end
section
variable {i:Inf}{G:Own.Hs}{H:Hp}
theorem N6{α β:Type}{f:α->Option β}:∀ {xs:List α}{ys:List β},xs.mapM f=some ys->List.length xs=ys.length/\∀ (n:Nat) (x:α),xs[n]?=some x->∃ y,ys[n]?=some y/\f x=some y:=by
 intro xs;induction xs with
 |nil=>intro ys h;simp at h;subst h;exact⟨rfl,fun n x e=>by simp at e⟩
 |cons a as ih =>
  intro ys h;rw[List.mapM_cons]at h;cases e:f a with
  |none=>rw[e]at h;simp at h
  |some b =>
   rw[e]at h;cases e2:as.mapM f with
   |none=>rw[e2]at h;simp at h
   |some bs =>
    rw[e2]at h;simp at h;subst h;obtain⟨h1,h2⟩:=ih e2;refine⟨by simp[h1],fun n x hn=>?_⟩;cases n with
    |zero=>simp at hn;subst hn;exact⟨b,rfl,e⟩
    |succ n=>simp at hn ⊢;exact h2 n x hn
theorem M2{K:PySem.W.Frag}{f:Own.Val->Option Own.D}(hf:∀ v d x,f v=some d->RV K H v x->IsD K H x (toD d)):∀ {vs:List Own.Val}{xs:List V}{ds:List Own.D},vs.mapM f=some ds->RVs K H vs xs->IsDs K H xs (toDs ds):=by
 intro vs;induction vs with
 |nil=>intro xs ds h r;simp at h;subst h;cases r;exact .nil
 |cons a as ih =>
  intro xs ds h r;rw[List.mapM_cons]at h;cases e:f a with
  |none=>rw[e]at h;simp at h
  |some b =>
   rw[e]at h;cases e2:as.mapM f with
   |none=>rw[e2]at h;simp at h
   |some bs =>
    rw[e2]at h;simp at h;subst h;cases r with
    |cons r1 r2=>exact .cons (hf a b _ e r1) (ih e2 r2)
theorem ZB(g:RH i G H){a:Addr}{xs:List Own.Val}(e:Own.lsOf (G a)=some xs):∃ vs,SqL i.K H a vs/\RVs i.K H xs vs:=by
 cases q:G a with
 |none=>rw[q]at e;cases e
 |some o =>
  rw[q]at e;cases o with
  |lst ys=>cases e;obtain⟨vs,h,r⟩:=g a _ q;exact⟨vs,SqL.of h,r⟩
  |dct _=>cases e
  |ins _ _=>cases e
  |exc _=>cases e
  |frz _=>cases e
  |dtp _=>cases e
theorem W2:∀ ns:List Int,toDs (ns.map Own.D.int)=ns.map PyData.int
 |[]=>by simp[toDs]
 |n::ns=>by simp only[qG,toDs,toD,W2 ns]
theorem YQ(g:RH i G H):∀ (n:Nat) (v:Own.Val) (d:Own.D) (x:V),Own.dat G n v=some d->RV i.K H v x->IsD i.K H x (toD d):=by
 intro n;induction n with
 |zero =>
  intro v d x e r;cases v with
  |non=>cases r;simp[Own.dat]at e;subst e;rw[toD];exact .non
  |bl b=>cases r;simp[Own.dat]at e;subst e;rw[toD];exact .bl b
  |int b=>cases r;simp[Own.dat]at e;subst e;rw[toD];exact .int b
  |str s=>cases r;simp[Own.dat]at e;subst e;rw[toD];exact .str _
  |tup xs=>simp[Own.dat]at e
  |ref a=>simp[Own.dat]at e
  |scr ns=>simp[Own.dat]at e
  |key _ _=>simp[Own.dat]at e
 |succ n ih =>
  intro v d x e r;cases v with
  |non=>cases r;simp[Own.dat]at e;subst e;rw[toD];exact .non
  |bl b=>cases r;simp[Own.dat]at e;subst e;rw[toD];exact .bl b
  |int b=>cases r;simp[Own.dat]at e;subst e;rw[toD];exact .int b
  |str s=>cases r;simp[Own.dat]at e;subst e;rw[toD];exact .str _
  |tup xs =>
   rw[Own.dat]at e;cases z:xs.mapM (Own.dat G n)with
   |none=>rw[z]at e;cases e
   |some ds =>
    rw[z]at e;cases e;cases r with
    |tup hp hr=>rw[toD];exact .tup (Zl hp) (M2 ih z hr)
  |ref a =>
   rw[Own.dat]at e;cases q:Own.lsOf (G a)with
   |none=>rw[q]at e;cases e
   |some xs =>
    rw[q]at e;simp only[Option.bind_some]at e;cases z:xs.mapM (Own.dat G n)with
    |none=>rw[z]at e;cases e
    |some ds =>rw[z]at e;cases e;cases r.ref_inv;obtain⟨vs,h1,h2⟩:=ZB g q;rw[toD];exact .lst h1 (M2 ih z h2)
  |scr ns =>
   simp[Own.dat]at e;subst e;cases r with
   |scr h =>rw[toD,W2];exact .lst (ZR h) (IsDs.ints ns)
  |key _ _=>simp[Own.dat]at e
theorem Yw{n:Nat}:∀ {ds:List Own.D},(∀ d∈ds,(toD d).depth<=n)->PyData.depthAll (toDs ds)<=n
 |[],_=>by rw[toDs];simp[PyData.depthAll]
 |d::ds,h=>by rw[toDs];simp only[PyData.depthAll];exact Nat.max_le.mpr ⟨h d (by simp),Yw fun e he=>h e (by simp[he])⟩
theorem WR:∀ (n:Nat) (v:Own.Val) (d:Own.D),Own.dat G n v=some d->(toD d).depth<=n:=by
 have sc:∀ (n:Nat) (v:Own.Val) (d:Own.D),(∀ xs,v≠.tup xs)->(∀ a,v≠.ref a)->(∀ ns,v≠.scr ns)->Own.dat G n v=some d->(toD d).depth<=n:=by
  intro n v d h1 h2 h3 e;cases v with
  |tup xs=>exact absurd rfl (h1 xs)
  |ref a=>exact absurd rfl (h2 a)
  |scr ns=>exact absurd rfl (h3 ns)
  |key _ _=>cases n<;>simp[Own.dat]at e
  |_=>simp[Own.dat]at e;subst e;simp[toD,PyData.depth]
 have ms:∀ (n:Nat),(∀ v d,Own.dat G n v=some d->(toD d).depth<=n)->∀ (xs:List Own.Val) (ds:List Own.D),xs.mapM (Own.dat G n)=some ds->PyData.depthAll (toDs ds)<=n:=by
  intro n ih xs ds z;refine Yw fun d hd=>?_;obtain⟨k,hk⟩:=List.mem_iff_getElem?.mp hd;obtain⟨h1,h2⟩:=N6 z;have hlt:k<xs.length:=by rw[h1];exact(qK.mp hk).1
  obtain⟨y,hy,hf⟩:=h2 k xs[k] (qH hlt);rw[hk]at hy;cases hy;exact ih _ _ hf
 intro n;induction n with
 |zero =>
  intro v d e;cases v with
  |tup xs=>simp[Own.dat]at e
  |ref a=>simp[Own.dat]at e
  |scr ns=>simp[Own.dat]at e
  |_=>exact sc 0 _ d (by simp) (by simp) (by simp) e
 |succ n ih =>
  intro v d e;cases v with
  |tup xs =>
   rw[Own.dat]at e;cases z:xs.mapM (Own.dat G n)with
   |none=>rw[z]at e;cases e
   |some ds =>rw[z]at e;cases e;rw[toD];exact Nat.succ_le_succ (ms n ih xs ds z)
  |ref a =>
   rw[Own.dat]at e;cases q:Own.lsOf (G a)with
   |none=>rw[q]at e;cases e
   |some xs =>
    rw[q]at e;simp only[Option.bind_some]at e;cases z:xs.mapM (Own.dat G n)with
    |none=>rw[z]at e;cases e
    |some ds =>rw[z]at e;cases e;rw[toD];exact Nat.succ_le_succ (ms n ih xs ds z)
  |scr ns =>simp[Own.dat]at e;subst e;rw[toD];refine Nat.succ_le_succ (zE ?_ (Nat.zero_le n));refine Yw fun d hd=>?_;obtain⟨m,_,rfl⟩:=qZ.mp hd;simp[toD,PyData.depth]
  |_=>exact sc (n+1) _ d (by simp) (by simp) (by simp) e
theorem Wa{v:Own.Val}{d:Own.D}(e:Own.dat G Own.deep v=some d):SeqAt.shaped (toD d)=true:=by show((toD d).canLay0&&decide ((toD d).depth<=64))=true;rw[JA,qQ (zE (WR _ _ _ e) (by decide))];rfl
theorem MX(g:RH i G H){v u:Own.Val}{x y:V}{c:Bool}(rx:RV i.K H v x)(ry:RV i.K H u y)(e:Own.eqV G v u=some c):∃ d d',IsD i.K H x d/\IsD i.K H y d'/\SeqAt.shaped d=true/\SeqAt.shaped d'=true/\PyData.eqv d d'=c:=by
 unfold Own.eqV at e;cases z:Own.dat G Own.deep v with
 |none=>rw[z]at e;cases e
 |some d =>
  cases z2:Own.dat G Own.deep u with
  |none=>rw[z,z2]at e;cases e
  |some d' =>rw[z,z2]at e;cases e;exact⟨_,_,YQ g _ _ _ _ z rx,YQ g _ _ _ _ z2 ry,Wa z,Wa z2,JC d d'⟩
theorem HW:ZI i .eq (GK i.K):=by intro v u G H x y c Q g rx ry e q;obtain⟨d,d',h1,h2,h3,h4,h5⟩:=MX g rx ry e;exact⟨d,d',h1,h2,h3,h4,by rw[h5];exact q⟩
theorem FT:ZI i .ne (DP i.K):=by
 intro v u G H x y c Q g rx ry e q;have e:(Own.eqV G v u).map (!·)=some c:=e;cases z:Own.eqV G v u with
 |none=>rw[z]at e;cases e
 |some b =>rw[z]at e;cases e;obtain⟨d,d',h1,h2,h3,h4,h5⟩:=MX g rx ry z;exact⟨d,d',h1,h2,h3,h4,by rw[h5];exact q⟩
end
variable {i:Inf}{X:Cx}{Z:Own.Fs}
theorem Zv(s:String):(Str.ofString s).length=s.length:=by rw[Str.ofString_eq_toList];show(List.map Char.toNat s.toList).toArray.size=_;rw[qC,qA];first|rfl|exact String.length_toList
theorem Jx(s t:String):Str.ofString (s++t)=Str.ofString s++Str.ofString t:=by rw[Str.ofString_eq_toList,Str.ofString_eq_toList,Str.ofString_eq_toList];show _=Str.append _ _;unfold Str.append;simp
theorem Ol{o:Option Own.Ob}{xs:List Own.Val}(h:Own.lsOf o=some xs):o=some (.lst xs):=by
 cases o with
 |none=>cases h
 |some o=>cases o with
  |lst ys=>cases h;rfl
  |_=>cases h
theorem Zy{α:Type}{p:Prop}[Decidable p]{o:Option α}{a:α}(e:(if p then o else none)=some a):p/\o=some a:=by
 by_cases q:p
 .rw[if_pos q]at e;exact⟨q,e⟩
 .rw[if_neg q]at e;cases e
theorem Zp{h:Own.Hs}{Q:Own.Q1}(w:Own.Rs.no.wp h Q):False:=by rw[Own.Rs.wp_no]at w;exact w
theorem Zs{v:Own.Val}{h:Own.Hs}{Q:Own.Q1}(w:(Own.Rs.val v).wp h Q):Q v h:=by rw[Own.Rs.wp_val]at w;exact w
theorem JD{o:Own.Ob}{h:Own.Hs}{Q:Own.Q1}(w:(Own.Rs.new o).wp h Q):Own.new h o Q:=by rw[Own.Rs.wp_new]at w;exact w
theorem Yq{p:Prop}[Decidable p]{r:Own.Rs}{h:Own.Hs}{Q:Own.Q1}(w:(if p then r else .no).wp h Q):p/\r.wp h Q:=by
 by_cases e:p
 .rw[if_pos e]at w;exact⟨e,w⟩
 .rw[if_neg e]at w;exact(Zp w).elim
theorem XD{f:Int->Int->Own.Rs}{v u:Own.Val}{h:Own.Hs}{Q:Own.Q1}(w:(Own.intV f v u).wp h Q):∃ i j,v=.int i/\u=.int j/\(f i j).wp h Q:=by
 cases v with
 |int i=>cases u with
  |int j=>exact⟨i,j,rfl,rfl,w⟩
  |_=>exact(Zp w).elim
 |_=>exact(Zp w).elim
noncomputable def CH (K:PySem.W.Frag):R2:=fun x y H Q=>(rI0 (fun i j=>.int (i+j))) x y H Q\/(((C4 K x y H Q\/CT K x y H Q)\/FX x y H Q)\/∃ i j,x=.str i/\y=.str j/\i.length+j.length<=sizeLine/\Q (.str (i++j)) H)
theorem GP:OpR X (binaryOp .Add) (CH X.K):=op_add.or (((op_cat0.or BE).or Ej).or Ma)
theorem b_add:XJ i .add (CH i.K):=by
 intro v u G H x y Q Qm g rx ry w c;cases v<;>cases u<;>first|exact(Zp w).elim|skip
 case int.int a b =>
  replace w:=Zs w
  exact .inl ⟨a,b,rx.int_inv,ry.int_inv,c _ G H _ (Keep.refl H) g (.int _) w⟩
 case str.str a b =>
  obtain⟨h,w⟩:=Yq w
  replace w:=Zs w
  refine .inr (.inr ⟨_,_,rx.str_inv,ry.str_inv,?_,?_⟩)
  .rw[Zv,Zv];exact zE h ZE
  .rw[<-Jx];exact c _ G H _ (Keep.refl H) g (.str _) w
 case tup.tup xs ys =>
  obtain⟨h,w⟩:=Yq w
  replace w:=Zs w
  .skip
   cases rx with
   |@tup _ p vs hp hr =>
   cases ry with
   |@tup _ q us hq hs =>
   by_cases h0:vs=[]
   .subst h0;have:xs=[]:=List.eq_nil_of_length_eq_zero hr.length;subst this;exact .inr (.inl (.inl (.inl ⟨p,q,us,rfl,rfl,Zl hp,Zl hq,c _ G H _ (Keep.refl H) g (.tup hq hs) w⟩)))
   refine .inr (.inl (.inl (.inr ⟨p,q,vs,us,rfl,rfl,Zl hp,Zl hq,h0,?_,fun z=>?_,fun z a ha=>?_⟩)))
   .rw[<-hr.length,<-hs.length];exact zE h ZE
   .have:ys=[]:=List.eq_nil_of_length_eq_zero (by rw[hs.length,z];rfl);subst this;rw[zB]at w;exact c _ G H _ (Keep.refl H) g (.tup hp hr) w
   .have k:=Keep.new (o:=.tup (vs++us)) ha;refine c _ G _ _ k (g.hid k fun b o e=>upd_ne ?_) (.tup (.inl upd_same) ((hr.keep k).append (hs.keep k))) w;rintro rfl;rw[g.free ha]at e;cases e
 case ref.ref a b =>
  dsimp only[Own.binV,Own.addV]at w;split at w
  .rename_i xs ys e1 e2;unfold Own.Rs.lst at w;split at w
   .rename_i hl;rw[Own.Rs.wp_new]at w;cases rx.ref_inv;cases ry.ref_inv;obtain⟨vs,h1,r1⟩:=g a _ e1;obtain⟨us,h2,r2⟩:=g b _ e2;refine .inr (.inl (.inr ⟨a,b,vs,us,rfl,rfl,h1,h2,?_,ZV g w c fun p hp=>?_⟩))
    .rw[<-r1.length,<-r2.length,<-qU];exact zE hl ZE
    .have k:=Keep.new (o:=.lst (vs++us)) hp;exact⟨_,upd_same,(r1.keep k).append (r2.keep k)⟩
   .exact(Zp w).elim
  .exact(Zp w).elim
theorem b_sub:XJ i .sub (rI0 fun i j=>.int (i - j)):=by intro v u G H x y Q Qm g rx ry w c;obtain⟨a,b,rfl,rfl,w⟩:=XD w;exact⟨a,b,rx.int_inv,ry.int_inv,c _ G H _ (Keep.refl H) g (.int _) (Zs w)⟩
theorem RVs.rep{K:PySem.W.Frag}{H:Hp}{vs:List Own.Val}{xs:List V}(r:RVs K H vs xs):∀ n,RVs K H (List.replicate n vs).flatten (List.replicate n xs).flatten
 |0=>.nil
 |n+1=>by rw[List.replicate_succ,List.replicate_succ,List.flatten_cons,List.flatten_cons];exact r.append (RVs.rep r n)
set_option exponentiation.threshold 2000 in
theorem Dx{i j:Int}(h:Own.mulOk i j):IntMulOk i j:=by
 rcases h with(h|h)|⟨h1,h2⟩
 .exact .of_left (intBits_le_64 (by omega) (by omega))
 .exact .of_right (intBits_le_64 (by omega) (by omega))
 .have e:(10:Nat) ^ 200<2 ^ 1000:=by decide
  exact .of_bits (zE (PyProof.Rows.intBits_le (qS h1 e)) (by decide)) (zE (PyProof.Rows.intBits_le (qS h2 e)) (by decide))
theorem Bx(s:String)(n:Nat):Ek (Str.ofString s) n=Str.ofString (Own.repT s n):=by unfold Ek Own.repT;rw[Str.ofString_eq_toList,Str.ofString_eq_toList,String.toList_ofList];congr 1;apply Array.toList_inj.mp;rw[WM];simp[List.map_flatten,List.map_replicate]
noncomputable def C5:R2:=fun x y H Q=>rI Own.mulOk (fun i j=>.int (i*j)) x y H Q\/(FU x y H Q\/CQ x y H Q)
theorem Ge:OpR X (binaryOp .Mult) C5:=OpR.or (opI fun _ _ _ _ _ _ _ hc q=>PyProof.Rows.mul_int q (Dx hc)) (op_rep.or Bp)
theorem b_mul:XJ i .mul C5:=by
 intro v u G H x y Q Qm g rx ry w c;cases v<;>cases u<;>first|exact(Zp w).elim|skip
 case int.int a b =>obtain⟨h,w⟩:=Yq w;exact .inl ⟨a,b,rx.int_inv,ry.int_inv,h,c _ G H _ (Keep.refl H) g (.int _) (Zs w)⟩
 case ref.int a k =>
  dsimp only[Own.binV,Own.mulV]at w;split at w
  .rename_i xs e1;split at w
   .rename_i hk;unfold Own.Rs.lst at w;split at w
    .rw[Own.Rs.wp_new]at w;cases rx.ref_inv;cases ry.int_inv;obtain⟨vs,h1,r1⟩:=g a _ e1;refine .inr (.inl ⟨a,k,vs,rfl,rfl,h1,by omega,by omega,?_,ZV g w c fun p hp=>?_⟩)
     .rw[<-r1.length];exact zE hk.2.2 ZE
     .have kk:=Keep.new (o:=.lst (List.replicate k.toNat vs).flatten) hp;exact⟨_,upd_same,(r1.keep kk).rep _⟩
    .exact(Zp w).elim
   .exact(Zp w).elim
  .exact(Zp w).elim
 case str.int a k =>
  obtain⟨hk,w⟩:=Yq w
  replace w:=Zs w
  refine .inr (.inr ⟨_,k,rx.str_inv,ry.int_inv,hk.1,hk.2.1,by rw[Zv];exact hk.2.2.1,by rw[Zv];exact hk.2.2.2,?_⟩);rw[Bx];exact c _ G H _ (Keep.refl H) g (.str _) w
theorem b_fdiv:XJ i .fdiv (rI He fun i j=>.int (i / j)):=by intro v u G H x y Q Qm g rx ry w c;obtain⟨a,b,rfl,rfl,w⟩:=XD w;obtain⟨h,w⟩:=Yq w;exact⟨a,b,rx.int_inv,ry.int_inv,h,c _ G H _ (Keep.refl H) g (.int _) (Zs w)⟩
theorem b_mod:XJ i .mod (rI (fun _ j=>0<j) fun i j=>.int (i % j)):=by intro v u G H x y Q Qm g rx ry w c;obtain⟨a,b,rfl,rfl,w⟩:=XD w;obtain⟨h,w⟩:=Yq w;exact⟨a,b,rx.int_inv,ry.int_inv,h,c _ G H _ (Keep.refl H) g (.int _) (Zs w)⟩
theorem b_pow:XJ i .pow (rI HI fun i j=>.int (i ^ j.toNat)):=by intro v u G H x y Q Qm g rx ry w c;obtain⟨a,b,rfl,rfl,w⟩:=XD w;obtain⟨h,w⟩:=Yq w;exact⟨a,b,rx.int_inv,ry.int_inv,h,c _ G H _ (Keep.refl H) g (.int _) (Zs w)⟩
theorem ZP{K:PySem.W.Frag}{H:Hp}:∀ {xs:List Own.Val}{ns:List Int}{vs:List V},Own.intsOf xs=some ns->RVs K H xs vs->vs=ns.map V.int
 |[],_,_,e,.nil=>by cases e;rfl
 |.int k::xs,_,_,e,.cons r t=>by
  simp only[Own.intsOf]at e;cases z:Own.intsOf xs with
  |none=>rw[z]at e;cases e
  |some ns=>rw[z]at e;cases e;cases r;rw[ZP z t];rfl
 |.non::_,_,_,e,_=>by cases e
 |.bl _::_,_,_,e,_=>by cases e
 |.str _::_,_,_,e,_=>by cases e
 |.tup _::_,_,_,e,_=>by cases e
 |.ref _::_,_,_,e,_=>by cases e
 |.scr _::_,_,_,e,_=>by cases e
theorem Nw:∀ (ns ms:List Int),Own.lexI ns ms=HT.lexLt ns ms
 |[],[]=>rfl
 |[],_::_=>rfl
 |_::_,[]=>rfl
 |x::xs,y::ys=>by rw[Own.lexI,HT.lexLt_cons,Nw xs ys]
noncomputable def Hy (K:PySem.W.Frag):R2:=fun x y H Q=>rI0 (fun i j=>.bl (decide (i<j))) x y H Q\/GH K x y H Q
theorem IG(hu:X.A.units<cLine):OpR X (compareOp .Lt) (Hy X.K):=op_lt.or (Ep hu)
noncomputable def F4 (K:PySem.W.Frag):R2:=fun x y H Q=>rI0 (fun i j=>.bl (decide (j<i))) x y H Q\/HT2.rGtT K x y H Q
theorem Iw(hu:X.A.units<cLine):OpR X (compareOp .Gt) (F4 X.K):=op_gt.or (HT2.op_gtT hu)
theorem CP{H:Hp}{K:PySem.W.Frag}{xs ys:List Own.Val}{x y:V}{c:Bool}(rx:RV K H (.tup xs) x)(ry:RV K H (.tup ys) y)(e:Own.ltV (.tup xs) (.tup ys)=some c):∃ a b ns ms,x=.ref a/\y=.ref b/\SqT K H a (ns.map V.int)/\SqT K H b (ms.map V.int)/\HT.lexLt ns ms=c:=by
 simp only[Own.ltV]at e;cases z1:Own.intsOf xs with
 |none=>rw[z1]at e;cases e
 |some ns =>
  cases z2:Own.intsOf ys with
  |none=>rw[z1,z2]at e;cases e
  |some ms =>
   rw[z1,z2]at e;cases e;cases rx with
   |@tup _ p vs hp hr =>
   cases ry with
   |@tup _ q us hq hs =>
   have h1:=ZP z1 hr;have h2:=ZP z2 hs;subst h1 h2;exact⟨p,q,ns,ms,rfl,rfl,Zl hp,Zl hq,(Nw _ _).symm⟩
theorem c_lt:ZI i .lt (Hy i.K):=by
 intro v u G H x y c Q g rx ry e q
 replace e:Own.ltV v u=some c:=e
 cases v<;>cases u<;>first|(cases e;done)|skip
 case int.int a b=>cases e;exact .inl ⟨a,b,rx.int_inv,ry.int_inv,q⟩
 case tup.tup xs ys =>obtain⟨a,b,ns,ms,h1,h2,h3,h4,h5⟩:=CP rx ry e;exact .inr ⟨a,b,ns,ms,h1,h2,h3,h4,by rw[h5];exact q⟩
theorem c_gt:ZI i .gt (F4 i.K):=by
 intro v u G H x y c Q g rx ry e q
 replace e:Own.ltV u v=some c:=e
 cases v<;>cases u<;>first|(cases e;done)|skip
 case int.int a b=>cases e;exact .inl ⟨a,b,rx.int_inv,ry.int_inv,q⟩
 case tup.tup xs ys =>obtain⟨a,b,ns,ms,h1,h2,h3,h4,h5⟩:=CP ry rx e;exact .inr ⟨b,a,ms,ns,h2,h1,h4,h3,by rw[HT2.lexGt_lt,h5];exact q⟩
theorem CD{v u:Own.Val}{c:Bool}(e:Own.leV v u=some c):∃ i j,v=.int i/\u=.int j/\decide (i<=j)=c:=by
 cases v with
 |int i=>cases u with
  |int j=>cases e;exact⟨i,j,rfl,rfl,rfl⟩
  |_=>cases e
 |_=>cases e
theorem c_le:ZI i .le (rI0 fun i j=>.bl (decide (i<=j))):=by intro v u G H x y c Q g rx ry e q;obtain⟨a,b,rfl,rfl,rfl⟩:=CD e;exact⟨a,b,rx.int_inv,ry.int_inv,q⟩
theorem c_ge:ZI i .ge (rI0 fun i j=>.bl (decide (j<=i))):=by intro v u G H x y c Q g rx ry e q;obtain⟨a,b,rfl,rfl,rfl⟩:=CD e;exact⟨b,a,rx.int_inv,ry.int_inv,q⟩
theorem RV.isN{K:PySem.W.Frag}{H:Hp}{v:Own.Val}{x:V}(r:RV K H v x):decide (x=.non)=decide (v=.non):=by cases r<;>simp
theorem FR{a:Expr}{ma:Own.E}{pos p2:Pos}{j:Nat}(ha:PE X a (tE X i Z ma)):PE X (.Compare a [.Is] [.Constant .none j p2] pos) (tE X i Z (.cmp .is ma (.cst .non))) :=
 (U5 (OH ha) rfl).imp fun σ H Q ⟨env,G,Qm,Em,p,w,c⟩=>by rw[Own.q_e_cmp]at w;refine one p w fun v G1 H1 x k1 p1 r q=>?_;rw[Own.q_e_cst]at q;obtain⟨d,e,q2⟩:=go_some q;have e:some (decide (v=.non))=some d:=e;cases e;rw[r.isN];exact c _ G1 H1 _ k1 p1.hp (.bl _) q2
theorem EG{a:Expr}{ma:Own.E}{pos p2:Pos}{j:Nat}(ha:PE X a (tE X i Z ma)):PE X (.Compare a [.IsNot] [.Constant .none j p2] pos) (tE X i Z (.cmp .isnot ma (.cst .non))) :=
 (U5 (Na ha) rfl).imp fun σ H Q ⟨env,G,Qm,Em,p,w,c⟩=>by rw[Own.q_e_cmp]at w;refine one p w fun v G1 H1 x k1 p1 r q=>?_;rw[Own.q_e_cst]at q;obtain⟨d,e,q2⟩:=go_some q;have e:some (!decide (v=.non))=some d:=e;cases e;rw[r.isN];exact c _ G1 H1 _ k1 p1.hp (.bl _) q2
theorem DK{a:Expr}{ma:Own.E}{pos p2:Pos}{j:Nat}(ha:PE X a (tE X i Z ma)):PT X (.Compare a [.Is] [.Constant .none j p2] pos) (tTt X i Z (.val (.cmp .is ma (.cst .non)))) :=
 (AD (OH ha) rfl).imp fun σ H Q ⟨env,G,Qm,Em,p,w,c⟩=>by rw[Own.q_t_val,Own.q_e_cmp]at w;refine one p w fun v G1 H1 x k1 p1 r q=>?_;rw[Own.q_e_cst]at q;obtain⟨d,e,q2⟩:=go_some q;obtain⟨d',e',q3⟩:=go_some q2;cases e';have e:some (decide (v=.non))=some d:=e;cases e;rw[r.isN];exact⟨_,rfl,c _ G1 H1 k1 p1.hp q3⟩
theorem Bu{a:Expr}{ma:Own.E}{pos p2:Pos}{j:Nat}(ha:PE X a (tE X i Z ma)):PT X (.Compare a [.IsNot] [.Constant .none j p2] pos) (tTt X i Z (.val (.cmp .isnot ma (.cst .non)))) :=
 (AD (Na ha) rfl).imp fun σ H Q ⟨env,G,Qm,Em,p,w,c⟩=>by rw[Own.q_t_val,Own.q_e_cmp]at w;refine one p w fun v G1 H1 x k1 p1 r q=>?_;rw[Own.q_e_cst]at q;obtain⟨d,e,q2⟩:=go_some q;obtain⟨d',e',q3⟩:=go_some q2;cases e';have e:some (!decide (v=.non))=some d:=e;cases e;rw[r.isN];exact⟨_,rfl,c _ G1 H1 k1 p1.hp q3⟩
end Snd
namespace Snd
open PySem L2 PySem.Spec PyProof.Rows
variable {i:Inf}{X:Cx}{Z:Own.Fs}
theorem RKs.length{K:PySem.W.Frag}{H:Hp}:∀ {kvs:List (Own.Val×Own.Val)}{ps:List (Key×V)},RKs K H kvs ps->kvs.length=ps.length
 |_,_,.nil=>rfl
 |_,_,.cons _ _ t=>by rw[qB,qB,RKs.length t]
theorem XC{k j:Own.Val}{c d:Key}(a:XR k c)(b:XR j d):(k==j)=decide (c=d):=by
 have key:k=j↔c=d:=by
  cases k<;>cases c<;>first|(cases a;done)|skip
  .cases j<;>cases d<;>first|(cases b;done)|skip
   .cases a;cases b;simp
   .cases a;cases b;simp
  .cases j<;>cases d<;>first|(cases b;done)|skip
   .cases a;cases b;simp
   .cases a;cases b;simp[ofS_inj]
 by_cases e:k=j
 .rw[qQ (key.mp e),e];simp
 .rw[qP fun z=>e (key.mpr z)];simpa using e
theorem key_of{k:Own.Val}{x:V}{K:PySem.W.Frag}{H:Hp}(h:Own.isKey k=true)(r:RV K H k x):∃ c,XR k c/\x=kV c:=by
 cases k with
 |int n=>cases r.int_inv;exact⟨.inl n,rfl,rfl⟩
 |str s=>cases r.str_inv;exact⟨.inr (Str.ofString s),rfl,rfl⟩
 |_=>cases h
theorem RKs.look{K:PySem.W.Frag}{H:Hp}{k:Own.Val}{c:Key}(a:XR k c):∀ {kvs:List (Own.Val×Own.Val)}{ps:List (Key×V)},RKs K H kvs ps->
  (∀ v,Own.lookK kvs k=some v->∃ x,ZY ps c=some x/\RV K H v x)/\(Own.lookK kvs k=none->ZY ps c=none)
 |_,_,.nil=>⟨fun v e=>(by cases e),fun _=>rfl⟩
 |_,_,.cons (k:=j) (v:=u) (c:=d) (x:=y) (kvs:=kvs) (ps:=ps) b r t=>by
  have ih:=RKs.look a t;have q:=XC b a;by_cases e:d=c
  .rw[qQ e]at q;have e1:Own.lookK ((j,u)::kvs) k=some u:=by simp[Own.lookK,List.find?_cons,q]
   rw[e1,Yc e];exact⟨fun v z=>(by cases z;exact⟨y,rfl,r⟩),fun z=>(by cases z)⟩
  .rw[qP e]at q;have e1:Own.lookK ((j,u)::kvs) k=Own.lookK kvs k:=by simp[Own.lookK,List.find?_cons,q]
   rw[e1,Yg e];exact ih
theorem RKs.has{K:PySem.W.Frag}{H:Hp}{k:Own.Val}{c:Key}(a:XR k c):∀ {kvs:List (Own.Val×Own.Val)}{ps:List (Key×V)},RKs K H kvs ps->Own.hasK kvs k=ps.any fun kv=>decide (kv.1=c)
 |_,_,.nil=>rfl
 |_,_,.cons b r t=>by have ih:=RKs.has a t;unfold Own.hasK at ih ⊢;rw[List.any_cons,List.any_cons,ih,XC b a]
theorem RKs.app{K:PySem.W.Frag}{H:Hp}{k v:Own.Val}{c:Key}{x:V}(a:XR k c)(q:RV K H v x):∀ {kvs:List (Own.Val×Own.Val)}{ps:List (Key×V)},RKs K H kvs ps->RKs K H (kvs++[(k,v)]) (ps++[(c,x)])
 |_,_,.nil=>.cons a q .nil
 |_,_,.cons b r t=>.cons b r (RKs.app a q t)
theorem RKs.repl{K:PySem.W.Frag}{H:Hp}{k v:Own.Val}{c:Key}{x:V}(a:XR k c)(q:RV K H v x):∀ {kvs:List (Own.Val×Own.Val)}{ps:List (Key×V)},RKs K H kvs ps->
  RKs K H (kvs.map fun p=>if p.1==k then(k,v)else p) (ps.map fun kv=>if kv.1=c then(kv.1,x)else kv)
 |_,_,.nil=>.nil
 |_,_,.cons (k:=j) (v:=u) (c:=d) (x:=y) b r t=>by
  have ih:=RKs.repl a q t;have z:=XC b a;rw[qG,qG];by_cases e:d=c
  .rw[qQ e]at z;rw[if_pos z,if_pos e];exact .cons (e▸a) q ih
  .rw[qP e]at z;rw[if_neg (by rw[z];decide),if_neg e];exact .cons b r ih
theorem RKs.put{K:PySem.W.Frag}{H:Hp}{k v:Own.Val}{c:Key}{x:V}(a:XR k c)(q:RV K H v x){kvs:List (Own.Val×Own.Val)}{ps:List (Key×V)}(r:RKs K H kvs ps):RKs K H (Own.putK kvs k v) (L2.putK ps c x):=by
 unfold Own.putK L2.putK;rw[r.has a];by_cases e:(ps.any fun kv=>decide (kv.1=c))=true
 .rw[if_pos e,if_pos e];exact r.repl a q
 .rw[if_neg e,if_neg e];exact r.app a q
theorem RKs.drop{K:PySem.W.Frag}{H:Hp}{k:Own.Val}{c:Key}(a:XR k c):∀ {kvs:List (Own.Val×Own.Val)}{ps:List (Key×V)},RKs K H kvs ps->RKs K H (Own.dropK kvs k) (L2.dropK ps c)
 |_,_,.nil=>.nil
 |_,_,.cons (k:=j) (v:=u) (c:=d) (x:=y) b r t=>by
  have ih:=RKs.drop a t;have z:=XC b a;unfold Own.dropK L2.dropK at ih ⊢;rw[List.filter_cons,List.filter_cons];by_cases e:d=c
  .rw[qQ e]at z;rw[if_neg (by rw[z];decide),if_neg (by simpa using e)];exact ih
  .rw[qP e]at z;rw[if_pos (by rw[z];rfl),if_pos (by simpa using e)];exact .cons b r ih
theorem Nt{G:Own.Hs}{H:Hp}{a:Addr}{kvs kvs':List (Own.Val×Own.Val)}{ps ps':List (Key×V)}(g:RH i G H)(h:H a=some (.dK ps))(r:RKs i.K H kvs' ps'):Keep H (upd H a (.dK ps'))/\RH i (Own.upd G a (.dct kvs')) (upd H a (.dK ps')):=by
 have k:Keep H (upd H a (.dK ps')):=Keep.put (fun xs e=>by rw[h]at e;cases e) fun p u e=>by rw[h]at e;cases e
 exact⟨k,g.put k ⟨ps',upd_same,r.keep k⟩⟩
theorem RTs.length{K:PySem.W.Frag}{H:Hp}:∀ {kvs:List (Own.Val×Own.Val)}{ps:List (List Key×V)},RTs K H kvs ps->kvs.length=ps.length
 |_,_,.nil=>rfl
 |_,_,.cons _ t=>by rw[qB,qB,RTs.length t]
theorem Jj(a b i j:Int):(Own.Val.key a b == .key i j)=decide (([.inl a,.inl b]:List Key)=[.inl i,.inl j]):=by
 by_cases e:a=i/\b=j
 .obtain⟨rfl,rfl⟩:=e;rw[qQ rfl];simp
 .rw[qP fun z=>e (by simpa using z)];exact beq_eq_false_iff_ne.mpr fun z=>e (by simpa using z)
theorem RTs.look{K:PySem.W.Frag}{H:Hp}{i j:Int}:∀ {kvs:List (Own.Val×Own.Val)}{ps:List (List Key×V)},RTs K H kvs ps->
  (∀ v,Own.lookK kvs (.key i j)=some v->∃ x,ZY ps [.inl i,.inl j]=some x/\RV K H v x)/\(Own.lookK kvs (.key i j)=none->ZY ps [.inl i,.inl j]=none)
 |_,_,.nil=>⟨fun v e=>(by cases e),fun _=>rfl⟩
 |_,_,.cons (i:=a) (j:=b) (v:=u) (x:=y) (kvs:=kvs) (ps:=ps) r t=>by
  have ih:=RTs.look (i:=i) (j:=j) t;have q:=Jj a b i j;by_cases e:([.inl a,.inl b]:List Key)=[.inl i,.inl j]
  .rw[qQ e]at q;have e1:Own.lookK ((.key a b,u)::kvs) (.key i j)=some u:=by simp[Own.lookK,List.find?_cons,q]
   rw[e1,Yc e];exact⟨fun v z=>(by cases z;exact⟨y,rfl,r⟩),fun z=>(by cases z)⟩
  .rw[qP e]at q;have e1:Own.lookK ((.key a b,u)::kvs) (.key i j)=Own.lookK kvs (.key i j):=by simp[Own.lookK,List.find?_cons,q]
   rw[e1,Yg e];exact ih
theorem RTs.has{K:PySem.W.Frag}{H:Hp}{i j:Int}:∀ {kvs:List (Own.Val×Own.Val)}{ps:List (List Key×V)},RTs K H kvs ps->Own.hasK kvs (.key i j)=ps.any fun kv=>decide (kv.1=[.inl i,.inl j])
 |_,_,.nil=>rfl
 |_,_,.cons (i:=a) (j:=b) r t=>by have ih:=RTs.has (i:=i) (j:=j) t;unfold Own.hasK at ih ⊢;rw[List.any_cons,List.any_cons,ih,Jj a b i j]
theorem RTs.app{K:PySem.W.Frag}{H:Hp}{v:Own.Val}{i j:Int}{x:V}(q:RV K H v x):∀ {kvs:List (Own.Val×Own.Val)}{ps:List (List Key×V)},RTs K H kvs ps->RTs K H (kvs++[(.key i j,v)]) (ps++[([.inl i,.inl j],x)])
 |_,_,.nil=>.cons q .nil
 |_,_,.cons r t=>.cons r (RTs.app q t)
theorem RTs.repl{K:PySem.W.Frag}{H:Hp}{v:Own.Val}{i j:Int}{x:V}(q:RV K H v x):∀ {kvs:List (Own.Val×Own.Val)}{ps:List (List Key×V)},RTs K H kvs ps->
  RTs K H (kvs.map fun p=>if p.1 == .key i j then(.key i j,v)else p) (ps.map fun kv=>if kv.1=[.inl i,.inl j]then(kv.1,x)else kv)
 |_,_,.nil=>.nil
 |_,_,.cons (i:=a) (j:=b) (v:=u) (x:=y) r t=>by
  have ih:=RTs.repl (i:=i) (j:=j) q t;have z:=Jj a b i j;rw[qG,qG];by_cases e:([.inl a,.inl b]:List Key)=[.inl i,.inl j]
  .rw[qQ e]at z;simp only[z,if_true,e];exact .cons q ih
  .rw[qP e]at z;simp only[z,e,if_false,Bool.false_eq_true];exact .cons r ih
theorem RTs.put{K:PySem.W.Frag}{H:Hp}{v:Own.Val}{i j:Int}{x:V}(q:RV K H v x){kvs:List (Own.Val×Own.Val)}{ps:List (List Key×V)}(r:RTs K H kvs ps):RTs K H (Own.putK kvs (.key i j) v) (L2.putK ps [.inl i,.inl j] x):=by
 unfold Own.putK L2.putK;rw[r.has];by_cases e:(ps.any fun kv=>decide (kv.1=[.inl i,.inl j]))=true
 .rw[if_pos e,if_pos e];exact r.repl q
 .rw[if_neg e,if_neg e];exact r.app q
theorem AR{G:Own.Hs}{H:Hp}{a:Addr}{kvs':List (Own.Val×Own.Val)}{ps ps':List (List Key×V)}(g:RH i G H)(h:H a=some (.dT ps))(r:RTs i.K H kvs' ps'):Keep H (upd H a (.dT ps'))/\RH i (Own.upd G a (.dtp kvs')) (upd H a (.dT ps')):=by
 have k:Keep H (upd H a (.dT ps')):=Keep.put (fun xs e=>by rw[h]at e;cases e) fun p u e=>by rw[h]at e;cases e
 exact⟨k,g.put k ⟨ps',upd_same,r.keep k⟩⟩
theorem JJ{k:Own.Val}{x:V}{K:PySem.W.Frag}{H:Hp}(h:Own.isKeyT k=true)(r:RV K H k x):∃ a b c,k=.key a b/\x=.ref c/\H c=some (.tup (([.inl a,.inl b]:List Key).map kV)):=by
 cases k with
 |key a b=>cases r with|key e=>exact⟨a,b,_,rfl,rfl,e⟩
 |_=>cases h
noncomputable def GO:R2:=fun x y H Q=>∃ a v,x=.ref a/\DGet H a y (some v)/\Q v H
theorem BQ(hu:X.A.units+1<cLine):IxR X GO:=by
 intro value slice pins s σ H x y v u Q I rx ry h hs;obtain⟨a,z,rfl,g,q⟩:=h;cases rx;have hT:=JT I g;unfold subscriptTail;refine wpAny_bind ?_;rw[getitemInPython_of_ne hT.not_modules];refine wpAny_bind (wpAny_specialOf hT PySem.F.slot_dict_getitem.lookup ?_);have fin:wpAny (model X.prog X.w) X.A (subscripted slice false (.ref a) u) (fun r s₃=>wpAny (model X.prog X.w) X.A (letTemporaryGo value (.ref a) r >>= fun _=>pure r) (EP X pins σ Q) X.xe s₃) X.xe s:=by rw[hs];exact wpAny_operating (Oy hu I g ry fun w' s' I' rw'=>wpAny_bind (wpAny_letTemporaryGo (wpAny_pure ⟨_,_,I',rw',q⟩)))
 first
  |exact wpAny_pure (wpAny_bind fin)
  |exact wpAny_bind (wpAny_pure (wpAny_bind fin))
  |exact wpAny_bind fin
noncomputable def BP (b:Bool):R2:=fun x y H Q=>∃ a o,y=.ref a/\DGet H a x o/\Q (.bl (b ^^ o.isSome)) H
theorem Eg(hu:X.A.units+1<cLine):OpR X (compareOp .In) (BP false):=by intro pins s σ H x y v u Q I rx ry h;obtain⟨a,o,rfl,g,q⟩:=h;cases ry;rw[Bool.false_xor]at q;exact Li hu I g rx fun s' I'=>⟨.bl o.isSome,_,I',rfl,q⟩
theorem DR(hu:X.A.units+1<cLine):OpR X (compareOp .NotIn) (BP true):=by intro pins s σ H x y v u Q I rx ry h;obtain⟨a,o,rfl,g,q⟩:=h;cases ry;rw[Bool.true_xor]at q;exact A5 hu I g rx fun s' I'=>⟨.bl (!o.isSome),_,I',rfl,q⟩
def CN:V->V->V->Hp->(Hp->Prop)->Prop:=fun o y v H Q=>∃ a H',o=.ref a/\DPut H a y v H'/\Q H'
theorem O3(hu:X.A.units+1<cLine):PSet X CN:=by intro pins s σ H o y v ov iv u Q I ro ri rv h;obtain⟨a,H',rfl,g,q⟩:=h;cases ro;exact NP hu I g ri rv fun s' I'=>⟨H',I',q⟩
theorem PSet.or{r r':V->V->V->Hp->(Hp->Prop)->Prop}(h:PSet X r)(h':PSet X r'):PSet X (fun o y v H Q=>r o y v H Q\/r' o y v H Q):=by
 intro pins s σ H o y v ov iv u Q I ro ri rv q;rcases q with q|q
 .exact h pins s σ H o y v ov iv u Q I ro ri rv q
 .exact h' pins s σ H o y v ov iv u Q I ro ri rv q
end Snd
namespace Snd
open PySem L2
variable {i:Inf}{X:Cx}{Z:Own.Fs}
theorem MD(n:Nat)(k:Int):Own.ixN n k=L2.ixN n k:=rfl
theorem JB{K:PySem.W.Frag}{H:Hp}{xs:List Own.Val}{vs:List V}{k:Int}{v:Own.Val}(r:RVs K H xs vs)(e:Own.atI xs k=some v):∃ x,L2.atI vs k=some x/\RV K H v x:=by
 unfold Own.atI at e;unfold L2.atI;rw[MD,r.length]at e;cases z:L2.ixN vs.length k with
 |none=>rw[z]at e;cases e
 |some j =>rw[z]at e;obtain⟨x,h1,h2⟩:=r.get (show xs[j]?=some v from e);exact⟨x,h1,h2⟩
def Gh (i:Inf) (r:R2):Prop:=∀ (v u:Own.Val) (G:Own.Hs) (H:Hp) (x y:V) (w:Own.Val) (Q:VK),RH i G H->RV i.K H v x->RV i.K H u y->Own.idxV G v u=some w->(∀ z,RV i.K H w z->Q z H)->r x y H Q
theorem Gk{a b:Expr}{ma mb:Own.E}{r:R2}{pos:Pos}(hr:IxR X r)(ho:Gh i r)(ha:PE X a (tE X i Z ma))(hb:PE X b (tE X i Z mb))(hs:JP b):PE X (.Subscript a b pos) (tE X i Z (.idx ma mb)) :=
 (GX hr ha hb hs).imp fun σ H Q ⟨env,G,Qm,Em,p,w,c⟩=>by
  rw[Own.q_e_idx]at w;exact two p w fun v u G2 H2 x y k2 p2 rx ry q=>by obtain⟨z,e,q⟩:=go_some q;exact ho v u G2 H2 x y z Q p2.hp rx ry e fun t rt=>c z G2 H2 t k2 p2.hp rt q
theorem BZ{s:String}{k:Int}{c:Char}(e:Own.atI s.toList k=some c):L2.atI (Str.ofString s).cps.toList k=some c.toNat:=by
 rw[Str.ofString_eq_toList];show L2.atI (List.map Char.toNat s.toList).toArray.toList k=_;unfold Own.atI at e;unfold L2.atI;simp only[qA];rw[MD]at e;cases z:L2.ixN s.toList.length k with
 |none=>rw[z]at e;cases e
 |some j =>rw[z]at e;have e:s.toList[j]?=some c:=e;show(List.map Char.toNat s.toList)[j]?=_;rw[qF,e];rfl
theorem KU(c:Char):Str.ofString (String.singleton c)=⟨#[c.toNat]⟩:=by rw[Str.ofString_eq_toList];simp
noncomputable def IT (K:PySem.W.Frag):R2:=fun x y H Q=>rIx K x y H Q\/GO x y H Q
theorem Gq:Gh i (IT i.K):=by
 intro v u G H x y w Q g rx ry e q;cases v with
 |tup xs =>
  cases u with
  |int k =>
   cases rx with
   |tup hp hr =>obtain⟨z,h1,h2⟩:=JB hr (show Own.atI xs k=some w from e);exact .inl (.inr (.inl ⟨_,_,k,z,rfl,ry.int_inv,Zl hp,h1,q z h2⟩))
  |_=>cases e
 |str s =>
  cases u with
  |int k =>
   simp only[Own.idxV]at e;split at e
   .rename_i hl;cases z:Own.atI s.toList k with
    |none=>rw[z]at e;cases e
    |some c =>rw[z]at e;cases e;refine .inl (.inr (.inr ⟨_,k,_,rx.str_inv,ry.int_inv,by rw[Zv];exact zE hl ZE,BZ z,?_⟩));have:=q _ (.str (String.singleton c));rw[KU]at this;exact this
   .cases e
  |_=>cases e
 |ref a =>
  cases rx.ref_inv
  replace e:(match G a with|some (.lst xs)=>(Own.asInt u).bind (Own.atI xs)|some (.dct kvs)=>if Own.isKey u then Own.lookK kvs u else none|some (.frz kvs)=>if Own.isKey u then Own.lookK kvs u else none|some (.dtp kvs)=>if Own.isKeyT u then Own.lookK kvs u else none|_=>none)=some w:=e
  cases z:G a with
  |none=>rw[z]at e;cases e
  |some o =>
   rw[z]at e;cases o with
   |lst xs =>obtain⟨k,hk,e⟩:=q9.mp e;cases Z6 hk;obtain⟨vs,h1,h2⟩:=g a _ z;obtain⟨t,h3,h4⟩:=JB h2 e;exact .inl (.inl ⟨a,vs,k,t,rfl,ry.int_inv,SqL.of h1,h3,q t h4⟩)
   |dct kvs =>obtain⟨hk,e⟩:=Zy (show(if Own.isKey u then Own.lookK kvs u else none)=some w from e);obtain⟨ps,h1,h2⟩:=g a _ z;obtain⟨d,kr,rfl⟩:=key_of hk ry;obtain⟨t,hx,rv⟩:=(h2.look kr).1 w e;exact .inr ⟨a,t,rfl,by rw[<-hx];exact DGet.k h1,q t rv⟩
   |frz kvs =>obtain⟨hk,e⟩:=Zy (show(if Own.isKey u then Own.lookK kvs u else none)=some w from e);obtain⟨ob,ps,h1,h2⟩:=g a _ z;obtain⟨d,kr,rfl⟩:=key_of hk ry;obtain⟨t,hx,rv⟩:=(h2.look kr).1 w e;exact .inr ⟨a,t,rfl,.inl ⟨ps,d,.inr ⟨ob,h1⟩,rfl,hx.symm⟩,q t rv⟩
   |dtp kvs =>obtain⟨hk,e⟩:=Zy (show(if Own.isKeyT u then Own.lookK kvs u else none)=some w from e);obtain⟨ps,h1,h2⟩:=g a _ z;obtain⟨k1,k2,b,rfl,rfl,hb⟩:=JJ hk ry;obtain⟨t,hx,rv⟩:=(h2.look).1 w e;exact .inr ⟨a,t,rfl,by rw[<-hx];exact DGet.t h1 hb,q t rv⟩
   |_=>cases e
 |scr ns =>
  cases u with
  |int k =>
   cases rx with
   |scr h =>obtain⟨t,h3,h4⟩:=JB (RVs.ints ns) (show Own.atI (ns.map .int) k=some w from e);exact .inl (.inl ⟨_,_,k,t,rfl,ry.int_inv,ZR h,h3,q t h4⟩)
  |_=>cases e
 |_=>cases e
noncomputable def tOx (X:Cx) (i:Inf) (Z:Own.Fs) (m:Own.Oe):TO:=fun σ H Q=>∃ env G Qm Em,Pre X i σ H env G Em/\Own.wO Z m env G Qm Em/\∀ k G' H',Keep H H'->RH i G' H'->Qm k G'->Q k H'
theorem _root_.L2.PO.imp{X:Cx}{e:Option Expr}{t t':TO}(h:PO X e t)(f:∀ σ H Q,t' σ H Q->t σ H Q):PO X e t':=fun pins s σ H Q I q=>h pins s σ H Q I (f σ H Q q)
theorem Bf:PO X none (tOx X i Z .none):=po_none.imp fun σ H Q ⟨env,G,Qm,Em,p,w,c⟩=>by rw[Own.q_o_none]at w;exact c none G H (Keep.refl H) p.hp w
theorem AT{e:Expr}{m:Own.E}(he:PE X e (tE X i Z m)):PO X (some e) (tOx X i Z (.some m)):=(BN he).imp fun σ H Q ⟨env,G,Qm,Em,p,w,c⟩=>by
 rw[Own.q_o_some]at w;exact one p w fun v G1 H1 x k1 p1 r q=>by obtain⟨b,e,q2⟩:=go_some q;cases Z6 e;exact⟨b,r.int_inv,c _ G1 H1 k1 p1.hp q2⟩
theorem MF{xs:List Own.Val}{vs:List V}{K:PySem.W.Frag}{H:Hp}(r:RVs K H xs vs)(lo hi:Option Int):RVs K H (Own.cut xs lo hi) (Jm vs lo hi):=by
 have e:∀ (n d:Nat) (o:Option Int),Own.cutAt n d o=HT.sIx n d o:=by
  intro n d o;cases o with
  |none=>rfl
  |some k =>
   show(if 0<=k then min k.toNat n else(k+n).toNat)=(if k<0 then(k+(n:Int)).toNat else min k.toNat n)
   by_cases h:k<0
   .rw[if_pos h,if_neg (by omega)]
   .rw[if_neg h,if_pos (by omega)]
 unfold Own.cut Jm;rw[e,e,r.length];exact(r.drop _).take _
def GW (i:Inf) (r:V->Option Int->Option Int->Hp->VK->Prop):Prop:=∀ (v:Own.Val) (lo hi:Option Int) (G:Own.Hs) (H:Hp) (x:V) (Q:VK) (Qm:Own.Q1),RH i G H->RV i.K H v x->(Own.slcV G v lo hi).wp G Qm->Cn i H Q Qm->r x lo hi H Q
theorem Hi{a:Expr}{lo hi:Option Expr}{ma:Own.E}{ml mh:Own.Oe}{r:V->Option Int->Option Int->Hp->VK->Prop}{p2 pos:Pos}(hr:SlR X r)(ho:GW i r)(ha:PE X a (tE X i Z ma))(hl:PO X lo (tOx X i Z ml))(hh:PO X hi (tOx X i Z mh)):PE X (.Subscript a (.Slice lo hi none p2) pos) (tE X i Z (.slc ma ml mh)) :=
 (Au hr ha hl hh).imp fun σ H Q ⟨env,G,Qm,Em,p,w,c⟩=>by
  rw[Own.q_e_slc]at w;exact⟨env,G,_,Em,p,w,fun v G1 H1 x k1 g1 r1 w1=>⟨env,G1,_,Em,p.go k1 g1,w1,fun l G2 H2 k2 g2 w2=>⟨env,G2,_,Em,(p.go k1 g1).go k2 g2,w2,fun u G3 H3 k3 g3 w3 =>
    ho v l u G3 H3 x Q Qm g3 ((r1.keep k2).keep k3) w3 (((c.go k1).go k2).go k3)⟩⟩⟩
def GV (K:PySem.W.Frag):V->Option Int->Option Int->Hp->VK->Prop:=fun x lo hi H Q=>Gg K x lo hi H Q\/GJ K x lo hi H Q\/F6 x lo hi H Q
theorem Lf:SlR X (GV X.K):=sl_list.or (sl_tup.or sl_str)
theorem Kv(n d:Nat)(o:Option Int):Own.cutAt n d o=HT.sIx n d o:=by
 cases o with
 |none=>rfl
 |some k =>
  show(if 0<=k then min k.toNat n else(k+n).toNat)=(if k<0 then(k+(n:Int)).toNat else min k.toNat n)
  by_cases h:k<0
  .rw[if_pos h,if_neg (by omega)]
  .rw[if_neg h,if_pos (by omega)]
theorem JV(n d:Nat)(h:d<=n)(o:Option Int):Own.cutAt n d o<=n:=by
 cases o with
 |none=>exact h
 |some k =>show(if 0<=k then min k.toNat n else(k+n).toNat)<=n;split<;>omega
theorem clip_eq(n d:Nat)(h:d<=n)(o:Option Int):(match o with
    |none=>(d:Int)
    | some i=>max 0 (min (if i<0 then i+(n:Int)else i) (n:Int)))=(Own.cutAt n d o:Int):=by
 cases o with
 |none=>rfl
 |some k =>
  show _=(((if 0<=k then min k.toNat n else(k+n).toNat):Nat):Int)
  by_cases hk:k<0
  .rw[if_neg (show ¬ 0<=k by omega)];simp only[hk,if_true];omega
  .rw[if_pos (show 0<=k by omega)];simp only[hk,if_false];omega
theorem DO(n:Nat)(lo hi:Option Int):PySem.Builtin.Str.strSliceIndices lo hi 1 n=(List.range (Own.cutAt n n hi - Own.cutAt n 0 lo)).map fun k=>Own.cutAt n 0 lo+k:=by
 have e1:=clip_eq n 0 (Nat.zero_le _) lo;have e2:=clip_eq n n (zG _) hi;have e3:PySem.Builtin.Str.strSliceIndices lo hi 1 n=sliceRange (Own.cutAt n 0 lo:Int) (Own.cutAt n n hi:Int) 1:=by unfold PySem.Builtin.Str.strSliceIndices;rw[<-e1,<-e2];cases lo<;>cases hi<;>rfl
 rw[e3];unfold sliceRange;have e4:(if(1:Int) > 0 then(if(Own.cutAt n 0 lo:Int)<(Own.cutAt n n hi:Int)then((Own.cutAt n n hi:Int) - (Own.cutAt n 0 lo:Int)+1 - 1) / 1 else 0)else(if(Own.cutAt n 0 lo:Int) > (Own.cutAt n n hi:Int)then((Own.cutAt n 0 lo:Int) - (Own.cutAt n n hi:Int) - 1 - 1) / (-1)else 0)).toNat=Own.cutAt n n hi - Own.cutAt n 0 lo:=by rw[if_pos (by decide),Int.ediv_one];split<;>omega
 show(List.range (Int.toNat (if(1:Int) > 0 then _ else _))).map _=_;rw[e4];refine List.map_congr_left fun k _=>?_;omega
theorem AY(s:String)(lo hi:Option Int):NM (Str.ofString s) lo hi=Str.ofString (String.ofList (Own.cut s.toList lo hi)):=by
 have hl:(Str.ofString s).length=s.toList.length:=by rw[Zv,String.length_toList]
 have ha:=JV s.toList.length 0 (Nat.zero_le _) lo;have hb:=JV s.toList.length s.toList.length (zG _) hi;have e:=DO s.toList.length lo hi;rw[<-hl]at e;unfold NM;rw[e];simp only[hl];have ec:(Str.ofString s).cps.toList=s.toList.map Char.toNat:=by rw[Str.ofString_eq_toList]
 split
 .rename_i z;rw[qA,List.length_range]at z;have e0:Own.cutAt s.toList.length 0 lo=0\/s.toList.length=0:=by omega
  have e5:Own.cut s.toList lo hi=s.toList:=by
   unfold Own.cut;rw[z];rcases e0 with e0|e0
   .rw[e0,List.drop_zero,zA]
   .have:s.toList=[]:=List.length_eq_zero_iff.mp e0;rw[this];simp
  rw[e5,String.ofList_toList]
 .rw[Str.ofString_eq_toList (String.ofList _),String.toList_ofList];congr 2;have e3:(fun i:Nat=>(Str.ofString s).cps[i]?)=fun i:Nat=>(s.toList.map Char.toNat)[i]?:=by
   funext i;rw[<-ec];simp
  rw[e3];by_cases hab:Own.cutAt s.toList.length 0 lo<=Own.cutAt s.toList.length s.toList.length hi
  .rw[PySem.StrLaws.picks _ _ _ (by rw[qA];omega)];unfold Own.cut;rw[List.map_take,List.map_drop]
  .have:Own.cutAt s.toList.length s.toList.length hi - Own.cutAt s.toList.length 0 lo=0:=by omega
   unfold Own.cut;rw[this];simp
theorem Hw:GW i (GV i.K):=by
 intro v lo hi G H x Q Qm g r w c;cases v with
 |tup xs =>
  simp only[Own.slcV]at w;split at w
  .simp at w
  .rename_i hn;rw[Own.Rs.wp_val]at w;cases r with
   |@tup _ a vs hp hr =>refine .inr (.inl ⟨a,vs,rfl,Zl hp,by rw[<-Kv,<-Kv,<-hr.length];exact hn,fun p hp'=>?_⟩);have k:=Keep.new (o:=.tup (Jm vs lo hi)) hp';refine c _ G _ _ k (g.hid k fun b o e=>upd_ne ?_) (.tup (.inl upd_same) (MF (hr.keep k) lo hi)) w;rintro rfl;rw[g.free hp']at e;cases e
 |ref a =>
  cases r.ref_inv;simp only[Own.slcV]at w;cases z:Own.lsOf (G a)with
  |none=>rw[z]at w;simp at w
  |some xs =>rw[z]at w;rw[Own.Rs.wp_new]at w;obtain⟨vs,h1,h2⟩:=ZB g z;exact .inl ⟨a,vs,rfl,h1,ZV g w c fun p hp=>⟨_,upd_same,MF (h2.keep (Keep.new hp)) lo hi⟩⟩
 |scr ns =>
  simp only[Own.slcV,Own.Rs.wp_new]at w;cases r with
  |scr h=>exact .inl ⟨_,_,rfl,ZR h,ZV g w c fun p hp=>⟨_,upd_same,MF (RVs.ints ns) lo hi⟩⟩
 |str s =>
  cases r.str_inv;simp only[Own.slcV]at w;split at w
  .rename_i hl;rw[Own.Rs.wp_val]at w;refine .inr (.inr ⟨_,rfl,by rw[Zv];exact zE hl (by decide),?_⟩);rw[AY];exact c _ G H _ (Keep.refl H) g (.str _) w
  .simp at w
 |_=>simp[Own.slcV]at w
theorem RVs.app1{K:PySem.W.Frag}{H:Hp}{vs:List Own.Val}{xs:List V}{v:Own.Val}{x:V}(r:RVs K H vs xs)(q:RV K H v x):RVs K H (vs++[v]) (xs++[x]):=r.append (.cons q .nil)
theorem Hb{es:List Expr}{ms:Own.Es}{k n:Nat}{pos:Pos}(hn:n<=1000)(h:PA X es (tAr X i Z ms n)):PE X (.Tuple es k pos) (tE X i Z (.tup ms)) :=
 (Ft h).imp fun σ H Q ⟨env,G,Qm,Em,p,w,c⟩=>by rw[Own.q_e_tup]at w;refine⟨env,G,_,Em,p,w,fun vs G1 H1 xs k1 g1 r1 hl w1=>⟨by rw[hl];exact zE hn (by decide),fun a ha=>?_⟩⟩;have k:=Keep.new (o:=.tup xs) ha;refine c _ G1 _ _ (k1.trans k) (g1.hid k fun b o e=>upd_ne ?_) (.tup (.inl upd_same) (r1.keep k)) w1;rintro rfl;rw[g1.free ha]at e;cases e
theorem GT{es:List Expr}{ms:Own.Es}{n:Nat}{pos:Pos}(hn:n<=1000)(h:PA X es (tAr X i Z ms n)):PE X (.List es pos) (tE X i Z (.lst ms)) :=
 (Ff h).imp fun σ H Q ⟨env,G,Qm,Em,p,w,c⟩=>by rw[Own.q_e_lst]at w;refine⟨env,G,_,Em,p,w,fun vs G1 H1 xs k1 g1 r1 hl w1=>⟨by rw[hl];exact zE hn (by decide),ZV g1 w1 (c.go k1) fun a ha=>?_⟩⟩;exact⟨xs,upd_same,r1.keep (Keep.new ha)⟩
def BiOk (i:Inf) (f:Own.Bi) (r:List V->Hp->VK->Prop):Prop:=∀ (vs:List Own.Val) (G:Own.Hs) (H:Hp) (xs:List V) (Q:VK) (Qm:Own.Q1),RH i G H->RVs i.K H vs xs->(Own.biV G f vs).wp G Qm->Cn i H Q Qm->r xs H Q
theorem Wn{f:Own.Bi}{r:List V->Hp->VK->Prop}{ms:Own.Es}{n:Nat}(hr:BiOk i f r):∀ σ H Q,tE X i Z (.bi f ms) σ H Q->tCB r (tAr X i Z ms n) σ H Q:=fun σ H Q ⟨env,G,Qm,Em,p,w,c⟩=>by rw[Own.q_e_bi]at w;exact⟨env,G,_,Em,p,w,fun vs G1 H1 xs k1 g1 r1 _ w1=>hr vs G1 H1 xs Q Qm g1 r1 w1 (c.go k1)⟩
theorem RVs.inv1{K:PySem.W.Frag}{H:Hp}{v:Own.Val}{xs:List V}(r:RVs K H [v] xs):∃ x,xs=[x]/\RV K H v x:=by cases r with|cons a t=>cases t;exact⟨_,rfl,a⟩
theorem RVs.inv2{K:PySem.W.Frag}{H:Hp}{v u:Own.Val}{xs:List V}(r:RVs K H [v,u] xs):∃ x y,xs=[x,y]/\RV K H v x/\RV K H u y:=by cases r with|cons a t=>cases t with|cons b t=>cases t;exact⟨_,_,rfl,a,b⟩
theorem WT(s:String):(Str.ofString s).cps.toList=s.toList.map Char.toNat:=by rw[Str.ofString_eq_toList]
theorem NA:∀ (l:List Char) (a:Nat),(l.map Char.toNat).foldl (fun acc c=>acc*10+(c - 48)) a=l.foldl (fun a c=>10*a+(c.toNat - 48)) a
 |[],_=>rfl
 |c::l,a=>by rw[qG,List.foldl_cons,List.foldl_cons,NA l,Nat.mul_comm a 10]
theorem A8{s:String}(h1:s.toList≠[])(h2:s.toList.all Own.figB=true)(h3:s.length<=640):PySem.intText? (Str.ofString s)=some ((Own.decN s.toList:Nat):Int):=by
 have hc:=WT s;rw[intText_digits (x:=Str.ofString s)]
 .rw[hc];unfold NumText.digitsVal Own.decN;rw[NA]
 .rw[hc];intro c hm;obtain⟨d,hd,rfl⟩:=qZ.mp hm;have:=List.all_eq_true.mp h2 d hd;unfold Own.figB at this;simpa using this
 .rw[hc];simpa using h1
 .rw[Zv];omega
theorem Yz{f:Own.Val->Own.Rs}{vs:List Own.Val}{h:Own.Hs}{Q:Own.Q1}(w:(Own.biOf1 f vs).wp h Q):∃ v,vs=[v]/\(f v).wp h Q:=by
 cases vs with
 |nil=>exact(Zp w).elim
 |cons v vs=>cases vs with
  |nil=>exact⟨v,rfl,w⟩
  |cons _ _=>exact(Zp w).elim
theorem BiOk.imp{f:Own.Bi}{r r':List V->Hp->VK->Prop}(h:BiOk i f r)(k:∀ xs H Q,r xs H Q->r' xs H Q):BiOk i f r':=fun vs G H xs Q Qm g rv w c=>k _ _ _ (h vs G H xs Q Qm g rv w c)
theorem ET:BiOk i .int (fun xs H Q=>((∃ i,xs=[.int i]/\Q (.int i) H)\/∃ k,xs=[.bl k]/\Q (.int (if k then 1 else 0)) H)\/∃ z n,xs=[.str z]/\PySem.intText? z=some n/\z.length<=640/\Q (.int n) H):=by
 intro vs G H xs Q Qm g r w c;obtain⟨v,rfl,w⟩:=Yz w;obtain⟨x,rfl,rx⟩:=r.inv1;cases v with
 |int k=>cases rx.int_inv;exact .inl (.inl ⟨k,rfl,c _ G H _ (Keep.refl H) g (.int _) (Zs w)⟩)
 |bl k=>cases rx.bl_inv;exact .inl (.inr ⟨k,rfl,c _ G H _ (Keep.refl H) g (.int _) (Zs w)⟩)
 |str s =>cases rx.str_inv;obtain⟨hl,w⟩:=Yq w;exact .inr ⟨_,_,rfl,A8 hl.2.1 hl.2.2 hl.1,by rw[Zv];exact hl.1,c _ G H _ (Keep.refl H) g (.int _) (Zs w)⟩
 |_=>exact(Zp w).elim
noncomputable def Gn (o:Option Own.Ob) (f:List Own.Val->Own.Rs):Own.Rs:=match o with
 |some (.lst xs)=>f xs
 |_=>.no
theorem JY{o:Option Own.Ob}{f:List Own.Val->Own.Rs}{h:Own.Hs}{Q:Own.Q1}(w:(Gn o f).wp h Q):∃ xs,o=some (.lst xs)/\(f xs).wp h Q:=by
 cases o with
 |none=>exact(Zp w).elim
 |some o=>cases o with
  |lst xs=>exact⟨xs,rfl,w⟩
  |_=>exact(Zp w).elim
theorem Bz{G:Own.Hs}{H:Hp}{Q:VK}{Qm:Own.Q1}{ys:List Own.Val}{us:List V}(g:RH i G H)(r:RVs i.K H ys us)(w:Qm (.tup ys) G)(c:Cn i H Q Qm):∀ l,H l=none->Q (.ref l) (upd H l (.tup us)):=fun l hl=>by have k:=Keep.new (o:=.tup us) hl;refine c _ G _ _ k (g.hid k fun b o e=>upd_ne ?_) (.tup (.inl upd_same) (r.keep k)) w;rintro rfl;rw[g.free hl]at e;cases e
theorem O1:BiOk i .tuple (fun xs H Q=>∃ p ys,xs=[.ref p]/\((SqL i.K H p ys/\∀ l,H l=none->Q (.ref l) (upd H l (.tup ys)))\/(SqT i.K H p ys/\Q (.ref p) H))):=by
 intro vs G H xs Q Qm g r w c;obtain⟨v,rfl,w⟩:=Yz w;obtain⟨x,rfl,rx⟩:=r.inv1;cases v with
 |ref a =>cases rx.ref_inv;obtain⟨ys,e,w⟩:=JY (f:=fun xs=>.val (.tup xs)) w;obtain⟨us,h1,h2⟩:=g a _ e;exact⟨a,us,rfl,.inl ⟨SqL.of h1,Bz g h2 (Zs w) c⟩⟩
 |tup ys =>
  cases rx with
  |tup hp hr=>exact⟨_,_,rfl,.inr ⟨Zl hp,c _ G H _ (Keep.refl H) g (.tup hp hr) (Zs w)⟩⟩
 |_=>exact(Zp w).elim
noncomputable def kinds:List String:=["int","bool","str","list","tuple","dict"]
theorem BC (K:PySem.W.Frag):∀ t∈["NoneType","bool","int","str","tuple","list","dict"],∀ T∈kinds,PySem.W.kitOne K (.type t) (.type T)=some (t==T||(t == "bool" && T == "int")):=by intro t ht T hT;simp only[kinds,qE,List.not_mem_nil,or_false]at ht hT;rcases ht with rfl|rfl|rfl|rfl|rfl|rfl|rfl<;>rcases hT with rfl|rfl|rfl|rfl|rfl|rfl<;>rfl
theorem N8 {G:Own.Hs}{H:Hp}(g:RH i G H){v:Own.Val}{x:V}{t:String}(r:RV i.K H v x) (e:Own.kindV G v=some t):TyV i.K H x (.type t)/\t∈["NoneType","bool","int","str","tuple","list","dict"]:=by
 cases v with
 |non=>cases r;cases e;exact⟨.of .non,by simp⟩
 |bl b=>cases r;cases e;exact⟨.of (.bl b),by simp⟩
 |int b=>cases r;cases e;exact⟨.of (.int b),by simp⟩
 |str b=>cases r;cases e;exact⟨.of (.str _),by simp⟩
 |tup xs=>cases e;cases r with|tup hp hr=>exact⟨.tup (Zl hp),by simp⟩
 |scr ns=>cases e;cases r with|scr h=>exact⟨.lst (ZR h),by simp⟩
 |ref a =>
  cases r.ref_inv;simp only[Own.kindV]at e;cases q:G a with
  |none=>rw[q]at e;cases e
  |some o =>
   rw[q]at e;cases o with
   |lst xs=>cases e;obtain⟨vs,h1,_⟩:=g a _ q;exact⟨.lst (SqL.of h1),by simp⟩
   |dct kvs=>cases e;obtain⟨ps,h1,_⟩:=g a _ q;exact⟨.of (.dK h1),by simp⟩
   |ins C fs=>cases e
   |exc C=>cases e
   |frz _=>cases e
   |dtp _=>cases e
 |key _ _=>cases e
theorem Hr {e:Expr}{m:Own.E}{T:String}{p p2 pos:Pos}(hT:T∈kinds) (he:PE X e (tE X i Z m)) (hk:X.K=i.K) (hg:Gl X "isinstance") (hm:X.mg "isinstance" = none) (hg2:Gl X (Str.ofString T)) (hm2:X.mg (Str.ofString T)=none)
  (hv2:bootBuiltins (Str.ofString T)=some (.type T)) (hn2:Str.ofString T≠"__name__") (hd2:(Str.ofString T==("__debug__" : Str))=false) (hst:starEach [e,.Name (Str.ofString T) p2] X.env=(false,eval e X.env)::starEach [.Name (Str.ofString T) p2] X.env) :
  PE X (.Call (.Name "isinstance" p) [e,.Name (Str.ofString T) p2] [] pos) (tE X i Z (.bi (.isi [T]) (.cons m .nil))):=by
 refine(Yh UK hg hm (by kernel_rfl) (ZT he (ZT (Gy (T:=T) hg2 hm2 hv2 hn2 hd2) pa_nil) hst) (he:=hst)).imp fun σ H Q ⟨env,G,Qm,Em,p,w,c⟩=>?_;rw[Own.q_e_bi,Own.q_a_cons]at w;refine one p w fun v G1 H1 x k1 p1 r q=>?_;rw[Own.q_a_nil]at q
 replace q:(Own.Rs.ofO (((Own.isiV G1 v T).bind fun b=>(Own.isiAny G1 v []).map (b || ·)).map .bl)).wp G1 Qm:=q
 simp only[Own.isiAny,Own.isiV]at q;cases z:Own.kindV G1 v with
 |none=>rw[z]at q;simp[Own.Rs.ofO]at q
 |some t =>rw[z]at q;simp only[Option.map_some,Option.bind_some,Own.Rs.ofO,Own.Rs.wp_val,Bool.or_false]at q;obtain⟨h1,h2⟩:=N8 p1.hp r z;refine⟨x,T,.type t,_,rfl,by rw[hk];exact h1,by rw[hk];exact BC _ t h2 T hT,c _ G1 H1 _ k1 p1.hp (.bl _) q⟩
theorem K1{o:Option Own.Ob}(h:Own.isLst o=true):∃ xs,o=some (.lst xs):=by
 cases o with
 |none=>cases h
 |some o=>cases o with
  |lst xs=>exact⟨xs,rfl⟩
  |_=>cases h
theorem Ut{G:Own.Hs}{a:Addr}{f:Own.Ad->List Own.Val->Option (Own.Val×Own.Hs)}{t:Own.Val×Own.Hs}(e:Own.bmL G (.ref a) f=some t):∃ xs,G a=some (.lst xs)/\f a xs=some t:=by obtain⟨xs,h1,h2⟩:=q9.mp (show(Own.lsOf (G a)).bind (f a)=some t from e);exact⟨xs,Ol h1,h2⟩
theorem JI{G:Own.Hs}{H:Hp}{a:Addr}{xs:List Own.Val}{vs:List V}(g:RH i G H)(h:H a=some (.lst vs))(ys:List Own.Val)(us:List V)(r:RVs i.K H ys us):Keep H (upd H a (.lst us))/\RH i (Own.upd G a (.lst ys)) (upd H a (.lst us)):=by
 have k:Keep H (upd H a (.lst us)):=Keep.put (fun xs e=>by rw[h]at e;cases e) fun p u e=>by rw[h]at e;cases e
 exact⟨k,g.put k ⟨us,upd_same,r.keep k⟩⟩
noncomputable def spF (i:Inf) (P:Own.Pg) (n:Nat) (f:String):Sp:=fun vs H Q E=>∃ args G Qm Em,RVs i.K H args vs/\RH i G H/\Own.wF P n f args G Qm Em/\Cn i H Q Qm/\∀ cls d H',XK1 i H Em cls d H'->E cls d H'
def Dfo (pr:Program) (w:World) (mg:Str->Option Value) (base:Heap) (i:Inf) (P:Own.Pg) (n:Nat) (f:String):Prop :=
 ∃ fa fd ps,FnOk pr w i.K mg base (CX1 pr w) (2*n) fa fd ps (spF i P n f)/\mg (Str.ofString f)=some (.ref fa)/\PySem.W.keepIn i.K (.ref fa)=true/\Binds i.K fd ps []
theorem FB {P:Own.Pg}{n k:Nat}{f:String}{e:Expr}{es:List Expr}{ms:Own.Es}{p pos:Pos}(hK:X.K=i.K) (D:Dfo X.prog X.w X.mg X.base i P n f) (hr:Room (2*n) X.A) (hg:Gl X (Str.ofString f)) (hdb:(Str.ofString f==("__debug__" : Str))=false)
  (ha:PA X (e::es) (tAr X i (Own.wF P n) ms k)) (he:starEach (e::es) X.env=(false,eval e X.env)::starEach es X.env) (hpl:(backTo pos (starEach es X.env)).any (·.1)=false) :
  PE X (.Call (.Name (Str.ofString f) p) (e::es) [] pos) (tE X i (Own.wF P n) (.call f ms)):=by
 obtain⟨fa,fd,ps,F,hm,hk,hb⟩:=D;rw[<-hK]at F hk hb;intro pins s σ H Q I h;obtain⟨env,G,Qm,Em,pr,w,c⟩:=h;rw[Own.q_e_call]at w;refine Cu (E:=XK1 i H Em) F hr hg hm hk hb .nil (XW.passes pr.xo) ha hdb he hpl pins s σ H Q I ⟨env,G,_,Em,pr,w,fun vs G1 H1 xs k1 g1 r1 hl w1=>?_⟩;exact⟨vs,G1,Qm,Em,by rw[zB];exact r1,g1,w1,c.go k1,fun cls d H' h=>h.go k1⟩
noncomputable def XKS (i:Inf) (H:Hp) (Xe:Own.EQ):XK:=fun cls _ H'=>∃ e c G' ad,cls=.ref ad/\i.xc c ad/\Keep H H'/\RH i G' H'/\Xe e c G'
structure PreS (X:Cx) (i:Inf) (σ:St) (H:Hp) (env:Own.Env) (G:Own.Hs) (Xe:Own.EQ):Prop where
 en:REn i.K H env σ
 hp:RH i G H
 xo:XW X (XKS i H Xe)
theorem PreS.go{σ σ1:St}{H H1:Hp}{env env1:Own.Env}{G G1:Own.Hs}{Xe:Own.EQ}(p:PreS X i σ H env G Xe)(k:Keep H H1)(r:RH i G1 H1)(e:REn i.K H1 env1 σ1):PreS X i σ1 H1 env1 G1 Xe :=
 ⟨e,r,fun pins σ H0 s H' a cls s' I f ⟨e,c,G',ad,q1,q2,q3,q4⟩=>p.xo pins σ H0 s H' a cls s' I f ⟨e,c,G',ad,q1,q2,k.trans q3,q4⟩⟩
theorem PreS.pre{σ:St}{H:Hp}{env:Own.Env}{G:Own.Hs}{Xe:Own.EQ}(p:PreS X i σ H env G Xe):Pre X i σ H env G (Xe env) :=
 ⟨p.en,p.hp,fun pins σ H0 s H' a cls s' I f ⟨c,G',ad,q1,q2,q3,q4⟩=>p.xo pins σ H0 s H' a cls s' I f ⟨env,c,G',ad,q1,q2,q3,q4⟩⟩
structure EOk (i:Inf) (H:Hp) (D:Ends) (N:Own.NQ) (R:Own.Q1) (B C:Own.NQ):Prop where
 nx:∀ env' σ' G' H',Keep H H'->RH i G' H'->REn i.K H' env' σ'->N env' G'->D.nx σ' H'
 rt:∀ v G' H' x,Keep H H'->RH i G' H'->RV i.K H' v x->R v G'->D.rt x H'
 bk:∀ env' σ' G' H',Keep H H'->RH i G' H'->REn i.K H' env' σ'->B env' G'->D.bk σ' H'
 ct:∀ env' σ' G' H',Keep H H'->RH i G' H'->REn i.K H' env' σ'->C env' G'->D.ct σ' H'
theorem EOk.go{H H1:Hp}{D:Ends}{N:Own.NQ}{R:Own.Q1}{B C:Own.NQ}(e:EOk i H D N R B C)(k:Keep H H1):EOk i H1 D N R B C :=
 ⟨fun a b c d k'=>e.nx a b c d (k.trans k'),fun a b c d k'=>e.rt a b c d (k.trans k'),fun a b c d k'=>e.bk a b c d (k.trans k'),fun a b c d k'=>e.ct a b c d (k.trans k')⟩
noncomputable def tSt (X:Cx) (i:Inf) (Z:Own.Fs) (m:Own.S):TS:=fun D σ H=>∃ env G N R B C Xe,PreS X i σ H env G Xe/\Own.wS Z m env G N R B C Xe/\EOk i H D N R B C
noncomputable def tBl (X:Cx) (i:Inf) (Z:Own.Fs) (m:Own.Ss):TS:=fun D σ H=>∃ env G N R B C Xe,PreS X i σ H env G Xe/\Own.wSs Z m env G N R B C Xe/\EOk i H D N R B C
theorem _root_.L2.PS.imp{X:Cx}{st:Stmt}{t t':TS}(h:PS X st t)(f:∀ D σ H,t' D σ H->t D σ H):PS X st t':=fun pins s σ H D I q=>h pins s σ H D I (f D σ H q)
theorem _root_.L2.PSs.imp{X:Cx}{st:List Stmt}{t t':TS}(h:PSs X st t)(f:∀ D σ H,t' D σ H->t D σ H):PSs X st t':=fun pins s σ H D I q=>h pins s σ H D I (f D σ H q)
theorem Do:PSs X [] (tBl X i Z .nil):=pss_nil.imp fun D σ H ⟨env,G,N,R,B,C,Xe,p,w,c⟩=>by rw[Own.q_ss_nil]at w;exact c.nx env σ G H (Keep.refl H) p.hp p.en w
theorem A2{st:Stmt}{sts:List Stmt}{m:Own.S}{ms:Own.Ss}(h1:PS X st (tSt X i Z m))(h2:PSs X sts (tBl X i Z ms)):PSs X (st::sts) (tBl X i Z (.cons m ms)) :=
 (OB h1 h2).imp fun D σ H ⟨env,G,N,R,B,C,Xe,p,w,c⟩=>by rw[Own.q_ss_cons]at w;exact⟨env,G,_,R,B,C,Xe,p,w,⟨fun env' σ' G' H' k g e w'=>⟨env',G',N,R,B,C,Xe,p.go k g e,w',c.go k⟩,c.rt,c.bk,c.ct⟩⟩
theorem E6{e:Expr}{m:Own.E}{pos:Pos}(he:PE X e (tE X i Z m)):PS X (.Return (some e) pos) (tSt X i Z (.ret m)) :=
 (Ed he).imp fun D σ H ⟨env,G,N,R,B,C,Xe,p,w,c⟩=>by rw[Own.q_s_ret]at w;exact⟨env,G,R,Xe env,p.pre,w,c.rt⟩
theorem Bj{e:Expr}{m:Own.E}{pos:Pos}(he:PE X e (tE X i Z m))(hs:swapsWith e none pos.line X.env=pure false):PS X (.Expr e pos) (tSt X i Z (.expr m)) :=
 (A3 he hs).imp fun D σ H ⟨env,G,N,R,B,C,Xe,p,w,c⟩=>by rw[Own.q_s_expr]at w;exact⟨env,G,_,Xe env,p.pre,w,fun v G1 H1 x k1 g1 r1 w1=>c.nx env σ G1 H1 k1 g1 (p.en.keep k1) w1⟩
theorem FF{t:Expr}{a b:List Stmt}{mt:Own.Tt}{ma mb:Own.Ss}{pos:Pos}(ht:PT X t (tTt X i Z mt))(ha:PSs X a (tBl X i Z ma))(hb:PSs X b (tBl X i Z mb)):PS X (.If t a b pos) (tSt X i Z (.ite mt ma mb)) :=
 (Ha ht ha hb).imp fun D σ H ⟨env,G,N,R,B,C,Xe,p,w,c⟩=>by
  rw[Own.q_s_ite]at w;refine⟨env,G,_,Xe env,p.pre,w,fun d G1 H1 k1 g1 q=>?_⟩;cases d with
  |true=>exact⟨env,G1,N,R,B,C,Xe,p.go k1 g1 (p.en.keep k1),by simpa using q,c.go k1⟩
  |false=>exact⟨env,G1,N,R,B,C,Xe,p.go k1 g1 (p.en.keep k1),by simpa using q,c.go k1⟩
noncomputable def gPt (i:Inf) (p:Own.Pt):TG:=fun x σ H Q=>∃ v env G env2,RV i.K H v x/\RH i G H/\REn i.K H env σ/\Own.bind p G v env=some env2/\∀ σ2,REn i.K H env2 σ2->Q σ2 H
theorem _root_.L2.PG.imp{X:Cx}{tg:Expr}{t t':TG}(h:PG X tg t)(f:∀ v σ H Q,t' v σ H Q->t v σ H Q):PG X tg t':=fun pins s σ H v u Q I r q=>h pins s σ H v u Q I r (f v σ H Q q)
theorem _root_.L2.PGs.imp{X:Cx}{tg:List Expr}{t t':TGs}(h:PGs X tg t)(f:∀ v σ H Q,t' v σ H Q->t v σ H Q):PGs X tg t':=fun pins s σ H v u Q I r q=>h pins s σ H v u Q I r (f v σ H Q q)
theorem Mq{x:Str}{j:Nat}{pos:Pos}(hN:X.N.Nodup)(hi:X.N[j]?=some x)(hx:Loc X.env.scope x)(hf:X.fn x=true\/X.env.scope.names.lookup x=some .local):PG X (.Name x pos) (gPt i (.one j)) :=
 (NI hN hi hx hf).imp fun v σ H Q ⟨u,env,G,env2,r,g,e,b,h⟩=>by cases b;exact h _ (e.set r j)
noncomputable def OO (i:Inf) (js:List Nat):TGs:=fun xs σ H Q=>∃ vs env env2,RVs i.K H vs xs/\REn i.K H env σ/\Own.bindL js vs env=some env2/\∀ σ2,REn i.K H env2 σ2->Q σ2 H
theorem Bv:PGs X [] (OO i []):=pgs_nil.imp fun xs σ H Q ⟨vs,env,env2,r,e,b,h⟩=>by
 cases vs with
 |nil=>cases r;cases b;exact⟨rfl,h _ e⟩
 |cons _ _=>cases b
theorem Uc{x:Str}{j:Nat}{js:List Nat}{es:List Expr}{pos:Pos}(hN:X.N.Nodup)(hi:X.N[j]?=some x)(hx:Loc X.env.scope x)(hf:X.fn x=true\/X.env.scope.names.lookup x=some .local)(h2:PGs X es (OO i js))
  (hs:(assignEach (.Name x pos::es) X.env).map (·.2)=assign (.Name x pos) X.env::(assignEach es X.env).map (·.2)):PGs X (.Name x pos::es) (OO i (j::js)) :=
 (Wf (NI hN hi hx hf) h2 hs).imp fun xs σ H Q ⟨vs,env,env2,r,e,b,h⟩=>by
  cases vs with
  |nil=>cases b
  |cons v vs =>
   cases r with
   |cons r t=>exact⟨_,_,rfl,vs,env.set j (some v),env2,t,e.set r j,b,h⟩
theorem Jc:∀ {js:List Nat}{vs:List Own.Val}{env env2:Own.Env},Own.bindL js vs env=some env2->vs.length=js.length
 |[],[],_,_,_=>rfl
 |j::js,v::vs,env,_,h=>by rw[qB,qB,Jc (show Own.bindL js vs (env.set j (some v))=_ from h)]
 |[],_::_,_,_,h=>by cases h
 |_::_,[],_,_,h=>by cases h
theorem Nq{es:List Expr}{js:List Nat}{k:Nat}{pos:Pos}(hK:X.K=i.K)(hc:X.calm=true)(h:PGs X es (OO i js))(hn:(assignEach es X.env).length=js.length)(hst:(assignEach es X.env).findIdx? (·.1)=none):PG X (.Tuple es k pos) (gPt i (.many js)) :=
 (Ah (n:=js.length) hc h hn hst).imp fun v σ H Q ⟨u,env,G,env2,r,g,e,b,h⟩=>by
  cases u with
  |tup vs =>
   have b:Own.bindL js vs env=some env2:=b;cases r with
   |tup hp hr=>exact⟨_,_,rfl,by rw[hK];exact Zl hp,by rw[<-hr.length];exact Jc b,vs,env,env2,hr,e,b,h⟩
  |_=>cases b
theorem Bt{x:Str}{es:List Expr}{j:Nat}{js:List Nat}{k k2:Nat}{p1 p2 pos:Pos}(hK:X.K=i.K)(hc:X.calm=true)(h1:PG X (.Name x p1) (gPt i (.one j)))(h2:PG X (.Tuple es k2 p2) (gPt i (.many js))):PG X (.Tuple [.Name x p1,.Tuple es k2 p2] k pos) (gPt i (.nest j js)) :=
 (Ah (n:=2) hc (Wf h1 (Wf h2 pgs_nil rfl) rfl) rfl rfl).imp fun v σ H Q ⟨u,env,G,env2,r,g,e,b,h⟩=>by
  cases u with
  |tup vs =>
   cases vs with
   |nil=>cases b
   |cons x0 vs=>cases vs with
    |nil=>cases b
    |cons y vs=>cases vs with
     |cons _ _=>cases b
     |nil =>
      have b:(Own.tupOf y).bind (fun ys=>Own.bindL js ys (env.set j (some x0)))=some env2:=b;cases r with
      |tup hp hr =>
       cases hr with
       |cons r0 t=>cases t with
        |cons r1 t =>cases t;exact⟨_,_,rfl,by rw[hK];exact Zl hp,rfl,_,_,rfl,x0,env,G,_,r0,g,e,rfl,fun σ2 e2=>⟨_,_,rfl,y,_,G,env2,r1,g,e2,b,fun σ3 e3=>⟨rfl,h σ3 e3⟩⟩⟩
  |_=>cases b
theorem DH{tg e:Expr}{m:Own.E}{q:Own.Pt}{pos:Pos}(he:PE X e (tE X i Z m))(hg:PG X tg (gPt i q))(hs:swapsWithSole [tg] e pos.line X.env=pure false)(hw:swappedStores [tg] e X.env=pure none)
  (h1:(assignEach [tg] X.env).map (·.2)=[assign tg X.env]):PS X (.Assign [tg] e pos) (tSt X i Z (.set q m)) :=
 (AQ he hg hs hw h1).imp fun D σ H ⟨env,G,N,R,B,C,Xe,p,w,c⟩=>by rw[Own.q_s_set]at w;refine⟨env,G,_,Xe env,p.pre,w,fun v G1 H1 x k1 g1 r1 w1=>?_⟩;obtain⟨env2,e2,w1⟩:=go_some w1;exact⟨v,env,G1,env2,r1,g1,p.en.keep k1,e2,fun σ2 h2=>c.nx env2 σ2 G1 H1 k1 g1 h2 w1⟩
def CI:V->V->V->Hp->(Hp->Prop)->Prop:=fun o y v H Q=>CJ o y v H Q\/CN o y v H Q
theorem Dj{G G3:Own.Hs}{H:Hp}{o k v:Own.Val}{y z x:V}{Q:Hp->Prop}(g:RH i G H)(ry:RV i.K H o y)(rz:RV i.K H k z)(rx:RV i.K H v x)(e:Own.putV G o k v=some G3)(c:∀ H3,Keep H H3->RH i G3 H3->Q H3):CI y z x H Q:=by
 cases o with
 |ref b =>
  cases ry.ref_inv
  replace e:(match G b with|some (.lst xs)=>(Own.asInt k).bind fun n=>(Own.ixN xs.length n).map fun j=>Own.upd G b (.lst (xs.set j v))|some (.dct kvs)=>if Own.isKey k/\kvs.length<Own.lim then some (Own.upd G b (.dct (Own.putK kvs k v)))else none|some (.dtp kvs)=>if Own.isKeyT k/\kvs.length<Own.lim then some (Own.upd G b (.dtp (Own.putK kvs k v)))else none|_=>none)=some G3:=e
  cases z4:G b with
  |none=>rw[z4]at e;cases e
  |some o =>
   rw[z4]at e;cases o with
   |lst xs =>obtain⟨n,hn,e⟩:=q9.mp e;obtain⟨jj,hj,rfl⟩:=qD.mp e;cases Z6 hn;cases rz.int_inv;obtain⟨vs,h2,r2⟩:=g b _ z4;rw[MD,r2.length]at hj;obtain⟨k3,g3⟩:=JI (xs:=xs) g h2 (xs.set jj v) (vs.set jj x) (r2.set rx jj);exact .inl ⟨b,vs,n,jj,rfl,rfl,h2,hj,c _ k3 g3⟩
   |dct kvs =>obtain⟨hk,e⟩:=Zy (show(if Own.isKey k/\kvs.length<Own.lim then some (Own.upd G b (.dct (Own.putK kvs k v)))else none)=some G3 from e);cases e;obtain⟨ps,h2,r2⟩:=g b _ z4;obtain⟨d,kr,rfl⟩:=key_of hk.1 rz;obtain⟨k3,g3⟩:=Nt (kvs:=kvs) g h2 (r2.put kr rx);exact .inr ⟨b,_,rfl,DPut.k h2 (by rw[<-RKs.length r2];exact qR hk.2 ZE),c _ k3 g3⟩
   |dtp kvs =>obtain⟨hk,e⟩:=Zy (show(if Own.isKeyT k/\kvs.length<Own.lim then some (Own.upd G b (.dtp (Own.putK kvs k v)))else none)=some G3 from e);cases e;obtain⟨ps,h2,r2⟩:=g b _ z4;obtain⟨a1,a2,d,rfl,rfl,hd⟩:=JJ hk.1 rz;obtain⟨k3,g3⟩:=AR g h2 (r2.put (i:=a1) (j:=a2) rx);exact .inr ⟨b,_,rfl,DPut.t h2 hd (by rw[<-RTs.length r2];exact qR hk.2 ZE),c _ k3 g3⟩
   |_=>cases e
 |_=>cases e
theorem Oo{a j e:Expr}{ma mj m:Own.E}{spos pos:Pos}(hK:X.K=i.K)(he:PE X e (tE X i Z m))(ha:PE X a (tE X i Z ma))(hj:PE X j (tE X i Z mj))(hgl:PG X (.Subscript a j spos) (GR (tE X i Z ma) (tE X i Z mj) CI))(hs:swapsWithSole [.Subscript a j spos] e pos.line X.env=pure false)(hw:swappedStores [.Subscript a j spos] e X.env=pure none)
  (h1:(assignEach [.Subscript a j spos] X.env).map (·.2)=[assign (.Subscript a j spos) X.env]):PS X (.Assign [.Subscript a j spos] e pos) (tSt X i Z (.setIdx ma mj m)) :=
 (AQ he hgl hs hw h1).imp fun D σ H ⟨env,G,N,R,B,C,Xe,p,w,c⟩=>by rw[Own.q_s_setIdx]at w;refine⟨env,G,_,Xe env,p.pre,w,fun v G1 H1 x k1 g1 r1 w1=>?_⟩;refine two (p.go k1 g1 (p.en.keep k1)).pre w1 fun o k G2 H2 y z k2 p2 ry rz q=>?_;obtain⟨G3,e3,q⟩:=go_some q;exact Dj p2.hp ry rz (r1.keep k2) e3 fun H3 k3 g3=>c.nx env σ _ _ ((k1.trans k2).trans k3) g3 (p2.en.keep k3) q
structure ItOk (i:Inf) (H0:Hp) (J:It) (st:Own.Hs->Prop) (xs:List Own.Val):Prop where
 go:∀ n G H v,Keep H0 H->RH i G H->st G->xs[n]?=some v->J.go n H/\∀ x H',J.yld n H x H'->Keep H H'/\RH i G H'/\RV i.K H' v x
 stop:∀ n G H,Keep H0 H->RH i G H->st G->xs.length<=n->J.stop n H
noncomputable def tIt (X:Cx) (i:Inf) (Z:Own.Fs) (m:Own.It):TI:=fun σ H R=>∃ env G QI Em,Pre X i σ H env G Em/\Own.wI Z m env G QI Em/\∀ st xs G' H' J,Keep H H'->RH i G' H'->ItOk i H' J st xs->QI st xs G'->R J H'
theorem _root_.L2.PI.imp{X:Cx}{tg e:Expr}{t t':TI}(h:PI X tg e t)(f:∀ σ H Q,t' σ H Q->t σ H Q):PI X tg e t':=fun pins s σ H Q I q=>h pins s σ H Q I (f σ H Q q)
noncomputable def HU (K:PySem.W.Frag) (tl:TE):TI:=fun σ H R=>tl σ H fun x H1=>∃ a,x=.ref a/\(((∃ xs,SqL K H1 a xs)/\R (Itl K a) H1)\/((∃ xs,SqT K H1 a xs)/\R (Itt K a) H1))
theorem Dq{tg l:Expr}{tl:TE}(hl:PE X l tl):PI X tg l (HU X.K tl):=by
 intro pins s σ H R I h;refine thn (hl pins s σ H _ I h) fun v s1 ⟨x,H1,I1,r1,q1⟩=>?_;obtain⟨a,e,q1⟩:=q1;subst e;cases r1;rcases q1 with⟨⟨xs,hq⟩,q⟩|⟨⟨xs,hq⟩,q⟩
 .obtain⟨its,rv,p,hz⟩:=I1.list hq;refine wpAny_pyIter_list p.isList ?_;refine⟨s1.heap.objs.size,[s1.heap.objs.size],_,_,H1,rfl,I1.kept (t':=s1.toks) fun b o e=>Heap.get?_push_of_some _ e,Ot a _,⟨_,Heap.get?_push_size _ rfl,rfl,rfl⟩,fun b hb=>?_,q⟩;have e:b=s1.heap.objs.size:=by simpa using hb
  subst e;exact I1.fpOk (zG _) (I1.hok.fresh (zG _))
 .obtain⟨its,rv,p,hz⟩:=I1.tuple hq;refine wpAny_pyIter_tuple (show s1.heap.IsTuple a its.toArray from p) ?_;refine⟨s1.heap.objs.size,[s1.heap.objs.size],_,_,H1,rfl,I1.kept (t':=s1.toks) fun b o e=>Heap.get?_push_of_some _ e,Mu a _,⟨_,Heap.get?_push_size _ rfl,rfl,rfl⟩,fun b hb=>?_,q⟩;have e:b=s1.heap.objs.size:=by simpa using hb
  subst e;exact I1.fpOk (zG _) (I1.hok.fresh (zG _))
theorem it_lst{H0:Hp}{a:Addr}{xs:List Own.Val}:ItOk i H0 (Itl i.K a) (fun g=>Own.lsOf (g a)=some xs) xs where
 go:=fun n G H v _ g e hv=>by obtain⟨vs,h1,h2⟩:=ZB g e;obtain⟨x,h3,h4⟩:=h2.get hv;refine⟨⟨vs,x,h1,h3⟩,fun y H' ⟨e1,e2⟩=>?_⟩;subst e1;have:=e2 vs h1;rw[h3]at this;cases this;exact⟨Keep.refl _,g,h4⟩
 stop:=fun n G H _ g e hn=>by obtain⟨vs,h1,h2⟩:=ZB g e;exact⟨vs,h1,by rw[<-h2.length];exact hn⟩
theorem it_tup{H0:Hp}{a:Addr}{xs:List Own.Val}{vs:List V}(hp:H0 a=some (.tup vs)\/KT i.K a vs)(hr:RVs i.K H0 xs vs):ItOk i H0 (Itt i.K a) (fun _=>True) xs where
 go:=fun n G H v k g e hv=>by have hp':H a=some (.tup vs)\/KT i.K a vs:=hp.imp (k.t _ _) id;obtain⟨x,h3,h4⟩:=(hr.keep k).get hv;refine⟨⟨vs,x,Zl hp',h3⟩,fun y H' ⟨e1,e2⟩=>?_⟩;subst e1;have:=e2 vs (Zl hp');rw[h3]at this;cases this;exact⟨Keep.refl _,g,h4⟩
 stop:=fun n G H k g e hn=>by have hp':H a=some (.tup vs)\/KT i.K a vs:=hp.imp (k.t _ _) id;exact⟨vs,Zl hp',by rw[<-hr.length];exact hn⟩
theorem it_scr{H0:Hp}{a:Addr}{ns:List Int}(h:(∃ o,H0 a=some (.frz o (.lst (ns.map V.int))))\/KL i.K a (ns.map V.int)):ItOk i H0 (Itl i.K a) (fun _=>True) (ns.map .int) where
 go:=fun n G H v k g e hv=>by have h':SqL i.K H a (ns.map V.int):=ZR (h.imp (fun⟨o,e⟩=>⟨o,k.f _ _ _ e⟩) id);obtain⟨x,h3,h4⟩:=(RVs.ints (K:=i.K) (H:=H) ns).get hv;refine⟨⟨_,x,h',h3⟩,fun y H' ⟨e1,e2⟩=>?_⟩;subst e1;have:=e2 _ h';rw[h3]at this;cases this;exact⟨Keep.refl _,g,h4⟩
 stop:=fun n G H k g e hn=>⟨_,ZR (h.imp (fun⟨o,e⟩=>⟨o,k.f _ _ _ e⟩) id),by simpa using hn⟩
theorem EH{H0:Hp}{lo hi:Int}{n:Nat}(hn:n=(hi - lo).toNat):ItOk i H0 (Itr lo n) (fun _=>True) (Own.rangeV lo hi) where
 go:=fun k G H v _ g _ hv=>by
  unfold Own.rangeV at hv;rw[qF]at hv;have hk:k<(hi - lo).toNat:=by
   by_cases h:k<(hi - lo).toNat
   .exact h
   .rw[List.getElem?_eq_none (by simpa using h)]at hv;cases hv
  rw[List.getElem?_range hk]at hv;cases hv;refine⟨by rw[hn];exact hk,fun x H' ⟨e1,e2⟩=>?_⟩;subst e1 e2;exact⟨Keep.refl _,g,.int _⟩
 stop:=fun k G H _ g _ hk=>by unfold Own.rangeV at hk;show n<=k;simp at hk;omega
theorem ES{tg e:Expr}{m:Own.E}(hK:X.K=i.K)(he:PE X e (tE X i Z m)):PI X tg e (tIt X i Z (.seq m)) :=
 (Dq he).imp fun σ H R ⟨env,G,QI,Em,p,w,c⟩=>by
  rw[Own.q_i_seq]at w;refine one p w fun v G1 H1 x k1 p1 r q=>?_;obtain⟨⟨st,xs⟩,e1,q2⟩:=go_some q;clear q;rw[hK];cases v with
  |tup ys =>
   cases e1;cases r with
   |tup hp hr=>exact⟨_,rfl,.inr ⟨⟨_,Zl hp⟩,c _ _ G1 H1 _ k1 p1.hp (it_tup hp hr) q2⟩⟩
  |scr ns =>
   cases e1;cases r with
   |scr h=>exact⟨_,rfl,.inl ⟨⟨_,ZR h⟩,c _ _ G1 H1 _ k1 p1.hp (it_scr h) q2⟩⟩
  |ref a =>
   cases r.ref_inv;simp only[Own.itV]at e1;cases z:Own.lsOf (G1 a)with
   |none=>rw[z]at e1;cases e1
   |some ys =>rw[z]at e1;cases e1;obtain⟨vs,h1,h2⟩:=ZB p1.hp z;exact⟨a,rfl,.inl ⟨⟨vs,h1⟩,c _ _ G1 H1 _ k1 p1.hp it_lst q2⟩⟩
  |_=>cases e1
theorem UP {tg a:Expr}{m:Own.E}{p pos:Pos}(hg:Gl X "range") (hm:X.mg "range" = none) (ha:PE X a (tE X i Z m)) (hs:starEach [a] X.env=[(false,eval a X.env)]):PI X tg (.Call (.Name "range" p) [a] [] pos) (tIt X i Z (.range m)) :=
 (Oq hg hm (ZT ha pa_nil (by rw[hs];rfl)) hs).imp fun σ H R ⟨env,G,QI,Em,p,w,c⟩=>by rw[Own.q_i_range]at w;refine one p w fun v G1 H1 x k1 p1 r q=>?_;obtain⟨n,e1,q2⟩:=go_some q;clear q;cases Z6 e1;cases r.int_inv;exact⟨n,rfl,q2.1.1,q2.1.2,c _ _ G1 H1 _ k1 p1.hp (EH (by rw[Int.sub_zero])) q2.2⟩
theorem Ev{tg iter:Expr}{body:List Stmt}{q:Own.Pt}{mi:Own.It}{mb:Own.Ss}{pos:Pos}(hp:PassesOwn (model X.prog X.w) X.A X.env X.xe)(hc:X.calm=true)(hi:PI X tg iter (tIt X i Z mi))(hg:PG X tg (gPt i q))(hb:PSs X body (tBl X i Z mb))
  (hs:∀ x,foldedSetIterable iter X.env x=pure x):PS X (.For tg iter body [] pos) (tSt X i Z (.for q mi mb)) :=
 (Fa hp hc hi hg hb hs).imp fun D σ H ⟨env,G,N,R,B,C,Xe,p,w,c⟩=>by
  rw[Own.q_s_for]at w;refine⟨env,G,_,Xe env,p.pre,w,fun st xs G1 H1 J k1 g1 it w1=>?_⟩;refine⟨fun n m σ' H'=>n+m=xs.length/\∃ env' G',Keep H1 H'/\RH i G' H'/\REn i.K H' env' σ'/\Own.wFor st (fun v e g K M=>Own.go (Own.bind q g v e) fun e2=>Own.wSs Z mb e2 g K R M K Xe) N (xs.drop n) env' G',⟨xs.length,by omega,env,G1,Keep.refl _,g1,p.en.keep k1,by simpa using w1⟩,?_⟩;rintro n m σ' H' ⟨hnm,env',G',k2,g2,e2,w2⟩;by_cases hn:n<xs.length
  .right;have hd:xs.drop n=xs[n]::xs.drop (n+1):=List.drop_eq_getElem_cons hn;rw[hd]at w2;obtain⟨s2,w2⟩:=w2;have hv:xs[n]?=some xs[n]:=qH hn;obtain⟨a1,a2⟩:=it.go n G' H' xs[n] k2 g2 s2 hv;refine⟨a1,fun σ3 H3=>∃ env3 G3,Keep H1 H3/\RH i G3 H3/\REn i.K H3 env3 σ3/\Own.wFor st (fun v e g K M=>Own.go (Own.bind q g v e) fun e2=>Own.wSs Z mb e2 g K R M K Xe) N (xs.drop (n+1)) env3 G3,fun σ3 H3 h=>⟨m - 1,by omega,by omega,h⟩,fun x H3 hy=>?_⟩;obtain⟨k3,g3,r3⟩:=a2 x H3 hy;obtain⟨env4,e4,w4⟩:=go_some w2;refine⟨xs[n],env',G',env4,r3,g3,e2.keep k3,e4,fun σ4 h4=>?_⟩;have kk:Keep H H3:=(k1.trans k2).trans k3;refine⟨env4,G',_,R,N,_,Xe,p.go kk g3 h4,w4,⟨fun env5 σ5 G5 H5 k5 g5 e5 w5=>?_,(c.go kk).rt,(c.go kk).nx,fun env5 σ5 G5 H5 k5 g5 e5 w5=>?_⟩⟩
   .exact⟨env5,G5,(k2.trans k3).trans k5,g5,e5,w5⟩
   .exact⟨env5,G5,(k2.trans k3).trans k5,g5,e5,w5⟩
  .left;have hd:xs.drop n=[]:=List.drop_eq_nil_of_le (by omega);rw[hd]at w2;exact⟨it.stop n G' H' k2 g2 w2.1 (by omega),c.nx env' σ' G' H' (k1.trans k2) g2 e2 w2.2⟩
theorem FA:BiOk i .len (fun xs H Q=>((∃ p ys,xs=[.ref p]/\(SqL i.K H p ys\/SqT i.K H p ys)/\Q (.int ys.length) H)\/∃ z,xs=[.str z]/\z.length<=sizeLine/\Q (.int z.length) H)\/∃ a kvs,xs=[V.ref a]/\H a=some (.dK kvs)/\Q (.int kvs.length) H):=by
 intro vs G H xs Q Qm g r w c;obtain⟨v,rfl,w⟩:=Yz w;obtain⟨x,rfl,rx⟩:=r.inv1;cases v with
 |ref a =>
  cases rx.ref_inv
  replace w:(match G a with|some (.lst xs)=>.val (.int xs.length)|some (.dct kvs)=>.val (.int kvs.length)|_=>.no:Own.Rs).wp G Qm:=w
  cases z:G a with
  |none=>rw[z]at w;exact(Zp w).elim
  |some o =>
   rw[z]at w;cases o with
   |lst ys =>obtain⟨us,h1,h2⟩:=g a _ z;refine .inl (.inl ⟨a,us,rfl,.inl (SqL.of h1),?_⟩);rw[<-h2.length];exact c _ G H _ (Keep.refl H) g (.int _) (Zs w)
   |dct kvs =>obtain⟨ps,h1,h2⟩:=g a _ z;refine .inr ⟨a,ps,rfl,h1,?_⟩;rw[<-h2.length];exact c _ G H _ (Keep.refl H) g (.int _) (Zs w)
   |_=>exact(Zp w).elim
 |tup ys =>
  cases rx with
  |tup hp hr =>refine .inl (.inl ⟨_,_,rfl,.inr (Zl hp),?_⟩);rw[<-hr.length];exact c _ G H _ (Keep.refl H) g (.int _) (Zs w)
 |scr ns =>
  cases rx with
  |scr h =>refine .inl (.inl ⟨_,_,rfl,.inl (ZR h),?_⟩);rw[qA];exact c _ G H _ (Keep.refl H) g (.int _) (Zs w)
 |str s =>cases rx.str_inv;obtain⟨hl,w⟩:=Yq w;refine .inl (.inr ⟨_,rfl,by rw[Zv];exact zE hl ZE,?_⟩);rw[Zv];exact c _ G H _ (Keep.refl H) g (.int _) (Zs w)
 |_=>exact(Zp w).elim
theorem B6:BiOk i .list (fun xs H Q=>∃ p ys,xs=[.ref p]/\(SqL i.K H p ys\/SqT i.K H p ys)/\∀ l,H l=none->Q (.ref l) (upd H l (.lst ys))):=by
 intro vs G H xs Q Qm g r w c;obtain⟨v,rfl,w⟩:=Yz w;obtain⟨x,rfl,rx⟩:=r.inv1;cases v with
 |ref a =>cases rx.ref_inv;obtain⟨ys,e,w⟩:=JY (f:=fun xs=>.new (.lst xs)) w;obtain⟨us,h1,h2⟩:=g a _ e;exact⟨a,us,rfl,.inl (SqL.of h1),ZV g (JD w) c fun p hp=>⟨_,upd_same,h2.keep (Keep.new hp)⟩⟩
 |tup ys =>
  cases rx with
  |tup hp hr=>exact⟨_,_,rfl,.inr (Zl hp),ZV g (JD w) c fun p hp=>⟨_,upd_same,hr.keep (Keep.new hp)⟩⟩
 |_=>exact(Zp w).elim
theorem Od{K:PySem.W.Frag}{H:Hp}:∀ {xs:List Own.Val}{bs:List Bool}{vs:List V},Own.blsOf xs=some bs->RVs K H xs vs->vs=bs.map V.bl:=by
 intro xs;induction xs with
 |nil=>intro bs vs e r;cases e;cases r;rfl
 |cons v xs ih =>
  intro bs vs e r;cases v<;>first|(cases e;done)|skip
  case bl b =>
  simp only[Own.blsOf]at e;cases z:Own.blsOf xs with
  |none=>rw[z]at e;cases e
  |some ns=>rw[z]at e;cases e;cases r with|cons a t=>cases a.bl_inv;rw[ih z t];rfl
theorem EF{o:Option Own.Val}{h:Own.Hs}{Q:Own.Q1}(w:(Own.Rs.ofO o).wp h Q):∃ v,o=some v/\Q v h:=by
 cases o with
 |none=>exact(Zp w).elim
 |some v=>exact⟨v,rfl,Zs w⟩
theorem EN:BiOk i .all (fun xs H Q=>∃ p,∃ bs:List Bool,xs=[.ref p]/\SqL i.K H p (bs.map V.bl)/\Q (.bl (bs.all id)) H):=by
 intro vs G H xs Q Qm g r w c;obtain⟨v,rfl,w⟩:=Yz w;obtain⟨x,rfl,rx⟩:=r.inv1;cases v with
 |ref a =>cases rx.ref_inv;obtain⟨v,e,w⟩:=EF w;obtain⟨ys,z,e⟩:=q9.mp e;obtain⟨bs,z2,rfl⟩:=qD.mp e;obtain⟨us,h1,h2⟩:=ZB g z;have:=Od z2 h2;subst this;exact⟨a,bs,rfl,h1,c _ G H _ (Keep.refl H) g (.bl _) w⟩
 |_=>exact(Zp w).elim
set_option exponentiation.threshold 2000 in
theorem O5{k:Int}(h:k.natAbs<10 ^ 200):k.natAbs.log2<1920:=by
 have e:(10:Nat) ^ 200<2 ^ 1920:=by decide
 by_cases h0:k.natAbs=0
 .rw[h0];decide
 .exact(Nat.log2_lt h0).mpr (Nat.lt_trans h e)
theorem Eu:BiOk i .str (fun xs H Q=>(∃ i,xs=[.int i]/\i.natAbs.log2<1920/\Q (.str (toString i)) H)\/∃ z,xs=[.str z]/\Q (.str z) H):=by
 intro vs G H xs Q Qm g r w c;obtain⟨v,rfl,w⟩:=Yz w;obtain⟨x,rfl,rx⟩:=r.inv1;cases v with
 |int a =>cases rx.int_inv;obtain⟨hl,w⟩:=Yq w;exact .inl ⟨a,rfl,O5 hl,c _ G H _ (Keep.refl H) g (.str _) (Zs w)⟩
 |str s=>cases rx.str_inv;exact .inr ⟨_,rfl,c _ G H _ (Keep.refl H) g (.str _) (Zs w)⟩
 |_=>exact(Zp w).elim
theorem AM(ds:List Own.D)(d:Own.D):(toDs ds).any (fun e=>PyData.eqv e (toD d))=ds.any fun e=>Own.D.eqv e d:=by
 induction ds with
 |nil=>rfl
 |cons e es ih=>simp only[toDs,List.any_cons,ih,JC]
theorem Ni{G:Own.Hs}{H:Hp}(g:RH i G H){v u:Own.Val}{x y:V}{ys:List Own.Val}{c:Bool}(rx:RV i.K H v x)(e:Own.inL G v ys=some c)(hy:∀ ds,ys.mapM (Own.dat G (Own.deep - 1))=some ds->IsD i.K H y (.tuple (toDs ds))\/IsD i.K H y (.list (toDs ds))) :
  ∃ ds d,(IsD i.K H y (.tuple ds)\/IsD i.K H y (.list ds))/\IsD i.K H x d/\PyData.canLayAll0 ds=true/\d.canLay0=true/\d.depth<=64/\ds.any (fun e=>PyData.eqv e d)=c:=by
 unfold Own.inL at e;cases z:Own.dat G Own.deep v with
 |none=>rw[z]at e;cases e
 |some d =>
  rw[z]at e;simp only[Option.bind_some]at e;cases z2:ys.mapM (Own.dat G (Own.deep - 1))with
  |none=>rw[z2]at e;cases e
  |some ds =>rw[z2]at e;cases e;exact⟨_,_,hy ds z2,YQ g _ _ _ _ z rx,toDs_lay ds,JA d,zE (WR _ _ _ z) (by decide),AM ds d⟩
theorem No{G:Own.Hs}{H:Hp}(g:RH i G H){u:Own.Val}{y:V}{ys:List Own.Val}(ry:RV i.K H u y)(hu:u=.tup ys\/∃ a,u=.ref a/\Own.lsOf (G a)=some ys):∀ ds,ys.mapM (Own.dat G (Own.deep - 1))=some ds->IsD i.K H y (.tuple (toDs ds))\/IsD i.K H y (.list (toDs ds)):=by
 intro ds hd;rcases hu with rfl|⟨a,rfl,hl⟩
 .left;have:=YQ g Own.deep (.tup ys) (.tup ds) y (by show Option.map _ (List.mapM (Own.dat G (Own.deep - 1)) ys)=_;rw[hd];rfl) ry;simpa[toD]using this
 .right;have:=YQ g Own.deep (.ref a) (.lst ds) y (by show(Own.lsOf (G a)).bind _=_;rw[hl];show Option.map _ (List.mapM (Own.dat G (Own.deep - 1)) ys)=_;rw[hd];rfl) ry;simpa[toD]using this
theorem EK(s t:String)(c:Char)(h:Own.oneC s=some c):(!(Builtin.Str.occurrences (Str.ofString t) (Str.ofString s) 0 (Str.ofString t).length 1).isEmpty)=decide (c∈t.toList):=by
 have e:Str.ofString s=⟨#[c.toNat]⟩:=by
  unfold Own.oneC at h;split at h
  .rename_i d hd;cases h;rw[Str.ofString_eq_toList,hd];rfl
  .cases h
 rw[e,StrLaws.found_one,WT];have inj:∀ {a b:Char},a.toNat=b.toNat->a=b:=fun {a b} e=>Char.ext (UInt32.toNat.inj e);by_cases hc:c∈t.toList
 .rw[qQ hc,decide_eq_true_eq];exact qY hc
 .rw[qP hc,decide_eq_false_iff_not];intro m;obtain⟨d,hd,he⟩:=qZ.mp m;exact hc (inj he▸hd)
noncomputable def Hu (K:PySem.W.Frag):R2:=fun x y H Q=>BP false x y H Q\/A1 K false x y H Q\/∃ i j,x=.str i/\y=.str j/\Q (.bl (!(Builtin.Str.occurrences j i 0 j.length 1).isEmpty)) H
noncomputable def FP (K:PySem.W.Frag):R2:=fun x y H Q=>BP true x y H Q\/A1 K true x y H Q\/∃ i j,x=.str i/\y=.str j/\Q (.bl (!(!(Builtin.Str.occurrences j i 0 j.length 1).isEmpty))) H
theorem Lk(hu:X.A.units+65<cLine):OpR X (compareOp .In) (Hu X.K):=(Eg (by omega)).or ((E8 hu).or OA)
theorem IA(hu:X.A.units+65<cLine):OpR X (compareOp .NotIn) (FP X.K):=(DR (by omega)).or ((Og hu).or Jy)
theorem CA{v u:Own.Val}{G:Own.Hs}{H:Hp}{x y:V}{b:Bool}(g:RH i G H)(rx:RV i.K H v x)(ry:RV i.K H u y)(e:Own.inV G v u=some b) :
  (∃ ds d,(IsD i.K H y (.tuple ds)\/IsD i.K H y (.list ds))/\IsD i.K H x d/\PyData.canLayAll0 ds=true/\d.canLay0=true/\d.depth<=64/\ds.any (fun e=>PyData.eqv e d)=b)\/
  (∃ j k,x=.str j/\y=.str k/\(!(Builtin.Str.occurrences k j 0 k.length 1).isEmpty)=b)\/∃ a o,y=.ref a/\DGet H a x o/\o.isSome=b:=by
 cases u with
 |tup ys=>exact .inl (Ni (u:=.tup ys) g rx e (No g ry (.inl rfl)))
 |ref a =>
  replace e:(match G a with|some (.lst xs)=>Own.inL G v xs|some (.dct kvs)=>if Own.isKey v then some (Own.hasK kvs v)else none|some (.frz kvs)=>if Own.isKey v then some (Own.hasK kvs v)else none|some (.dtp kvs)=>if Own.isKeyT v then some (Own.hasK kvs v)else none|_=>none)=some b:=e
  cases z:G a with
  |none=>rw[z]at e;cases e
  |some o =>
   rw[z]at e;cases o with
   |lst ys=>exact .inl (Ni (u:=.ref a) g rx e (No g ry (.inr ⟨a,rfl,by rw[z];rfl⟩)))
   |dct kvs =>obtain⟨hk,e⟩:=Zy (show(if Own.isKey v then some (Own.hasK kvs v)else none)=some b from e);cases e;obtain⟨ps,h1,h2⟩:=g a _ z;obtain⟨d,kr,rfl⟩:=key_of hk rx;exact .inr (.inr ⟨a,_,ry.ref_inv,DGet.k h1,by rw[h2.has kr,Ye]⟩)
   |frz kvs =>obtain⟨hk,e⟩:=Zy (show(if Own.isKey v then some (Own.hasK kvs v)else none)=some b from e);cases e;obtain⟨ob,ps,h1,h2⟩:=g a _ z;obtain⟨d,kr,rfl⟩:=key_of hk rx;exact .inr (.inr ⟨a,_,ry.ref_inv,.inl ⟨ps,d,.inr ⟨ob,h1⟩,rfl,rfl⟩,by rw[h2.has kr,Ye]⟩)
   |dtp kvs =>obtain⟨hk,e⟩:=Zy (show(if Own.isKeyT v then some (Own.hasK kvs v)else none)=some b from e);cases e;obtain⟨ps,h1,h2⟩:=g a _ z;obtain⟨k1,k2,d,rfl,rfl,hd⟩:=JJ hk rx;exact .inr (.inr ⟨a,_,ry.ref_inv,DGet.t h1 hd,by rw[h2.has,Ye]⟩)
   |_=>cases e
 |str t =>
  cases v with
  |str s =>obtain⟨c,z,rfl⟩:=qD.mp e;exact .inr (.inl ⟨_,_,rx.str_inv,ry.str_inv,EK s t c z⟩)
  |_=>cases e
 |_=>cases e
theorem A4{o:Option Bool}{b:Bool}(e:o.map (!·)=some b):o=some (!b):=by obtain⟨c,z,rfl⟩:=qD.mp e;rw[z,Bool.not_not]
theorem Ib:ZI i .isin (Hu i.K):=by
 intro v u G H x y c Q g rx ry e q;rcases CA g rx ry e with⟨ds,d,h1,h2,h3,h4,h5,h6⟩|⟨j,k,h1,h2,h3⟩|⟨a,o,h1,h2,h3⟩
 .exact .inr (.inl ⟨ds,d,h1,h2,h3,h4,h5,by show Q (.bl (List.any _ _)) H;rw[h6];exact q⟩)
 .exact .inr (.inr ⟨j,k,h1,h2,by rw[h3];exact q⟩)
 .exact .inl ⟨a,o,h1,h2,by rw[h3,Bool.false_xor];exact q⟩
theorem HS:ZI i .notin (FP i.K):=by
 intro v u G H x y c Q g rx ry e q;rcases CA g rx ry (A4 e)with⟨ds,d,h1,h2,h3,h4,h5,h6⟩|⟨j,k,h1,h2,h3⟩|⟨a,o,h1,h2,h3⟩
 .exact .inr (.inl ⟨ds,d,h1,h2,h3,h4,h5,by show Q (.bl (!List.any _ _)) H;rw[h6,Bool.not_not];exact q⟩)
 .exact .inr (.inr ⟨j,k,h1,h2,by rw[h3,Bool.not_not];exact q⟩)
 .exact .inl ⟨a,o,h1,h2,by rw[h3,Bool.true_xor,Bool.not_not];exact q⟩
theorem BA{a b d:Expr}{ma mb md:Own.E}{op op':CmpOp}{cop cop':Own.Cop}{r r':R2}{pos:Pos}(ho:OpR X (compareOp op) r)(hr:ZI i cop r)(ho':OpR X (compareOp op') r')(hr':ZI i cop' r')(ha:PE X a (tE X i Z ma))(hb:PE X b (tE X i Z mb))(hd:PE X d (tE X i Z md))(hm:lastMarks [op,op'] [b,d]=false) :
  PE X (.Compare a [op,op'] [b,d] pos) (tE X i Z (.chain cop cop' ma mb md)) :=
 (U6 ho ho' ha hb hd hm).imp fun σ H Q ⟨env,G,Qm,Em,p,w,k⟩=>by
  rw[Own.q_e_chain]at w;exact two p w fun v u G2 H2 x y k2 p2 rx ry q=>by
   obtain⟨c,e,q⟩:=go_some q;refine hr v u G2 H2 x y c _ p2.hp rx ry e ⟨c,rfl,?_⟩;cases c with
   |true =>
    rw[if_pos rfl]at q ⊢;exact one p2 q fun t G3 H3 z k3 p3 rz q=>by obtain⟨d2,e2,q⟩:=go_some q;exact hr' u t G3 H3 y z d2 Q p3.hp (ry.keep k3) rz e2 (k (.bl d2) G3 H3 (.bl d2) (k2.trans k3) p3.hp (.bl d2) q)
   |false =>rw[if_neg Bool.false_ne_true]at q ⊢;exact k _ G2 H2 _ k2 p2.hp (.bl _) q
theorem U4{a b d:Expr}{ma mb md:Own.E}{op op':CmpOp}{cop cop':Own.Cop}{r r':R2}{pos:Pos}(ho:OpR X (compareOp op) r)(hr:ZI i cop r)(ho':OpR X (compareOp op') r')(hr':ZI i cop' r')(ha:PE X a (tE X i Z ma))(hb:PE X b (tE X i Z mb))(hd:PE X d (tE X i Z md))(hm:lastMarks [op,op'] [b,d]=false) :
  PT X (.Compare a [op,op'] [b,d] pos) (tTt X i Z (.val (.chain cop cop' ma mb md))) :=
 (Aj ho ho' ha hb hd hm).imp fun σ H Q ⟨env,G,Qm,Em,p,w,k⟩=>by
  rw[Own.q_t_val,Own.q_e_chain]at w;exact two p w fun v u G2 H2 x y k2 p2 rx ry q=>by
   obtain⟨c,e,q⟩:=go_some q;refine hr v u G2 H2 x y c _ p2.hp rx ry e ⟨c,rfl,?_⟩;cases c with
   |true =>
    rw[if_pos rfl]at q ⊢;exact one p2 q fun t G3 H3 z k3 p3 rz q=>by obtain⟨d2,e2,q⟩:=go_some q;obtain⟨d3,e3,q⟩:=go_some q;cases e3;exact hr' u t G3 H3 y z d2 _ p3.hp (ry.keep k3) rz e2 ⟨d2,rfl,k d2 G3 H3 (k2.trans k3) p3.hp q⟩
   |false =>rw[if_neg Bool.false_ne_true]at q ⊢;obtain⟨d3,e3,q⟩:=go_some q;cases e3;exact⟨false,rfl,k _ G2 H2 k2 p2.hp q⟩
theorem UE{st:Stmt}:PS X st (tSt X i Z .never):=fun pins s σ H D I ⟨env,G,N,R,B,C,Xe,p,w,c⟩=>by rw[Own.q_s_never]at w;exact w.elim
variable {i:Inf}{G:Own.Hs}{H:Hp}
theorem YT{n:Nat}(ih:∀ (v u:Own.Val) (x y:V),Own.sam G n v u=true->RV i.K H v x->RV i.K H u y->SamV i.K H n x y):∀ {vs us:List Own.Val}{xs ys:List V},Own.samL (Own.sam G n) vs us=true->RVs i.K H vs xs->RVs i.K H us ys->SamVs i.K H n xs ys
 |[],[],_,_,_,.nil,.nil=>.nil
 |v::vs,u::us,_,_,e,.cons r rs,.cons q qs=>by rw[Own.samL,bAq]at e;exact .cons (ih _ _ _ _ e.1 r q) (YT ih e.2 rs qs)
 |[],_::_,_,_,e,_,_=>by cases e
 |_::_,[],_,_,e,_,_=>by cases e
theorem Ci(g:RH i G H):∀ (n:Nat) (v u:Own.Val) (x y:V),Own.sam G n v u=true->RV i.K H v x->RV i.K H u y->SamV i.K H n x y:=by
 intro n;induction n with
 |zero =>
  intro v u x y e r q;cases v with
  |non=>cases u with
   |non=>cases r;cases q;exact .non
   |_=>cases e
  |bl b=>cases u with
   |bl c=>cases r;cases q;have:=eq_of_beq e;subst this;exact .bl _
   |_=>cases e
  |int b=>cases u with
   |int c=>cases r;cases q;have:=eq_of_beq e;subst this;exact .int _
   |_=>cases e
  |str b=>cases u with
   |str c=>cases r;cases q;have:=eq_of_beq e;subst this;exact .str _
   |_=>cases e
  |ref b=>cases u with
   |ref c=>cases r;cases q;have:=eq_of_beq e;subst this;exact .ref _
   |_=>cases e
  |_=>cases e
 |succ n ih =>
  intro v u x y e r q;cases v with
  |non=>cases u with
   |non=>cases r;cases q;exact .non
   |_=>cases e
  |bl b=>cases u with
   |bl c=>cases r;cases q;have:=eq_of_beq e;subst this;exact .bl _
   |_=>cases e
  |int b=>cases u with
   |int c=>cases r;cases q;have:=eq_of_beq e;subst this;exact .int _
   |_=>cases e
  |str b=>cases u with
   |str c=>cases r;cases q;have:=eq_of_beq e;subst this;exact .str _
   |_=>cases e
  |tup xs=>cases u with
   |tup ys =>
    cases r with
    |tup hp hr=>cases q with
     |tup hp2 hr2=>exact .tup (Zl hp) (Zl hp2) (YT ih e hr hr2)
   |_=>cases e
  |ref b=>cases u with
   |ref c =>
    cases r;cases q;rw[Own.sam,Bool.or_eq_true]at e;rcases e with e|e
    .have:=eq_of_beq e;subst this;exact .ref _
    .cases z:Own.lsOf (G b)with
     |none=>rw[z]at e;cases e
     |some xs =>
      cases z2:Own.lsOf (G c)with
      |none=>rw[z,z2]at e;cases e
      |some ys =>rw[z,z2]at e;obtain⟨vs,h1,h2⟩:=ZB g z;obtain⟨us,h3,h4⟩:=ZB g z2;exact .lst h1 h3 (YT ih e h2 h4)
   |_=>cases e
  |scr ns=>cases u<;>cases e
  |key _ _=>cases u<;>cases e
theorem WN(g:RH i G H){v:Own.Val}{x:V}{xs:List Own.Val}(r:RV i.K H v x)(e:Own.asLst G v=some xs):∃ a vs,x=.ref a/\SqL i.K H a vs/\RVs i.K H xs vs:=by
 cases v with
 |ref a =>cases r;obtain⟨vs,h1,h2⟩:=ZB g e;exact⟨a,vs,rfl,h1,h2⟩
 |_=>cases e
theorem Ud(g:RH i G H){v u:Own.Val}{x y:V}(rx:RV i.K H v x)(ry:RV i.K H u y){c:Bool}{f:List Own.Val->List Own.Val->Option Bool}(e:((Own.asLst G v).bind fun xs=>(Own.asLst G u).bind fun ys=>f xs ys)=some c):∃ xs ys a b vs us,f xs ys=some c/\x=.ref a/\y=.ref b/\SqL i.K H a vs/\SqL i.K H b us/\RVs i.K H xs vs/\RVs i.K H ys us:=by
 cases z:Own.asLst G v with
 |none=>rw[z]at e;cases e
 |some xs =>
  cases z2:Own.asLst G u with
  |none=>rw[z,z2]at e;cases e
  |some ys =>rw[z,z2]at e;obtain⟨a,vs,h1,h2,h3⟩:=WN g rx z;obtain⟨b,us,k1,k2,k3⟩:=WN g ry z2;exact⟨xs,ys,a,b,vs,us,e,h1,k1,h2,k2,h3,k3⟩
theorem c_nes:ZI i .nes (Ei i.K):=by
 intro v u G H x y c Q g rx ry e q;obtain⟨xs,ys,a,b,vs,us,e,h1,h2,h3,h4,h5,h6⟩:=Ud g rx ry e;split at e
 .rename_i z;cases e;exact⟨a,b,vs,us,h1,h2,h3,h4,YT (Ci g 8) z h5 h6,q⟩
 .cases e
end Snd
namespace L2
open PySem PySem.Spec PyProof.Rows
variable {X:Cx}
def rD0:R2:=fun x y H Q=>∃ a,x=.ref a/\y=.ref a/\H a=some (.dK [])/\Q (.bl false) H
theorem Bs(hu:X.A.units<cLine):OpR X (compareOp .NotEq) rD0:=by intro pins s σ H x y v u Q I rx ry h;obtain⟨a,rfl,rfl,ha,q⟩:=h;cases rx;cases ry;obtain⟨z,hd,vs,rel,dd⟩:=Ky I.hok ha;cases rel;exact PySem.W.keq_ne (r:=true) hd hd dd dd hu (fun _=>.nil) ⟨.bl false,H,I,rfl,q⟩
def HG (K:PySem.W.Frag):R2:=fun x y H Q=>Ei K x y H Q\/DP K x y H Q\/rD0 x y H Q
theorem E7(hu:X.A.units+64<cLine):OpR X (compareOp .NotEq) (HG X.K):=by
 intro pins s σ H x y v u Q I rx ry h;rcases h with h|h|h
 .exact E5 hu pins s σ H x y v u Q I rx ry h
 .exact UN hu pins s σ H x y v u Q I rx ry h
 .exact Bs (by omega) pins s σ H x y v u Q I rx ry h
end L2
namespace Snd
open PySem L2
variable {i:Inf}
theorem c_neX:ZI i .neX (HG i.K):=by
 intro v u G H x y c Q g rx ry e q;change(if Own.sam0 G v u=true then some false else(Own.eqV G v u).map (!·))=some c at e;split at e
 .rename_i z;cases e;unfold Own.sam0 at z;rw[Bool.or_eq_true]at z;rcases z with z|z
  .cases z1:Own.asLst G v with
   |none=>rw[z1]at z;cases z
   |some xs =>
    cases z2:Own.asLst G u with
    |none=>rw[z1,z2]at z;cases z
    |some ys =>rw[z1,z2]at z;exact .inl (c_nes v u G H x y false Q g rx ry (by show(Own.asLst G v).bind _=_;rw[z1,z2];exact if_pos z) q)
  .refine .inr (.inr ?_);cases v with
   |ref a=>cases u with
    |ref b =>
     cases rx.ref_inv;cases ry.ref_inv;change(a==b&&Own.noPairs (G a))=true at z;rw[bAq]at z;cases eq_of_beq z.1;have z:=z.2;cases w:G a with
     |none=>rw[w]at z;cases z
     |some o =>
      rw[w]at z;cases o with
      |dct kvs=>cases kvs with
       |nil =>obtain⟨us,h1,h2⟩:=g a _ w;cases h2;exact⟨a,rfl,rfl,h1,q⟩
       |cons _ _=>cases z
      |_=>cases z
    |_=>cases z
   |_=>cases u<;>cases z
 .exact .inr (.inl (FT v u G H x y c Q g rx ry e q))
variable {i:Inf}{X:Cx}{Z:Own.Fs}
theorem RVs.strs{K:PySem.W.Frag}{H:Hp}:∀ ss:List String,RVs K H (ss.map Own.Val.str) ((ss.map Str.ofString).map V.str)
 |[]=>.nil
 |s::ss=>.cons (.str s) (RVs.strs ss)
noncomputable def tPt (X:Cx) (i:Inf) (Z:Own.Fs) (m:Own.E):TE:=fun σ H Q=>∃ env G Qm Em,Pre X i σ H env G Em/\Own.wE Z m env G Qm Em/\∀ v G' H',Keep H H'->RH i G' H'->Qm v G'->∃ s,Own.fmtV v=some s/\s.length<=Own.lim/\Q (.str (Str.ofString s)) H'
noncomputable def tJs (X:Cx) (i:Inf) (Z:Own.Fs) (ms:Own.Es):TJ:=fun σ H acc Q=>∃ env G a Qm Em,acc=Str.ofString a/\a.length<=Own.lim/\Pre X i σ H env G Em/\Own.wJ Z ms env G a Qm Em/\∀ s G' H',Keep H H'->RH i G' H'->Qm s G'->Q (Str.ofString s) H'
theorem _root_.L2.PJ.imp{X:Cx}{vs:List Expr}{t t':TJ}(h:PJ X vs t)(f:∀ σ H acc Q,t' σ H acc Q->t σ H acc Q):PJ X vs t':=fun pins s σ H acc Q I q=>h pins s σ H acc Q I (f σ H acc Q q)
theorem Dr{e:Expr}{m:Own.E}{pos:Pos}(he:PE X e (tE X i Z m)):PE X (.FormattedValue e (-1) none pos) (tPt X i Z m) :=
 (A0 he).imp fun σ H Q ⟨env,G,Qm,Em,p,w,c⟩=>by
  refine⟨env,G,Qm,Em,p,w,fun v G1 H1 x k1 g1 r1 w1=>?_⟩;obtain⟨s,e1,hl,q⟩:=c v G1 H1 k1 g1 w1;cases v with
  |str t=>cases e1;cases r1.str_inv;exact .inr ⟨_,rfl,by rw[Zv];exact zE hl ZE,q⟩
  |int n =>
   cases r1.int_inv;simp only[Own.fmtV]at e1;split at e1
   .rename_i hn;cases e1;exact .inl ⟨n,rfl,O5 hn,q⟩
   .cases e1
  |_=>cases e1
theorem Dm{s:String}{j:Nat}{pos:Pos}:PE X (.Constant (.str (Str.ofString s)) j pos) (tPt X i Z (.cst (.str s))) :=
 pe_str.imp fun σ H Q ⟨env,G,Qm,Em,p,w,c⟩=>by rw[Own.q_e_cst]at w;obtain⟨t,e1,hl,q⟩:=c _ G H (Keep.refl H) p.hp w;cases e1;exact q
theorem Ez:PJ X [] (tJs X i Z .nil):=pj_nil.imp fun σ H acc Q ⟨env,G,a,Qm,Em,e,hl,p,w,c⟩=>by rw[Own.q_j_nil]at w;subst e;exact⟨by rw[Zv];exact zE hl ZE,c a G H (Keep.refl H) p.hp w⟩
theorem Nc{e:Expr}{es:List Expr}{m:Own.E}{ms:Own.Es}(he:PE X e (tPt X i Z m))(hr:PJ X es (tJs X i Z ms))(hs:evalEach (e::es) X.env=eval e X.env::evalEach es X.env):PJ X (e::es) (tJs X i Z (.cons m ms)) :=
 (Bo he hr hs).imp fun σ H acc Q ⟨env,G,a,Qm,Em,e,hl,p,w,c⟩=>by rw[Own.q_j_cons]at w;subst e;refine⟨env,G,_,Em,p,w,fun v G1 H1 k1 g1 w1=>?_⟩;obtain⟨s,e1,hl1,w2⟩:=go_some w1;clear w1;refine⟨s,e1,by omega,_,rfl,?_,env,G1,a++s,Qm,Em,(Jx a s).symm,by rw[String.length_append];exact hl1,p.go k1 g1,w2,fun t G2 H2 k2=>c t G2 H2 (k1.trans k2)⟩;rw[<-Jx,Zv,String.length_append];exact zE hl1 ZE
theorem ND{G:Own.Hs}{H:Hp}{p:Addr}{o:HO}(g:RH i G H)(hp:H p=none):RH i G (upd H p o):=g.hid (Keep.new hp) fun b u e=>upd_ne (by rintro rfl;rw[g.free hp]at e;cases e)
noncomputable def tE0 (i:Inf) (Z:Own.Fs) (m:Own.E):TE:=fun σ H Q=>∃ env G Qm,REn i.K H env σ/\RH i G H/\Own.wE Z m env G Qm (fun _ _=>False)/\Cn i H Q Qm
noncomputable def tT0 (i:Inf) (Z:Own.Fs) (m:Own.Tt):TT:=fun σ H Q=>∃ env G Qm,REn i.K H env σ/\RH i G H/\Own.wT Z m env G Qm (fun _ _=>False)/\∀ b G' H',Keep H H'->RH i G' H'->Qm b G'->Q b H'
theorem M6{H:Hp}:XOk X i H (fun _ _=>False):=fun pins σ H0 s H' a cls s' I f ⟨_,_,_,_,_,_,_,z⟩=>z.elim
theorem pe0{e:Expr}{m:Own.E}(h:PE X e (tE X i Z m)):PE X e (tE0 i Z m):=h.imp fun σ H Q ⟨env,G,Qm,r,g,w,c⟩=>⟨env,G,Qm,_,⟨r,g,M6⟩,w,c⟩
theorem pt0{e:Expr}{m:Own.Tt}(h:PT X e (tTt X i Z m)):PT X e (tT0 i Z m):=h.imp fun σ H Q ⟨env,G,Qm,r,g,w,c⟩=>⟨env,G,Qm,_,⟨r,g,M6⟩,w,c⟩
theorem _root_.L2.PIfs.imp{X:Cx}{es:List Expr}{t t':TT}(h:PIfs X es t)(f:∀ σ H Q,t' σ H Q->t σ H Q):PIfs X es t':=fun pins s σ H Q I q=>h pins s σ H Q I (f σ H Q q)
theorem D5:PIfs X [] (tT0 i Z .yes):=pifs_nil.imp fun σ H Q ⟨env,G,Qm,r,g,w,c⟩=>by rw[Own.q_t_yes]at w;exact c true G H (Keep.refl H) g w
theorem Cr{K:PySem.W.Frag}{H H':Hp}{env:Own.Env}{σ:St}{k:Nat}{caps:List Nat}(r:REn K H env σ)(kp:Keep H H'):REn K H' (List.replicate k none++caps.map fun j=>(env[j]?).getD none) (List.replicate k none++MJ σ caps):=by
 refine⟨by simp[MJ],fun n u e=>?_⟩;by_cases hn:n<k
 .rw[List.getElem?_append_left (by rw[qW];exact hn),List.getElem?_replicate,if_pos hn]at e;cases e
 .rw[List.getElem?_append_right (by rw[qW];omega),qW]at e ⊢;generalize n - k=n at e ⊢;simp only[qF]at e;cases z:caps[n]? with
  |none=>rw[z]at e;cases e
  |some j =>
   rw[z]at e;simp only[Option.map_some,Option.some.injEq]at e;cases z2:env[j]? with
   |none=>rw[z2]at e;cases e
   |some o =>rw[z2]at e;have e:o=some u:=e;subst e;obtain⟨y,h1,h2⟩:=r.get j u z2;exact⟨y,by unfold MJ;rw[qF,z];show some ((σ[j]?).getD none)=_;rw[h1];rfl,h2.keep kp⟩
noncomputable def Mi (k:Nat):Own.Pt->Bool
 |.one j=>decide (j<k)
 |.many js=>js.all fun j=>decide (j<k)
 |.nest _ _=>false
theorem W9{r:Own.Env}:∀ {js:List Nat}{vs:List Own.Val}{l env2:Own.Env},(js.all fun j=>decide (j<l.length))=true->Own.bindL js vs (l++r)=some env2->∃ l',env2=l'++r/\l'.length=l.length
 |[],[],l,_,_,e=>by cases e;exact⟨l,rfl,rfl⟩
 |j::js,v::vs,l,_,h,e=>by rw[List.all_cons,bAq,decide_eq_true_eq]at h;have e:Own.bindL js vs ((l++r).set j (some v))=_:=e;rw[List.set_append_left _ _ h.1]at e;obtain⟨l',h1,h2⟩:=W9 (l:=l.set j (some v)) (by rw[List.length_set];exact h.2) e;exact⟨l',h1,by rw[h2,List.length_set]⟩
 |[],_::_,_,_,_,h=>by cases h
 |_::_,[],_,_,_,h=>by cases h
theorem UH{p:Own.Pt}{G:Own.Hs}{v:Own.Val}{l r env2:Own.Env}(h:Mi l.length p=true)(e:Own.bind p G v (l++r)=some env2):∃ l',env2=l'++r/\l'.length=l.length:=by
 cases p with
 |one j =>have e:some ((l++r).set j (some v))=some env2:=e;cases e;exact⟨l.set j (some v),by rw[List.set_append_left _ _ (of_decide_eq_true h)],List.length_set⟩
 |many js =>
  cases v with
  |tup vs=>exact W9 h e
  |_=>cases e
 |nest j js=>cases h
theorem REn.pre{K:PySem.W.Frag}{H:Hp}{l r:Own.Env}{τ:St}(q:REn K H (l++r) τ):REn K H (List.replicate l.length none++r) τ:=by
 refine⟨by rw[<-q.len];simp,fun n u e=>?_⟩;by_cases hn:n<l.length
 .rw[List.getElem?_append_left (by rw[qW];exact hn),List.getElem?_replicate,if_pos hn]at e;cases e
 .rw[List.getElem?_append_right (by rw[qW];omega),qW]at e;exact q.get n u (by rw[List.getElem?_append_right (by omega)];exact e)
theorem MY{caps:List Nat}{k:Nat}{pt:Own.Pt}(hk:Mi k pt=true){mi:Own.It}{mt:Own.Tt}{me:Own.E}:∀ σ H Q,tE X i Z (.comp caps k pt mi mt me) σ H Q->O0 (tIt X i Z mi) k caps (gPt i pt) (tT0 i Z mt) (tE0 i Z me) σ H Q:=fun σ H Q ⟨env,G,Qm,Em,p,w,c⟩=>by
 rw[Own.q_e_comp]at w;refine⟨env,G,_,Em,p,w,fun st xs G1 H1 J k1 g1 it w1=>?_⟩;obtain⟨hl,w1⟩:=w1;generalize hstep:(fun(v:Own.Val) (h2:Own.Hs) (K:Option Own.Val->Own.Hs->Prop) (X2:Own.XQ)=>Own.go (Own.bind pt h2 v (List.replicate k none++caps.map fun j=>(env[j]?).getD none)) fun env2 =>
       Own.wT Z mt env2 h2 (fun k h3=>if k=true then Own.wE Z me env2 h3 (fun u h4=>K (some u) h4) X2 else K none h3) X2)=step at w1
 refine⟨fun n m ys τ H'=>n+m=xs.length/\ys.length<=n/\REn i.K H' (List.replicate k none++caps.map fun j=>(env[j]?).getD none) τ/\∃ acc G',Keep H1 H'/\RH i G' H'/\RVs i.K H' acc ys/\Own.wComp st step (xs.drop n) acc G' (fun ys h5=>Own.new h5 (.lst ys) Qm) (fun _ _=>False),⟨xs.length,by omega,by simp,Cr p.en k1,[],G1,Keep.refl _,g1,.nil,by simpa using w1⟩,?_⟩;rintro n m ys τ H' ⟨hnm,hly,en2,acc,G',k2,g2,r2,w2⟩;refine⟨qR (qS (zE hly (by omega)) hl) ZE,?_⟩;by_cases hn:n<xs.length
 .right;have hd:xs.drop n=xs[n]::xs.drop (n+1):=List.drop_eq_getElem_cons hn;rw[hd]at w2;obtain⟨s2,w2⟩:=w2;have hv:xs[n]?=some xs[n]:=qH hn;obtain⟨a1,a2⟩:=it.go n G' H' xs[n] k2 g2 s2 hv;refine⟨a1,fun ys3 τ3 H3=>ys3.length<=n+1/\REn i.K H3 (List.replicate k none++caps.map fun j=>(env[j]?).getD none) τ3/\∃ acc3 G3,Keep H1 H3/\RH i G3 H3/\RVs i.K H3 acc3 ys3/\Own.wComp st step (xs.drop (n+1)) acc3 G3 (fun ys h5=>Own.new h5 (.lst ys) Qm) (fun _ _=>False),fun ys3 τ3 H3 h=>⟨m - 1,by omega,by omega,h.1,h.2⟩,fun x H3 hy=>?_⟩;obtain⟨k3,g3,r3⟩:=a2 x H3 hy;rw[<-hstep]at w2;obtain⟨env4,e4,w4⟩:=go_some w2;rw[hstep]at w4;obtain⟨l',e5,h5⟩:=UH (l:=List.replicate k none) (by rw[qW];exact hk) e4;rw[qW]at h5;refine⟨xs[n],_,G',env4,r3,g3,en2.keep k3,e4,fun τ4 en4=>?_⟩;have back:REn i.K H3 (List.replicate k none++caps.map fun j=>(env[j]?).getD none) τ4:=by
   rw[e5]at en4;have:=en4.pre;rw[h5]at this;exact this
  refine⟨_,G',_,en4,g3,w4,fun d G5 H5 k5 g5 q5=>?_⟩;have kk:=(k2.trans k3).trans k5;cases d with
  |true =>refine⟨_,G5,_,en4.keep k5,g5,by simpa using q5,fun u G6 H6 y k6 g6 r6 q6=>?_⟩;exact⟨by simpa using hly,(back.keep k5).keep k6,_,G6,kk.trans k6,g6,((((r2.keep k3).keep k5).keep k6).append (.cons r6 .nil)),q6⟩
  |false =>rw[if_neg Bool.false_ne_true]at q5;change if false=true then _ else _;rw[if_neg Bool.false_ne_true];have q5:Own.wComp st step (xs.drop (n+1)) (acc++[]) G5 (fun ys h5=>Own.new h5 (.lst ys) Qm) (fun _ _=>False):=q5;rw[zB]at q5;exact⟨by omega,back.keep k5,acc,G5,kk,g5,(r2.keep k3).keep k5,q5⟩
 .left;have hd:xs.drop n=[]:=List.drop_eq_nil_of_le (by omega);rw[hd]at w2;refine⟨it.stop n G' H' k2 g2 w2.1 (by omega),?_⟩;exact ZV g2 w2.2 ((c.go k1).go k2) fun q hq=>⟨_,upd_same,r2.keep (Keep.new hq)⟩
def N2 (i:Inf) (m:Own.Bm) (r:V->List V->Hp->VK->Prop):Prop:=∀ (v:Own.Val) (vs:List Own.Val) (G:Own.Hs) (H:Hp) (x:V) (xs:List V) (t:Own.Val×Own.Hs) (Q:VK) (Qm:Own.Q1),
 RH i G H->RV i.K H v x->RVs i.K H vs xs->Own.bmV G m v vs=some t->Qm t.1 t.2->Cn i H Q Qm->r x xs H Q
def B1 (i:Inf) (m:Own.Bm) (T:String):Prop:=∀ (v:Own.Val) (G:Own.Hs) (H:Hp) (x:V),RH i G H->RV i.K H v x->Own.bmTy G m v=true->tyV i.K T x H
theorem DB {o e:Expr}{es:List Expr}{name:Str}{apos cpos:Pos}{T id:String}{r:V->List V->Hp->VK->Prop}{m:Own.Bm}{mo:Own.E}{ms:Own.Es}{n:Nat}(hK:X.K=i.K) (pa:PlainAttrs T) (slot:Slot T name id) (hty:typeOf (.builtin id)=pure (.type "method_descriptor")) (mt:MtR X id r) (hT:B1 i m T) (hr:N2 i m r)
  (ho:PE X o (tE X i Z mo)) (ha:PA X (e::es) (tAr X i Z ms n)) (hbase:attributeBase o name X.env (eval o X.env)=eval o X.env)
  (hfew:((backTo cpos (starEach (e::es) X.env)).all (fun x=>!x.1)&&(backToKw cpos (keywordEach [] X.env)).all (fun x=>x.1.isSome)&&decide ((e::es).length+([]:List Keyword).length+(if([]:List Keyword).isEmpty then 0 else 1)<30))=true)
  (hline:(apos.endLine==cpos.line)=true) (hs:starEach (e::es) X.env=(false,eval e X.env)::starEach es X.env) (hplain:(backTo cpos (starEach es X.env)).any (·.1)=false) :
  PE X (.Call (.Attribute o name apos) (e::es) [] cpos) (tE X i Z (.bm m mo ms)) :=
 (F8 pa slot hty mt ho ha hbase hfew hline hs hplain).imp fun σ H Q ⟨env,G,Qm,Em,p,w,c⟩=>by
  rw[Own.q_e_bm]at w;refine one p w fun v G1 H1 x k1 p1 rv q=>⟨by rw[hK];exact hT v G1 H1 x p1.hp rv q.1,env,G1,_,Em,p1,q.2,fun vs G2 H2 xs k2 g2 r2 _ w2=>?_⟩
  obtain⟨t,e,w3⟩:=go_some w2;exact hr v vs G2 H2 x xs t Q Qm g2 (rv.keep k2) r2 e w3 ((c.go k1).go k2)
theorem Hj {o:Expr}{name:Str}{apos cpos:Pos}{T id:String}{r:V->List V->Hp->VK->Prop}{m:Own.Bm}{mo:Own.E}(hK:X.K=i.K) (pa:PlainAttrs T) (slot:Slot T name id) (hty:typeOf (.builtin id)=pure (.type "method_descriptor")) (mt:MtR X id r) (hT:B1 i m T) (hr:N2 i m r)
  (ho:PE X o (tE X i Z mo)) (hbase:attributeBase o name X.env (eval o X.env)=eval o X.env) (hline:(apos.endLine==cpos.line)=true) :
  PE X (.Call (.Attribute o name apos) [] [] cpos) (tE X i Z (.bm m mo .nil)) :=
 (Fv pa slot hty mt ho hbase hline).imp fun σ H Q ⟨env,G,Qm,Em,p,w,c⟩=>by
  rw[Own.q_e_bm]at w;refine one p w fun v G1 H1 x k1 p1 rv q=>⟨by rw[hK];exact hT v G1 H1 x p1.hp rv q.1,?_⟩
  have w2:=q.2;rw[Own.q_a_nil]at w2;obtain⟨t,e,w3⟩:=go_some w2;exact hr v [] G1 H1 x [] t Q Qm p1.hp rv .nil e w3 (c.go k1)
theorem K9{o:Option Own.Ob}(h:Own.isDct o=true):(∃ xs,o=some (.dct xs))\/∃ xs,o=some (.dtp xs):=by
 cases o with
 |none=>cases h
 |some o=>cases o with
  |dct xs=>exact .inl ⟨xs,rfl⟩
  |dtp xs=>exact .inr ⟨xs,rfl⟩
  |_=>cases h
theorem G9 {m:Own.Bm}(hm:m.ty=.l):B1 i m "list":=fun v G H x g r h=>by
 unfold Own.bmTy at h;rw[hm]at h;cases v with
 |ref a =>cases r.ref_inv;obtain⟨xs,e⟩:=K1 (show Own.isLst (G a)=true from h);obtain⟨vs,h1,_⟩:=g a _ e;exact .inl ⟨rfl,vs,SqL.of h1⟩
 |_=>cases h
theorem FL {m:Own.Bm}(hm:m.ty=.d):B1 i m "dict":=fun v G H x g r h=>by
 unfold Own.bmTy at h;rw[hm]at h;cases v with
 |ref a =>
  cases r.ref_inv;rcases K9 (show Own.isDct (G a)=true from h)with⟨xs,e⟩|⟨xs,e⟩
  .obtain⟨vs,h1,_⟩:=g a _ e;exact .inr (.inr (.inl ⟨rfl,.inl ⟨vs,h1⟩⟩))
  .obtain⟨vs,h1,_⟩:=g a _ e;exact .inr (.inr (.inl ⟨rfl,.inr ⟨vs,h1⟩⟩))
 |_=>cases h
theorem Nz{G:Own.Hs}{v:Own.Val}{f:Own.Ad->List Own.Val->Option (Own.Val×Own.Hs)}{t:Own.Val×Own.Hs}(e:Own.bmL G v f=some t):∃ a xs,v=.ref a/\G a=some (.lst xs)/\f a xs=some t:=by
 cases v with
 |ref a=>obtain⟨xs,h1,h2⟩:=Ut e;exact⟨a,xs,rfl,h1,h2⟩
 |_=>cases e
theorem ID{vs:List Own.Val}{α:Type}{o:Option α}{a:α}(e:(match vs with|[]=>o|_=>none)=some a):vs=[]/\o=some a:=by
 cases vs with
 |nil=>exact⟨rfl,e⟩
 |cons _ _=>cases e
theorem HB{vs:List Own.Val}{α:Type}{f:Own.Val->Option α}{a:α}(e:(match vs with|[v]=>f v|_=>none)=some a):∃ v,vs=[v]/\f v=some a:=by
 cases vs with
 |nil=>cases e
 |cons v vs=>cases vs with
  |nil=>exact⟨v,rfl,e⟩
  |cons _ _=>cases e
theorem DL:N2 i .append M4:=fun v vs G H x xs t Q Qm g rx rs e q c=>by obtain⟨a,ys,rfl,e4,e3⟩:=Nz e;obtain⟨u,rfl,e3⟩:=HB e3;obtain⟨hl,e3⟩:=Zy e3;cases e3;cases rx.ref_inv;obtain⟨y,rfl,ry⟩:=rs.inv1;obtain⟨us,h2,r2⟩:=g a _ e4;obtain⟨k3,g3⟩:=JI (xs:=ys) g h2 (ys++[u]) (us++[y]) (r2.app1 ry);exact⟨a,us,y,rfl,rfl,h2,by rw[<-r2.length];exact qR hl ZE,c _ _ _ _ k3 g3 .non q⟩
theorem D3:N2 i .clear OK:=fun v vs G H x xs t Q Qm g rx rs e q c=>by obtain⟨a,ys,rfl,e4,e3⟩:=Nz e;obtain⟨rfl,e3⟩:=ID e3;cases e3;cases rx.ref_inv;cases rs;obtain⟨us,h2,r2⟩:=g a _ e4;obtain⟨k3,g3⟩:=JI (xs:=ys) g h2 [] [] .nil;exact⟨a,us,rfl,rfl,h2,c _ _ _ _ k3 g3 .non q⟩
theorem NB{G:Own.Hs}{v:Own.Val}{f:Own.Ad->List (Own.Val×Own.Val)->Option (Own.Val×Own.Hs)}{t:Own.Val×Own.Hs}(e:Own.bmD G v f=some t):∃ a kvs,v=.ref a/\G a=some (.dct kvs)/\f a kvs=some t:=by
 cases v with
 |ref a =>
  obtain⟨kvs,h1,h2⟩:=q9.mp (show(Own.dcOf (G a)).bind (f a)=some t from e);refine⟨a,kvs,rfl,?_,h2⟩;cases z:G a with
  |none=>rw[z]at h1;cases h1
  |some o =>
   rw[z]at h1;cases o with
   |dct ys=>cases h1;rfl
   |_=>cases h1
 |_=>cases e
theorem Iq{vs:List Own.Val}{α:Type}{f:Own.Val->Own.Val->Option α}{a:α}(e:(match vs with|[v,u]=>f v u|_=>none)=some a):∃ v u,vs=[v,u]/\f v u=some a:=by
 cases vs with
 |nil=>cases e
 |cons v vs=>cases vs with
  |nil=>cases e
  |cons u us=>cases us with
   |nil=>exact⟨v,u,rfl,e⟩
   |cons _ _=>cases e
def OV:V->List V->Hp->VK->Prop:=fun x vs H Q=>∃ a y o,x=.ref a/\vs=[y]/\DGet H a y o/\Q (o.getD .non) H
theorem UC (hu:X.A.units+1<cLine):MtR X "dict.get" OV:=by intro pins s σ H x vs v us Q I rx rv h;obtain⟨a,y,o,rfl,rfl,d,q⟩:=h;cases rx;obtain⟨u,rfl,ru⟩:=rv.one;exact EL hu I d ru fun w' s' I' rw'=>⟨_,_,I',rw',q⟩
def CY:V->List V->Hp->VK->Prop:=fun x vs H Q=>∃ a kvs k v more,x=.ref a/\vs=kV k::more/\(more=[]\/∃ z,more=[z])/\H a=some (.dK kvs)/\ZY kvs k=some v/\Q v (upd H a (.dK (dropK kvs k)))
theorem mt_dpop:MtR X "dict.pop" CY:=by
 intro pins s σ H x vs v us Q I rx rv h;obtain⟨a,kvs,k,y,more,rfl,rfl,hm,hH,l,q⟩:=h;cases rx;rcases hm with rfl|⟨z,rfl⟩
 .obtain⟨u,rfl,ru⟩:=rv.one;exact CZ I hH ru l (.inl rfl) fun w' s' I' rw'=>⟨_,_,I',rw',q⟩
 .obtain⟨u,t,rfl,ru,rt⟩:=rv.two;exact CZ I hH ru l (.inr ⟨_,rfl⟩) fun w' s' I' rw'=>⟨_,_,I',rw',q⟩
def ON:V->List V->Hp->VK->Prop:=fun x vs H Q=>∃ a kvs k z,x=.ref a/\vs=[kV k,z]/\H a=some (.dK kvs)/\ZY kvs k=none/\Q z H
theorem OT:MtR X "dict.pop" ON:=by intro pins s σ H x vs v us Q I rx rv h;obtain⟨a,kvs,k,z,rfl,rfl,hH,l,q⟩:=h;cases rx;obtain⟨u,t,rfl,ru,rt⟩:=rv.two;exact Dy I hH ru l fun s' I'=>⟨_,_,I',rt,q⟩
theorem D4:N2 i .dget OV:=fun v vs G H x xs t Q Qm g rx rs e q c=>by
 obtain⟨a,kvs,rfl,e4,e3⟩:=NB e;obtain⟨k,rfl,e3⟩:=HB e3;obtain⟨hk,e3⟩:=Zy e3;cases e3;cases rx.ref_inv;obtain⟨y,rfl,ry⟩:=rs.inv1;obtain⟨ps,h2,r2⟩:=g a _ e4;obtain⟨d,kr,rfl⟩:=key_of hk ry;refine⟨a,_,_,rfl,rfl,DGet.k (k:=d) h2,?_⟩;obtain⟨l1,l2⟩:=r2.look kr;cases z:Own.lookK kvs k with
 |none=>rw[l2 z];rw[z]at q;exact c _ _ _ _ (Keep.refl H) g .non q
 |some u=>obtain⟨x,hx,rv⟩:=l1 u z;rw[hx];rw[z]at q;exact c _ _ _ _ (Keep.refl H) g rv q
theorem KW{kvs:List (Own.Val×Own.Val)}{k:Own.Val}(h:Own.lookK kvs k=none):Own.dropK kvs k=kvs:=by
 unfold Own.dropK;rw[List.filter_eq_self];intro p hp;have h2:kvs.find? (fun p=>p.1==k)=none:=by unfold Own.lookK at h;exact Option.map_eq_none_iff.mp h
 simpa using List.find?_eq_none.mp h2 p hp
theorem BM:N2 i .dpopD (fun x vs H Q=>CY x vs H Q\/ON x vs H Q):=fun v vs G H x xs t Q Qm g rx rs e q c=>by
 obtain⟨a,kvs,rfl,e4,e3⟩:=NB e;obtain⟨k,dv,rfl,e3⟩:=Iq e3;obtain⟨hk,e3⟩:=Zy e3;cases e3;cases rx.ref_inv;obtain⟨y,z,rfl,ry,rz⟩:=rs.inv2;obtain⟨ps,h2,r2⟩:=g a _ e4;obtain⟨d,kr,rfl⟩:=key_of hk ry;obtain⟨l1,l2⟩:=r2.look kr;cases z:Own.lookK kvs k with
 |none =>
  refine .inr ⟨a,ps,d,_,rfl,rfl,h2,l2 z,?_⟩;rw[z,KW z]at q;have e:Own.upd G a (.dct kvs)=G:=by
   funext b;by_cases hb:b=a
   .subst hb;rw[Own.upd_same,e4]
   .rw[Own.upd_ne hb]
  rw[e]at q;exact c _ _ _ _ (Keep.refl H) g rz q
 |some u =>obtain⟨x,hx,rv⟩:=l1 u z;obtain⟨k3,g3⟩:=Nt (kvs:=kvs) g h2 (r2.drop kr);rw[z]at q;exact .inl ⟨a,ps,d,x,_,rfl,rfl,.inr ⟨_,rfl⟩,h2,hx,c _ _ _ _ k3 g3 (rv.keep k3) q⟩
theorem RFs.look{K:PySem.W.Frag}{H:Hp}{f:String}:∀ {fs:List (String×Own.Val)}{ps:List (Str×V)},RFs K H fs ps->
  (∀ v,fs.lookup f=some v->∃ x,ps.lookup (Str.ofString f)=some x/\RV K H v x)/\(fs.lookup f=none->ps.lookup (Str.ofString f)=none)
 |_,_,.nil=>⟨fun v e=>(by cases e),fun _=>rfl⟩
 |_,_,.cons (f:=g) (v:=u) (x:=y) r t=>by
  have ih:=RFs.look (f:=f) t;rw[qO,qO];by_cases e:f=g
  .subst e;rw[beq_self_eq_true,beq_self_eq_true];exact⟨fun v z=>(by cases z;exact⟨y,rfl,r⟩),fun z=>(by cases z)⟩
  .rw[show(f==g)=false by simpa using e,show(Str.ofString f==Str.ofString g)=false by rw[beq_eq_false_iff_ne];exact fun z=>e (ofS_inj.mp z)];exact ih
theorem RFs.put{K:PySem.W.Frag}{H:Hp}{f:String}{v:Own.Val}{x:V}(q:RV K H v x):∀ {fs:List (String×Own.Val)}{ps:List (Str×V)},RFs K H fs ps->RFs K H (Own.putF fs f v) (L2.putF (Str.ofString f) x ps)
 |_,_,.nil=>.cons q .nil
 |_,_,.cons (f:=g) (v:=u) (x:=y) r t=>by
  unfold Own.putF L2.putF;by_cases e:g=f
  .subst e;rw[if_pos rfl,if_pos rfl];exact .cons q t
  .rw[if_neg e,if_neg fun z=>e (ofS_inj.mp z)];exact .cons r (RFs.put q t)
theorem RFs.length{K:PySem.W.Frag}{H:Hp}:∀ {fs:List (String×Own.Val)}{ps:List (Str×V)},RFs K H fs ps->fs.length=ps.length
 |_,_,.nil=>rfl
 |_,_,.cons _ t=>by rw[qB,qB,RFs.length t]
structure FldOk (i:Inf) (f:String):Prop where
 no:∀ C c,i.cl C c->NoAttr i.K c (Str.ofString f)
structure IC (K:PySem.W.Frag) (C:Addr):Prop where
 ha:PySem.W.findIn K (.ref C) "__class__" = some (some (.builtin "object.__class__"))
 hn:PySem.W.specialIn K (.builtin "object.__class__") "__get__" = some (some (.builtin "getset_descriptor.__get__"))
 htk:PySem.W.takesIn K (.builtin "object.__class__")=some true
 hm:PySem.W.mroIn K C (.type "object")=some true
structure ClsA (i:Inf):Prop where
 cls:∀ C c,i.ins C=true->i.cl C c->Cls i.K c
 ic:∀ C c,i.cl C c->IC i.K c
 un:∀ C a b,i.cl C a->i.cl C b->a=b
theorem Wj{o:Option Own.Ob}{p:String×List (String×Own.Val)}(h:Own.insOf o=some p):o=some (.ins p.1 p.2):=by
 cases o with
 |none=>cases h
 |some o=>cases o with
  |ins C fs=>cases h;rfl
  |_=>cases h
theorem Oi{G:Own.Hs}{v u:Own.Val}{f:String}(h:Own.fldV G v f=some u):∃ a C fs,v=.ref a/\G a=some (.ins C fs)/\fs.lookup f=some u:=by obtain⟨a,h1,h⟩:=q9.mp h;obtain⟨p,h2,h3⟩:=q9.mp h;exact⟨a,p.1,p.2,XF h1,Wj h2,h3⟩
theorem Hv{o:Expr}{mo:Own.E}{f:String}{pos:Pos}(hK:X.K=i.K)(A:ClsA i)(F:FldOk i f)(ho:PE X o (tE X i Z mo))(hb:attributeBase o (Str.ofString f) X.env (eval o X.env)=eval o X.env) :
  PE X (.Attribute o (Str.ofString f) pos) (tE X i Z (.fld mo f)) :=
 (DS ho hb).imp fun σ H Q ⟨env,G,Qm,Em,p,w,c⟩=>by
  rw[Own.q_e_fld]at w;exact one p w fun v G1 H1 x k1 p1 r q=>by obtain⟨u,e,q2⟩:=go_some q;clear q;obtain⟨a,C,fs,rfl,e2,e3⟩:=Oi e;cases r.ref_inv;obtain⟨c',dx,ps,hi,hc,h1,rf⟩:=p1.hp a _ e2;obtain⟨y,l,ry⟩:=rf.look.1 u e3;exact⟨a,c',dx,ps,y,rfl,h1,by rw[hK];exact A.cls _ _ hi hc,by rw[hK];exact F.no _ _ hc,l,c _ _ _ _ k1 p1.hp ry q2⟩
theorem B5{G:Own.Hs}{H:Hp}{a:Addr}{C:String}{c' dx:Addr}{fs:List (String×Own.Val)}{ps ps2:List (Str×V)}(g:RH i G H)(hi:i.ins C=true)(hc:i.cl C c')(h:H a=some (.ins c' dx ps2))(r:RFs i.K H fs ps) :
  Keep H (upd H a (.ins c' dx ps))/\RH i (Own.upd G a (.ins C fs)) (upd H a (.ins c' dx ps)):=by
 have k:Keep H (upd H a (.ins c' dx ps)):=Keep.put (fun xs e=>by rw[h]at e;cases e) fun p u e=>by rw[h]at e;cases e
 exact⟨k,g.put k ⟨c',dx,ps,hi,hc,upd_same,r.keep k⟩⟩
theorem ML{G G':Own.Hs}{o v:Own.Val}{f:String}(h:Own.putFV G o f v=some G'):∃ a C fs,o=.ref a/\G a=some (.ins C fs)/\fs.length<900/\G'=Own.upd G a (.ins C (Own.putF fs f v)):=by
 cases o with
 |ref a =>
  unfold Own.putFV at h;dsimp only at h;split at h
  .rename_i C fs e;obtain⟨hl,h⟩:=Zy h;cases h;exact⟨a,C,fs,rfl,e,hl,rfl⟩
  .cases h
 |_=>cases h
theorem NR{o e:Expr}{mo m:Own.E}{f:String}{pos pos':Pos}(hK:X.K=i.K)(A:ClsA i)(F:FldOk i f)(ho:PE X o (tE X i Z mo))(he:PE X e (tE X i Z m))(hs:swapsWith e (some (.Attribute o (Str.ofString f) pos')) pos.line X.env=pure false) :
  PS X (.Assign [.Attribute o (Str.ofString f) pos'] e pos) (tSt X i Z (.setFld mo f m)) :=
 (Fm ho he hs).imp fun D σ H ⟨env,G,N,R,B,C,Xe,p,w,c⟩=>by rw[Own.q_s_setFld]at w;refine one p.pre w fun v G1 H1 x k1 p1 r q=>?_;refine one p1 q fun u G2 H2 y k2 p2 ry q=>?_;obtain⟨G3,e3,q2⟩:=go_some q;clear q;obtain⟨a,D',fs,rfl,e2,hl,rfl⟩:=ML e3;cases ry.ref_inv;obtain⟨c',dx,ps,hi,hc,h1,rf⟩:=p2.hp a _ e2;obtain⟨k3,g3⟩:=B5 p2.hp hi hc h1 (rf.put (f:=f) (r.keep k2));refine⟨a,c',dx,ps,rfl,h1,by rw[hK];exact A.cls _ _ hi hc,by rw[hK];exact F.no _ _ hc,by rw[<-rf.length];omega,?_⟩;have k:=(k1.trans k2).trans k3;exact c.nx _ _ _ _ k g3 (p.en.keep k) q2
def Dfm (pr:Program) (w:World) (mg:Str->Option Value) (base:Heap) (i:Inf) (P:Own.Pg) (n:Nat) (f:String) (fa:Addr):Prop :=
 ∃ fd ps,FnOk pr w i.K mg base (CX1 pr w) (2*n) fa fd ps (spF i P n f)/\Binds i.K fd ps []
theorem DQ {P:Own.Pg}{n k:Nat}{Cn:String}{C f:Addr}{e:Expr}{es:List Expr}{ms:Own.Es}{p pos:Pos}(hK:X.K=i.K) (hi:i.ins Cn=true) (hc:i.cl Cn C) (M:Mk i.K C f) (D:Dfm X.prog X.w X.mg X.base i P n (Cn ++ ".__init__") f) (hr:Room (2*n+1) X.A)
  (hg:Gl X (Str.ofString Cn)) (hm:X.mg (Str.ofString Cn)=some (.ref C)) (hdb:(Str.ofString Cn==("__debug__" : Str))=false)
  (ha:PA X (e::es) (tAr X i (Own.wF P n) ms k)) (he:starEach (e::es) X.env=(false,eval e X.env)::starEach es X.env) (hpl:(backTo pos (starEach es X.env)).any (·.1)=false) :
  PE X (.Call (.Name (Str.ofString Cn) p) (e::es) [] pos) (tE X i (Own.wF P n) (.make Cn ms)):=by
 obtain⟨fd,ps,F,hb⟩:=D;rw[<-hK]at F hb M;intro pins s σ H Q I h;obtain⟨env,G,Qm,Em,pr,w,c⟩:=h;rw[Own.q_e_make]at w;refine B4 (E:=XK1 i H Em) M F hr hg hm hb .nil (XW.passes pr.xo) ha hdb he hpl pins s σ H Q I ⟨env,G,_,Em,pr,w,fun vs G1 H1 xs k1 g1 r1 hl w1 x dx hx hd hne=>?_⟩;have ka:Keep H1 (upd H1 dx (.own x)):=Keep.new hd;have hx2:upd H1 dx (.own x) x=none:=by rw[upd_ne (fun z=>hne z.symm)];exact hx
 have kb:Keep (upd H1 dx (.own x)) (upd (upd H1 dx (.own x)) x (.ins C dx [])):=Keep.new hx2;have g2:RH i G1 (upd H1 dx (.own x)):=ND g1 hd;have g3:RH i (Own.upd G1 x (.ins Cn [])) (upd (upd H1 dx (.own x)) x (.ins C dx [])):=g2.put kb ⟨C,dx,[],hi,hc,upd_same,.nil⟩;have k:=ka.trans kb;refine⟨.ref x::vs,_,_,Em,.cons (.ref x) (by rw[zB];exact r1.keep k),g3,w1 x (g1.free hx),?_,fun cls d H' h=>(h.go k).go k1⟩;intro v G' H' y k' g' rv ⟨hv,hq⟩;subst hv;exact⟨rv.non_inv,c _ G' H' _ ((k1.trans k).trans k') g' (.ref x) hq⟩
theorem WK{G:Own.Hs}{v:Own.Val}{m C:String}(h:Own.clsV G v m=some C):∃ a fs,v=.ref a/\G a=some (.ins C fs)/\fs.lookup m=none:=by
 obtain⟨a,h1,h⟩:=q9.mp h;obtain⟨p,h2,h3⟩:=q9.mp h;have e:=Wj h2;by_cases z:(p.2.lookup m).isNone=true
 .rw[if_pos z]at h3;cases h3;exact⟨a,p.2,XF h1,e,Option.isNone_iff_eq_none.mp z⟩
 .rw[if_neg z]at h3;cases h3
theorem El {P:Own.Pg}{n k:Nat}{Cn m:String}{C f:Addr}{o e:Expr}{es:List Expr}{mo:Own.E}{ms:Own.Es}{apos pos:Pos}{pl:Sem Bool}(hK:X.K=i.K) (hfn:∀ c,i.cl Cn c->c=C) (A:Cls i.K C) (M:Meth i.K C (Str.ofString m) f) (D:Dfm X.prog X.w X.mg X.base i P n (Cn ++ "." ++ m) f) (hr:Room (2*n) X.A)
  (ho:PE X o (tE X i (Own.wF P n) mo)) (ha:PA X (e::es) (tAr X i (Own.wF P n) ms k)) (he:starEach (e::es) X.env=(false,eval e X.env)::starEach es X.env) (hpl:(backTo pos (starEach es X.env)).any (·.1)=false)
  (ht:eval (.Call (.Attribute o (Str.ofString m) apos) (e::es) [] pos) X.env=(do
    let ov<-eval o X.env
    standAt apos.atName
    let (f,first)<-holding [ov] (getMethod ov (Str.ofString m) pl)
    callWith pos f first (backTo pos (starEach (e::es) X.env)) (backToKw pos (keywordEach [] X.env)))) :
  PE X (.Call (.Attribute o (Str.ofString m) apos) (e::es) [] pos) (tE X i (Own.wF P n) (.meth Cn m mo ms)):=by
 obtain⟨fd,ps,F,hb⟩:=D;rw[<-hK]at F hb M A;intro pins s σ H Q I h;obtain⟨env,G,Qm,Em,pr,w,c⟩:=h;rw[Own.q_e_meth]at w;refine Cv (E:=XK1 i H Em) ho A M F hr hb .nil (XW.passes pr.xo) ha he hpl ht pins s σ H Q I (one pr w fun v G1 H1 x k1 p1 rv q=>?_);obtain⟨hq,w1⟩:=q;obtain⟨a,fs,rfl,e2,e3⟩:=WK hq;cases rv.ref_inv;obtain⟨c',dx,ps',hi,hc,h1,rf⟩:=p1.hp a _ e2;cases hfn c' hc;refine⟨a,dx,ps',rfl,h1,rf.look.2 e3,env,G1,_,Em,p1,w1,fun vs G2 H2 xs k2 g2 r2 hl w2=>?_⟩;exact⟨.ref a::vs,G2,Qm,Em,.cons (.ref a) (by rw[zB];exact r2),g2,w2,(c.go k1).go k2,fun cls d H' h=>(h.go k2).go k1⟩
theorem BJ {P:Own.Pg}{n:Nat}{Cn m:String}{C f:Addr}{o:Expr}{mo:Own.E}{apos pos:Pos}{pl:Sem Bool}(hK:X.K=i.K) (hfn:∀ c,i.cl Cn c->c=C) (A:Cls i.K C) (M:Meth i.K C (Str.ofString m) f) (D:Dfm X.prog X.w X.mg X.base i P n (Cn ++ "." ++ m) f) (hr:Room (2*n) X.A)
  (ho:PE X o (tE X i (Own.wF P n) mo))
  (ht:eval (.Call (.Attribute o (Str.ofString m) apos) [] [] pos) X.env=(do
    let ov<-eval o X.env
    standAt apos.atName
    let (f,first)<-holding [ov] (getMethod ov (Str.ofString m) pl)
    callWith pos f first (backTo pos (starEach [] X.env)) (backToKw pos (keywordEach [] X.env)))) :
  PE X (.Call (.Attribute o (Str.ofString m) apos) [] [] pos) (tE X i (Own.wF P n) (.meth Cn m mo .nil)):=by
 obtain⟨fd,ps,F,hb⟩:=D;rw[<-hK]at F hb M A;intro pins s σ H Q I h;obtain⟨env,G,Qm,Em,pr,w,c⟩:=h;rw[Own.q_e_meth]at w;refine OP (E:=XK1 i H Em) ho A M F hr hb .nil (XW.passes pr.xo) ht pins s σ H Q I (one pr w fun v G1 H1 x k1 p1 rv q=>?_);obtain⟨hq,w1⟩:=q;rw[Own.q_a_nil]at w1;obtain⟨a,fs,rfl,e2,e3⟩:=WK hq;cases rv.ref_inv;obtain⟨c',dx,ps',hi,hc,h1,rf⟩:=p1.hp a _ e2;cases hfn c' hc;refine⟨a,dx,ps',rfl,h1,rf.look.2 e3,?_⟩;exact⟨[.ref a],G1,Qm,Em,.cons (.ref a) .nil,p1.hp,w1,c.go k1,fun cls d H' h=>h.go k1⟩
theorem A9 {P:Own.Pg}{n:Nat}{f:String}{p pos:Pos}(hK:X.K=i.K) (D:Dfo X.prog X.w X.mg X.base i P n f) (hr:Room (2*n) X.A) (hg:Gl X (Str.ofString f)) (hdb:(Str.ofString f==("__debug__" : Str))=false) :
  PE X (.Call (.Name (Str.ofString f) p) [] [] pos) (tE X i (Own.wF P n) (.call f .nil)):=by
 obtain⟨fa,fd,ps,F,hm,hk,hb⟩:=D;rw[<-hK]at F hk hb;intro pins s σ H Q I h;obtain⟨env,G,Qm,Em,pr,w,c⟩:=h;rw[Own.q_e_call,Own.q_a_nil]at w;refine Uy (E:=XK1 i H Em) F hr hg hm hk hb .nil (XW.passes pr.xo) hdb pins s σ H Q I ?_;exact⟨[],G,Qm,Em,.nil,pr.hp,w,c,fun cls d H' h=>h⟩
noncomputable def Nu (X:Cx) (i:Inf) (Z:Own.Fs):Own.Es->List (TE×TE)
 |.cons k (.cons v r)=>(tE X i Z k,tE X i Z v)::Nu X i Z r
 |_=>[]
noncomputable def X5:Own.Es->Bool
 |.nil=>true
 |.cons _ .nil=>false
 |.cons _ (.cons _ r)=>X5 r
noncomputable def esL:Own.Es->Nat
 |.nil=>0
 |.cons _ es=>esL es+1
noncomputable def Ny:List V->List (V×V)
 |x::y::r=>(x,y)::Ny r
 |_=>[]
theorem J0:∀ (es:Own.Es),X5 es=true->∀ {σ:St}{H:Hp}{env:Own.Env}{G:Own.Hs}{Qm:List Own.Val->Own.Hs->Prop}{Em:Own.XQ}{Q:List (V×V)->Hp->Prop},Pre X i σ H env G Em->Own.wA Z es env G Qm Em->
  (∀ vs G' H' xs,Keep H H'->RH i G' H'->RVs i.K H' vs xs->xs.length=esL es->Qm vs G'->Q (Ny xs) H')->Jo (Nu X i Z es) σ H Q
 |.nil,_,σ,H,env,G,Qm,Em,Q,p,w,c=>by rw[Own.q_a_nil]at w;exact c [] G H [] (Keep.refl H) p.hp .nil rfl w
 |.cons k .nil,h,_,_,_,_,_,_,_,_,_,_=>by cases h
 |.cons k (.cons v r),h,σ,H,env,G,Qm,Em,Q,p,w,c=>by rw[Own.q_a_cons]at w;refine one p w fun a G1 H1 x k1 p1 ra q=>?_;rw[Own.q_a_cons]at q;refine one p1 q fun b G2 H2 y k2 p2 rb q2=>?_;refine J0 r h p2 q2 fun vs G' H' xs k3 g3 rv hl hq=>?_;exact c (a::b::vs) G' H' (x::y::xs) ((k1.trans k2).trans k3) g3 (.cons ((ra.keep k2).keep k3) (.cons (rb.keep k3) rv)) (by rw[qB,qB,hl];rfl) hq
theorem XS{K:PySem.W.Frag}{H:Hp}:∀ {vs:List Own.Val}{xs:List V}{kvs:List (Own.Val×Own.Val)},RVs K H vs xs->Own.pairUp vs=some kvs->∃ ps:List (Key×V),Ny xs=ps.map (fun kv=>(kV kv.1,kv.2))/\RKs K H kvs ps/\2*ps.length=xs.length
 |_,_,_,.nil,e=>by cases e;exact⟨[],rfl,.nil,rfl⟩
 |_,_,_,.cons _ .nil,e=>by cases e
 |_,_,kvs,.cons (v:=a) (x:=x) ra (.cons (v:=b) (x:=y) rb t),e=>by
  unfold Own.pairUp at e;split at e
  .rename_i hk;obtain⟨ks,e2,rfl⟩:=qD.mp e;obtain⟨ps,h1,h2,h3⟩:=XS t e2;obtain⟨c,hc,rfl⟩:=key_of hk ra;refine⟨(c,y)::ps,?_,.cons hc rb h2,by rw[qB,qB,qB];omega⟩;show(kV c,y)::Ny _=_;rw[h1];rfl
  .cases e
theorem RKs.merge{K:PySem.W.Frag}{H:Hp}:∀ {kvs:List (Own.Val×Own.Val)}{ps:List (Key×V)}{acc:List (Own.Val×Own.Val)}{bs:List (Key×V)},RKs K H acc bs->RKs K H kvs ps->RKs K H (Own.putAll acc kvs) (Yj bs ps)
 |_,_,_,_,r,.nil=>r
 |_,_,acc,bs,r,.cons (k:=k) (v:=v) (c:=c) (x:=x) (kvs:=kvs) (ps:=ps) a q t=>by show RKs K H (Own.putAll (Own.putK acc k v) kvs) (Yj (L2.putK bs c x) ps);exact RKs.merge (RKs.put a q r) t
theorem Ec{pos:Pos}:PE X (.Dict [] [] pos) (tE X i Z (.dct .nil)) :=
 pe_dnewK.imp fun σ H Q ⟨env,G,Qm,Em,p,w,c⟩=>by rw[Own.q_e_dct]at w;unfold Own.new at w;intro a ha;have w1:=w a (p.hp.free ha);obtain⟨a',e,w2⟩:=go_some w1;cases e;rw[Own.q_a_nil]at w2;obtain⟨ks,e2,_,w3⟩:=go_some w2;cases e2;rw[Own.upd_upd]at w3;have k:=Keep.new (o:=.dK []) ha;exact c _ _ _ _ k (p.hp.put (o:=.dct []) k ⟨[],upd_same,.nil⟩) (.ref a) w3
theorem Gz{es:Own.Es}{keys:List (Option Expr)}{values:List Expr}{pos:Pos}(he:X5 es=true)(h30:esL es<=30)(h:PPs X pos keys values (Nu X i Z es))(hall:keys.all (·.isSome)=true)(hl:keys.length=values.length)(h0:keys≠[])(h15:keys.length<=15):PE X (.Dict keys values pos) (tE X i Z (.dct es)) :=
 (By h hall hl h0 h15).imp fun σ H Q ⟨env,G,Qm,Em,p,w,c⟩=>by
  rw[Own.q_e_dct]at w;unfold Own.new at w;intro a ha;have w1:=w a (p.hp.free ha);obtain⟨a',e,w2⟩:=go_some w1;cases e;have k:=Keep.new (o:=.dK []) ha;have p2:Pre X i σ (upd H a (.dK [])) env (Own.upd G a (.dct [])) Em:=p.go k (p.hp.put (o:=.dct []) k ⟨[],upd_same,.nil⟩);refine J0 es he p2 w2 fun vs G' H' xs k2 g2 rv hl w3=>?_;obtain⟨ks,e2,e3,w4⟩:=go_some w3;obtain⟨ps,e4,r4⟩:=g2 a _ e3;cases r4;obtain⟨qs,h1,h2,h3⟩:=XS rv e2;refine⟨e4,qs,h1,by omega,?_⟩;have k3:Keep H' (upd H' a (.dK (Yj [] qs))):=Keep.put (fun xs e=>by rw[e4]at e;cases e) fun p u e=>by rw[e4]at e;cases e
  exact c _ _ _ _ ((k.trans k2).trans k3) (g2.put (o:=.dct (Own.putAll [] ks)) k3 ⟨_,upd_same,(RKs.merge .nil h2).keep k3⟩) (.ref a) w4
end Snd
namespace L2
open PySem PySem.Spec PyProof.Rows
theorem HA{k:Key}{u:Value}(h:XU k u=true):RelV (kV k) u:=by
 rcases Zm h with⟨i,t,rfl,rfl⟩|⟨x,t,rfl,rfl⟩
 .exact⟨t,rfl⟩
 .exact⟨t,rfl⟩
theorem KV.at:∀ {ps:List (Key×V)}{vs:List (Key×Value)}{i:Nat}{k:Key}{x:V},KV ps vs->ps[i]?=some (k,x)->∃ u,vs[i]?=some (k,u)/\RelV x u:=by
 intro ps vs i k x r;unfold KV at r;induction r generalizing i with
 |nil=>intro h;simp at h
 |@cons p q ps qs h t ih =>
  intro e;cases i with
  |zero =>simp at e;subst e;obtain⟨q1,q2⟩:=q;obtain⟨h1,h2⟩:=h;have h1:k=q1:=h1;subst h1;exact⟨q2,rfl,h2⟩
  |succ i=>simpa using ih (by simpa using e)
def TupsH (I S:Addr) (items:Array Value) (val:Nat->List Int) (h:Heap):Prop:=∀ i v,items[i]?=some v->∃ a its,v=.ref a/\a≠I/\a≠S/\IsTup h a its/\IntsAre its.toList (val i)
theorem TupsH.keep{I S:Addr}{items:Array Value}{val:Nat->List Int}{h h':Heap}(t:TupsH I S items val h)(k:∀ b o,b≠I->b≠S->h.get? b=some o->h'.get? b=some o):TupsH I S items val h':=fun i v e=>by obtain⟨a,its,h1,h2,h3,⟨o,q1,q2⟩,h5⟩:=t i v e;exact⟨a,its,h1,h2,h3,⟨o,k a o h2 h3 q1,q2⟩,h5⟩
section
variable {X:Cx}
theorem YH{P:Program}{w:World}:∀ {ns:List Int}{vs:List (Key×Value)}{acc:List Value},vs.map (·.1)=ns.map Sum.inl->acc.length=vs.length->(∀ (j:Nat) (v:Value),acc[j]?=some v->∃ (k:Key) (x:Value),vs[j]?=some (k,x)/\(Zh P w).is k v=true)->IntsAre acc ns
 |[],[],[],_,_,_=>.nil
 |[],_::_,_,h,_,_=>by cases h
 |_::_,[],_,h,_,_=>by cases h
 |[],[],_::_,_,h,_=>by cases h
 |_::_,_::_,[],_,h,_=>by cases h
 |n::ns,p::vs,u::acc,h1,h2,h3=>by rw[qG,qG]at h1;injection h1 with h1 h1';obtain⟨k,x,e1,e2⟩:=h3 0 u rfl;simp at e1;subst e1;have h1:k=Sum.inl n:=h1;subst h1;obtain⟨t,rfl⟩:∃ t,u=Value.int n t:=HA (k:=Sum.inl n) (u:=u) e2;exact .cons n t (YH (P:=P) (w:=w) h1' (by simpa using h2) fun j v e=>by simpa using h3 (j+1) v (by simpa using e))
theorem Jv (hc:X.calm=true):CallR X (.builtin "sorted") (fun xs H Q=>∃ p kvs,∃ ns:List Int,xs=[.ref p]/\Rd H p (.dK kvs)/\kvs.map (·.1)=ns.map Sum.inl/\ns.length<64/\∀ l,H l=none->Q (.ref l) (upd H l (.lst ((sortI ns).map V.int)))):=by
 intro pins s σ H xs us Q I r h;obtain⟨p,kvs,ns,rfl,hp,hk,h64,q⟩:=h;obtain⟨u,rfl,rx⟩:=ZQ r;cases rx;obtain⟨z,hsm,vs,rel,dd⟩:=Xi I.hok hp;obtain⟨ep,da⟩:=dd.dictAt;have hlen:vs.length=ns.length:=by have:=congrArg List.length hk;simpa[rel.length]using this
 refine Calls.call_function_entry kind_sorted plain_sorted entry_sorted (args_sorted1 _) ?_;unfold Builtin.«sorted»;refine wpAny_bind (m:=checkCount "sorted" 1 1 _) (wpAny_pure ?_);refine wpAny_bind (PySem.W.kdu_collect (A:=X.A.in1) (PySem.W.kdl_dict (knd:=Zh X.prog X.w) (kvs:=vs) (ep:=ep) hsm) (I.ok.hd hc) da (by rw[<-rel.length];exact z) fun h' tk acc hkeep hacc=>?_);have hl:acc.toList.length=vs.length:=by rw[zC];exact hacc.1
 refine wpAny_bind (wpAny_newList ?_ (by rw[hl,<-rel.length];exact z));have hI:IntsAre acc.toList ns:=YH (P:=X.prog) (w:=X.w) (by rw[<-rel.keys];exact hk) hl fun j v e=>hacc.2 j v (by rw[<-Array.getElem?_toList];exact e);have hoL:(h'.push (seqObj "list" acc.toList.toArray 0)).get? h'.objs.size=some (seqObj "list" acc.toList.toArray 0):=Heap.get?_push_size _ rfl;have I1:Inv X pins σ H {s with heap:=h',toks:=tk}:=I.kept hkeep;refine wpAny_bind (wpAny_holding (wpAny_call_entry slot_list_sort ⟨_,hoL,rfl⟩ entry_list_sort (list_sort_tree hoL hI (by rw[hl,hlen];exact h64) fun out ns' a1 a2 a3=>⟨_,rfl,?_⟩) (args_list_sort _)));have e:=Z3 a2 a3;subst e;obtain⟨n,he⟩:=sortedHeap_at (out:=out) hoL;refine wpAny_pure ⟨_,rfl,.ref h'.objs.size,_,I1.laid (a:=h'.objs.size) (o:=.lst ((sortI ns).map V.int)) (t':=tk) (fun b o e=>?_) (zG _) ?_,rfl,q _ (I1.hok.fresh (zG _))⟩
 .have e:h'.get? b=some o:=e;have hb:=Heap.lt_size e;rw[sortedHeap_old (zF hb) (by rw[size_push'];exact Nat.lt_succ_of_lt hb)];exact Heap.get?_push_of_some _ e
 .exact⟨by rw[qA,Z1];unfold sizeLine;omega,out.toList,n,Z7 a1,by simpa[seqObj]using he⟩
end
end L2
namespace Srt
open PySem.W PyProof.Rows
def ok (n:Nat) (lt:Nat->Nat->Bool){α:Type}:KasT α->(α->Prop)->Prop
 |.ret a,Q=>Q a
 |.ask i j k,Q=>i<n/\j<n/\ok n lt (k (lt i j)) Q
section
variable {n:Nat}{lt:Nat->Nat->Bool}
def K (p:Array Nat) (k:Nat):Nat:=p.getD k 0
structure Good (n:Nat) (p:Array Nat):Prop where
 sz:p.size=n
 pm:p.toList.Perm (List.range n)
theorem Good.at{p:Array Nat}(g:Good n p)(h0:0<n)(k:Nat):K p k<n:=by
 unfold K;by_cases h:k<p.size
 .have e:p.getD k 0=p[k]:=by simp[Array.getD,h]
  rw[e];have:p[k]∈List.range n:=g.pm.mem_iff.mp (by simp);exact List.mem_range.mp this
 .have e:p.getD k 0=0:=by simp[Array.getD,h]
  rw[e];exact h0
theorem Good.rev{p:Array Nat}(g:Good n p)(i j:Nat):Good n (kas_rev p i j):=⟨(mirror_size ..).trans g.sz,(Array.perm_iff_toList_perm.mp (mirror_perm ..)).trans g.pm⟩
end
end Srt
namespace L2
open PySem PySem.Spec PyProof.Rows PySem.W
section
variable {prog:Program}{w:World}{A:Around}{E:Value->Shared->Prop}{s:Shared}
def RowsAt (h:Heap) (vs:List Value) (rows:List (List Int)):Prop:=rows.length=vs.length/\∀ i,i<vs.length->∃ p o its n,vs.getD i Value.none=.ref p/\h.get? p=some o/\o.cls=.type "tuple"/\o.data=.seq its n/\IntsAre its.toList (rows.getD i [])/\rows.getD i []≠[]
theorem RowsAt.keep {h h':Heap}{vs:List Value}{rows:List (List Int)}(r:RowsAt h vs rows) (k:∀ b o,h.get? b=some o->o.cls=.type "tuple"->h'.get? b=some o):RowsAt h' vs rows:=⟨r.1,fun i hi=>by
  obtain⟨p,o,its,n,h1,h2,h3,h4,h5⟩:=r.2 i hi
  exact⟨p,o,its,n,h1,k p o h2 h3,h3,h4,h5⟩⟩
end
end L2
namespace Snd
open PySem L2
variable {i:Inf}{X:Cx}{Z:Own.Fs}
theorem KC{H:Hp}:∀ {kvs:List (Own.Val×Own.Val)}{ps:List (Key×V)}{ns:List Int},RKs i.K H kvs ps->Own.keysOf kvs=some ns->ps.map (·.1)=ns.map Sum.inl
 |_,_,ns,.nil,e=>by have e:some []=some ns:=e;cases e;rfl
 |(k,v)::kvs,_,ns,.cons (c:=c) hk _ t,e=>by
  have e:Own.intsOf (k::kvs.map (·.1))=some ns:=e;cases k with
  |int j =>
   have e:(Own.intsOf (kvs.map (·.1))).map (j :: ·)=some ns:=e;obtain⟨ms,z,rfl⟩:=qD.mp e;have ih:=KC (ns:=ms) t z;cases c with
   |inl l =>have hk:j=l:=hk;subst hk;rw[qG,qG,ih]
   |inr _=>exact(show False from hk).elim
  |_=>cases e
theorem RVs.perm{H:Hp}{vs:List Own.Val}{xs:List V}(r:RVs i.K H vs xs):∀ (ps:List Nat),(∀ k∈ps,k<vs.length)->RVs i.K H (ps.map fun k=>vs.getD k .non) (ps.map fun k=>xs.getD k .non)
 |[],_=>.nil
 |k::ps,h=>by have hk:=h k qT;obtain⟨x,h1,h2⟩:=r.get (qH hk);refine .cons ?_ (RVs.perm r ps fun j hj=>h j (qI _ hj));show RV i.K H (vs.getD k .non) (xs.getD k .non);rw[qN,qN,qH hk,h1];exact h2
theorem Mn:BiOk i .sortedI (fun xs H Q=>(∃ p,∃ ns:List Int,xs=[.ref p]/\SqL i.K H p (ns.map V.int)/\ns.length<64/\∀ l,H l=none->Q (.ref l) (upd H l (.lst ((L2.sortI ns).map V.int))))\/
    (∃ p kvs,∃ ns:List Int,xs=[.ref p]/\Rd H p (.dK kvs)/\kvs.map (·.1)=ns.map Sum.inl/\ns.length<64/\∀ l,H l=none->Q (.ref l) (upd H l (.lst ((L2.sortI ns).map V.int))))):=by
 intro vs G H xs Q Qm g r w c;obtain⟨v,rfl,w⟩:=Yz w;obtain⟨x,rfl,rx⟩:=r.inv1;have key:∀ (ns:List Int),(if ns.length<64 then Own.Rs.new (.lst ((Own.sortI ns).map .int))else .no).wp G Qm->ns.length<64/\∀ l,H l=none->Q (.ref l) (upd H l (.lst ((L2.sortI ns).map V.int))):=fun ns w=>by
  split at w
  .rename_i h64;exact⟨h64,ZV g (JD w) c fun p hp=>⟨_,upd_same,RVs.ints _⟩⟩
  .exact(Zp w).elim
 cases v with
 |ref a =>
  cases rx.ref_inv
  replace w:(Own.biSortedI G (.ref a)).wp G Qm:=w
  unfold Own.biSortedI Own.sortAny at w;dsimp only at w;cases z:G a with
  |none=>rw[z]at w;exact(Zp w).elim
  |some o =>
   rw[z]at w;cases o with
   |lst ys =>
    cases z2:Own.intsOf ys with
    |none=>simp only[z2]at w;exact(Zp w).elim
    |some ns =>simp only[z2]at w;obtain⟨us,h1,h2⟩:=g a _ z;have:=ZP z2 h2;subst this;exact .inl ⟨a,ns,rfl,SqL.of h1,key ns w⟩
   |dct kvs =>
    cases z2:Own.keysOf kvs with
    |none=>simp only[z2]at w;exact(Zp w).elim
    |some ns =>simp only[z2]at w;obtain⟨ps,h1,h2⟩:=g a _ z;exact .inr ⟨a,ps,ns,rfl,.inl h1,KC h2 z2,key ns w⟩
   |_=>exact(Zp w).elim
 |scr ns =>
  cases rx with
  |scr h=>exact .inl ⟨_,ns,rfl,ZR h,key ns w⟩
 |_=>exact(Zp w).elim
end Snd
namespace Snd
open PySem L2 PyProof.Rows
variable {i:Inf}{X:Cx}{Z:Own.Fs}
theorem WO:∀ (ns:List Int) (a:Int),a∈Own.dedup ns↔a∈ns
 |[],a=>Iff.rfl
 |x::xs,a=>by
  have ih:=WO xs a;unfold Own.dedup;simp only[qE,List.mem_filter,ih];constructor
  .rintro(h|h)
   .exact .inl h
   .exact .inr h.1
  .rintro(h|h)
   .exact .inl h
   .by_cases e:a=x
    .exact .inl e
    .exact .inr ⟨h,by simpa using e⟩
theorem Xk:∀ ns:List Int,(Own.dedup ns).Nodup
 |[]=>List.nodup_nil
 |x::xs=>by unfold Own.dedup;rw[List.nodup_cons];refine⟨fun h=>?_,List.Nodup.sublist List.filter_sublist (Xk xs)⟩;have:=(List.mem_filter.mp h).2;simp at this
theorem We:∀ (ns acc:List Int),acc.Nodup->(ns.foldl step_dedup acc).Nodup/\∀ a,a∈ns.foldl step_dedup acc↔a∈acc\/a∈ns
 |[],acc,h=>⟨h,fun a=>by simp⟩
 |x::xs,acc,h=>by
  have h2:(step_dedup acc x).Nodup/\∀ a,a∈step_dedup acc x↔a∈acc\/a=x:=by
   unfold step_dedup;split
   .rename_i hc;have hm:x∈acc:=by simpa using hc
    exact⟨h,fun a=>⟨.inl,fun z=>z.elim id fun e=>e▸hm⟩⟩
   .rename_i hc;have hm:x∉acc:=by simpa using hc
    refine⟨?_,fun a=>by simp⟩;rw[List.nodup_append];refine⟨h,by simp,fun a ha b hb=>?_⟩;rw[zH.mp hb];exact fun e=>hm (e▸ha)
  obtain⟨h3,h4⟩:=We xs (step_dedup acc x) h2.1;refine⟨h3,fun a=>?_⟩;rw[List.foldl_cons,h4,h2.2,qE];constructor
  .rintro((z|z)|z)
   .exact .inl z
   .exact .inr (.inl z)
   .exact .inr (.inr z)
  .rintro(z|z|z)
   .exact .inl (.inl z)
   .exact .inl (.inr z)
   .exact .inr z
theorem OD(ns:List Int):(firstMet (fun i=>ns.getD i 0) ns.length).Perm (Own.dedup ns):=by
 have e:(List.range ns.length).map (fun i=>ns.getD i 0)=ns:=by
  apply List.ext_getElem
  .simp
  .intro k h1 h2;simp at h1;simp[h1]
 unfold firstMet;rw[e];obtain⟨h1,h2⟩:=We ns [] List.nodup_nil;refine(List.perm_ext_iff_of_nodup h1 (Xk ns)).mpr fun a=>?_;rw[h2,WO];simp
theorem UV{G:Own.Hs}{H:Hp}{v:Own.Val}{x:V}{ns:List Int}(g:RH i G H)(r:RV i.K H v x)(e:Own.sortOf G v=some ns):∃ p,x=.ref p/\SqL i.K H p (ns.map V.int):=by
 cases v with
 |ref a =>obtain⟨ys,z1,z2⟩:=q9.mp (show(Own.lsOf (G a)).bind Own.intsOf=some ns from e);obtain⟨us,h1,h2⟩:=ZB g z1;have:=ZP z2 h2;subst this;exact⟨a,r.ref_inv,h1⟩
 |scr ms =>
  cases e;cases r with
  |scr h=>exact⟨_,rfl,ZR h⟩
 |_=>cases e
theorem WX:∀ {xs:List Own.Val}{k n:Nat}{v:Own.Val},(Own.enumL k xs)[n]?=some v->∃ x,xs[n]?=some x/\v=.tup [.int ((k+n:Nat):Int),x]
 |[],k,n,v,h=>by simp[Own.enumL]at h
 |x::xs,k,0,v,h=>by have h:some (Own.Val.tup [.int k,x])=some v:=h;cases h;exact⟨x,rfl,rfl⟩
 |x::xs,k,n+1,v,h=>by obtain⟨y,h1,h2⟩:=WX (xs:=xs) (k:=k+1) (n:=n) (v:=v) (by simpa[Own.enumL]using h);refine⟨y,by simpa using h1,?_⟩;rw[h2,show k+1+n=k+(n+1) by omega]
theorem W7:∀ (xs:List Own.Val) (k:Nat),(Own.enumL k xs).length=xs.length
 |[],_=>rfl
 |x::xs,k=>by show(Own.enumL (k+1) xs).length+1=xs.length+1;rw[W7 xs]
theorem O6{H0:Hp}{a:Addr}{xs:List Own.Val}{us:List V}(ha:H0 a=some (.tup us)\/KT i.K a us)(ra:RVs i.K H0 xs us):ItOk i H0 (Ite i.K a) (fun _=>True) (Own.enumL 0 xs) where
 go:=fun n G H v k g e hv=>by obtain⟨x,hx,rfl⟩:=WX hv;have h1:SqT i.K H a us:=Zl (ha.imp (k.t _ _) id);obtain⟨x',h5,h6⟩:=(ra.keep k).get hx;refine⟨⟨us,x',h1,h5⟩,fun w H' ⟨p,e1,hp,e2⟩=>?_⟩;subst e1;have:=e2 us x' h1 h5;subst this;have k:=Keep.new (o:=.tup [.int n,x']) hp;refine⟨k,ND g hp,.tup (.inl upd_same) (.cons ?_ (.cons (h6.keep k) .nil))⟩;rw[Nat.zero_add];exact .int _
 stop:=fun n G H k g e hn=>by have h1:SqT i.K H a us:=Zl (ha.imp (k.t _ _) id);exact⟨us,h1,by rw[<-ra.length,<-W7 xs 0];exact hn⟩
theorem Mp{v:Own.Val}{xs:List Own.Val}(h:Own.tupOf v=some xs):v=.tup xs:=by
 cases v with
 |tup ys=>cases h;rfl
 |_=>cases h
theorem Bc {es:List Expr}{kk:Nat}{tp p pos:Pos}{e:Expr}{m:Own.E}(hK:X.K=i.K) (hg:Gl X "enumerate") (hm:X.mg "enumerate" = none) (he:PE X e (tE X i Z m)) (hs:starEach [e] X.env=[(false,eval e X.env)]) :
  PI X (.Tuple es kk tp) (.Call (.Name "enumerate" p) [e] [] pos) (tIt X i Z (.enum m)) :=
 (OQ hg hm (ZT he pa_nil hs) hs).imp fun σ H R ⟨env,G,QI,Em,p,w,c⟩=>by
  rw[Own.q_i_enum]at w;change tE X i Z m σ H _;refine one p w fun v G1 H1 x k1 p1 rx q=>?_;obtain⟨xs,e1,q2⟩:=go_some q;clear q;cases Mp e1;rw[hK];cases rx with
  |tup hp hr=>exact⟨_,rfl,⟨_,Zl hp⟩,c _ _ G1 H1 _ k1 p1.hp (O6 hp hr) q2⟩
end Snd
namespace L2
open PySem PySem.Spec PyProof.Rows
open PySem.Builtin
section
variable {prog:Program}{w:World}{A:Around}{E:Value->Shared->Prop}
def PairsH (I d:Addr) (items:Array Value) (vals:List (Key×Value)) (prog:Program) (w:World) (h:Heap):Prop:=∀ (i:Nat) (v:Value),items[i]?=some v->∃ (a:Addr) (key:Value) (p:Key×Value),v=.ref a/\a≠I/\a≠d/\vals[i]?=some p/\IsTup h a #[key,p.2]/\(Zh prog w).is p.1 key=true
theorem PairsH.keep{I d:Addr}{items:Array Value}{vals:List (Key×Value)}{h h':Heap}(t:PairsH I d items vals prog w h)(k:∀ b o,b≠I->b≠d->h.get? b=some o->h'.get? b=some o):PairsH I d items vals prog w h':=fun i v e=>by obtain⟨a,key,p,h1,h2,h3,h4,⟨o,q1,q2⟩,h5⟩:=t i v e;exact⟨a,key,p,h1,h2,h3,h4,⟨o,k a o h2 h3 q1,q2⟩,h5⟩
end
theorem KV.all{kvs:List (Key×V)}{vals:List (Key×Value)}(r:KV kvs vals):∀ {m:List (Key×V)}{n:List (Key×Value)},KV m n->KV (kvs.foldl (fun m p=>putK m p.1 p.2) m) (vals.foldl (fun m p=>stored m p.1 p.2) n):=by
 unfold KV at r;induction r with
 |nil=>exact fun h=>h
 |cons q t ih =>intro m n h;rename_i a b l1 l2;obtain⟨k,x⟩:=a;obtain⟨k2,u⟩:=b;obtain⟨e,rx⟩:=q;cases (show k=k2 from e);exact ih (h.put k rx)
theorem KF:entryFor table "list_reverseiterator.__next__" = some Builtin.«list_reverseiterator.__next__»:=entryFor_of_tree (by kernel_rfl)
theorem J6 (a:Value):argsOk "list_reverseiterator.__next__" ⟨[a],[]⟩:=by unfold argsOk;kernel_rfl
theorem slot_rnext:Slot "list_reverseiterator" "__next__" "list_reverseiterator.__next__" :=
 .of (owner:="list_reverseiterator") (n:="__next__") (by rw[typeLookup_type,builtinLookup_eq_fast];kernel_rfl) (by decide +kernel) (by decide +kernel) (by decide +kernel)
  (by first|exact .inl (by decide +kernel)|exact .inr (by decide +kernel)) (by rw[isSubtype_type];kernel_rfl)
theorem X9:Slot "list_reverseiterator" "__iter__" "list_reverseiterator.__iter__" :=
 .of (owner:="list_reverseiterator") (n:="__iter__") (by rw[typeLookup_type,builtinLookup_eq_fast];kernel_rfl) (by decide +kernel) (by decide +kernel) (by decide +kernel)
  (by first|exact .inl (by decide +kernel)|exact .inr (by decide +kernel)) (by rw[isSubtype_type];kernel_rfl)
theorem Av:entryFor table "list_reverseiterator.__iter__" = some Builtin.«dict_keyiterator.__iter__» :=
 entryFor_alias (id':="dict_keyiterator.__iter__") (by kernel_rfl) (by first|rfl|decide +kernel|(unfold String.splitOn;simp +decide [String.splitOnAux])) (by decide +kernel) (by kernel_rfl)
theorem Uk (a:Value):argsOk "list_reverseiterator.__iter__" ⟨[a],[]⟩:=by unfold argsOk;kernel_rfl
def RevIt (h:Heap) (it l:Addr) (k:Int):Prop:=∃ o,h.get? it=some o/\o.cls=.type "list_reverseiterator"/\o.data=.fields #[.ref l,.int k 0]
section
variable {prog:Program}{w:World}{A:Around}{E:Value->Shared->Prop}{s:Shared}
theorem RevIt.typeIs {it l:Addr}{k:Int}(h:RevIt s.heap it l k):s.TypeIs (.ref it) "list_reverseiterator":=by obtain⟨o,h1,h2,_⟩:=h;exact⟨o,h1,h2⟩
theorem U7{it l:Addr}{k:Nat}{items:Array Value}{x:Value}{Q:Option Value->Shared->Prop}(hit:RevIt s.heap it l k)(hl:s.heap.IsList l items)(hx:items[k]?=some x)
  (hQ:∀ h',RevIt h' it l ((k:Int) - 1)->Heap.SameBut it s.heap h'->Q (some x) {s with heap:=h'}):wpAny (model prog w) A (pyNext (.ref it)) Q E s:=by
 have hT:=hit.typeIs;obtain⟨o,ho,hc,hd⟩:=id hit;obtain⟨ol,hol,_,nl,hdl⟩:=hl;unfold pyNext;refine wpAny_bind (wpAny_attempt (wpAny_callSpecial?_slot (name:=Str.ofString "__next__") hT slot_rnext (wpAny_call_entry slot_rnext hT KF ?_ (J6 _))));show wpAny _ _ (field (.ref it) 1 >>= _) _ _ s;refine wpAny_bind (wpAny_field ho hd (x:=.int k 0) rfl ?_);refine wpAny_ite_split (fun hab=>absurd hab (by omega)) (fun _=>?_);show wpAny _ _ (field (.ref it) 0 >>= _) _ _ s;refine wpAny_bind (wpAny_field ho hd (x:=.ref l) rfl ?_);show wpAny _ _ (seqItems? (.ref l) >>= _) _ _ s;refine wpAny_bind (wpAny_seqItems hol hdl ?_);simp only[Int.toNat_natCast,hx];refine wpAny_bind (wpAny_setField ho hd (by simp) (wpAny_pure ⟨x,rfl,wpAny_pure (hQ _ ?_ (Heap.SameBut.update ..))⟩));exact⟨_,Heap.get?_update_self _ ho (Obj.isFreed_of_fields (Obj.data_mapFields hd _)),(Obj.cls_mapFields ..).trans hc,by
   rw[Obj.data_mapFields hd];simp[rawInt]⟩
theorem Cq {it l:Addr}{Q:Option Value->Shared->Prop}(hh:A.handled=none) (hit:RevIt s.heap it l (-1)) (hQ:∀ h',Heap.ExtBut it s.heap h'->Q none {s with heap:=h'}):wpAny (model prog w) A (pyNext (.ref it)) Q E s:=by have hT:=hit.typeIs;obtain⟨o,ho,hc,hd⟩:=id hit;unfold pyNext;refine wpAny_bind (wpAny_attempt (wpAny_callSpecial?_slot (name:=Str.ofString "__next__") hT slot_rnext (wpAny_call_entry slot_rnext hT KF ?_ (J6 _))));show wpAny _ _ (field (.ref it) 1 >>= _) _ _ s;refine wpAny_bind (wpAny_field ho hd (x:=.int (-1) 0) rfl ?_);refine wpAny_ite_split (fun _=>?_) (fun hab=>absurd (by decide) hab);refine wpAny_bind (wpAny_rule ?_);refine wpAny_bind ?_;show wpAny _ _ (newExc (.type "StopIteration") [] >>= _) _ _ _;refine wpAny_bind ?_;simp only[newExc,newTuple];refine wpAny_bind (wpAny_newObj_type ?_ (by size_fits));refine wpAny_bind (m:=firstArgMember _ _) (wpAny_of_eq (a:=Value.none) (by first|rfl|(simp only[firstArgMember];rfl)) ?_);refine wpAny_newObj_type ?_ (by size_fits);simp only[raiseNew];refine wpAny_bind (wpAny_handled ?_);rw[show A.in1.handled=none from hh];refine wpAny_bind (wpAny_pure (wpAny_throw ?_));refine wpAny_bind (wpAny_isInstance (T:="StopIteration") (b:=true) ⟨_,Heap.get?_push_size _ rfl,rfl⟩ isSubtype_stop ?_);exact wpAny_pure (hQ _ (fun b o _ e=>Heap.get?_push_of_some _ (Heap.get?_push_of_some _ e)))
theorem AC {it l:Addr}{k:Int}{Q:Value->Shared->Prop}(hit:RevIt s.heap it l k) (h:Q (.ref it) s):wpAny (model prog w) A (pyIter (.ref it)) Q E s:=by have hT:=hit.typeIs;refine wpAny_pyIter_slot hT X9 (wpAny_call_entry X9 hT Av ?_ (Uk _));show wpAny _ _ (ret (.ref it)) _ _ s;exact wpAny_pure ⟨_,rfl,"list_reverseiterator",_,hT,slot_rnext.lookup,h⟩
end
theorem Walks.rev{prog:Program}{w:World}{A:Around}(hh:A.handled=none)(I ax:Addr)(hne:ax≠I)(items:Array Value) :
  Walks prog w A I [I,ax] [I] items.size (fun i v=>items[items.size - 1 - i]?=some v) (fun i h=>RevIt h I ax ((items.size:Int) - 1 - i)/\h.IsList ax items) where
 sub:=fun b hb=>by simp at hb;simp[hb]
 frame:=fun _ _ _ st hk=>⟨by obtain⟨o,h1,h2⟩:=st.1;exact⟨o,hk I (by simp) o h1,h2⟩,st.2.at fun o e=>hk ax (by simp) o e⟩
 item:=fun i s Q E hi st hQ=>by
  have e:(items.size:Int) - 1 - i=((items.size - 1 - i:Nat):Int):=by omega
  rw[e]at st;have hlt:items.size - 1 - i<items.size:=by omega
  refine U7 st.1 st.2 (x:=items[items.size - 1 - i]) (by simp[hlt]) fun h' hit' hs'=>?_;exact hQ _ h' s.toks (by simp[hlt]) ⟨by rw[show(items.size:Int) - 1 - ((i+1:Nat):Int)=((items.size - 1 - i:Nat):Int) - 1 by omega];exact hit',st.2.extBut hs'.extBut hne⟩ fun b o hb e=>hs'.extBut b o (fun h=>hb (by simp[h])) e
 done:=fun s Q E st hQ=>by rw[show(items.size:Int) - 1 - (items.size:Nat)=-1 by omega]at st;exact Cq hh st.1 fun h' he'=>hQ h' s.toks fun b o hb e=>he' b o (fun h=>hb (by simp[h])) e
 self:=fun _ _ _ _ st hQ=>AC st.1 hQ
end L2
namespace L2
open PySem
abbrev Ris (xs:Array Nat):Prop:=xs.toList.Pairwise (· < ·)
def KZ (xs:Array Nat) (j lo:Nat):Prop:=lo<=xs.size/\(∀ k x,k<lo->xs[k]?=some x->x<j)/\∀ k x,lo<=k->xs[k]?=some x->j<=x
theorem YG{xs:Array Nat}(h:Ris xs){a b x y:Nat}(hab:a<b)(ha:xs[a]?=some x)(hb:xs[b]?=some y):x<y:=by rw[<-Array.getElem?_toList]at ha hb;obtain⟨h1,rfl⟩:=qK.mp ha;obtain⟨h2,rfl⟩:=qK.mp hb;exact List.pairwise_iff_getElem.mp h a b h1 h2 hab
theorem XO{xs:Array Nat}(h:Ris xs){j:Nat}:∀ (f lo hi:Nat),hi - lo<=f->lo<=hi->hi<=xs.size->(∀ k x,k<lo->xs[k]?=some x->x<j)->(∀ k x,hi<=k->xs[k]?=some x->j<=x)->KZ xs j (SetTable.below.go xs j f lo hi)
 |0,lo,hi,h1,h2,h3,h4,h5=>by
  have e:lo=hi:=by omega
  subst e;exact⟨h3,h4,h5⟩
 |f+1,lo,hi,h1,h2,h3,h4,h5=>by
  unfold SetTable.below.go;by_cases hl:lo<hi
  .rw[if_pos hl];dsimp only;have hm:(lo+hi) / 2<xs.size:=by omega
   have hx:xs[(lo+hi) / 2]?=some xs[(lo+hi) / 2]:=Array.getElem?_eq_getElem hm;have hg:xs.getD ((lo+hi) / 2) j=xs[(lo+hi) / 2]:=by simp[Array.getD,hm]
   rw[hg];by_cases hc:xs[(lo+hi) / 2]<j
   .rw[if_pos hc];refine XO h f _ _ (by omega) (by omega) h3 (fun k x hk hkx=>?_) h5;by_cases hkm:k=(lo+hi) / 2
    .subst hkm;rw[hx]at hkx;cases hkx;exact hc
    .exact Nat.lt_trans (YG h (by omega) hkx hx) hc
   .rw[if_neg hc];refine XO h f _ _ (by omega) (by omega) (by omega) h4 fun k x hk hkx=>?_;by_cases hkm:k=(lo+hi) / 2
    .subst hkm;rw[hx]at hkx;cases hkx;omega
    .exact zE (Nat.not_lt.mp hc) (Nat.le_of_lt (YG h (by omega) hx hkx))
  .rw[if_neg hl];have e:lo=hi:=by omega
   subst e;exact⟨h3,h4,h5⟩
theorem Ko{xs:Array Nat}(h:Ris xs)(j:Nat):KZ xs j (SetTable.below xs j):=by unfold SetTable.below;refine XO h xs.size 0 xs.size (by omega) (by omega) (by omega) (fun k x hk=>by omega) fun k x hk hkx=>?_;rw[Array.getElem?_eq_none hk]at hkx;cases hkx
theorem Uo{xs:Array Nat}{j a b:Nat}(ha:KZ xs j a)(hb:KZ xs j b):a=b:=by
 obtain⟨a1,a2,a3⟩:=ha;obtain⟨b1,b2,b3⟩:=hb;rcases Nat.lt_trichotomy a b with h|h|h
 .have hx:=Array.getElem?_eq_getElem (xs:=xs) (i:=a) (by omega);have:=b2 a _ h hx;have:=a3 a _ (zG _) hx;omega
 .exact h
 .have hx:=Array.getElem?_eq_getElem (xs:=xs) (i:=b) (by omega);have:=a2 b _ h hx;have:=b3 b _ (zG _) hx;omega
theorem Om{xs:Array Nat}(h:Ris xs){i x:Nat}(hx:xs[i]?=some x):KZ xs (x+1) (i+1):=by
 have hi:i<xs.size:=(Array.getElem?_eq_some_iff.mp hx).1;refine⟨hi,fun k y hk hky=>?_,fun k y hk hky=>YG h (by omega) hx hky⟩;by_cases e:k=i
 .subst e;rw[hx]at hky;cases hky;omega
 .have:=YG h (show k<i by omega) hky hx;omega
theorem N4(xs:Array Nat):KZ xs 0 0:=⟨Nat.zero_le _,fun k x hk=>by omega,fun _ _ _ _=>Nat.zero_le _⟩
theorem AV{xs:Array Nat}(h:Ris xs){j:Nat}(hn:xs[SetTable.below xs j]?≠some j):Ris (SetTable.insertAt xs (SetTable.below xs j) j):=by
 obtain⟨c1,c2,c3⟩:=Ko h j;generalize SetTable.below xs j=p at c1 c2 c3 hn;unfold Ris;rw[SetTable.toList_insertAt];have hs:(xs.toList.take p++xs.toList.drop p).Pairwise (· < ·):=by rw[List.take_append_drop];exact h
 obtain⟨h1,h2,h3⟩:=List.pairwise_append.mp hs;have hlo:∀ a∈xs.toList.take p,a<j:=fun a ha=>by obtain⟨k,hk,rfl⟩:=List.mem_take_iff_getElem.mp ha;refine c2 k _ (by omega) ?_;rw[<-Array.getElem?_toList];exact qH _
 have hhi:∀ a∈xs.toList.drop p,j<a:=fun a ha=>by
  obtain⟨k,e⟩:=List.mem_iff_getElem?.mp ha;rw[List.getElem?_drop,Array.getElem?_toList]at e;have:=c3 (p+k) _ (by omega) e;rcases Nat.lt_or_ge j a with q|q
  .exact q
  .exfalso;have e2:a=j:=by omega
   subst e2;by_cases k0:k=0
   .subst k0;exact hn e
   .have hp:xs[p]?=some (xs[p]'(by have:=(Array.getElem?_eq_some_iff.mp e).1;omega)):=Array.getElem?_eq_getElem _;have:=YG h (show p<p+k by omega) hp e;have:=c3 p _ (zG _) hp;omega
 exact List.pairwise_append.mpr ⟨h1,List.pairwise_cons.mpr ⟨hhi,h2⟩,fun a ha b hb=>by
   rcases qE.mp hb with rfl|hb
   . exact hlo a ha
   . exact Nat.lt_trans (hlo a ha) (hhi b hb)⟩
structure Tb (b:Bool) (t:SetTable):Prop where
 led:b=false->t.led=true
 ris:Ris t.place
 dum:t.dummies=#[]
theorem KG{t:SetTable}{f:Nat->Int}{h:Int}(hd:t.dummies=#[]):∀ (n:Nat) (p:SetTable.Probe) (j:Nat) (d:Option Nat),p.dummy=none->SetTable.probe.go t f h n p=some (.empty j d)->t.slot j=.empty/\d=none
 |0,p,j,d,h0,e=>by unfold SetTable.probe.go at e;cases e
 |n+1,p,j,d,h0,e=>by
  unfold SetTable.probe.go at e;cases hs:t.slot p.j with
  |empty =>rw[hs]at e;dsimp only at e;injection e with e;injection e with e1 e2;subst e1;exact⟨hs,e2▸h0⟩
  |dummy =>
   exfalso;unfold SetTable.slot at hs;dsimp only at hs;split at hs
   .cases hs
   .rw[hd]at hs;simp[SetTable.has]at hs
  |live i =>
   rw[hs]at e;dsimp only at e;split at e
   .cases e
   .refine KG hd n _ j d ?_ e;unfold SetTable.advance;split
    .exact h0
    .exact h0
theorem BW{t:SetTable}(hd:t.dummies=#[]){h:Int}{j:Nat}{b:Bool}(e:t.freeSlot h=some (j,b)):t.place[SetTable.below t.place j]?≠some j:=by
 unfold SetTable.freeSlot at e;split at e
 .rename_i k d hp;obtain⟨h1,h2⟩:=KG hd _ _ _ _ rfl hp;subst h2;injection e with e;injection e with e1 e2;have e1:k=j:=e1;subst e1;unfold SetTable.slot at h1;dsimp only at h1;split at h1
  .cases h1
  .rename_i hq;exact fun z=>hq (by rw[z];exact beq_self_eq_true _)
 .cases e
theorem YF{b:Bool}{t:SetTable}(h:Tb b t)(n:Nat):Tb b (t.standIn n) :=
 ⟨h.led,by show(Array.range n).toList.Pairwise _;rw[Array.toList_range];exact List.pairwise_lt_range,rfl⟩
theorem Dh{b:Bool}{t:SetTable}(h:Tb b t)(es:Array (Int×Value))(k:Int)(x:Value):Tb b (layNew t es k x).2.1:=by
 unfold layNew;split
 .rename_i slot wd hf;show Tb b (SetTable.orStandIn _ _);have hp:Tb b (t.put slot).1:=by
   refine⟨h.led,AV h.ris (BW h.dum hf),?_⟩;show(if SetTable.has t.dummies slot then _ else t.dummies)=#[];rw[h.dum];simp[SetTable.has]
  unfold SetTable.orStandIn;split
  .exact hp
  .exact YF hp _
 .exact YF h _
theorem UD{b:Bool}{t:SetTable}(h:Tb b t)(es:Array (Int×Value))(n:Nat):Tb b (relayAll t es n).2.1:=by
 unfold relayAll;split
 .rename_i t' order hr;dsimp only;split
  .unfold SetTable.relaid SetTable.laid at hr;cases hl:SetTable.layClean (SetTable.sizeAbove n - 1) (es.map (·.1))with
   |none=>rw[hl]at hr;cases hr
   |some owner =>rw[hl]at hr;cases hr;refine⟨h.led,?_,rfl⟩;show List.Pairwise _ (List.toArray _).toList;refine List.pairwise_map.mpr (List.pairwise_filterMap.mpr ?_);refine List.pairwise_lt_range.imp fun {a c} hac x hx y hy=>?_;obtain⟨_,_,rfl⟩:=qD.mp hx;obtain⟨_,_,rfl⟩:=qD.mp hy;exact hac
  .exact YF h _
 .exact YF h _
end L2
namespace L2
open PySem PySem.Spec PyProof.Rows
section
variable (prog:Program) (w:World)
abbrev byT:Bool:=w.params.followText "set-order"
def SetI (h:Heap) (a:Addr) (l:List Int):Prop:=∃ o es ep t es0,h.get? a=some o/\o.ExactSet/\o.data=.set es ep t/\ElemsOf (intKind prog w) es.toList/\es.size<scanBound/\t.fits es.size=true/\
 Tb (byT w) t/\es.toList.Perm es0/\IntsAre (es0.map (·.2)) l
end
theorem Yt:∀ {vs:List Value}{ns:List Int},IntsAre vs ns->vs.length=ns.length
 |_,_,.nil=>rfl
 |_,_,.cons _ _ r=>congrArg (· + 1) (Yt r)
theorem MZ:∀ {vs:List Value}{ns:List Int}(n:Int) (t:Tok),IntsAre vs ns->IntsAre (vs++[.int n t]) (ns++[n])
 |_,_,n,t,.nil=>.cons n t .nil
 |_,_,n,t,.cons m u r=>.cons m u (MZ n t r)
theorem MM{P:Program}{w:World}{n:Int}:∀ {vs:List Value}{ns:List Int},IntsAre vs ns->(n∈ns↔∃ v∈vs,(intKind P w).is n v=true)
 |_,_,.nil=>by simp
 |_,_,.cons m u r=>by
  have h:=MM (P:=P) (w:=w) (n:=n) r;have hk:(intKind P w).is n (.int m u)=decide (n=m):=KeyKind.is_eq_decide (intKind_is P w m u) n;rw[qE,h];constructor
  .rintro(rfl|⟨v,hv,e⟩)
   .exact⟨_,qT,by rw[hk];simp⟩
   .exact⟨v,qI _ hv,e⟩
  .rintro⟨v,hv,e⟩;rcases qE.mp hv with rfl|hv
   .rw[hk]at e;exact .inl (by simpa using e)
   .exact .inr ⟨v,hv,e⟩
theorem SetI.setOf{P:Program}{w:World}{h:Heap}{a:Addr}{l:List Int}(x:SetI P w h a l):h.SetOf (intKind P w) a (fun k=>decide (k∈l)) l.length:=by
 obtain⟨o,es,ep,t,es0,h1,h2,h3,h4,h5,h6,h7,h8,h9⟩:=x;refine⟨o,es,ep,t,h1,h2,h3,h4,fun k=>?_,h5,h6,?_⟩
 .rw[decide_eq_true_iff,MM (P:=P) (w:=w) h9];constructor
  .rintro⟨v,hv,e⟩;obtain⟨x,hx,rfl⟩:=qZ.mp hv;exact⟨x,h8.mem_iff.mpr hx,e⟩
  .rintro⟨x,hx,e⟩;exact⟨_,qZ.mpr ⟨x,h8.mem_iff.mp hx,rfl⟩,e⟩
 .rw[<-Yt h9,qA,<-h8.length_eq,zC]
section
variable {prog:Program}{w:World}{A:Around}{E:Value->Shared->Prop}{s:Shared}
theorem Nl{h:Heap}{a:Addr}{o:Obj}{es es':Array (Int×Value)}{ep:Nat}{t t':SetTable}(ho:h.get? a=some o)(hd:o.data=.set es ep t) :
  (h.update a (Obj.putSet es' t')).get? a=some {o with data:=.set es' (ep+1) t'}:=by
 have z:=Heap.get?_update_self (Obj.putSet es' t') ho (by rw[putSet_of es' t' hd];rfl)
 rwa [putSet_of es' t' hd]at z
theorem add_int{a:Addr}{l:List Int}{n:Int}{tk:Tok}{Q:Bool->Shared->Prop}(hS:SetI prog w s.heap a l)(hroom:l.length+1<scanBound)
  (k:∀ h' b,Heap.SameBut a s.heap h'->SetI prog w h' a (step_dedup l n)->Q b {s with heap:=h'}):wpAny (model prog w) A (setAddHashed a (.int n tk) ((intKind prog w).hash n)) Q E s:=by
 have hlen:=hS.setOf;obtain⟨o,es,ep,t,es0,ho,hex,hd,hel,hb,hf,ht,hp,hi⟩:=id hS;have hsz:es.size=l.length:=by rw[<-Yt hi,qA,<-hp.length_eq,zC]
 have hkey:(intKind prog w).is n (.int n tk)=true:=intKind_is _ _ _ _;unfold setAddHashed setAddHashedIn;refine wpAny_holding (wpAny_bind (wpAny_setState_of ho hd hf ?_));dsimp only;rw[byScan_of rfl hb hel];simp only[↓reduceIte];unfold setAddByScan;refine wpAny_bind (wpAny_bind (wpAny_rule (wpAny_bind (wpAny_setScan_of hkey ho hd hf hel ?_))));have hm:n∈l↔∃ e∈es.toList,(intKind prog w).is n e.2=true:=by
  rw[MM (P:=prog) (w:=w) hi];constructor
  .rintro⟨v,hv,e⟩;obtain⟨x,hx,rfl⟩:=qZ.mp hv;exact⟨x,hp.mem_iff.mpr hx,e⟩
  .rintro⟨x,hx,e⟩;exact⟨_,qZ.mpr ⟨x,hp.mem_iff.mp hx,rfl⟩,e⟩
 cases hr:List.findIdx? (fun e=>(intKind prog w).is n e.2) es.toList with
 |some j =>
  obtain⟨hj,hpj,_⟩:=List.findIdx?_eq_some_iff_getElem.mp hr;have hn:n∈l:=hm.mpr ⟨_,List.getElem_mem hj,hpj⟩;have e1:step_dedup l n=l:=by unfold step_dedup;rw[if_pos (List.any_eq_true.mpr ⟨n,hn,by simp⟩)]
  rw[e1]at k;exact wpAny_pure (wpAny_pure (k s.heap false (Heap.SameBut.refl a s.heap) hS))
 |none =>
  have hn:n∉l:=fun z=>by obtain⟨e,he,q⟩:=hm.mp z;have:=List.findIdx?_eq_none_iff.mp hr e he;rw[q]at this;cases this
  have e1:step_dedup l n=l++[n]:=by
   unfold step_dedup;rw[if_neg];intro z;obtain⟨m,hm,q⟩:=List.any_eq_true.mp z;have q:m=n:=by simpa using q
   exact hn (q▸hm)
  rw[e1]at k;have l1:=layNew_perm t es ((intKind prog w).hash n) (.int n tk);have l2:=layNew_fits t es ((intKind prog w).hash n) (.int n tk);have l3:=Dh ht es ((intKind prog w).hash n) (.int n tk);dsimp only;generalize hL:layNew t es ((intKind prog w).hash n) (.int n tk)=L at l1 l2 l3 ⊢;obtain⟨es1,t1,wd,gv⟩:=L;dsimp only at l1 l2 l3 ⊢;rw[Array.toList_push]at l1;have i1:IntsAre ((es0++[((intKind prog w).hash n,Value.int n tk)]).map (·.2)) (l++[n]):=by rw[qJ];exact MZ n tk hi
  have p1:es1.toList.Perm (es0++[((intKind prog w).hash n,Value.int n tk)]):=l1.trans (hp.append_right _);have hel1:ElemsOf (intKind prog w) es1.toList:=(hel.push hkey rfl).perm l1;have hs1:es1.size=l.length+1:=by rw[<-zC,l1.length_eq,qU,zC,hsz];rfl
  have fin:∀ (h':Heap) (o':Obj) (ep':Nat) (es':Array (Int×Value)) (t':SetTable),Heap.SameBut a s.heap h'->h'.get? a=some o'->o'.ExactSet->o'.data=.set es' ep' t'->es'.toList.Perm es1.toList->t'.fits es'.size=true->Tb (byT w) t'->∀ b,Q b {s with heap:=h'}:=fun h' o' ep' es' t' sb g1 g2 g3 g4 g5 g6 b=>by refine k h' b sb ⟨o',es',ep',t',_,g1,g2,g3,hel1.perm g4,?_,g5,g6,g4.trans p1,i1⟩;rw[<-zC,g4.length_eq,zC,hs1];exact hroom
  have hz1:es1.size<=sizeLine:=fits_of_scanBound (by rw[hs1];exact hroom);have g0:∀ (b:Bool){s₁:Shared}{Q':Unit->Shared->Prop},Q' () s₁->wpAny (model prog w) A (match b with|true=>rule "set.scan.the-table-gave-way" | false=>pure ()) Q' E s₁ :=
   fun b s₁ Q' hq=>by cases b<;>first|exact wpAny_pure hq|exact wpAny_rule hq
  refine wpAny_bind (g0 _ ?_);have bv:hashByValue 8 (.int n tk)=(pure true:Sem Bool):=hashByValue_scannable 8 rfl;rw[bv,ite_self];refine wpAny_bind (wpAny_pure ?_);simp only[↓reduceIte];refine wpAny_bind (wpAny_storeSet_of ho hd ?_ hz1);have ho1:=Nl (es':=es1) (t':=t1) ho hd;have sb1:=Heap.SameBut.update s.heap a (Obj.putSet es1 t1);split
  .have r1:=relayAll_perm t1 es1 (SetTable.grown es1.size);have r2:=relayAll_fits t1 es1 (SetTable.grown es1.size);have r3:=UD l3 es1 (SetTable.grown es1.size);generalize relayAll t1 es1 (SetTable.grown es1.size)=R at r1 r2 r3 ⊢;obtain⟨es2,t2,gv2⟩:=R;dsimp only at r1 r2 r3 ⊢;refine wpAny_bind (g0 _ ?_);refine wpAny_bind (wpAny_storeSet_of ho1 rfl ?_ (by rw[<-zC,r1.length_eq,zC];exact hz1));exact wpAny_pure (wpAny_pure (fin _ _ _ es2 t2 (sb1.trans (Heap.SameBut.update _ a _)) (Nl ho1 rfl) hex rfl r1 r2 r3 _))
  .exact wpAny_pure (wpAny_pure (fin _ _ _ es1 t1 sb1 ho1 hex rfl .rfl l2 l3 _))
end
theorem SetI.at{P:Program}{w:World}{h h':Heap}{a:Addr}{l:List Int}(x:SetI P w h a l)(k:∀ o,h.get? a=some o->h'.get? a=some o):SetI P w h' a l:=by obtain⟨o,es,ep,t,es0,h1,h2⟩:=x;exact⟨o,es,ep,t,es0,k _ h1,h2⟩
section
variable {prog:Program}{w:World}{A:Around}{R:Result->Shared->Prop}{I:Addr}{fp wr:List Addr}{G:Array GenState->Array GenState->Prop}{n:Nat}{P:Nat->Value->Prop}{St:Nat->Shared->Prop}
theorem US(W:WalksS prog w A.in1 I fp wr G n P St)(S:Addr)(hS:S∉fp)(val:Nat->Int)(hv:∀ i v,P i v->∃ t,v=.int (val i) t)(hb:n+1<scanBound) :
  ∀ (k i:Nat) (s:Shared),n - i=k->i<=n->St i s->SetI prog w s.heap S (firstMet val i)->(∀ s',Moved (S::wr) G s s'->SetI prog w s'.heap S (firstMet val n)->R (.ok (.ret .none)) s')->
   codeAny (model prog w) A (.builtin "set.update.loop" ⟨[.ref S,.ref I],[]⟩) R s:=by
 have nw:S∉wr:=fun z=>hS (W.sub _ z);intro k;induction k with
 |zero =>
  intro i s h1 h2 st x r;obtain rfl:i=n:=by omega
  refine codeAny_builtin F.entry_set_update_loop ?_;rw[Around.under_plainId F.plain_set_update_loop _];show wpAny _ A.in1 (pyNext (.ref I) >>= _) _ _ s;refine wpAny_bind (W.done s _ _ st fun s' m=>?_);exact wpAny_pure (r s' (m.mono fun b hb=>qI _ hb) (x.at fun o e=>m.heap S _ nw e))
 |succ k ih =>
  intro i s h1 h2 st x r;have hi:i<n:=by omega
  refine codeAny_builtin F.entry_set_update_loop ?_;rw[Around.under_plainId F.plain_set_update_loop _];show wpAny _ A.in1 (pyNext (.ref I) >>= _) _ _ s;refine wpAny_bind (W.item i s _ _ hi st fun v s' p st' m=>?_);obtain⟨t,rfl⟩:=hv i v p;show wpAny _ A.in1 (holding [Value.int (val i) t] (setAdd S (.int (val i) t)) >>= _) _ _ s';refine wpAny_bind (wpAny_holding ?_);unfold setAdd;refine wpAny_holding (wpAny_bind ((intKind prog w).pyHash (k:=val i) (intKind_is _ _ _ _) ?_));refine add_int (s:={s' with toks:=s'.toks+1}) (x.at fun o e=>m.heap S _ nw e) (by have:=firstMet_length_le val i;omega) fun h' b sb x'=>?_;rw[<-firstMet_succ]at x';refine wpAny_pure ⟨plainId_quiet F.plain_set_update_loop _,ih (i+1) _ (by omega) hi (W.frame _ s' _ _ st' (Nat.le_succ _) fun b hb o e=>?_) x' fun s'' m'' x''=>r s'' ?_ x''⟩
  .rw[sb.2 b fun z=>hS (z▸hb)];exact e
  .refine Moved.trans W.gtrans ((m.mono fun b hb=>qI _ hb).then_heap (Nat.le_succ _) fun b o hb e=>?_) m'';rw[sb.2 b fun z=>hb (z▸qT)];exact e
end
section
variable {prog:Program}{w:World}{A:Around}{E:Value->Shared->Prop}{s:Shared}
abbrev XT (b:Bool):Obj:={cls:=.type "set",dict:=none,data:=.set #[] 0 (.fresh 0 0 !b)}
theorem BD(a:Value){Q:Value->Shared->Prop}(h:Q (.ref s.heap.objs.size) {s with heap:=s.heap.push (XT (byT w))}) :
  codeAny (model prog w) A (.call (.builtin "set.__new__") ⟨[.type "set",a],[]⟩) (wants Q E) s:=by
 refine codeAny_of_tree ?_;show wpAny _ A.in1 (do checkBuiltinCall "set.__new__" ⟨[.type "set",a],[]⟩;again (.builtin "set.__new__" ⟨[.type "set",a],[]⟩)) _ _ s;refine wpAny_bind (wpAny_of_eq (F.newCall_set_1 a) (wpAny_pure ⟨plainId_quiet F.plain_set_new _,codeAny_builtin F.entry_set_new ?_⟩));rw[Around.under_plainId F.plain_set_new _];unfold Builtin.«set.__new__» Builtin.Frozenset.newClass;have hsub:=sub_set_self;obtain⟨hp,g,d,tk,os⟩:=s;dsimp only
 wp_walk
 refine wpAny_askSetting (wpAny_pure ?_);dsimp only;simp only[newObj];exact wpAny_bind (wpAny_alloc (wpAny_pure (wpAny_pure h)))
theorem UG{l:Addr}{items:Array Value}{ns:List Int}{Q:Value->Shared->Prop}(hh:A.handled=none)(hl:s.heap.IsList l items)(hi:IntsAre items.toList ns)(hb:items.size+1<scanBound)
  (h:∀ (h':Heap) (tk:Nat),SetI prog w h' s.heap.objs.size (firstMet (fun i=>ns.getD i 0) items.size)->(∀ b o,s.heap.get? b=some o->h'.get? b=some o)->Q (.ref s.heap.objs.size) {s with heap:=h',toks:=tk}) :
  wpAny (model prog w) A (call (.type "set") [.ref l]) Q E s:=by
 obtain⟨c,tl,hmro⟩:=F.called_set.mro;have hmade:=F.called_set.made;have hsub:=F.called_set.sub;have h1:=F.called_set.notType;have h2:=F.called_set.canCreate;have hct:=F.typeCall_set_1 (.ref l);refine wpAny_call (codeAny_of_tree ?_);show wpAny _ _ (callAny (.type "set") _) _ _ _;refine wpAny_pure ⟨Code.quiet_builtin _ (by decide +kernel),codeAny_builtin F.entry_type_call ?_⟩;rw[Around.under_plain (weight_type_call_type "set" [.ref l] []) rfl]
 repeat (any_goals (first|assumption|wp_step))
 refine codeAny_mono (BD (.ref l) (E:=E) (Q:=fun v s1=>v=.ref s.heap.objs.size/\s1={s with heap:=s.heap.push (XT (byT w))}) ⟨rfl,rfl⟩) fun r s1 hr=>?_;cases r with
 |error e=>exact hr
 |ok fl =>
  cases fl with
  |ret obj =>
   obtain⟨rfl,rfl⟩:=hr;have hS:(s.heap.push (XT (byT w))).get? s.heap.objs.size=some (XT (byT w)):=Heap.get?_push_size _ rfl;have hT:Shared.TypeIs {s with heap:=s.heap.push (XT (byT w))} (.ref s.heap.objs.size) "set":=⟨_,hS,rfl⟩
   have hli:=F.called_set.init.lookup;have hbi:=F.called_set.init.bind (.ref s.heap.objs.size)
   repeat (any_goals (first|assumption|wp_step))
   refine codeAny_mono (codeAny_call_builtin (R:=wants (fun r s2=>r=.none/\∃ h' tk,s2={ s with heap:=h',toks:=tk }/\SetI prog w h' s.heap.objs.size (firstMet (fun i=>ns.getD i 0) items.size)/\∀ b o,s.heap.get? b=some o->h'.get? b=some o) E)
     F.called_set.init.plain F.entry_set_init (check_set_init_1 hT ?_)) fun r s2 hr=>?_
   .have hlS:l<s.heap.objs.size:=by obtain⟨_,e,_⟩:=hl;exact Heap.lt_size e
    have hl1:(s.heap.push (XT (byT w))).IsList l items:=hl.push _;obtain⟨ol,hol,hcl,nl,hdl⟩:=id hl1;obtain⟨ocls,odict,odata,oslots⟩:=ol;simp only at hcl hdl;subst hcl hdl;have hsls:=F.sub_list_set;have hslf:=F.sub_list_frozenset;have hne:(Value.type "list" == Value.type "dict")=false:=by decide
    unfold Builtin.«set.__init__» noKeywords Builtin.Frozenset.updateFrom;generalize hPI:pyIter=PI
    wp_walk
    subst hPI;refine wpAny_pyIter_list hl1 (wpAny_bind (wpAny_runValue ?_));have hh3:A.in1.in1.in1.handled=none:=by simp[hh]
    have zs:(s.heap.push (XT (byT w))).objs.size=s.heap.objs.size+1:=Heap.size_push ..;refine US ((Walks.list hh3 _ l (by rw[zs];exact zF (Nat.lt_succ_of_lt hlS)) items).toS) s.heap.objs.size (by rw[zs];simp only[qE,List.not_mem_nil,or_false,not_or];exact⟨zF (Nat.lt_succ_self _),Nat.ne_of_gt hlS⟩) (fun i=>ns.getD i 0) (fun i v hv=>IntsAre.int_at hi i v (by rw[Array.getElem?_toList];exact hv)) hb (items.size - 0) 0 _ (by omega) (Nat.zero_le _)
     ⟨⟨_,Heap.get?_push_size _ rfl,rfl,rfl⟩,hl1.push _⟩ ?_ ?_
    .refine⟨_,#[],0,_,[],Heap.get?_push_of_some _ hS,⟨rfl,rfl,rfl⟩,rfl,fun e he=>by simp at he,by show 0<scanBound;unfold scanBound;omega,rfl,⟨fun z=>by show(!byT w)=true;rw[z];rfl,.nil,rfl⟩,.nil,.nil⟩
    .intro s' m x;obtain⟨h',g',d',tk',os'⟩:=s';have eg:g'=s.gens:=m.gens;have ed:d'=s.drawn:=m.drawn;have eo:os'=s.os:=m.os;subst eg ed eo;refine wpAny_pure ?_;show wpAny _ _ (ret Value.none) _ _ _;refine wpAny_pure ⟨rfl,h',tk',rfl,x,fun b o e=>?_⟩;have hb:=Heap.lt_size e;exact m.heap b o (by rw[zs];simp only[qE,List.not_mem_nil,or_false,not_or];exact⟨zF hb,zF (Nat.lt_succ_of_lt hb)⟩) (Heap.get?_push_of_some _ (Heap.get?_push_of_some _ e))
   .cases r with
    |error e=>exact hr
    |ok fl =>
     cases fl with
     |ret r =>
      obtain⟨rfl,h',tk,rfl,x,hk⟩:=hr
      repeat (any_goals (first|assumption|wp_step))
      exact h _ _ x hk
     |_=>exact hr.elim
  |_=>exact hr.elim
end
end L2
namespace L2
open PySem PySem.Spec PyProof.Rows
open PySem.Builtin
theorem Ag:entryFor table "set.__iter__" = some Builtin.«frozenset.__iter__»:=entryFor_alias (id':="frozenset.__iter__") (by kernel_rfl) rfl (by decide +kernel) (by kernel_rfl)
theorem As:entryFor table "set_iterator.__next__" = some Builtin.«set_iterator.__next__»:=entryFor_of_tree (by kernel_rfl)
theorem OG (a:Value):argsOk "set_iterator.__next__" ⟨[a],[]⟩:=by unfold argsOk;kernel_rfl
theorem slot_snext:Slot "set_iterator" "__next__" "set_iterator.__next__" :=
 .of (owner:="set_iterator") (n:="__next__") (by rw[typeLookup_type,builtinLookup_eq_fast];kernel_rfl) (by decide +kernel) (by decide +kernel) (by decide +kernel)
  (by first|exact .inl (by decide +kernel)|exact .inr (by decide +kernel)) (by rw[isSubtype_type];kernel_rfl)
theorem X7:Slot "set_iterator" "__iter__" "set_iterator.__iter__" :=
 .of (owner:="set_iterator") (n:="__iter__") (by rw[typeLookup_type,builtinLookup_eq_fast];kernel_rfl) (by decide +kernel) (by decide +kernel) (by decide +kernel)
  (by first|exact .inl (by decide +kernel)|exact .inr (by decide +kernel)) (by rw[isSubtype_type];kernel_rfl)
theorem U0:entryFor table "set_iterator.__iter__" = some Builtin.«dict_keyiterator.__iter__»:=entryFor_alias (id':="dict_keyiterator.__iter__") (by kernel_rfl) rfl (by decide +kernel) (by kernel_rfl)
theorem Ub (a:Value):argsOk "set_iterator.__iter__" ⟨[a],[]⟩:=by unfold argsOk;kernel_rfl
theorem YA{α:Type}:∀ {l:List α}{i:Nat}(h:i<l.length),(l[i]::l.eraseIdx i).Perm l
 |a::l,0,h=>.rfl
 |a::l,i+1,h=>(List.Perm.swap a _ _).trans ((YA (l:=l) (Nat.lt_of_succ_lt_succ h)).cons a)
theorem NF{α:Type}(f:Nat->Nat):∀ (n k:Nat) (l:List α) (out:Array α),l.length=n->(pickOrder.go f n k l out).toList.Perm (out.toList++l)
 |0,k,l,out,h=>by
  cases l with
  |nil=>unfold pickOrder.go;simp
  |cons _ _=>cases h
 |n+1,k,l,out,h=>by unfold pickOrder.go;have hlt:f k % l.length<l.length:=Nat.mod_lt _ (by omega);rw[qH hlt];dsimp only;refine(NF f n (k+1) _ _ (by rw[List.length_eraseIdx_of_lt hlt];omega)).trans ?_;rw[Array.toList_push,List.append_assoc];exact(YA hlt).append_left _
theorem NN{α:Type}(f:Nat->Nat)(xs:Array α):(pickOrder f xs).toList.Perm xs.toList:=by unfold pickOrder;simpa using NF f xs.size 0 xs.toList #[] (by simp)
section
variable {prog:Program}{w:World}{A:Around}{E:Value->Shared->Prop}{s:Shared}
theorem N5{src:Source}{n:Nat}{Q:Nat->Shared->Prop}(hn:0<n)(h:∀ k d,k<n->Q k {s with drawn:=d}):wpAny (model prog w) A (choose src n) Q E s :=
 fun _ _ _=>⟨Nat.ne_of_gt hn,h _ _ (Nat.mod_lt _ hn)⟩
theorem Kp{α:Type}:∀ (n:Nat) (xs:List α){s:Shared}{Q:List α->Shared->Prop},xs.length=n->(∀ ys d,ys.Perm xs->Q ys {s with drawn:=d})->wpAny (model prog w) A (drawOrder n xs) Q E s
 |0,[],s,Q,_,h=>by unfold drawOrder;exact wpAny_pure (h [] s.drawn .nil)
 |0,_::_,_,_,h,_=>by cases h
 |n+1,[],_,_,h,_=>by cases h
 |n+1,x::xs,s,Q,hl,h=>by unfold drawOrder;refine wpAny_bind (N5 (by simp) fun k d hk=>?_);rw[qH hk];dsimp only;refine wpAny_bind (Kp n _ (by rw[List.length_eraseIdx_of_lt hk];omega) fun ys d2 hp=>wpAny_pure (h _ d2 ?_));exact(hp.cons _).trans (YA hk)
def SetIt (h:Heap) (it a:Addr) (f:Value) (i n ep:Nat):Prop:=∃ o,h.get? it=some o/\o.cls=.type "set_iterator"/\o.data=.fields #[f,.int i 0,.ref a,.int n 0,.int ep 0]
theorem SetIt.typeIs {it a:Addr}{f:Value}{i n ep:Nat}(h:SetIt s.heap it a f i n ep):s.TypeIs (.ref it) "set_iterator":=by obtain⟨o,h1,h2,_⟩:=h;exact⟨o,h1,h2⟩
structure SetO (h:Heap) (a:Addr) (o:Obj) (es:Array (Int×Value)) (ep:Nat) (t:SetTable):Prop where
 at_:h.get? a=some o
 dat:o.data=.set es ep t
 fit:t.fits es.size=true
theorem Kg {it a:Addr}{f:Value}{i n ep:Nat}{Q:Value->Shared->Prop}(hit:SetIt s.heap it a f i n ep) (h:Q (.ref it) s):wpAny (model prog w) A (pyIter (.ref it)) Q E s:=by have hT:=hit.typeIs;refine wpAny_pyIter_slot hT X7 (wpAny_call_entry X7 hT U0 ?_ (Ub _));show wpAny _ _ (ret (.ref it)) _ _ s;exact wpAny_pure ⟨_,rfl,"set_iterator",_,hT,slot_snext.lookup,h⟩
theorem MP{Q:Option Value->Shared->Prop}{A:Around}(hh:A.handled=none)(hQ:∀ h',(∀ b o,s.heap.get? b=some o->h'.get? b=some o)->Q none {s with heap:=h'}) :
  wpAny (model prog w) A (do raiseNew (<-newExc (.type "StopIteration") []):Sem Fin) (fun _ _=>False) (fun e s'=>∃ h',(∀ b o,s.heap.get? b=some o->h'.get? b=some o)/\s'={s with heap:=h'}/\s'.TypeIs e "StopIteration") s:=by
 show wpAny _ _ (newExc (.type "StopIteration") [] >>= _) _ _ _;refine wpAny_bind ?_;simp only[newExc,newTuple];refine wpAny_bind (wpAny_newObj_type ?_ (by size_fits));refine wpAny_bind (m:=firstArgMember _ _) (wpAny_of_eq (a:=Value.none) (by first|rfl|(simp only[firstArgMember];rfl)) ?_);refine wpAny_newObj_type ?_ (by size_fits);simp only[raiseNew];refine wpAny_bind (wpAny_handled ?_);rw[hh];refine wpAny_bind (wpAny_pure (wpAny_throw ?_));exact⟨_,fun b o e=>Heap.get?_push_of_some _ (Heap.get?_push_of_some _ e),rfl,_,Heap.get?_push_size _ rfl,rfl⟩
theorem Xz {it:Addr}{Q:Option Value->Shared->Prop}(hT:s.TypeIs (.ref it) "set_iterator")
  (h:wpAny (model prog w) A.in1 (Builtin.«set_iterator.__next__» ⟨[.ref it],[]⟩) (fun fin s'=>∃ v,fin=.done (.ret v)/\Q (some v) s') (fun e s'=>s'.TypeIs e "StopIteration"/\Q none s') s):wpAny (model prog w) A (pyNext (.ref it)) Q E s:=by
 unfold pyNext;refine wpAny_bind (wpAny_attempt (wpAny_callSpecial?_slot (name:=Str.ofString "__next__") hT slot_snext (wpAny_call_entry slot_snext hT As ?_ (OG _))));refine wpAny_mono h (fun fin s' ⟨v,e,q⟩=>⟨v,e,wpAny_pure q⟩) fun e s' ⟨t,q⟩=>?_;refine wpAny_bind (wpAny_isInstance (T:="StopIteration") (b:=true) t isSubtype_stop ?_);exact wpAny_pure q
def NX (prog:Program) (w:World) (a:Addr) (o:Obj) (ep:Nat) (f:Nat->Nat) (ord:List Value):Prop :=
 ∀ (A:Around) (s:Shared) (Q:Option (Value×Nat)->Shared->Prop) (E:Value->Shared->Prop) (i:Nat),i<=ord.length->s.heap.get? a=some o->Q (ord[i]?.map (·,f (i+1))) s->wpAny (model prog w) A (setNext a (f i) i ep) Q E s
theorem JH {h:Heap}{it:Addr}{o:Obj}{vs:Array Value}{k:Nat}{x:Value}(ho:h.get? it=some o) (hc:o.cls=.type "set_iterator") (hd:o.data=.fields vs) :
  ∃ o',(h.update it (Obj.mapFields (·.setIfInBounds k x))).get? it=some o'/\o'.cls=.type "set_iterator"/\o'.data=.fields (vs.setIfInBounds k x) :=
 ⟨_,Heap.get?_update_self _ ho (Obj.isFreed_of_fields (Obj.data_mapFields hd _)),(Obj.cls_mapFields ..).trans hc,Obj.data_mapFields hd _⟩
end
theorem Walks.setT{prog:Program}{w:World}{A:Around}(hh:A.handled=none)(I a:Addr)(hne:a≠I){o:Obj}{es:Array (Int×Value)}{ep:Nat}{t:SetTable}{f:Nat->Nat}{ord:List Value}(hl:ord.length=es.size)(nx:NX prog w a o ep f ord) :
  Walks prog w A I [I,a] [I] es.size (fun i v=>ord[i]?=some v) (fun i h=>SetIt h I a (.int (f i) 0) i es.size ep/\SetO h a o es ep t) where
 sub:=fun b hb=>by simp at hb;simp[hb]
 frame:=fun _ _ _ st hk=>⟨by obtain⟨o,h1,h2⟩:=st.1;exact⟨o,hk I (by simp) o h1,h2⟩,hk a (by simp) _ st.2.at_,st.2.dat,st.2.fit⟩
 item:=fun i s Q E hi st hQ=>by obtain⟨st,so⟩:=st;refine Xz st.typeIs ?_;obtain⟨oi,h1,h2,h3⟩:=st;show wpAny _ _ (fieldsOf (.ref I) >>= _) _ _ s;refine wpAny_bind (wpAny_fieldsOf h1 h3 ?_);dsimp only;refine wpAny_bind (wpAny_setEntries_of so.at_ so.dat so.fit ?_);refine wpAny_ite_split (fun z=>absurd z (by simp)) fun _=>?_;rw[Int.toNat_natCast,Int.toNat_natCast,Int.toNat_natCast];have hx:ord[i]?=some ord[i]:=qH (by omega);refine wpAny_bind (nx _ s _ _ i (by omega) so.at_ ?_);rw[hx];dsimp only[Option.map];refine wpAny_bind (wpAny_setField h1 h3 (by simp) ?_);obtain⟨o2,g1,g2,g3⟩:=JH (k:=0) (x:=rawInt (f (i+1))) h1 h2 h3;refine wpAny_bind (wpAny_setField g1 g3 (by simp) ?_);obtain⟨o4,g4,g5,g6⟩:=JH (k:=1) (x:=rawInt ((i:Int)+1)) g1 g2 g3;have sb:=(Heap.SameBut.update s.heap I (Obj.mapFields (·.setIfInBounds 0 (rawInt (f (i+1)))))).trans (Heap.SameBut.update _ I (Obj.mapFields (·.setIfInBounds 1 (rawInt ((i:Int)+1)))));refine wpAny_pure ⟨_,rfl,hQ _ _ s.toks hx ⟨⟨o4,g4,g5,by rw[g6];simp[rawInt]⟩,?_,so.dat,so.fit⟩ fun b ob hb e=>sb.extBut b ob (fun z=>hb (by simp[z])) e⟩;exact sb.extBut a _ hne so.at_
 done:=fun s Q E st hQ=>by
  obtain⟨st,so⟩:=st;refine Xz st.typeIs ?_;obtain⟨oi,h1,h2,h3⟩:=st;show wpAny _ _ (fieldsOf (.ref I) >>= _) _ _ s;refine wpAny_bind (wpAny_fieldsOf h1 h3 ?_);dsimp only;refine wpAny_bind (wpAny_setEntries_of so.at_ so.dat so.fit ?_);refine wpAny_ite_split (fun z=>absurd z (by simp)) fun _=>?_;rw[Int.toNat_natCast,Int.toNat_natCast,Int.toNat_natCast];refine wpAny_bind (nx _ s _ _ es.size (by omega) so.at_ ?_);rw[List.getElem?_eq_none (by omega)];dsimp only[Option.map];refine wpAny_bind (wpAny_setField h1 h3 (by simp) ?_);refine wpAny_mono (MP (A:=A.in1) (Q:=Q) hh fun h' hk=>?_) (fun _ _ z=>z.elim) fun e s' ⟨h',hk,e2,tt⟩=>⟨tt,?_⟩
  .exact hQ h' s.toks fun b ob hb e=>hk b ob ((Heap.SameBut.update s.heap I _).extBut b ob (fun z=>hb (by simp[z])) e)
  .subst e2;exact hQ h' s.toks fun b ob hb e=>hk b ob ((Heap.SameBut.update s.heap I _).extBut b ob (fun z=>hb (by simp[z])) e)
 self:=fun _ _ _ _ st hQ=>Kg st.1 hQ
theorem Walks.setD{prog:Program}{w:World}{A:Around}(hh:A.handled=none)(I a T:Addr)(hne:a≠I)(hnT:T≠I){o oT:Obj}{es:Array (Int×Value)}{ep:Nat}{t:SetTable}{ks:List Nat}(hl:ks.length=es.size)(hk:∀ k∈ks,k<es.size)
  (hT:oT.data=.seq (ks.map fun(k:Nat)=>rawInt k).toArray) :
  Walks prog w A I [I,a,T] [I] es.size (fun i v=>(ks.map fun k=>(es.getD k (0,.none)).2)[i]?=some v) (fun i h=>SetIt h I a (.ref T) i es.size ep/\SetO h a o es ep t/\h.get? T=some oT) where
 sub:=fun b hb=>by simp at hb;simp[hb]
 frame:=fun _ _ _ st hk=>⟨by obtain⟨o,h1,h2⟩:=st.1;exact⟨o,hk I (by simp) o h1,h2⟩,⟨hk a (by simp) _ st.2.1.at_,st.2.1.dat,st.2.1.fit⟩,hk T (by simp) _ st.2.2⟩
 item:=fun i s Q E hi st hQ=>by
  obtain⟨st,so,sT⟩:=st;refine Xz st.typeIs ?_;obtain⟨oi,h1,h2,h3⟩:=st;show wpAny _ _ (fieldsOf (.ref I) >>= _) _ _ s;refine wpAny_bind (wpAny_fieldsOf h1 h3 ?_);dsimp only;refine wpAny_bind (wpAny_setEntries_of so.at_ so.dat so.fit ?_);refine wpAny_ite_split (fun z=>absurd z (by simp)) fun _=>?_;refine wpAny_bind (wpAny_seqItems sT hT ?_);have hi':i<ks.length:=by omega
  have hx:ks[i]?=some ks[i]:=qH hi';have hki:=hk ks[i] (List.getElem_mem hi');have hp:((ks.map fun(k:Nat)=>rawInt k).toArray)[(i:Int).toNat]?=some (.int (ks[i]:Nat) 0):=by rw[Int.toNat_natCast];simp[hx,rawInt]
  dsimp only;rw[hp];dsimp only;rw[Int.toNat_natCast,Int.toNat_natCast];unfold setNextDrawn;refine wpAny_bind (wpAny_bind (wpAny_setState_of so.at_ so.dat so.fit ?_));dsimp only;refine wpAny_ite_split (fun z=>absurd z (by simp)) fun _=>?_;have he:es[ks[i]]?=some es[ks[i]]:=Array.getElem?_eq_getElem hki;rw[he];dsimp only;refine wpAny_pure ?_;refine wpAny_bind (wpAny_setField h1 h3 (by simp) ?_);obtain⟨o4,g4,g5,g6⟩:=JH (k:=1) (x:=rawInt ((i:Int)+1)) h1 h2 h3;have sb:=Heap.SameBut.update s.heap I (Obj.mapFields (·.setIfInBounds 1 (rawInt ((i:Int)+1))));refine wpAny_pure ⟨_,rfl,hQ _ _ s.toks ?_ ⟨⟨o4,g4,g5,by rw[g6];simp[rawInt]⟩,⟨sb.extBut a _ hne so.at_,so.dat,so.fit⟩,sb.extBut T _ hnT sT⟩ fun b ob hb e=>sb.extBut b ob (fun z=>hb (by simp[z])) e⟩;rw[qF,hx];simp[Array.getD,hki]
 done:=fun s Q E st hQ=>by
  obtain⟨st,so,sT⟩:=st;refine Xz st.typeIs ?_;obtain⟨oi,h1,h2,h3⟩:=st;show wpAny _ _ (fieldsOf (.ref I) >>= _) _ _ s;refine wpAny_bind (wpAny_fieldsOf h1 h3 ?_);dsimp only;refine wpAny_bind (wpAny_setEntries_of so.at_ so.dat so.fit ?_);refine wpAny_ite_split (fun z=>absurd z (by simp)) fun _=>?_;refine wpAny_bind (wpAny_seqItems sT hT ?_);have hp:((ks.map fun(k:Nat)=>rawInt k).toArray)[(es.size:Int).toNat]?=none:=by rw[Int.toNat_natCast];simp[hl]
  dsimp only;rw[hp];dsimp only;refine wpAny_bind (wpAny_setField h1 h3 (by simp) ?_);obtain⟨o4,g4,g5,g6⟩:=JH (k:=0) (x:=rawInt 0) h1 h2 h3;refine wpAny_bind (wpAny_setField g4 g6 (by simp) ?_);refine wpAny_mono (MP (A:=A.in1) (Q:=fun _ _=>True) hh fun _ _=>trivial) (fun _ _ z=>z.elim) fun e s' ⟨h',hk,e2,tt⟩=>⟨tt,?_⟩
  subst e2;exact hQ h' s.toks fun b ob hb e=>hk b ob ((Heap.SameBut.update _ I _).extBut b ob (fun z=>hb (by simp[z])) ((Heap.SameBut.update s.heap I _).extBut b ob (fun z=>hb (by simp[z])) e))
 self:=fun _ _ _ _ st hQ=>Kg st.1 hQ
section
variable {prog:Program}{w:World}{a:Addr}{o:Obj}{es:Array (Int×Value)}{ep:Nat}{t:SetTable}
theorem BH (hb:byT w=true) (hd:o.data=.set es ep t) (hf:t.fits es.size=true):NX prog w a o ep (fun _=>0) ((pickOrder (w.params.setOrder a ep) es).toList.map (·.2)):=fun A s Q E i hil ho h=>by unfold setNext;refine wpAny_bind (wpAny_setState_of ho hd hf ?_);dsimp only;unfold setsByText;refine wpAny_bind (wpAny_bind (wpAny_askSetting (wpAny_pure ?_)));have hb':(model prog w).w.params.followText "set-order" = true:=hb;dsimp only;rw[hb'];simp only[↓reduceIte,bne_self_eq_false,Bool.false_eq_true];refine wpAny_bind ?_;unfold setWalk setsByText;refine wpAny_bind (wpAny_setState_of ho hd hf ?_);dsimp only;refine wpAny_bind (wpAny_bind (wpAny_askSetting (wpAny_pure ?_)));dsimp only;rw[hb'];simp only[↓reduceIte];refine wpAny_bind (wpAny_askSetting (wpAny_pure (wpAny_pure ?_)));dsimp only;rw[qF,Array.getElem?_toList,Option.map_map]at h;exact h
theorem Fo(hb:byT w=false)(tb:Tb (byT w) t)(hpl:(!t.plain&&decide (es.size > 1))=false)(hd:o.data=.set es ep t)(hf:t.fits es.size=true) :
  NX prog w a o ep (fun i=>match i with|0=>0|k+1=>t.place.getD k 0+1) (es.toList.map (·.2)):=fun A s Q E i hil ho h=>by
 have e0:∀ slot,setNext a slot i ep=(do
     let (es,epoch,t)<-setState a
     if<-setsByText then
       if epoch != ep then unsupported "set_iterator.__next__:elements-changed"
       return ((<-setWalk a)[i]?).map fun e=>(e.2,slot)
     if(!t.plain&&decide (es.size > 1))then unsupported "set_iterator.__next__:the-table-is-plain-no-more"
     (do if !t.led && !es.isEmpty then unsupported "set:maker-not-led")
     let i:=SetTable.below t.place slot
     return match es[i]?,t.place[i]? with
       |some (_,x),some j=>some (x,j+1)
       | _,_=>none):=fun _=>rfl
 rw[e0];refine wpAny_bind (wpAny_setState_of ho hd hf ?_);dsimp only;unfold setsByText;refine wpAny_bind (wpAny_bind (wpAny_askSetting (wpAny_pure ?_)));have hb':(model prog w).w.params.followText "set-order" = false:=hb;have hled:=tb.led hb;dsimp only;rw[hb',hpl,hled];simp only[Bool.false_eq_true,↓reduceIte,Bool.not_true,Bool.false_and];refine wpAny_pure ?_;have hsz:t.place.size=es.size:=by simp only[SetTable.fits,bAq,beq_iff_eq,decide_eq_true_eq]at hf;exact hf.1
 have fin:∀ slot,i<=es.size->KZ t.place slot i->Q (match es[SetTable.below t.place slot]?,t.place[SetTable.below t.place slot]? with|some (_,x),some j=>some (x,j+1)|_,_=>none) s:=fun slot hi hc=>by
  rw[Uo (Ko tb.ris slot) hc];rw[qF,Array.getElem?_toList]at h;by_cases hlt:i<es.size
  .have h1:es[i]?=some es[i]:=Array.getElem?_eq_getElem hlt;have h2:t.place[i]?=some (t.place[i]'(by omega)):=Array.getElem?_eq_getElem _;rw[h1]at h ⊢;rw[h2];have h3:t.place.getD i 0=t.place[i]'(by omega):=by simp[Array.getD,show i<t.place.size by omega]
   dsimp only[Option.map]at h ⊢;rw[h3]at h;exact h
  .have h1:es[i]?=none:=Array.getElem?_eq_none (by omega);rw[h1]at h ⊢;exact h
 cases i with
 |zero=>exact fin 0 (Nat.zero_le _) (N4 _)
 |succ k =>
  have hk:k<t.place.size:=by simp at hil;omega
  refine fin _ (by omega) (Om tb.ris ?_);rw[Array.getElem?_eq_getElem hk];simp[Array.getD,hk]
end
structure Near (s s':Shared):Prop where
 heap:∀ b o,s.heap.get? b=some o->s'.heap.get? b=some o
 gens:s'.gens=s.gens
 os:s'.os=s.os
theorem Ck:∀ {vs us:List Value}{ns:List Int},vs.Perm us->IntsAre us ns->∃ ms,ms.Perm ns/\IntsAre vs ms:=by
 intro vs us ns h;induction h generalizing ns with
 |nil=>exact fun r=>by cases r;exact⟨[],.nil,.nil⟩
 |cons x _ ih =>
  intro r;cases r with
  |cons n t r=>obtain⟨ms,h1,h2⟩:=ih r;exact⟨n::ms,h1.cons n,.cons n t h2⟩
 |swap x y l =>
  intro r;cases r with
  |cons n t r=>cases r with
   |cons m u r=>exact⟨m::n::_,.swap _ _ _,.cons m u (.cons n t r)⟩
 |trans _ _ ih1 ih2 =>intro r;obtain⟨ms,h1,h2⟩:=ih2 r;obtain⟨ks,h3,h4⟩:=ih1 h2;exact⟨ks,h3.trans h1,h4⟩
section
variable {prog:Program}{w:World}{A:Around}{E:Value->Shared->Prop}{s:Shared}
theorem Uj {r:Addr}{Q:Bool->Shared->Prop}(hT:s.TypeIs (.ref r) "set") (h:Q false s):wpAny (model prog w) A (Builtin.List.listLengthHint (.ref r)) Q E s:=by
 unfold Builtin.List.listLengthHint;refine wpAny_bind (wpAny_specialOf hT PySem.F.slot_set_len.lookup ?_);generalize hid:("set.__len__" : String)=id0
 wp_delta
 rw[show splitId id0=some ("set","__len__") from by subst hid;decide +kernel];subst hid;refine wpAny_bind (wpAny_isInstance (T:="set") (b:=true) hT (by rw[isSubtype_type];kernel_rfl) ?_);refine wpAny_ite_split (fun hab=>absurd hab (by decide)) (fun _=>?_);refine wpAny_ite_split (fun _=>?_) (fun hab=>absurd (by decide +kernel) hab);exact wpAny_bind (wpAny_typeOf hT (wpAny_pure h))
theorem UA{a:Addr}{l:List Int}{Q:Value->Shared->Prop}(hh:A.handled=none)(hS:SetI prog w s.heap a l)
  (h:∀ s' I fp St vs ms,Near s s'->s.heap.objs.size<=I->(∀ b∈fp,b=a\/s.heap.objs.size<=b)->ms.Perm l->IntsAre vs ms->Walks prog w A I fp [I] l.length (fun i v=>vs[i]?=some v) St->St 0 s'.heap->Q (.ref I) s') :
  wpAny (model prog w) A (pyIter (.ref a)) Q E s:=by
 obtain⟨o,es,ep,t,es0,ho,hex,hd,hel,hb,hf,ht,hp,hi⟩:=id hS;have hsz:es.size=l.length:=by rw[<-Yt hi,qA,<-hp.length_eq,zC]
 rw[<-hsz]at h;have hT:s.TypeIs (.ref a) "set":=⟨o,ho,hex.1⟩
 have hlt:=Heap.lt_size ho;refine wpAny_pyIter_slot hT F.slot_set_iter (wpAny_call_entry F.slot_set_iter hT Ag ?_ (F.args_set_iter_1 _));have e0:Builtin.«frozenset.__iter__» ⟨[.ref a],[]⟩=(do
     let n<-Frozenset.sizeOf a
     let d<-(do
       let (es,_,t)<-setState a
       let byText<-setsByText
       return !byText&&(!t.plain&&decide (es.size > 1)))
     let first<-if d then newTuple ((<-drawOrder n (List.range n)).map fun(i:Nat)=>rawInt i)else pure (rawInt 0)
     ret (<-newFields "set_iterator" [first,rawInt 0,.ref a,rawInt n,rawInt (<-setEpoch a)])):=rfl
 rw[e0];unfold Frozenset.sizeOf;refine wpAny_bind (wpAny_bind (wpAny_setEntries_of ho hd hf (wpAny_pure ?_)));refine wpAny_bind (wpAny_bind (wpAny_setState_of ho hd hf ?_));dsimp only;unfold setsByText;refine wpAny_bind (wpAny_bind (wpAny_askSetting (wpAny_pure (wpAny_pure ?_))));have ebt:(model prog w).w.params.followText "set-order" = byT w:=rfl;dsimp only;rw[ebt];have mapP:∀ es':List (Int×Value),es'.Perm es.toList->∃ ms,ms.Perm l/\IntsAre (es'.map (·.2)) ms:=fun es' q=>Ck ((q.trans hp).map _) hi;by_cases hdr:(!byT w&&(!t.plain&&decide (es.size > 1)))=true
 .rw[if_pos hdr];refine wpAny_bind (Kp es.size (List.range es.size) (by simp) fun ks d hks=>wpAny_bind ?_);have hkl:ks.length=es.size:=by rw[hks.length_eq,List.length_range]
  refine wpAny_newTuple ?_ (by rw[qA,hkl];exact fits_of_scanBound hb);refine wpAny_bind (wpAny_setEpoch_of (Heap.get?_push_of_some _ ho) hd hf ?_);refine wpAny_bind (wpAny_newObj_type (wpAny_pure ⟨_,rfl,"set_iterator",_,⟨_,Heap.get?_push_size _ rfl,rfl⟩,slot_snext.lookup,?_⟩));have zs:(s.heap.push { cls:=.type "tuple",dict:=none,data:=.seq (List.map (fun(i:Nat)=>rawInt i) ks).toArray }).objs.size=s.heap.objs.size+1:=Heap.size_push ..;obtain⟨ms,m1,m2⟩:=mapP (ks.map fun k=>es.getD k (0,.none)) (by
    refine(hks.map _).trans (List.Perm.of_eq ?_)
    refine List.ext_getElem (by simp) fun i h1 h2=>?_
    have hi:i<es.size:=by simpa using h1
    simp[Array.getD,hi])
  rw[List.map_map]at m2;refine h _ _ [_,a,s.heap.objs.size] _ _ ms ⟨fun b o e=>Heap.get?_push_of_some _ (Heap.get?_push_of_some _ e),rfl,rfl⟩ (by rw[zs];exact Nat.le_succ _) (fun b hb=>?_) m1 m2
   (Walks.setD (o:=o) (oT:={cls:=.type "tuple",dict:=none,data:=.seq (List.map (fun(i:Nat)=>rawInt i) ks).toArray}) (es:=es) (ep:=ep) (t:=t) (ks:=ks) hh _ a s.heap.objs.size (by rw[zs];exact zF (Nat.lt_succ_of_lt hlt)) (by rw[zs];exact zF (Nat.lt_succ_self _)) hkl (fun k hk=>List.mem_range.mp (hks.mem_iff.mp hk)) rfl)
   ⟨⟨_,Heap.get?_push_size _ rfl,rfl,rfl⟩,⟨Heap.get?_push_of_some _ (Heap.get?_push_of_some _ ho),hd,hf⟩,Heap.get?_push_of_some _ (Heap.get?_push_size _ rfl)⟩
  simp only[qE,List.not_mem_nil,or_false]at hb;rcases hb with rfl|rfl|rfl
  .exact .inr (by rw[zs];exact Nat.le_succ _)
  .exact .inl rfl
  .exact .inr (zG _)
 .rw[if_neg hdr];refine wpAny_bind (wpAny_pure ?_);refine wpAny_bind (wpAny_setEpoch_of ho hd hf ?_);refine wpAny_bind (wpAny_newObj_type (wpAny_pure ⟨_,rfl,"set_iterator",_,⟨_,Heap.get?_push_size _ rfl,rfl⟩,slot_snext.lookup,?_⟩));have go:∀ (f:Nat->Nat) (es':List (Int×Value)),f 0=0->es'.Perm es.toList->NX prog w a o ep f (es'.map (·.2))->Q (.ref s.heap.objs.size) {s with heap:=s.heap.push {cls:=.type "set_iterator",dict:=none,data:=.fields [rawInt 0,rawInt 0,.ref a,rawInt es.size,rawInt ep].toArray}}:=fun f es' f0 hes nx=>by
   obtain⟨ms,m1,m2⟩:=mapP es' hes;have hl:(es'.map (·.2)).length=es.size:=by rw[qA,hes.length_eq,zC]
   refine h _ _ [_,a] _ _ ms ⟨fun b o e=>Heap.get?_push_of_some _ e,rfl,rfl⟩ (zG _) (fun b hb=>?_) m1 m2 (Walks.setT (t:=t) hh _ a (zF hlt) hl nx) ⟨⟨_,Heap.get?_push_size _ rfl,rfl,by rw[f0];rfl⟩,Heap.get?_push_of_some _ ho,hd,hf⟩;simp only[qE,List.not_mem_nil,or_false]at hb;rcases hb with rfl|rfl
   .exact .inr (zG _)
   .exact .inl rfl
  cases hbt:byT w with
  |true=>exact go _ _ rfl (NN _ es) (BH hbt hd hf)
  |false =>rw[hbt]at hdr;exact go (fun i=>match i with|0=>0|k+1=>t.place.getD k 0+1) _ rfl .rfl (Fo hbt ht (by simpa using hdr) hd hf)
end
end L2
namespace L2
open PySem PySem.Spec PyProof.Rows
theorem Near.trans{a b c:Shared}(h:Near a b)(k:Near b c):Near a c:=⟨fun x o e=>k.heap x o (h.heap x o e),k.gens.trans h.gens,k.os.trans h.os⟩
theorem Ui{vs:List Value}{acc:Array Value}{n:Nat}(h:ItemsOf (fun i v=>vs[i]?=some v) acc n)(hn:vs.length=n):acc.toList=vs:=by
 refine List.ext_getElem? fun i=>?_;rw[Array.getElem?_toList];by_cases hi:i<acc.size
 .rw[Array.getElem?_eq_getElem hi];exact(h.2 i _ (Array.getElem?_eq_getElem hi)).symm
 .rw[Array.getElem?_eq_none (by omega),List.getElem?_eq_none (by have:=h.1;omega)]
section
variable {prog:Program}{w:World}{A:Around}{E:Value->Shared->Prop}{s:Shared}
theorem Cf {a:Addr}{l:List Int}(hh:A.handled=none) (hS:SetI prog w s.heap a l) (S:Addr) (hSa:S≠a) (hs:s.heap.get? S=some {cls:=.type "list",data:=.seq #[] 0}){R:Result->Shared->Prop}
  (h:∀ s' vs ms c,s'.gens=s.gens->s'.os=s.os->(∀ b o,b≠S->s.heap.get? b=some o->s'.heap.get? b=some o)->ms.Perm l->IntsAre vs ms->s'.heap.get? S=some {cls:=.type "list",dict:=none,data:=.seq vs.toArray c,slots:=#[]}->R (.ok (.ret (.ref S))) s') :
  wpAny (model prog w) A.in1 (Builtin.List.listExtendWith (.ref S) (.ref a) (.ref S)) (fun fin s'=>match fin with|.done f=>R (.ok f) s'|.again c'=>c'.quiet=true/\codeAny (model prog w) A c' R s') (fun e s'=>R (.error e) s') s:=by
 have hl:=hS.setOf;obtain⟨o,es,ep,t,es0,ho,hex,hd,hel,hb,hf,ht,hp,hi⟩:=id hS;have hsz:l.length<=sizeLine:=fits_of_scanBound (by rw[<-Yt hi,qA,<-hp.length_eq,zC];exact hb);have hT:s.TypeIs (.ref a) "set":=⟨o,ho,hex.1⟩
 have hSs:S<s.heap.objs.size:=Heap.lt_size hs;unfold Builtin.List.listExtendWith;refine wpAny_bind (wpAny_typeOf (T:="set") hT ?_);have h1:Builtin.List.listSameRef (.ref S) (.ref a)=false:=by simp[Builtin.List.listSameRef,hSa]
 have h2:(Value.type "set" == Value.type "list")=false:=by decide
 have h3:(Value.type "set" == Value.type "tuple")=false:=by decide
 simp only[h1,h2,h3,Bool.or_false,Bool.false_eq_true,if_false];refine wpAny_bind (UA (A:=A.in1) hh hS fun s1 I fp St vs ms ne hI hfp pm ia W st=>?_);have hsf:S∉fp:=fun z=>by
  rcases hfp S z with q|q
  .exact hSa q
  .exact zK _ (qR hSs q)
 have hvl:vs.length=l.length:=(Yt ia).trans pm.length_eq;have key:∀ (h':Heap) (c tk:Nat),St 0 h'->(∀ b o,b≠S->s1.heap.get? b=some o->h'.get? b=some o)->h'.get? S=some {cls:=.type "list",data:=.seq #[] c}->codeAny (model prog w) A (.builtin "list.extend.loop" ⟨[.ref S,.ref I,.ref S],[]⟩) R {s1 with heap:=h',toks:=tk}:=by
  intro h' c tk st' hk hS1;refine codeAny_extend_loopS W.toS hsz S hsf (.ref S) l.length 0 _ #[] c rfl (Nat.zero_le _) st' hS1 (ItemsOf.nil _) fun s2 acc c2 hm hS2 hacc=>?_;have ev:acc.toList=vs:=Ui hacc hvl;refine h s2 vs ms c2 (hm.gens.trans ne.gens) (hm.os.trans ne.os) (fun b o hb e=>?_) pm ia (by rw[<-ev];simpa using hS2);refine hm.heap b o (fun z=>?_) (hk b o hb (ne.heap b o e));rcases qE.mp z with q|z
  .exact hb q
  .have z:b=I:=by simpa using z
   subst z;exact zK _ (qR (Heap.lt_size e) hI)
 have hS1:=ne.heap S _ hs;refine wpAny_bind (wpAny_holding (Uj ⟨o,ne.heap a o ho,hex.1⟩ ?_));refine wpAny_ite_split (fun _=>?_) fun _=>wpAny_pure ⟨plainId_quiet PySem.F.plain_extend_loop _,key _ 0 _ st (fun b o _ e=>e) hS1⟩;refine wpAny_bind (wpAny_rule ?_);refine wpAny_bind ?_;show wpAny _ _ (updateSeq S (·.push .none) >>= fun _=>updateSeq S (·.pop)) _ _ _;refine wpAny_bind (wpAny_updateSeq hS1 rfl ?_);have hS2:=Heap.get?_update_self (Obj.mapSeq (·.push Value.none)) hS1 rfl;refine wpAny_updateSeq (hz:=by seq_fits) hS2 rfl ?_;have hS3:=Heap.get?_update_self (Obj.mapSeq (·.pop)) hS2 rfl;refine wpAny_pure ⟨plainId_quiet PySem.F.plain_extend_loop _,key _ _ _ ?_ (fun b o hb e=>?_) hS3⟩
 .refine W.frame 0 _ _ st fun b hb o e=>?_;have hbS:b≠S:=fun z=>hsf (z▸hb);exact(Heap.get?_update_other _ _ hbS.symm).trans ((Heap.get?_update_other _ _ hbS.symm).trans e)
 .exact(Heap.get?_update_other _ _ hb.symm).trans ((Heap.get?_update_other _ _ hb.symm).trans e)
theorem J5{a:Addr}{l:List Int}{Q:List Value->Shared->Prop}(hh:A.handled=none)(hS:SetI prog w s.heap a l)(h:∀ s' vs ms,Near s s'->ms.Perm l->IntsAre vs ms->Q vs s'):wpAny (model prog w) A (collect (.ref a)) Q E s:=by
 have hlt:a<s.heap.objs.size:=by obtain⟨_,_,_,_,_,e,_⟩:=hS;exact Heap.lt_size e
 unfold collect;refine wpAny_bind (wpAny_runValue (codeAny_builtin F.entry_proto_collect ?_));rw[Around.under_plainId F.plain_proto_collect _];show wpAny _ A.in1 (newList [] >>= fun l=>again (.builtin "list.__iadd__" ⟨[l,.ref a],[]⟩)) _ _ s;refine wpAny_bind (wpAny_newObj_type ?_);refine wpAny_pure ⟨plainId_quiet F.plain_list_iadd _,codeAny_builtin F.entry_list_iadd ?_⟩;rw[Around.under_plainId F.plain_list_iadd _];show wpAny _ A.in1 (Builtin.List.listExtendWith (.ref s.heap.objs.size) (.ref a) (.ref s.heap.objs.size)) _ _ _;have fin:∀ (q:Result) (s':Shared),(∃ vs ms c,q=.ok (.ret (.ref s.heap.objs.size))/\Near s s'/\ms.Perm l/\IntsAre vs ms/\s'.heap.get? s.heap.objs.size=some {cls:=.type "list",dict:=none,data:=.seq vs.toArray c,slots:=#[]})->
   wants (fun(a:Value) s'=>wpAny (model prog w) A (match a with
     |.ref a=>do
       match (<-load a).data with
       |.seq xs _=>pure xs.toList
       |_=>unsupported "internal:collect"
     | _=>unsupported "internal:collect") Q E s') E q s':=fun q s' ⟨vs,ms,c,e,ne,pm,ia,hg⟩=>by
  subst e;show wpAny _ A (load s.heap.objs.size >>= _) _ _ _;refine wpAny_bind (wpAny_load hg (wpAny_pure ?_));exact h s' _ ms ne pm (by simpa using ia)
 refine wpAny_mono (Cf (A:=A) (s:={ s with heap:=s.heap.push { cls:=.type "list",data:=.seq ([]:List Value).toArray } }) (R:=fun q s'=>∃ vs ms c,q=.ok (.ret (.ref s.heap.objs.size))/\Near s s'/\ms.Perm l/\IntsAre vs ms/\s'.heap.get? s.heap.objs.size=some { cls:=.type "list",dict:=none,data:=.seq vs.toArray c,slots:=#[] })
   hh (hS.at fun o e=>Heap.get?_push_of_some _ e) s.heap.objs.size (Nat.ne_of_gt hlt) (Heap.get?_push_size _ rfl) fun s' vs ms c g1 g2 g3 pm ia hg=>⟨vs,ms,c,rfl,⟨fun b o e=>g3 b o (zF (Heap.lt_size e)) (Heap.get?_push_of_some _ e),g1,g2⟩,pm,ia,hg⟩) (fun f s' z=>?_) fun e s' z=>?_
 .cases f with
  |done f=>exact fin _ _ z
  |again c=>exact⟨z.1,codeAny_mono z.2 fun q s2 y=>fin q s2 y⟩
 .exact fin _ _ z
end
variable {X:Cx}
theorem Inv.near{pins:List (Addr×Obj)}{σ:St}{H:Hp}{s s':Shared}(I:Inv X pins σ H s)(ne:Near s s'):Inv X pins σ H s':=by have J:Inv X pins σ H {s with heap:=s'.heap,toks:=s'.toks}:=I.kept ne.heap;exact⟨J.ok,ne.os.trans J.os,by rw[ne.gens];exact J.bare,J.base,J.loc,J.cell,J.free,J.freeC,J.pin,J.hok,J.len⟩
def tSS (K:PySem.W.Frag) (te:TE):TE:=fun σ H Q=>CW te BX σ H fun vs H1=>∃ p,∃ ns:List Int,vs=[.ref p]/\SqL K H1 p (ns.map V.int)/\ns.length<64/\∀ l,H1 l=none->Q (.ref l) (upd H1 l (.lst ((sortI (firstMet (fun i=>ns.getD i 0) ns.length)).map V.int)))
theorem Jf {e:Expr}{te:TE}{p p2 pos pos2:Pos}(hc:X.calm=true) (hg:Gl X "sorted") (hm:X.mg "sorted" = none) (hg2:Gl X "set") (hm2:X.mg "set" = none) (he:PE X e te) (hs:starEach [e] X.env=[(false,eval e X.env)]) :
  PE X (.Call (.Name "sorted" p) [.Call (.Name "set" p2) [e] [] pos2] [] pos) (tSS X.K te):=by
 intro pins s σ H Q I h;refine wpAny_Call_Name_kw (YB (u:=.builtin "sorted") I hg hm (by kernel_rfl) ?_);refine PyProof.Rows.callWith_builtin1 ?_ rfl rfl;show wpAny _ _ (spliced ((false,eval (.Call (.Name "set" p2) [e] [] pos2) X.env)::[])) _ _ _;refine Calls.spliced_cons ?_;refine wpAny_Call_Name_kw (YB (u:=.type "set") I hg2 hm2 (by kernel_rfl) ?_ (by decide) (by decide));refine callWith_type1 (thn ((ZT he pa_nil hs) pos2 pins s σ H _ I h) fun us s1 ⟨vs,H1,I1,r1,q1⟩=>?_) hs rfl;obtain⟨a,ns,e1,hq,h64,q⟩:=q1;subst e1;obtain⟨u,rfl,ru⟩:=ZQ r1;cases ru;obtain⟨its,rv,pl,hz⟩:=I1.list hq;have hlen:=rv.length;rw[qA]at hlen;refine UG (I1.ok.hd hc) pl.isList (by simpa using ZF rv) (by rw[qC];show its.length+1<4096;omega) fun h' tk x hk=>Calls.spliced_nil ?_
 replace x:SetI X.prog X.w h' s1.heap.objs.size (firstMet (fun i=>ns.getD i 0) ns.length):=by rw[hlen];rw[show its.toArray.size=its.length from qC]at x;exact x
 have I2:Inv X pins σ H1 {s1 with heap:=h',toks:=tk}:=I1.kept hk;refine Calls.call_function_entry kind_sorted plain_sorted entry_sorted (args_sorted1 _) ?_;unfold Builtin.«sorted»;refine wpAny_bind (m:=checkCount "sorted" 1 1 _) (wpAny_pure ?_);refine wpAny_bind (J5 (A:=X.A.in1) (I1.ok.hd hc) x fun s3 vs ms ne pm ia=>?_);have I3:=I2.near ne;have hvl:vs.length<64:=by rw[Yt ia,pm.length_eq];exact qS (firstMet_length_le _ _) (by omega)
 refine wpAny_bind (wpAny_newList ?_ (by unfold sizeLine;omega));have hoL:(s3.heap.push (seqObj "list" vs.toArray 0)).get? s3.heap.objs.size=some (seqObj "list" vs.toArray 0):=Heap.get?_push_size _ rfl;refine wpAny_bind (wpAny_holding (wpAny_call_entry slot_list_sort ⟨_,hoL,rfl⟩ entry_list_sort (list_sort_tree hoL ia hvl fun out ns' a1 a2 a3=>⟨_,rfl,?_⟩) (args_list_sort _)));have e:=Z3 (a2.trans pm) a3;subst e;obtain⟨n,hat⟩:=sortedHeap_at (out:=out) hoL;refine wpAny_pure ⟨_,rfl,.ref s3.heap.objs.size,_,I3.laid (a:=s3.heap.objs.size) (o:=.lst ((sortI (firstMet (fun i=>ns.getD i 0) ns.length)).map V.int)) (t':=s3.toks) (fun b o e=>?_) (zG _) ?_,rfl,q _ (I3.hok.fresh (zG _))⟩
 .have hb:=Heap.lt_size e;rw[sortedHeap_old (zF hb) (by rw[size_push'];exact Nat.lt_succ_of_lt hb)];exact Heap.get?_push_of_some _ e
 .exact⟨by rw[qA,Z1];have:=firstMet_length_le (fun i=>ns.getD i 0) ns.length;unfold sizeLine;omega,out.toList,n,Z7 a1,by simpa[seqObj]using hat⟩
end L2
namespace Snd
open PySem L2
variable {i:Inf}{X:Cx}{Z:Own.Fs}
theorem J4 {e:Expr}{m:Own.E}{p p2 pos pos2:Pos}(hc:X.calm=true) (hK:X.K=i.K) (he:PE X e (tE X i Z m)) (hg:Gl X "sorted") (hm:X.mg "sorted" = none) (hg2:Gl X "set") (hm2:X.mg "set" = none) (hst:starEach [e] X.env=[(false,eval e X.env)]) :
  PE X (.Call (.Name "sorted" p) [.Call (.Name "set" p2) [e] [] pos2] [] pos) (tE X i Z (.bi .sortedSet (.cons m .nil))):=by
 refine(Jf hc hg hm hg2 hm2 he hst).imp fun σ H Q ⟨env,G,Qm,Em,p,w,c⟩=>?_;rw[Own.q_e_bi,Own.q_a_cons]at w;change tE X i Z m σ H _;refine one p w fun v G1 H1 x k1 p1 r q=>?_;rw[Own.q_a_nil]at q
 replace q:(Own.biSortedSet G1 v).wp G1 Qm:=q
 unfold Own.biSortedSet at q;cases z:Own.sortOf G1 v with
 |none=>rw[z]at q;exact(Zp q).elim
 |some ns =>
  rw[z]at q;dsimp only at q;split at q
  .rename_i h4;obtain⟨a,rfl,hs⟩:=UV p1.hp r z;refine⟨a,ns,rfl,by rw[hK];exact hs,h4,?_⟩;rw[WG (OD ns)];exact ZV p1.hp (JD q) (c.go k1) fun p hp=>⟨_,upd_same,RVs.ints _⟩
  .exact(Zp q).elim
section
variable {K:PySem.W.Frag}{H H':Hp}
theorem RKs.len:∀ {kvs:List (Own.Val×Own.Val)}{ps:List (Key×V)},RKs K H kvs ps->kvs.length=ps.length
 |_,_,.nil=>rfl
 |_,_,.cons _ _ t=>by rw[qB,qB,RKs.len t]
theorem RKs.at:∀ {kvs:List (Own.Val×Own.Val)}{ps:List (Key×V)}{n:Nat}{c:Key}{x:V},RKs K H kvs ps->ps[n]?=some (c,x)->∃ k v,kvs[n]?=some (k,v)/\XR k c/\RV K H v x
 |_,_,n,_,_,.nil,e=>by simp at e
 |_,_,0,_,_,.cons hk r _,e=>by simp at e;obtain⟨rfl,rfl⟩:=e;exact⟨_,_,rfl,hk,r⟩
 |_,_,n+1,_,_,.cons _ _ t,e=>by obtain⟨k,v,h1,h2⟩:=RKs.at (n:=n) t (by simpa using e);exact⟨k,v,by simpa using h1,h2⟩
end
structure Md where
 N:List Str
 sc:Scope
 cs:List (String×Own.Val)
 fs:List String
 cm:Bool
 cl:List String
 ms:List (String×String)
 fl:List String
 xs:List String
noncomputable def Md.nmOf (c:Md) (j:Nat):Str:=c.N.getD j Str.empty
noncomputable def Md.vis (c:Md) (x:Str):Bool:=match c.sc.names.lookup x with
 |some .local=>true
 |some .cell=>true
 |some .free=>true
 |_=>false
noncomputable def Md.loc (c:Md) (x:Str):Bool:=c.sc.names.lookup x==some .local||c.sc.names.lookup x==some .cell
noncomputable def Md.gl (c:Md) (x:Str):Bool:=c.sc.names.lookup x==some .globalImplicit
noncomputable def nm (x:Str):Bool:=!(x==("__debug__" : Str)) && !(x==("__classdict__" : Str)) && !(x==("__name__" : Str))
noncomputable def dE:Expr:=.Name Str.empty ⟨0,0,0,0⟩
noncomputable def mix:List (Option Expr)->List Expr->List Expr
 |k::ks,v::vs=>k.getD dE::v::mix ks vs
 |_,_=>[]
noncomputable def sub:Expr->List Expr
 |.BoolOp _ xs _=>xs
 |.BinOp a _ b _=>[a,b]
 |.UnaryOp _ a _=>[a]
 |.IfExp a b c _=>[a,b,c]
 |.Compare a _ bs _=>a::bs
 |.Call f as ks _=>f::(as++ks.map (·.value))
 |.FormattedValue a _ _ _=>[a]
 |.JoinedStr vs _=>vs
 |.Attribute a _ _=>[a]
 |.Subscript a b _=>[a,b]
 |.List es _=>es
 |.Tuple es _ _=>es
 |.Slice a b c _=>[a.getD dE,b.getD dE,c.getD dE]
 |.ListComp e gs _ _=>e::gs.flatMap fun g=>g.target::g.iter::g.ifs
 |.Dict ks vs _=>mix ks vs
 |_=>[]
noncomputable def kid (x:Expr) (j:Nat):Expr:=(sub x).getD j dE
noncomputable def num:Expr->Nat
 |.Constant _ k _=>k
 |.Tuple _ k _=>k
 |_=>0
noncomputable def scp:Expr->Scope
 |.ListComp _ _ s _=>s
 |_=>default
noncomputable def kwp:Expr->Pos
 |.Call _ _ (k::_) _=>k.pos
 |_=>⟨0,0,0,0⟩
noncomputable def Uw:Own.Bop->Operator
 |.add=>.Add
 |.sub=>.Sub
 |.mul=>.Mult
 |.fdiv=>.FloorDiv
 |.mod=>.Mod
 |.pow=>.Pow
noncomputable def Xp:Own.Cop->CmpOp
 |.eq=>.Eq
 |.ne=>.NotEq
 |.lt=>.Lt
 |.le=>.LtE
 |.gt=>.Gt
 |.ge=>.GtE
 |.isin=>.In
 |.notin=>.NotIn
 |.is=>.Is
 |.isnot=>.IsNot
 |.nes=>.NotEq
 |.neX=>.NotEq
 |.eqE=>.Eq
 |.neE=>.NotEq
 |.ntT=>.IsNot
noncomputable def Gw:Own.Val->Const
 |.non=>.none
 |.bl b=>.bool b
 |.int i=>.int i
 |.str s=>.str (Str.ofString s)
 |_=>.ellipsis
noncomputable def Cw:Own.Val->Bool
 |.non=>true
 |.bl _=>true
 |.int _=>true
 |.str _=>true
 |_=>false
noncomputable def ZD:Own.E->Bool
 |.and _ _=>true
 |_=>false
noncomputable def ZW:Own.E->Bool
 |.or _ _=>true
 |_=>false
noncomputable def Zq:Own.Tt->Bool
 |.and _ _=>true
 |_=>false
noncomputable def Zx:Own.Tt->Bool
 |.or _ _=>true
 |_=>false
noncomputable def rest (b:Bool) (x:Expr):Expr:=match b,x with
 |true,.BoolOp op (_::xs) p=>.BoolOp op xs p
 |_,x=>kid x 1
noncomputable def YE (b:Bool) (x:Expr):List Expr:=match b with
 |true=>sub x
 |false=>[x]
noncomputable def Z0:Own.Bi->Str
 |.len=>"len"
 |.int=>"int"
 |.str=>"str"
 |.bool=>"bool"
 |.abs=>"abs"
 |.min2=>"min"
 |.max2=>"max"
 |.minL=>"min"
 |.maxL=>"max"
 |.minD=>"min"
 |.sum=>"sum"
 |.all=>"all"
 |.any=>"any"
 |.sorted=>"sorted"
 |.sortedI=>"sorted"
 |.sortedSet=>"sorted"
 |.lenSet=>"len"
 |.list=>"list"
 |.tuple=>"tuple"
 |.dict=>"dict"
 |.isi _=>"isinstance"
 |.isx _=>"isinstance"
 |.isc _=>"isinstance"
 |.repr=>"repr"
 |.listRev=>"list"
 |.listRange=>"list"
 |.tupRange=>"tuple"
 |.dictEnum=>"dict"
noncomputable def HH:Own.Bi->Option Str
 |.sortedSet=>some "set"
 |.lenSet=>some "set"
 |.listRev=>some "reversed"
 |.listRange=>some "range"
 |.tupRange=>some "range"
 |.dictEnum=>some "enumerate"
 |_=>none
noncomputable def Ea (Ts:List String) (x:Expr):Expr:=match Ts with
 |[T]=>.Name (Str.ofString T) x.pos
 |Ts=>.Tuple (Ts.zipIdx.map fun p=>.Name (Str.ofString p.1) (kid x p.2).pos) (num x) x.pos
noncomputable def DZ (f:Own.Bi) (as:List Expr) (x:Expr):List Expr:=match HH f with
 |some y=>[.Call (.Name y (kid (kid x 1) 0).pos) as [] (kid x 1).pos]
 |none=>match f with
  |.isi Ts=>as++[Ea Ts (kid x 2)]
  |.isx Ts=>as++[Ea Ts (kid x 2)]
  |.isc T=>as++[Ea [T] (kid x 2)]
  |_=>as
noncomputable def MO (f:Own.Bi) (x:Expr):List Expr:=match HH f with
 |some _=>(sub (kid x 1)).tail
 |none=>(sub x).tail
noncomputable def Ix (f:Own.Bi) (x:Expr):List Keyword:=match f with
 |.minD=>[⟨some "default",.Constant .none (num (kid x 2)) (kid x 2).pos,kwp x⟩]
 |_=>[]
noncomputable def E2:Own.Bm->Str
 |.append=>"append"
 |.extend=>"extend"
 |.pop=>"pop"
 |.popAt=>"pop"
 |.insert=>"insert"
 |.remove=>"remove"
 |.clear=>"clear"
 |.reverse=>"reverse"
 |.index=>"index"
 |.count=>"count"
 |.dget=>"get"
 |.dgetD=>"get"
 |.dpop=>"pop"
 |.dpopD=>"pop"
 |.setdefault=>"setdefault"
 |.join=>"join"
 |.split=>"split"
 |.replace=>"replace"
 |.upper=>"upper"
 |.partition=>"partition"
 |.sidx=>"index"
noncomputable def YK:List Expr->List (Option Expr)
 |k::_::r=>some k::YK r
 |_=>[]
noncomputable def O2:List Expr->List Expr
 |_::v::r=>v::O2 r
 |_=>[]
noncomputable def toP (p:Own.Pt) (c:Md) (x:Expr):Expr:=match p with
 |.one j=>.Name (c.nmOf j) x.pos
 |.many js=>.Tuple (js.zipIdx.map fun p=>.Name (c.nmOf p.1) (kid x p.2).pos) (num x) x.pos
 |.nest j js=>.Tuple [.Name (c.nmOf j) (kid x 0).pos,.Tuple (js.zipIdx.map fun p=>.Name (c.nmOf p.1) (kid (kid x 1) p.2).pos) (num (kid x 1)) (kid x 1).pos] (num x) x.pos
noncomputable def nmX:Expr->Str
 |.Name x _=>x
 |_=>Str.empty
noncomputable def Z8:Expr->List Str
 |.Tuple es _ _=>es.map nmX
 |x=>[nmX x]
noncomputable def Md.blk (c:Md) (sc:Scope) (x:List Str) (caps:List Nat):Md :=
 {N:=x++caps.map (fun j=>c.N.getD j Str.empty),sc:={sc with names:=sc.names.map fun(n,k)=>if(k == .free&&c.sc.kind == .function&&c.sc.names.lookup n==some .cell)then(n,.cell)else(n,k)},cs:=c.cs,fs:=c.fs,cm:=c.cm,cl:=c.cl,ms:=c.ms,fl:=c.fl,xs:=c.xs}
noncomputable def NL:Own.E->Bool
 |.cst (.str _)=>true
 |_=>false
mutual
noncomputable def toX:Own.E->Md->Expr->Expr
 |.cst v,_,x=>.Constant (Gw v) (num x) x.pos
 |.var j,c,x=>.Name (c.nmOf j) x.pos
 |.glob y _,_,x=>.Name (Str.ofString y) x.pos
 |.bin o a b,c,x=>.BinOp (toX a c (kid x 0)) (Uw o) (toX b c (kid x 1)) x.pos
 |.neg a,c,x=>.UnaryOp .USub (toX a c (kid x 0)) x.pos
 |.not a,c,x=>.UnaryOp .Not (toX a c (kid x 0)) x.pos
 |.and a b,c,x=>.BoolOp .And (toX a c (kid x 0)::YE (ZD b) (toX b c (rest (ZD b) x))) x.pos
 |.or a b,c,x=>.BoolOp .Or (toX a c (kid x 0)::YE (ZW b) (toX b c (rest (ZW b) x))) x.pos
 |.cmp o a b,c,x=>.Compare (toX a c (kid x 0)) [Xp o] [toX b c (kid x 1)] x.pos
 |.chain o1 o2 a b d,c,x=>.Compare (toX a c (kid x 0)) [Xp o1,Xp o2] [toX b c (kid x 1),toX d c (kid x 2)] x.pos
 |.call f as,c,x=>.Call (.Name (Str.ofString f) (kid x 0).pos) (toA as c (sub x).tail) [] x.pos
 |.make C as,c,x=>.Call (.Name (Str.ofString C) (kid x 0).pos) (toA as c (sub x).tail) [] x.pos
 |.meth _ m o as,c,x=>.Call (.Attribute (toX o c (kid (kid x 0) 0)) (Str.ofString m) (kid x 0).pos) (toA as c (sub x).tail) [] x.pos
 |.fld o f,c,x=>.Attribute (toX o c (kid x 0)) (Str.ofString f) x.pos
 |.bi f as,c,x=>.Call (.Name (Z0 f) (kid x 0).pos) (DZ f (toA as c (MO f x)) x) (Ix f x) x.pos
 |.bm m o as,c,x=>.Call (.Attribute (toX o c (kid (kid x 0) 0)) (E2 m) (kid x 0).pos) (toA as c (sub x).tail) [] x.pos
 |.idx a b,c,x=>.Subscript (toX a c (kid x 0)) (toX b c (kid x 1)) x.pos
 |.slc a lo hi,c,x=>.Subscript (toX a c (kid x 0)) (.Slice (toO lo c (kid (kid x 1) 0)) (toO hi c (kid (kid x 1) 1)) none (kid x 1).pos) x.pos
 |.rev a,c,x=>.Subscript (toX a c (kid x 0)) (.Slice none none (some (.UnaryOp .USub (.Constant (.int 1) (num (kid (kid (kid x 1) 2) 0)) (kid (kid (kid x 1) 2) 0).pos) (kid (kid x 1) 2).pos)) (kid x 1).pos) x.pos
 |.tup es,c,x=>.Tuple (toA es c (sub x)) (num x) x.pos
 |.key es,c,x=>.Tuple (toA es c (sub x)) (num x) x.pos
 |.dctP,c,x=>.Dict [] [] x.pos
 |.lst es,c,x=>.List (toA es c (sub x)) x.pos
 |.dct es,c,x=>.Dict (YK (toA es c (sub x))) (O2 (toA es c (sub x))) x.pos
 |.ife t a b,c,x=>.IfExp (toT t c (kid x 0)) (toX a c (kid x 1)) (toX b c (kid x 2)) x.pos
 |.comp caps _ p it t e,c,x=>.ListComp (toX e (c.blk (scp x) (Z8 (kid x 1)) caps) (kid x 0)) [⟨toP p (c.blk (scp x) (Z8 (kid x 1)) caps) (kid x 1),toI it c (kid x 2),toF t (c.blk (scp x) (Z8 (kid x 1)) caps) (kid x 3),0⟩] (scp x) x.pos
 |.fstr es,c,x=>.JoinedStr (toJ es c (sub x)) x.pos
 |.split o a,c,x=>.Call (.Attribute (toX o c (kid (kid x 0) 0)) "split" (kid x 0).pos) [toX a c (kid x 1)] [] x.pos
 |.repl o y z,c,x=>.Call (.Attribute (toX o c (kid (kid x 0) 0)) "replace" (kid x 0).pos) [.Constant (.str (Str.ofString y)) (num (kid x 1)) (kid x 1).pos,.Constant (.str (Str.ofString z)) (num (kid x 2)) (kid x 2).pos] [] x.pos
noncomputable def toA:Own.Es->Md->List Expr->List Expr
 |.nil,_,_=>[]
 |.cons e es,c,xs=>toX e c (xs.headD dE)::toA es c xs.tail
noncomputable def toJ:Own.Es->Md->List Expr->List Expr
 |.nil,_,_=>[]
 |.cons e es,c,xs=>(if NL e then toX e c (xs.headD dE)else .FormattedValue (toX e c (kid (xs.headD dE) 0)) (-1) none (xs.headD dE).pos)::toJ es c xs.tail
noncomputable def toO:Own.Oe->Md->Expr->Option Expr
 |.none,_,_=>none
 |.some e,c,x=>some (toX e c x)
noncomputable def toT:Own.Tt->Md->Expr->Expr
 |.yes,_,x=>x
 |.val e,c,x=>toX e c x
 |.not t,c,x=>.UnaryOp .Not (toT t c (kid x 0)) x.pos
 |.and a b,c,x=>.BoolOp .And (toT a c (kid x 0)::YE (Zq b) (toT b c (rest (Zq b) x))) x.pos
 |.or a b,c,x=>.BoolOp .Or (toT a c (kid x 0)::YE (Zx b) (toT b c (rest (Zx b) x))) x.pos
noncomputable def toF:Own.Tt->Md->Expr->List Expr
 |.yes,_,_=>[]
 |.val e,c,x=>[toX e c x]
 |.not t,c,x=>[.UnaryOp .Not (toT t c (kid x 0)) x.pos]
 |.and a b,c,x=>[.BoolOp .And (toT a c (kid x 0)::YE (Zq b) (toT b c (rest (Zq b) x))) x.pos]
 |.or a b,c,x=>[.BoolOp .Or (toT a c (kid x 0)::YE (Zx b) (toT b c (rest (Zx b) x))) x.pos]
noncomputable def toI:Own.It->Md->Expr->Expr
 |.seq e,c,x=>toX e c x
 |.chars e,c,x=>toX e c x
 |.range a,c,x=>.Call (.Name "range" (kid x 0).pos) [toX a c (kid x 1)] [] x.pos
 |.range2 a b,c,x=>.Call (.Name "range" (kid x 0).pos) [toX a c (kid x 1),toX b c (kid x 2)] [] x.pos
 |.enum e,c,x=>.Call (.Name "enumerate" (kid x 0).pos) [toX e c (kid x 1)] [] x.pos
 |.zip a b,c,x=>.Call (.Name "zip" (kid x 0).pos) [toX a c (kid x 1),toX b c (kid x 2)] [] x.pos
 |.items e,c,x=>toX e c x
 |.rev e,c,x=>.Call (.Name "reversed" (kid x 0).pos) [toX e c (kid x 1)] [] x.pos
end
noncomputable def blts:List Str:=["isinstance","int","bool","str","list","tuple","dict","max","min","range","len","sorted","set","all","any","sum","enumerate","zip","reversed","abs","repr","ValueError"]
structure Kls (X:Cx) (i:Inf) (P:Own.Pg) (n:Nat) (c:Md):Prop where
 A:ClsA i
 F:∀ f,c.fl.contains f=true->FldOk i f
 mkc:∀ C,c.cl.contains C=true->∃ a f,i.ins C=true/\i.cl C a/\Mk i.K a f/\X.mg (Str.ofString C)=some (.ref a)/\Dfm X.prog X.w X.mg X.base i P n (C ++ ".__init__") f
 mth:∀ C m,c.ms.contains (C,m)=true->∃ a f,(∀ b,i.cl C b->b=a)/\Cls i.K a/\Meth i.K a (Str.ofString m) f/\Dfm X.prog X.w X.mg X.base i P n (C ++ "." ++ m) f
structure Xls (X:Cx) (i:Inf) (c:Md):Prop where
 xc:∀ C a,i.xc C a->XCls i.K a/\PySem.W.kitOne i.K (.ref a) (.type "ValueError")=some true
 rs:∀ C,c.xs.contains C=true->∃ a,i.xc C a/\PyProof.Rows.OwnCls (Str.ofString C) a [.type "ValueError",.type "Exception",.type "BaseException",.type "object"] "ValueError.__new__" X.mg X.base
 kn:∀ T,(c.xs.contains T||T == "ShutError")=true->∃ D,X.mg (Str.ofString T)=some (.ref D)/\∀ C a,i.xc C a->PySem.W.kitOne i.K (.ref a) (.ref D)=some (Own.excSub C T)/\(Own.excSub C T=true->PySem.W.exmOne i.K (.ref a) (.ref D)=some true)
structure Gd (X:Cx) (i:Inf) (P:Own.Pg) (n:Nat) (c:Md):Prop where
 K:X.K=i.K
 N:X.N=c.N
 sc:X.env.scope=c.sc
 nd:c.N.Nodup
 un:X.A.units+200<cLine
 calm:c.cm=true->X.calm=true
 room:c.cm=true->Room (2*n+1) X.A
 bl:∀ x∈blts,X.mg x=none
 dfs:∀ f,c.fs.contains f=true->Dfo X.prog X.w X.mg X.base i P n f
 cst:∀ x v,c.cs.lookup x=some v->∃ u y,X.mg (Str.ofString x)=some u/\RelV y u/\∀ H,RV i.K H v y
 kl:Kls X i P n c
 xl:c.xs≠[]->Xls X i c
variable {X:Cx}{i:Inf}{P:Own.Pg}{n:Nat}{c:Md}
theorem Gd.gl(g:Gd X i P n c){x:Str}(h:c.gl x=true):Gl X x:=by show X.env.scope.names.lookup x=_;rw[g.sc];exact eq_of_beq h
theorem Gd.vis(g:Gd X i P n c){x:Str}(h:c.vis x=true):Vis X.env.scope x:=by
 unfold Vis;rw[g.sc];unfold Md.vis at h;split at h
 .exact .inl (by assumption)
 .exact .inr (.inl (by assumption))
 .exact .inr (.inr (by assumption))
 .cases h
theorem Gd.loc(g:Gd X i P n c){x:Str}(h:c.loc x=true):L2.Loc X.env.scope x:=by
 unfold L2.Loc;rw[g.sc];rcases (Bool.or_eq_true ..).mp h with h|h
 .exact .inl (eq_of_beq h)
 .exact .inr (eq_of_beq h)
theorem Gd.rm(g:Gd X i P n c)(h:c.cm=true):Room (2*n) X.A:=(g.room h).mono (Nat.le_succ _)
theorem Ka {x:Str}(h:nm x=true):(x==("__debug__" : Str))=false/\(x==("__classdict__" : Str))=false/\x≠"__name__":=by simp only[nm,bAq,Bool.not_eq_true']at h;exact⟨h.1.1,h.1.2,by simpa using h.2⟩
theorem Zz(e:Own.E)(c:Md)(x:Expr)(es:List Expr)(env:Env):starEach (toX e c x::es) env=(false,eval (toX e c x) env)::starEach es env:=by cases e<;>rfl
theorem OE(e:Own.E)(c:Md)(x:Expr):JP (toX e c x):=by intro o j;cases e<;>rfl
theorem Mc{op:CmpOp}(e:Own.E)(c:Md)(x:Expr):behindInMarks op (toX e c x)=false:=by cases e<;>rfl
theorem E4(e:Own.E)(c:Md)(x:Expr)(env:Env):∀ y,foldedSetIterable (toX e c x) env y=pure y:=by intro y;cases e<;>rfl
noncomputable def Yx:Expr->Bool
 |.Call (.Name _ _) [] _ _=>false
 |_=>true
theorem Yn{e:Expr}(h:Yx e=true)(f:Str)(env:Env):attributeBase e f env (eval e env)=eval e env:=by
 cases e with
 |Call g as ks p =>
  cases as with
  |cons _ _=>cases g<;>rfl
  |nil=>cases g with
   |Name x q=>cases h
   |_=>rfl
 |_=>rfl
noncomputable def Zf:Own.Es->Nat
 |.nil=>0
 |.cons _ es=>Zf es+1
theorem YL:∀ (es:Own.Es) (c:Md) (xs:List Expr),(toA es c xs).length=Zf es
 |.nil,_,_=>rfl
 |.cons _ es,c,xs=>by show(toA es c xs.tail).length+1=_;rw[YL es];rfl
theorem ZX(env:Env)(pos:Pos):∀ (es:Own.Es) (c:Md) (xs:List Expr),(backTo pos (starEach (toA es c xs) env)).any (·.1)=false
 |.nil,_,_=>rfl
 |.cons e es,c,xs=>by show(backTo pos (starEach (toX e c (xs.headD dE)::toA es c xs.tail) env)).any (·.1)=false;rw[Zz];show(false||(backTo pos (starEach (toA es c xs.tail) env)).any (·.1))=false;rw[ZX env pos es];rfl
theorem X1(env:Env)(pos:Pos):∀ (es:Own.Es) (c:Md) (xs:List Expr),(backTo pos (starEach (toA es c xs) env)).all (fun x=>!x.1)=true
 |.nil,_,_=>rfl
 |.cons e es,c,xs=>by show(backTo pos (starEach (toX e c (xs.headD dE)::toA es c xs.tail) env)).all (fun x=>!x.1)=true;rw[Zz];show(true&&(backTo pos (starEach (toA es c xs.tail) env)).all (fun x=>!x.1))=true;rw[X1 env pos es];rfl
noncomputable def ZA:Own.Pt->Bool
 |.one _=>true
 |_=>false
theorem MB(p:Own.Pt)(x:Expr):((!ZA p)=true->∃ es k q,toP p c x=.Tuple es k q)/\((!ZA p)=false->∃ y q,toP p c x=.Name y q):=by
 cases p with
 |one j=>exact⟨fun z=>(by cases z),fun _=>⟨_,_,rfl⟩⟩
 |many js=>exact⟨fun _=>⟨_,_,_,rfl⟩,fun z=>(by cases z)⟩
 |nest j js=>exact⟨fun _=>⟨_,_,_,rfl⟩,fun z=>(by cases z)⟩
def UF (X:Cx) (c:Md) (j:Nat):Prop:=X.N[j]?=some (c.nmOf j)/\L2.Loc X.env.scope (c.nmOf j)/\(X.fn (c.nmOf j)=true\/X.env.scope.names.lookup (c.nmOf j)=some .local)
def CB (q:Nat->Prop):Own.Pt->Prop
 |.one j=>q j
 |.many js=>∀ j∈js,q j
 |.nest j js=>q j/\∀ k∈js,q k
theorem Jt{X:Cx}{c:Md}(nd:X.N.Nodup)(f:Nat->Pos):∀ (js:List Nat) (k:Nat),(∀ j∈js,UF X c j)->
  PGs X ((js.zipIdx k).map fun p=>.Name (c.nmOf p.1) (f p.2)) (OO i js)/\(assignEach ((js.zipIdx k).map fun p=>.Name (c.nmOf p.1) (f p.2)) X.env).length=js.length/\(assignEach ((js.zipIdx k).map fun p=>.Name (c.nmOf p.1) (f p.2)) X.env).findIdx? (·.1)=none
 |[],_,_=>⟨Bv,rfl,rfl⟩
 |j::js,k,h=>by
  obtain⟨h1,h2,h3⟩:=h j (by simp);obtain⟨a1,a2,a3⟩:=Jt nd f js (k+1) fun l hl=>h l (by simp[hl]);rw[List.zipIdx_cons,qG];refine⟨Uc nd h1 h2 h3 a1 rfl,?_,?_⟩
  .show(assignEach ((js.zipIdx (k+1)).map _) X.env).length+1=js.length+1;rw[a2]
  .show List.findIdx? (·.1) ((false,assign (.Name (c.nmOf j) (f k)) X.env)::assignEach _ X.env)=none;rw[List.findIdx?_cons];simp[a3]
theorem Dc{X:Cx}{c:Md}(hK:X.K=i.K)(nd:X.N.Nodup)(hc:X.calm=true){p:Own.Pt}{x:Expr}(h:CB (UF X c) p):PG X (toP p c x) (gPt i p):=by
 cases p with
 |one j=>exact Mq nd h.1 h.2.1 h.2.2
 |many js =>obtain⟨a1,a2,a3⟩:=Jt nd (fun k=>(kid x k).pos) js 0 h;exact Nq hK hc a1 a2 a3
 |nest j js =>obtain⟨h0,h⟩:=h;obtain⟨a1,a2,a3⟩:=Jt nd (fun k=>(kid (kid x 1) k).pos) js 0 h;exact Bt hK hc (Mq nd h0.1 h0.2.1 h0.2.2) (Nq hK hc a1 a2 a3)
theorem GY(g:Gd X i P n c){Z:Own.Fs}{o:Own.Bop}{a b:Own.E}{l r:Expr}{pos:Pos}(ha:PE X l (tE X i Z a))(hb:PE X r (tE X i Z b)):PE X (.BinOp l (Uw o) r pos) (tE X i Z (.bin o a b)):=by
 cases o with
 |add=>exact W1 GP (by rw[g.K];exact b_add) ha hb
 |sub=>exact W1 Eo b_sub ha hb
 |mul=>exact W1 Ge b_mul ha hb
 |fdiv=>exact W1 B3 b_fdiv ha hb
 |mod=>exact W1 FK b_mod ha hb
 |pow=>exact W1 Fc b_pow ha hb
noncomputable def YO:Own.Cop->Bool
 |.is=>true
 |.isnot=>true
 |.ntT=>true
 |.neE=>true
 |.eqE=>true
 |.nes=>true
 |_=>false
theorem MK(g:Gd X i P n c){o:Own.Cop}(h:YO o=false):∃ r,OpR X (compareOp (Xp o)) r/\ZI i o r:=by
 have u65:X.A.units+65<cLine:=by have:=g.un;omega
 have u64:X.A.units+64<cLine:=by have:=g.un;omega
 have u0:X.A.units<cLine:=by have:=g.un;omega
 cases o with
 |eq=>exact⟨_,EU u64,by rw[g.K];exact HW⟩
 |ne=>exact⟨_,UN u64,by rw[g.K];exact FT⟩
 |lt=>exact⟨_,IG u0,by rw[g.K];exact c_lt⟩
 |le=>exact⟨_,Hk,c_le⟩
 |gt=>exact⟨_,Iw u0,by rw[g.K];exact c_gt⟩
 |ge=>exact⟨_,HJ,c_ge⟩
 |isin=>exact⟨_,Lk u65,by rw[g.K];exact Ib⟩
 |notin=>exact⟨_,IA u65,by rw[g.K];exact HS⟩
 |neX=>exact⟨_,E7 u64,by rw[g.K];exact c_neX⟩
 |_=>cases h
theorem Eh{Z:Own.Fs}{v:Own.Val}{j:Nat}{pos:Pos}(h:Cw v=true):PE X (.Constant (Gw v) j pos) (tE X i Z (.cst v)):=by
 cases v with
 |non=>exact Xq Fh fun _=>.non
 |bl b=>exact Xq HD fun _=>.bl _
 |int k=>exact Xq Fx fun _=>.int _
 |str s=>exact Xq pe_str fun _=>.str _
 |_=>cases h
noncomputable def Kz:Own.E->Bool
 |.cst .non=>true
 |_=>false
theorem Bg{e:Own.E}(h:Kz e=true):e=.cst .non:=by
 cases e with
 |cst v=>cases v with
  |non=>rfl
  |_=>cases h
 |_=>cases h
theorem YI{Z:Own.Fs}{o:Own.Cop}{op:CmpOp}{a:Own.E}{l y:Expr}{pos:Pos}(hn:∀ G v d,Own.cmpV G o v .non≠some d)(ha:PE X l (tE X i Z a))(hb:PE X y (tE X i Z (.cst .non)))(hm:behindInMarks op y=false) :
  PE X (.Compare l [op] [y] pos) (tE X i Z (.cmp o a (.cst .non)))/\PT X (.Compare l [op] [y] pos) (tTt X i Z (.val (.cmp o a (.cst .non)))):=by
 have ho:OpR X (compareOp op) fun _ _ _ _=>False:=fun _ _ _ _ _ _ _ _ _ _ _ _ h=>h.elim;refine⟨(M8 ho ha hb hm).imp fun σ H Q ⟨env,G,Qm,Em,p,w,c⟩=>?_,(M0 ho ha hb hm).imp fun σ H Q ⟨env,G,Qm,Em,p,w,c⟩=>?_⟩
 .rw[Own.q_e_cmp]at w;refine one p w fun v G1 H1 x k1 p1 r q=>?_;rw[Own.q_e_cst]at q;obtain⟨d,e,_⟩:=go_some q;exact absurd e (hn G1 v d)
 .rw[Own.q_t_val,Own.q_e_cmp]at w;refine one p w fun v G1 H1 x k1 p1 r q=>?_;rw[Own.q_e_cst]at q;obtain⟨d,e,_⟩:=go_some q;exact absurd e (hn G1 v d)
theorem Ki(g:Gd X i P n c){Z:Own.Fs}{o:Own.Cop}{a b:Own.E}{l x:Expr}{pos:Pos}(h:(!YO o||Kz b)=true)(ha:PE X l (tE X i Z a))(hb:PE X (toX b c x) (tE X i Z b)) :
  PE X (.Compare l [Xp o] [toX b c x] pos) (tE X i Z (.cmp o a b))/\PT X (.Compare l [Xp o] [toX b c x] pos) (tTt X i Z (.val (.cmp o a b))):=by
 cases z:YO o with
 |false =>obtain⟨r,h1,h2⟩:=MK g z;exact⟨HE h1 h2 ha hb (Mc _ _ _),Fy h1 h2 ha hb (Mc _ _ _)⟩
 |true =>
  rw[z]at h;cases Bg h;cases o with
  |is=>exact⟨FR ha,DK ha⟩
  |isnot=>exact⟨EG ha,Bu ha⟩
  |ntT=>exact YI (fun G v d e=>by cases v<;>simp[Own.cmpV,Own.asLst]at e) ha hb (Mc _ _ _)
  |neE=>exact YI (fun G v d e=>by cases v<;>simp[Own.cmpV,Own.asLst]at e) ha hb (Mc _ _ _)
  |eqE=>exact YI (fun G v d e=>by cases v<;>simp[Own.cmpV,Own.asLst]at e) ha hb (Mc _ _ _)
  |nes=>exact YI (fun G v d e=>by cases v<;>simp[Own.cmpV,Own.asLst]at e) ha hb (Mc _ _ _)
  |_=>cases z
theorem X3(g:Gd X i P n c){Z:Own.Fs}{o1 o2:Own.Cop}{a b d:Own.E}{l y x:Expr}{pos:Pos}(h1:YO o1=false)(h2:YO o2=false)(ha:PE X l (tE X i Z a))(hb:PE X y (tE X i Z b))(hd:PE X (toX d c x) (tE X i Z d)) :
  PE X (.Compare l [Xp o1,Xp o2] [y,toX d c x] pos) (tE X i Z (.chain o1 o2 a b d))/\PT X (.Compare l [Xp o1,Xp o2] [y,toX d c x] pos) (tTt X i Z (.val (.chain o1 o2 a b d))):=by
 obtain⟨r1,a1,a2⟩:=MK g h1;obtain⟨r2,b1,b2⟩:=MK g h2;have hm:lastMarks [Xp o1,Xp o2] [y,toX d c x]=false:=Mc _ _ _;exact⟨BA a1 a2 b1 b2 ha hb hd hm,U4 a1 a2 b1 b2 ha hb hd hm⟩
theorem Fb{Z:Own.Fs}{e:Expr}{m:Own.E}(h:PE X e (tE X i Z m))(he:∀ whole,isTrue e X.env whole=(do let v<-whole;standAt e.pos;holding [v] (truthy v)))(hK:X.K=i.K):PT X e (tTt X i Z (.val m)):=by
 refine(Um h he).imp fun σ H Q ⟨env,G,Qm,Em,p,w,c⟩=>?_;rw[Own.q_t_val]at w;refine one p w fun v G1 H1 x k1 p1 r q=>?_;obtain⟨d,e1,q2⟩:=go_some q;clear q;refine⟨d,?_,c d G1 H1 k1 p1.hp q2⟩;cases v with
 |non=>cases r;cases e1;rfl
 |bl b=>cases r;cases e1;rfl
 |int b =>
  cases r;cases e1;show decide (b≠0)=(b != 0)
  by_cases e:b=0<;>simp[e]
 |key _ _=>cases e1
 |str b =>
  cases r;obtain⟨hl,e1⟩:=Zy e1;cases e1;refine⟨by rw[Zv];exact zE hl ZE,?_⟩;rw[Zv];by_cases e:b.length=0
  .rw[e];rfl
  .rw[qQ e];symm;simpa using (by omega:¬ ((b.length:Int)=0))
 |tup xs =>
  cases e1;cases r with
  |tup hp hr =>refine .inr (.inl ⟨_,by rw[hK];exact Zl hp,?_⟩);cases hr<;>rfl
 |scr ns =>
  cases e1;cases r with
  |scr h =>refine .inl ⟨_,by rw[hK];exact ZR h,?_⟩;cases ns<;>rfl
 |ref a =>
  cases r.ref_inv
  replace e1:(match G1 a with|some (.lst xs)=>some (!xs.isEmpty)|some (.dct kvs)=>some (!kvs.isEmpty)|_=>none)=some d:=e1
  cases z:G1 a with
  |none=>rw[z]at e1;cases e1
  |some o =>
   rw[z]at e1;cases o with
   |lst xs =>cases e1;obtain⟨vs,h1,h2⟩:=p1.hp a _ z;refine .inl ⟨vs,SqL.of h1,?_⟩;cases h2<;>rfl
   |dct kvs =>cases e1;obtain⟨ps,h1,h2⟩:=p1.hp a _ z;refine .inr (.inr ⟨ps,h1,?_⟩);cases h2<;>rfl
   |_=>cases e1
variable {X:Cx}{i:Inf}{P:Own.Pg}{n:Nat}{c:Md}{Z:Own.Fs}
theorem N3{G:Own.Hs}{C:String}{v u:Own.Val}(h:Own.isoV G C v=some u):∃ a fs,v=.ref a/\G a=some (.ins C fs)/\u=.bl true:=by
 cases v with
 |ref a =>
  unfold Own.isoV at h;dsimp only at h;split at h
  .rename_i D fs e;split at h
   .rename_i z;subst z;cases h;exact⟨a,fs,rfl,e,rfl⟩
   .cases h
  .cases h
 |_=>cases h
theorem Ox:CallR X (.builtin "isinstance") (fun xs H Q=>∃ a C dx fs,xs=[.ref a,.ref C]/\H a=some (.ins C dx fs)/\Cls X.K C/\IC X.K C/\Q (.bl true) H):=by intro pins s σ H xs us Q I r h;obtain⟨a,C,dx,fs,rfl,ha,cl,ic,q⟩:=h;obtain⟨u,v,rfl,ru,rv⟩:=CK r;cases rv;exact WW I ru (.ins ha cl ic.ha ic.hn ic.htk ic.hm) (by unfold PySem.W.kitOne;rw[if_pos (beq_iff_eq.mpr rfl)]) fun tk=>⟨.bl true,H,I.tok tk,rfl,q⟩
theorem Hf {e:Expr}{m:Own.E}{T:String}{D:Addr}{p p2 pos:Pos}(A:ClsA i) (hk:X.K=i.K) (he:PE X e (tE X i Z m)) (hg:Gl X "isinstance") (hm:X.mg "isinstance" = none) (hg2:Gl X (Str.ofString T)) (hi:i.ins T=true) (hD:i.cl T D) (hm2:X.mg (Str.ofString T)=some (.ref D))
  (hd2:(Str.ofString T==("__debug__" : Str))=false) (hst:starEach [e,.Name (Str.ofString T) p2] X.env=(false,eval e X.env)::starEach [.Name (Str.ofString T) p2] X.env) :
  PE X (.Call (.Name "isinstance" p) [e,.Name (Str.ofString T) p2] [] pos) (tE X i Z (.bi (.isc T) (.cons m .nil))):=by
 refine(Yh Ox hg hm (by kernel_rfl) (ZT he (ZT (Nb (v:=.ref D) hg2 hm2 rfl hd2) pa_nil) hst) (he:=hst)).imp fun σ H Q h=>?_;change tE X i Z m σ H _;obtain⟨env,G,Qm,Em,p,w,c⟩:=h;rw[Own.q_e_bi,Own.q_a_cons]at w;refine one p w fun v G1 H1 x k1 p1 r q=>?_;rw[Own.q_a_nil]at q
 replace q:(Own.Rs.ofO (Own.isoV G1 T v)).wp G1 Qm:=q
 cases z:Own.isoV G1 T v with
 |none=>rw[z]at q;simp[Own.Rs.ofO]at q
 |some u =>rw[z]at q;simp only[Own.Rs.ofO,Own.Rs.wp_val]at q;obtain⟨a,fs,rfl,e,rfl⟩:=N3 z;cases r.ref_inv;obtain⟨c',dx,ps,h1,h2,ha,_⟩:=p1.hp a _ e;cases A.un _ _ _ h2 hD;exact⟨a,_,dx,ps,rfl,ha,by rw[hk];exact A.cls _ _ h1 h2,by rw[hk];exact A.ic _ _ h2,c _ G1 H1 _ k1 p1.hp (.bl _) q⟩
noncomputable def Md.gn (c:Md) (y:String):Bool:=c.gl (Str.ofString y)&&nm (Str.ofString y)
noncomputable def YR:Own.Bi->Bool
 |.len=>true
 |.int=>true
 |.str=>true
 |.all=>true
 |.list=>true
 |.tuple=>true
 |.sortedI=>true
 |_=>false
noncomputable def B2:Own.Bi->Option String
 |.isi [T]=>some T
 |_=>none
noncomputable def Ca:Own.Bi->Option (List String)
 |_=>none
noncomputable def YM:Own.Bi->Bool
 |_=>false
noncomputable def Xs:Own.Bi->Bool
 |.sortedSet=>true
 |_=>false
noncomputable def Ax:Own.Bi->Str
 |.listRev=>"reversed"
 |.sortedSet=>"set"
 |_=>"range"
noncomputable def Nd:Own.Bi->Bool
 |_=>false
noncomputable def Nx:Own.Bi->Bool
 |.isc _=>true
 |_=>false
noncomputable def Ww:Own.Bi->String
 |.isc T=>T
 |_=>""
noncomputable def Ji:Own.Bi->Bool
 |_=>false
noncomputable def Aw:Own.Bi->Option (List String)
 |_=>none
noncomputable def Md.xn (c:Md) (T:String):Bool:=(c.xs.contains T||T == "ShutError")&&c.gn T
noncomputable def Y2:Own.Bi->Bool
 |.len=>true
 |.int=>true
 |.str=>true
 |.list=>true
 |.tuple=>true
 |_=>false
noncomputable def Dv (c:Md) (Ts:List String):Bool:=match Ts with
 |[T]=>c.xn T||(T == "ValueError" && c.gl (Str.ofString T))
 |Ts=>Ts.all c.xn&&decide (Ts.length<=20)
noncomputable def UU:Own.Bm->Option Nat
 |.append=>some 1
 |.clear=>some 0
 |.dget=>some 1
 |.dpopD=>some 2
 |_=>none
noncomputable def MT:Own.Tt->Bool
 |.yes=>true
 |_=>false
noncomputable def MC:Own.E->Bool
 |.var _=>true
 |.call _ _=>true
 |.meth _ _ _ _=>true
 |.bi _ _=>true
 |.bm _ _ _=>true
 |.idx _ _=>true
 |.fld _ _=>true
 |.glob _ _=>true
 |_=>false
noncomputable def Hq:Own.E->Bool
 |.cmp _ _ _=>true
 |.chain _ _ _ _ _=>true
 |_=>false
mutual
noncomputable def okE:Own.E->Md->Expr->Bool
 |.cst v,_,_=>Cw v
 |.var j,c,_=>decide (j<c.N.length)&&c.vis (c.nmOf j)&&nm (c.nmOf j)
 |.glob y v,c,_=>c.gn y&&decide (c.cs.lookup y=some v)
 |.bin _ a b,c,x=>okE a c (kid x 0)&&okE b c (kid x 1)
 |.not a,c,x=>okE a c (kid x 0)
 |.and a b,c,x=>okE a c (kid x 0)&&okE b c (rest (ZD b) x)&&(!ZD b||(rest (ZD b) x).pos==x.pos)
 |.or a b,c,x=>okE a c (kid x 0)&&okE b c (rest (ZW b) x)&&(!ZW b||(rest (ZW b) x).pos==x.pos)
 |.cmp o a b,c,x=>okE a c (kid x 0)&&okE b c (kid x 1)&&(!YO o||Kz b)
 |.chain o1 o2 a b d,c,x=>okE a c (kid x 0)&&okE b c (kid x 1)&&okE d c (kid x 2) && !YO o1 && !YO o2
 |.call f as,c,x=>c.gn f&&c.fs.contains f&&c.cm&&okA as c (sub x).tail
 |.make C as,c,x=>c.gn C&&c.cl.contains C&&c.cm&&decide (Zf as≠0)&&okA as c (sub x).tail
 |.meth C m o as,c,x=>c.ms.contains (C,m)&&c.cm&&okE o c (kid (kid x 0) 0)&&Yx (toX o c (kid (kid x 0) 0))&&((kid x 0).pos.endLine==x.pos.line)&&decide (Zf as<20)&&okA as c (sub x).tail
 |.fld o f,c,x=>c.fl.contains f&&okE o c (kid x 0)&&Yx (toX o c (kid x 0))
 | .bi f as,c,x=>(match B2 f with
   |some T=>decide (Zf as=1)&&kinds.contains T&&c.gl "isinstance" && c.gl (Str.ofString T)
   |none=>match Ca f with
     |some Ts=>decide (Zf as=1)&&c.gl "isinstance" && !c.xs.isEmpty&&Dv c Ts
     |none=>match Aw f with
       |some Ts=>decide (Zf as=1)&&c.gl "isinstance" && Ts.all (fun T=>kinds.contains T&&c.gl (Str.ofString T))&&decide (Ts.length<=20)
       | none=>if YM f then decide (Zf as=1)&&c.gl "len" && c.gl "set" && c.cm else if Xs f then decide (Zf as=1)&&c.gl (Z0 f)&&c.gl (Ax f)&&c.cm else if Ji f then decide (Zf as=1)&&c.gl "min" && c.cm else if Nd f then decide (Zf as=1)&&c.gl "dict" && c.gl "enumerate" && c.cm else if Nx f then decide (Zf as=1)&&c.gl "isinstance" && c.gn (Ww f)&&c.cl.contains (Ww f)else YR f&&c.gl (Z0 f)&&decide (Zf as≠0)&&(c.cm||Y2 f))&&okA as c (MO f x)
 |.bm m o as,c,x=>decide (UU m=some (Zf as))&&okE o c (kid (kid x 0) 0)&&Yx (toX o c (kid (kid x 0) 0))&&((kid x 0).pos.endLine==x.pos.line)&&okA as c (sub x).tail
 |.idx a b,c,x=>okE a c (kid x 0)&&okE b c (kid x 1)
 |.slc a lo hi,c,x=>okE a c (kid x 0)&&okO lo c (kid (kid x 1) 0)&&okO hi c (kid (kid x 1) 1)
 |.tup es,c,x=>okA es c (sub x)&&decide (Zf es<=1000)
 |.lst es,c,x=>okA es c (sub x)&&decide (Zf es<=1000)
 |.dct es,c,x=>okA es c (sub x)&&X5 es&&decide (esL es<=30)
 |.ife t a b,c,x=>okT t c (kid x 0)&&okE a c (kid x 1)&&okE b c (kid x 2)
 |.comp caps m p it t e,c,x=>(Mi m p&&(Z8 (kid x 1)).length==m)&&c.cm&&ZU (scp x) c.sc c.N (Z8 (kid x 1)) caps&&(scp x).kind == .function&&okI it c (kid x 2) (!ZA p)&&okE e (c.blk (scp x) (Z8 (kid x 1)) caps) (kid x 0)&&(MT t||okT t (c.blk (scp x) (Z8 (kid x 1)) caps) (kid x 3))
 |_,_,_=>false
noncomputable def okA:Own.Es->Md->List Expr->Bool
 |.nil,_,_=>true
 |.cons e es,c,xs=>okE e c (xs.headD dE)&&okA es c xs.tail
noncomputable def okJ:Own.Es->Md->List Expr->Bool
 |.nil,_,_=>true
 |.cons e es,c,xs=>(NL e||okE e c (kid (xs.headD dE) 0))&&okJ es c xs.tail
noncomputable def okO:Own.Oe->Md->Expr->Bool
 |.none,_,_=>true
 |.some e,c,x=>okE e c x
noncomputable def okT:Own.Tt->Md->Expr->Bool
 |.yes,_,_=>false
 |.val e,c,x=>okE e c x&&(MC e||Hq e)
 |.not t,c,x=>okT t c (kid x 0)
 |.and a b,c,x=>okT a c (kid x 0)&&okT b c (rest (Zq b) x)&&(!Zq b||(rest (Zq b) x).pos==x.pos)
 |.or a b,c,x=>okT a c (kid x 0)&&okT b c (rest (Zx b) x)&&(!Zx b||(rest (Zx b) x).pos==x.pos)
noncomputable def okI:Own.It->Md->Expr->Bool->Bool
 |.seq e,c,x,_=>okE e c x
 |.range a,c,x,_=>c.gl "range" && okE a c (kid x 1)
 |.enum e,c,x,t=>t&&c.gl "enumerate" && okE e c (kid x 1)
 |_,_,_,_=>false
end
variable {X:Cx}{i:Inf}{P:Own.Pg}{n:Nat}{c:Md}
theorem Cb(g:Gd X i P n c){f:Own.Bi}(hp:YR f=true)(hcm:(c.cm||Y2 f)=true){e:Expr}{es:List Expr}{as:Own.Es}{q p:Pos}{l:Nat}(hg:Gl X (Z0 f))(ha:PA X (e::es) (tAr X i (Own.wF P n) as l))
  (he:starEach (e::es) X.env=(false,eval e X.env)::starEach es X.env) (hpl:(backTo p (starEach es X.env)).any (·.1)=false):PE X (.Call (.Name (Z0 f) q) (e::es) [] p) (tE X i (Own.wF P n) (.bi f as)):=by
 have hc:Y2 f=false->X.calm=true:=fun z=>g.calm (by rw[z,Bool.or_false]at hcm;exact hcm);cases f with
 |len=>exact(Yh ((call_len_seq.or JM).or Oj) hg (g.bl _ (by simp[blts,Z0])) (by kernel_rfl) ha (he:=he) (hpl:=hpl)).imp (Wn (by rw[g.K];exact FA))
 |int=>exact(Yo (call_int1.or WA) hg (g.bl _ (by simp[blts,Z0])) (by kernel_rfl) ha (he:=he) (hpl:=hpl)).imp (Wn ET)
 |str=>exact(Yo (call_str_int.or Jp) hg (g.bl _ (by simp[blts,Z0])) (by kernel_rfl) ha (he:=he) (hpl:=hpl)).imp (Wn Eu)
 |all=>exact(Yh (AI (hc rfl)) hg (g.bl _ (by simp[blts,Z0])) (by kernel_rfl) ha (he:=he) (hpl:=hpl)).imp (Wn (by rw[g.K];exact EN))
 |list=>exact(Yo Je hg (g.bl _ (by simp[blts,Z0])) (by kernel_rfl) ha (he:=he) (hpl:=hpl)).imp (Wn (by rw[g.K];exact B6))
 |sortedI=>exact(Yh (call_sorted.or (Jv (hc rfl))) hg (g.bl _ (by simp[blts,Z0])) (by kernel_rfl) ha (he:=he) (hpl:=hpl)).imp (Wn (by rw[g.K];exact Mn))
 |tuple=>exact(Yo WB hg (g.bl _ (by simp[blts,Z0])) (by kernel_rfl) ha (he:=he) (hpl:=hpl)).imp (Wn (by rw[g.K];exact O1))
 |_=>cases hp
theorem Eb{f:Own.Bi}{T:String}(h:B2 f=some T):f=.isi [T]:=by
 cases f with
 |isi Ts =>
  cases Ts with
  |nil=>cases h
  |cons a r=>cases r with
   |nil=>cases h;rfl
   |cons _ _=>cases h
 |_=>cases h
theorem O8 (g:Gd X i P n c){T:String}{e:Expr}{m:Own.E}{p p2 pos:Pos}(hT:T∈kinds) (h2:c.gl "isinstance" = true) (h5:c.gl (Str.ofString T)=true) (he:PE X e (tE X i (Own.wF P n) m)) (hst:starEach [e,.Name (Str.ofString T) p2] X.env=(false,eval e X.env)::starEach [.Name (Str.ofString T) p2] X.env) :
  PE X (.Call (.Name "isinstance" p) [e,.Name (Str.ofString T) p2] [] pos) (tE X i (Own.wF P n) (.bi (.isi [T]) (.cons m .nil))):=by
 have hT':=hT;simp only[kinds,qE,List.not_mem_nil,or_false]at hT';refine Hr hT he g.K (g.gl h2) (g.bl _ (by simp[blts])) (g.gl h5) ?_ ?_ ?_ ?_ hst
 .rcases hT' with rfl|rfl|rfl|rfl|rfl|rfl<;>exact g.bl _ (by simp[blts])
 .rcases hT' with rfl|rfl|rfl|rfl|rfl|rfl<;>kernel_rfl
 .rcases hT' with rfl|rfl|rfl|rfl|rfl|rfl<;>decide
 .rcases hT' with rfl|rfl|rfl|rfl|rfl|rfl<;>decide
theorem Uh(g:Gd X i P n c){m:Own.Bm}(h:UU m=some 0){o:Expr}{mo:Own.E}{apos cpos:Pos}(ho:PE X o (tE X i (Own.wF P n) mo))(hb:∀ f,attributeBase o f X.env (eval o X.env)=eval o X.env)(hl:(apos.endLine==cpos.line)=true) :
  PE X (.Call (.Attribute o (E2 m) apos) [] [] cpos) (tE X i (Own.wF P n) (.bm m mo .nil)):=by
 cases m with
 |clear=>exact Hj g.K PySem.F.plainAttrs_list PySem.F.slot_list_clear PySem.F.type_list_clear UI (G9 rfl) D3 ho (hb _) hl
 |_=>cases h
theorem B8(g:Gd X i P n c){m:Own.Bm}{k:Nat}(h:UU m=some (k+1)){o e:Expr}{es:List Expr}{mo:Own.E}{ms:Own.Es}{l:Nat}{apos cpos:Pos}(ho:PE X o (tE X i (Own.wF P n) mo))(ha:PA X (e::es) (tAr X i (Own.wF P n) ms l))(hb:∀ f,attributeBase o f X.env (eval o X.env)=eval o X.env)(hl:(apos.endLine==cpos.line)=true)
  (hfew:((backTo cpos (starEach (e::es) X.env)).all (fun x=>!x.1)&&(backToKw cpos (keywordEach [] X.env)).all (fun x=>x.1.isSome)&&decide ((e::es).length+([]:List Keyword).length+(if([]:List Keyword).isEmpty then 0 else 1)<30))=true)
  (hs:starEach (e::es) X.env=(false,eval e X.env)::starEach es X.env) (hpl:(backTo cpos (starEach es X.env)).any (·.1)=false) :
  PE X (.Call (.Attribute o (E2 m) apos) (e::es) [] cpos) (tE X i (Own.wF P n) (.bm m mo ms)):=by
 have u1:X.A.units+1<cLine:=by have:=g.un;omega
 cases m with
 |append=>exact DB g.K PySem.F.plainAttrs_list PySem.F.slot_list_append PySem.F.type_list_append NW (G9 rfl) DL ho ha (hb _) hfew hl hs hpl
 |dget=>exact DB g.K PySem.F.plainAttrs_dict PySem.F.slot_dict_get PySem.F.type_dict_get (UC u1) (FL rfl) D4 ho ha (hb _) hfew hl hs hpl
 |dpopD=>exact DB g.K PySem.F.plainAttrs_dict PySem.F.slot_dict_pop PySem.F.type_dict_pop (mt_dpop.or OT) (FL rfl) BM ho ha (hb _) hfew hl hs hpl
 |_=>cases h
theorem Gd.blk(g:Gd X i P n c){sc:Scope}{x:List Str}{caps:List Nat}(hb:ZU sc c.sc c.N x caps=true)(hk:sc.kind=.function)(cl:List (Str×Addr))(C:Addr)(s:Shared)(H:Hp)(ex:List Addr) :
  Gd (Zu X sc (ZL X x caps) cl C s H ex) i P n (c.blk sc x caps) where
 K:=g.K
 N:=by show ZL X x caps=_;unfold ZL;rw[g.N];rfl
 sc:=by show relabel sc X.env=_;unfold relabel Env.kindOf;rw[g.sc];rfl
 nd:=by have B:=Mh g.sc g.N hk hb;have:=B.nd;unfold ZL at this;rw[g.N]at this;exact this
 un:=g.un
 calm:=g.calm
 room:=g.room
 bl:=g.bl
 dfs:=g.dfs
 cst:=g.cst
 kl:=⟨g.kl.A,g.kl.F,g.kl.mkc,g.kl.mth⟩
 xl:=fun h=>⟨(g.xl h).xc,(g.xl h).rs,(g.xl h).kn⟩
theorem Gd.pt(g:Gd X i P n c)(hcm:c.cm=true){sc:Scope}{xs:List Str}{caps:List Nat}(hb:ZU sc c.sc c.N xs caps=true)(hk:sc.kind=.function){p:Own.Pt}(hp:Mi xs.length p=true)(x:Expr)(cl:List (Str×Addr))(C:Addr)(s:Shared)(H:Hp)(ex:List Addr) :
  PG (Zu X sc (ZL X xs caps) cl C s H ex) (toP p (c.blk sc xs caps) x) (gPt i p):=by
 have B:=Mh g.sc g.N hk hb;have G:=g.blk hb hk cl C s H ex;have key:∀ j,j<xs.length->UF (Zu X sc (ZL X xs caps) cl C s H ex) (c.blk sc xs caps) j:=fun j hj=>by
  have e:(c.blk sc xs caps).nmOf j=xs[j]:=by unfold Md.nmOf Md.blk;show(xs++_).getD j _=_;rw[qN,List.getElem?_append_left hj,qH hj];rfl
  have lo:=lookup_relabel_local (env:=X.env) (B.own xs[j] (List.getElem_mem hj));unfold UF;rw[e];refine⟨?_,.inl lo,.inr lo⟩;show(xs++_)[j]?=_;rw[List.getElem?_append_left hj,qH hj]
 refine Dc G.K (by rw[G.N];exact G.nd) (g.calm hcm) ?_;cases p with
 |one j=>exact key j (of_decide_eq_true hp)
 |many js=>exact fun j hj=>key j (of_decide_eq_true (List.all_eq_true.mp hp j hj))
 |nest j js=>cases hp
theorem M1{b:Own.E}(h:ZD b=true):∃ a d,b=.and a d:=by
 cases b with
 |and a d=>exact⟨a,d,rfl⟩
 |_=>cases h
theorem AF{b:Own.E}(h:ZW b=true):∃ a d,b=.or a d:=by
 cases b with
 |or a d=>exact⟨a,d,rfl⟩
 |_=>cases h
theorem Ul{b:Own.Tt}(h:Zq b=true):∃ a d,b=.and a d:=by
 cases b with
 |and a d=>exact⟨a,d,rfl⟩
 |_=>cases h
theorem AU{b:Own.Tt}(h:Zx b=true):∃ a d,b=.or a d:=by
 cases b with
 |or a d=>exact⟨a,d,rfl⟩
 |_=>cases h
theorem Js{b:Bool}{p q:Pos}(h:(!b||p==q)=true)(hb:b=true):p=q:=by rw[hb]at h;exact eq_of_beq h
theorem AO{Z:Own.Fs}{b:Own.E}{x:Expr}(hp:(!ZD b||(rest (ZD b) x).pos==x.pos)=true)(h:PE X (toX b c (rest (ZD b) x)) (tE X i Z b)):PE X (.BoolOp .And (YE (ZD b) (toX b c (rest (ZD b) x))) x.pos) (tE X i Z b):=by
 cases z:ZD b with
 |false=>rw[z]at h;exact Ak h
 |true =>have e:=Js hp z;rw[z]at e h;obtain⟨a,d,rfl⟩:=M1 z;show PE X (.BoolOp .And (sub (.BoolOp .And _ (rest true x).pos)) x.pos) _;rw[<-e];exact h
theorem AW{Z:Own.Fs}{b:Own.E}{x:Expr}(hp:(!ZW b||(rest (ZW b) x).pos==x.pos)=true)(h:PE X (toX b c (rest (ZW b) x)) (tE X i Z b)):PE X (.BoolOp .Or (YE (ZW b) (toX b c (rest (ZW b) x))) x.pos) (tE X i Z b):=by
 cases z:ZW b with
 |false=>rw[z]at h;exact Ak h
 |true =>have e:=Js hp z;rw[z]at e h;obtain⟨a,d,rfl⟩:=AF z;show PE X (.BoolOp .Or (sub (.BoolOp .Or _ (rest true x).pos)) x.pos) _;rw[<-e];exact h
theorem W3(b:Bool){e:Own.E}{x:Expr}(h:b=ZD e\/b=ZW e):∃ y ys,YE b (toX e c x)=y::ys:=by
 cases b with
 |false=>exact⟨_,_,rfl⟩
 |true =>
  rcases h with h|h
  .obtain⟨a,d,rfl⟩:=M1 h.symm;exact⟨_,_,rfl⟩
  .obtain⟨a,d,rfl⟩:=AF h.symm;exact⟨_,_,rfl⟩
variable {i:Inf}{P:Own.Pg}{n:Nat}
theorem On{X:Cx}{c:Md}{Z:Own.Fs}{b:Own.Tt}{x:Expr}(hp:(!Zq b||(rest (Zq b) x).pos==x.pos)=true)(h:PT X (toT b c (rest (Zq b) x)) (tTt X i Z b))(h2:(Zq b||Zx b)=true->PW X (toT b c (rest (Zq b) x)) (tTt X i Z b)) :
  ∃ y ys,YE (Zq b) (toT b c (rest (Zq b) x))=y::ys/\PW X (.BoolOp .And (y::ys) x.pos) (tTt X i Z b):=by
 cases z:Zq b with
 |false=>rw[z]at h;exact⟨_,_,rfl,Cs h⟩
 |true =>have e:=Js hp z;rw[z]at e h2;obtain⟨a,d,rfl⟩:=Ul z;refine⟨_,_,rfl,?_⟩;rw[<-e];exact h2 rfl
theorem AE{X:Cx}{c:Md}{Z:Own.Fs}{b:Own.Tt}{x:Expr}(hp:(!Zx b||(rest (Zx b) x).pos==x.pos)=true)(h:PT X (toT b c (rest (Zx b) x)) (tTt X i Z b))(h2:(Zq b||Zx b)=true->PW X (toT b c (rest (Zx b) x)) (tTt X i Z b)) :
  ∃ y ys,YE (Zx b) (toT b c (rest (Zx b) x))=y::ys/\PW X (.BoolOp .Or (y::ys) x.pos) (tTt X i Z b):=by
 cases z:Zx b with
 |false=>rw[z]at h;exact⟨_,_,rfl,Fz h⟩
 |true =>have e:=Js hp z;rw[z]at e h2;obtain⟨a,d,rfl⟩:=AU z;refine⟨_,_,rfl,?_⟩;rw[<-e];exact h2 rfl
theorem H9{e:Own.E}(h:NL e=true):∃ s,e=.cst (.str s):=by
 cases e with
 |cst v=>cases v with
  |str s=>exact⟨s,rfl⟩
  |_=>cases h
 |_=>cases h
theorem WU{X:Cx}{c:Md}(g:Gd X i P n c){caps:List Nat}{p:Own.Pt}{it:Own.It}{mt:Own.Tt}{me:Own.E}{elt iter tgt:Expr}{x:List Str}{pos:Pos}{ifs:List Expr}{sc:Scope}(hcm:c.cm=true)(h1:ZU sc c.sc c.N x caps=true)(hk:sc.kind=.function)(hp:Mi x.length p=true)
  (hi:PI X tgt iter (tIt X i (Own.wF P n) it)) (hs:∀ y,foldedSetIterable iter X.env y=pure y) (hG:∀ cl C s H ex,PG (Zu X sc (ZL X x caps) cl C s H ex) tgt (gPt i p))
  (hE:∀ cl C s H ex,PE (Zu X sc (ZL X x caps) cl C s H ex) elt (tE0 i (Own.wF P n) me)) (hI:∀ cl C s H ex,PIfs (Zu X sc (ZL X x caps) cl C s H ex) ifs (tT0 i (Own.wF P n) mt)) :
  PE X (.ListComp elt [⟨tgt,iter,ifs,0⟩] sc pos) (tE X i (Own.wF P n) (.comp caps x.length p it mt me))/\
   ∀ (y:Str) (py spos:Pos) (j:Nat),X.N[j]?=some y->L2.Loc X.env.scope y->(X.fn y=true\/X.env.scope.names.lookup y=some .local)->swapsWith (.ListComp elt [⟨tgt,iter,ifs,0⟩] sc pos) (some (.Name y py)) spos.line X.env=pure true->PS X (.Assign [.Name y py] (.ListComp elt [⟨tgt,iter,ifs,0⟩] sc pos) spos) (tSt X i (Own.wF P n) (.set (.one j) (.comp caps x.length p it mt me))):=by
 have B:=Mh g.sc g.N hk h1;have hc:=g.calm hcm;refine⟨(UB hc B hi hG hI hE hs).imp (MY hp),fun y py spos j hj hl hf hsw=>?_⟩;refine(Ai (by rw[g.N];exact g.nd) hj hl hc B hi hG hI hE hs hsw hf).imp fun D σ H ⟨env,G,N,R,Bk,Ct,Xe,p,w,e⟩=>?_;rw[Own.q_s_set]at w;refine MY hp σ H _ ⟨env,G,_,Xe env,p.pre,w,fun v G1 H1 x k1 g1 r1 w1=>?_⟩;obtain⟨env2,e2,w2⟩:=go_some w1;clear w1;cases e2;exact e.nx _ _ G1 H1 k1 g1 ((p.en.keep k1).set r1 j) w2
theorem AA{X:Cx}{c:Md}{j:Nat}(hN:X.N=c.N)(h:j<c.N.length):X.N[j]?=some (c.nmOf j):=by rw[hN];unfold Md.nmOf;rw[qN,qH h];rfl
theorem B7{o:Expr}{m:Str}{apos pos:Pos}{args:List Expr}{env:Env}(hb:attributeBase o m env (eval o env)=eval o env)(hfew:methodCallForm (args.length+0) (backTo pos (starEach args env)) (backToKw pos (keywordEach [] env))=true)(hl:(apos.endLine==pos.line)=true) :
  eval (.Call (.Attribute o m apos) args [] pos) env=(do
    let ov<-eval o env
    standAt apos.atName
    let (f,first)<-holding [ov] (getMethod ov m (do return (<-importBound o env).getD true))
    callWith pos f first (backTo pos (starEach args env)) (backToKw pos (keywordEach [] env))):=by
 show(do
   let ov<-attributeBase o m env (eval o env)
   standAt apos.atName
   methodCall o m apos pos env ov (args.length+0) (backTo pos (starEach args env)) (backToKw pos (keywordEach [] env)))=_
 rw[hb];unfold methodCall methodCallPos;rw[hfew,hl];rfl
theorem DU(env:Env)(pos:Pos){as:Own.Es}{c:Md}{xs:List Expr}(h:Zf as<20):methodCallForm ((toA as c xs).length+0) (backTo pos (starEach (toA as c xs) env)) (backToKw pos (keywordEach [] env))=true:=by unfold methodCallForm;rw[bAq,bAq,decide_eq_true_eq,YL];refine⟨⟨X1 env pos as c xs,rfl⟩,?_⟩;show Zf as+0+0<30;omega
theorem GG{X:Cx}{c:Md}{m:Own.Tt}{x:Expr}(h:MT m=false->PT X (toT m c x) (tTt X i (Own.wF P n) m)):PIfs X (toF m c x) (tT0 i (Own.wF P n) m):=by
 cases m with
 |yes=>exact D5
 |val e=>exact YU (pt0 (h rfl))
 |not t=>exact YU (pt0 (h rfl))
 |and a b=>exact YU (pt0 (h rfl))
 |or a b=>exact YU (pt0 (h rfl))
theorem Km(c:Md):∀ (es:Own.Es) (xs:List Expr),X5 es=true->(YK (toA es c xs)).all (·.isSome)=true/\(YK (toA es c xs)).length=(O2 (toA es c xs)).length/\2*(YK (toA es c xs)).length=esL es
 |.nil,_,_=>⟨rfl,rfl,rfl⟩
 |.cons _ .nil,_,h=>by cases h
 |.cons k (.cons v r),xs,h=>by
  obtain⟨h1,h2,h3⟩:=Km c r xs.tail.tail h;refine⟨?_,?_,?_⟩
  .show(true&&(YK (toA r c xs.tail.tail)).all (·.isSome))=true;rw[h1];rfl
  .show(YK (toA r c xs.tail.tail)).length+1=(O2 (toA r c xs.tail.tail)).length+1;rw[h2]
  .show 2*((YK (toA r c xs.tail.tail)).length+1)=esL r+1+1;omega
mutual
theorem eE:∀ (m:Own.E) (X:Cx) (c:Md) (x:Expr),Gd X i P n c->okE m c x=true->PE X (toX m c x) (tE X i (Own.wF P n) m)
 |.cst v,X,c,x,g,h=>Eh h
 |.var j,X,c,x,g,h=>by have h:(decide (j<c.N.length)&&c.vis (c.nmOf j)&&nm (c.nmOf j))=true:=h;rw[bAq,bAq,decide_eq_true_eq]at h;obtain⟨q1,q2,_⟩:=Ka h.2;exact Gr (AA g.N h.1.1) (g.vis h.1.2) q1 q2
 |.glob y v,X,c,x,g,h=>by have h:((c.gl (Str.ofString y)&&nm (Str.ofString y))&&decide (c.cs.lookup y=some v))=true:=h;rw[bAq,bAq,decide_eq_true_eq]at h;obtain⟨q1,q2,_⟩:=Ka h.1.2;obtain⟨u,z,e1,e2,e3⟩:=g.cst _ _ h.2;exact Dn (Nb (g.gl h.1.1) e1 e2 q1) e3
 |.bin o a b,X,c,x,g,h=>by have h:(okE a c (kid x 0)&&okE b c (kid x 1))=true:=h;rw[bAq]at h;exact GY g (eE a X c _ g h.1) (eE b X c _ g h.2)
 |.neg a,X,c,x,g,h=>nomatch h
 |.not a,X,c,x,g,h=>FQ (eE a X c _ g h)
 |.and a b,X,c,x,g,h=>by have h:(okE a c (kid x 0)&&okE b c (rest (ZD b) x)&&(!ZD b||(rest (ZD b) x).pos==x.pos))=true:=h;rw[bAq,bAq]at h;have h2:=AO h.2 (eE b X c _ g h.1.2);obtain⟨y,ys,e⟩:=W3 (c:=c) (ZD b) (e:=b) (x:=rest (ZD b) x) (.inl rfl);show PE X (.BoolOp .And (toX a c (kid x 0)::YE (ZD b) (toX b c (rest (ZD b) x))) x.pos) _;rw[e]at h2 ⊢;exact FY (eE a X c _ g h.1.1) h2
 |.or a b,X,c,x,g,h=>by have h:(okE a c (kid x 0)&&okE b c (rest (ZW b) x)&&(!ZW b||(rest (ZW b) x).pos==x.pos))=true:=h;rw[bAq,bAq]at h;have h2:=AW h.2 (eE b X c _ g h.1.2);obtain⟨y,ys,e⟩:=W3 (c:=c) (ZW b) (e:=b) (x:=rest (ZW b) x) (.inr rfl);show PE X (.BoolOp .Or (toX a c (kid x 0)::YE (ZW b) (toX b c (rest (ZW b) x))) x.pos) _;rw[e]at h2 ⊢;exact La (eE a X c _ g h.1.1) h2
 |.cmp o a b,X,c,x,g,h=>by have h:(okE a c (kid x 0)&&okE b c (kid x 1)&&(!YO o||Kz b))=true:=h;rw[bAq,bAq]at h;exact(Ki g h.2 (eE a X c _ g h.1.1) (eE b X c _ g h.1.2)).1
 |.chain o1 o2 a b d,X,c,x,g,h=>by have h:(okE a c (kid x 0)&&okE b c (kid x 1)&&okE d c (kid x 2) && !YO o1 && !YO o2)=true:=h;rw[bAq,bAq,bAq,bAq,Bool.not_eq_true',Bool.not_eq_true']at h;obtain⟨⟨⟨⟨h1,h2⟩,h3⟩,h4⟩,h5⟩:=h;exact(X3 g h4 h5 (eE a X c _ g h1) (eE b X c _ g h2) (eE d X c _ g h3)).1
 |.call f as,X,c,x,g,h=>by
  have h:((c.gl (Str.ofString f)&&nm (Str.ofString f))&&c.fs.contains f&&c.cm&&okA as c (sub x).tail)=true:=h;rw[bAq,bAq,bAq,bAq]at h;obtain⟨⟨⟨⟨h1,h2⟩,h3⟩,h4⟩,h5⟩:=h;obtain⟨q1,_,_⟩:=Ka h2;have ha:=eA as X c _ g h5;cases as with
  |nil=>exact A9 g.K (g.dfs _ h3) (g.rm h4) (g.gl h1) q1
  |cons a as=>exact FB g.K (g.dfs _ h3) (g.rm h4) (g.gl h1) q1 ha (Zz ..) (ZX ..)
 |.make C as,X,c,x,g,h=>by
  have h:((c.gl (Str.ofString C)&&nm (Str.ofString C))&&c.cl.contains C&&c.cm&&decide (Zf as≠0)&&okA as c (sub x).tail)=true:=h;rw[bAq,bAq,bAq,bAq,bAq,decide_eq_true_eq]at h;obtain⟨⟨⟨⟨⟨h1,h2⟩,h3⟩,h4⟩,h6⟩,h5⟩:=h;obtain⟨q1,_,_⟩:=Ka h2;have ha:=eA as X c _ g h5;obtain⟨a,f,i1,i2,M,hm,D⟩:=g.kl.mkc C h3;cases as with
  |nil=>exact absurd rfl h6
  |cons b as=>exact DQ g.K i1 i2 M D (g.room h4) (g.gl h1) hm q1 ha (Zz ..) (ZX ..)
 |.meth C m o as,X,c,x,g,h=>by
  have h:(c.ms.contains (C,m)&&c.cm&&okE o c (kid (kid x 0) 0)&&Yx (toX o c (kid (kid x 0) 0))&&((kid x 0).pos.endLine==x.pos.line)&&decide (Zf as<20)&&okA as c (sub x).tail)=true:=h;rw[bAq,bAq,bAq,bAq,bAq,bAq,decide_eq_true_eq]at h;obtain⟨⟨⟨⟨⟨⟨h1,h2⟩,h3⟩,h4⟩,h6⟩,h7⟩,h5⟩:=h;have ev:=B7 (m:=Str.ofString m) (Yn h4 _ X.env) (DU X.env x.pos (c:=c) (xs:=(sub x).tail) h7) h6;have ha:=eA as X c _ g h5;have ho:=eE o X c _ g h3;obtain⟨a,f,i1,A,M,D⟩:=g.kl.mth C m h1;cases as with
  |nil=>exact BJ g.K i1 A M D (g.rm h2) ho ev
  |cons b as=>exact El g.K i1 A M D (g.rm h2) ho ha (Zz ..) (ZX ..) ev
 |.fld o f,X,c,x,g,h=>by have h:(c.fl.contains f&&okE o c (kid x 0)&&Yx (toX o c (kid x 0)))=true:=h;rw[bAq,bAq]at h;exact Hv g.K g.kl.A (g.kl.F _ h.1.1) (eE o X c _ g h.1.2) (Yn h.2 _ _)
 |.bi f as,X,c,x,g,h=>by
  have h:((match B2 f with
    |some T=>decide (Zf as=1)&&kinds.contains T&&c.gl "isinstance" && c.gl (Str.ofString T)
    |none=>match Ca f with
      |some Ts=>decide (Zf as=1)&&c.gl "isinstance" && !c.xs.isEmpty&&Dv c Ts
      |none=>match Aw f with
        |some Ts=>decide (Zf as=1)&&c.gl "isinstance" && Ts.all (fun T=>kinds.contains T&&c.gl (Str.ofString T))&&decide (Ts.length<=20)
        | none=>if YM f then decide (Zf as=1)&&c.gl "len" && c.gl "set" && c.cm else if Xs f then decide (Zf as=1)&&c.gl (Z0 f)&&c.gl (Ax f)&&c.cm else if Ji f then decide (Zf as=1)&&c.gl "min" && c.cm else if Nd f then decide (Zf as=1)&&c.gl "dict" && c.gl "enumerate" && c.cm else if Nx f then decide (Zf as=1)&&c.gl "isinstance" && c.gn (Ww f)&&c.cl.contains (Ww f)else YR f&&c.gl (Z0 f)&&decide (Zf as≠0)&&(c.cm||Y2 f))&&okA as c (MO f x))=true:=h
  rw[bAq]at h;cases z:B2 f with
  |some T =>
   have h1:=h.1;rw[z]at h1;rw[bAq,bAq,bAq,decide_eq_true_eq]at h1;obtain⟨⟨⟨h1,h2⟩,h3⟩,h4⟩:=h1;cases Eb z;cases as with
   |nil=>cases h1
   |cons a as=>cases as with
    |nil =>have h5:(okE a c _&&true)=true:=h.2;rw[bAq]at h5;exact O8 g (List.contains_iff_mem.mp h2) h3 h4 (eE a X c _ g h5.1) (Zz ..)
    |cons b as=>exact absurd h1 (by simp[Zf])
  |none =>
   have h1:=h.1;rw[z]at h1
   replace h1:(match Ca f with
     |some Ts=>decide (Zf as=1)&&c.gl "isinstance" && !c.xs.isEmpty&&Dv c Ts
     |none=>match Aw f with
       |some Ts=>decide (Zf as=1)&&c.gl "isinstance" && Ts.all (fun T=>kinds.contains T&&c.gl (Str.ofString T))&&decide (Ts.length<=20)
       | none=>if YM f then decide (Zf as=1)&&c.gl "len" && c.gl "set" && c.cm else if Xs f then decide (Zf as=1)&&c.gl (Z0 f)&&c.gl (Ax f)&&c.cm else if Ji f then decide (Zf as=1)&&c.gl "min" && c.cm else if Nd f then decide (Zf as=1)&&c.gl "dict" && c.gl "enumerate" && c.cm else if Nx f then decide (Zf as=1)&&c.gl "isinstance" && c.gn (Ww f)&&c.cl.contains (Ww f)else YR f&&c.gl (Z0 f)&&decide (Zf as≠0)&&(c.cm||Y2 f))=true:=h1
   cases zx:Ca f with
   |some Ts=>cases zx
   |none =>
    rw[zx]at h1
    replace h1:(match Aw f with
      |some Ts=>decide (Zf as=1)&&c.gl "isinstance" && Ts.all (fun T=>kinds.contains T&&c.gl (Str.ofString T))&&decide (Ts.length<=20)
      | none=>if YM f then decide (Zf as=1)&&c.gl "len" && c.gl "set" && c.cm else if Xs f then decide (Zf as=1)&&c.gl (Z0 f)&&c.gl (Ax f)&&c.cm else if Ji f then decide (Zf as=1)&&c.gl "min" && c.cm else if Nd f then decide (Zf as=1)&&c.gl "dict" && c.gl "enumerate" && c.cm else if Nx f then decide (Zf as=1)&&c.gl "isinstance" && c.gn (Ww f)&&c.cl.contains (Ww f)else YR f&&c.gl (Z0 f)&&decide (Zf as≠0)&&(c.cm||Y2 f))=true:=h1
    cases zl:Aw f with
    |some Ts=>cases zl
    |none =>
     rw[zl]at h1;dsimp only at h1;split at h1
     .rename_i hls;exact absurd (show false=true from hls) (by decide)
     split at h1
     .rename_i _ hls;have hf:f=.sortedSet:=by cases f<;>first|rfl|cases hls
      rw[bAq,bAq,bAq,decide_eq_true_eq]at h1;obtain⟨⟨⟨h1,h2⟩,h3⟩,h4⟩:=h1;cases as with
      |nil=>cases h1
      |cons a as=>cases as with
       |nil =>
        rcases hf with rfl
        .have h6:(okE a c _&&true)=true:=h.2;rw[bAq]at h6;exact J4 (g.calm h4) g.K (eE a X c _ g h6.1) (g.gl h2) (g.bl _ (by simp[blts])) (g.gl h3) (g.bl _ (by simp[blts,Ax])) (by rw[Zz];rfl)
       |cons b as=>exact absurd h1 (by simp[Zf])
     split at h1
     .rename_i _ _ hls;exact absurd (show false=true from hls) (by decide)
     split at h1
     .rename_i _ _ _ hls;exact absurd (show false=true from hls) (by decide)
     split at h1
     .rename_i _ _ _ _ hls;have hf:f=.isc (Ww f):=by cases f<;>first|rfl|cases hls
      rw[bAq,bAq,bAq,decide_eq_true_eq]at h1;obtain⟨⟨⟨h1,h2⟩,h3⟩,h4⟩:=h1;generalize Ww f=T at hf h3 h4;subst hf;unfold Md.gn at h3;rw[bAq]at h3;cases as with
      |nil=>cases h1
      |cons a as=>cases as with
       |nil =>have h6:(okE a c _&&true)=true:=h.2;rw[bAq]at h6;obtain⟨D,_,i1,i2,_,hm,_⟩:=g.kl.mkc T h4;exact Hf g.kl.A g.K (eE a X c _ g h6.1) (g.gl h2) (g.bl _ (by simp[blts])) (g.gl h3.1) i1 i2 hm (Ka h3.2).1 (Zz ..)
       |cons b as=>exact absurd h1 (by simp[Zf])
     rw[bAq,bAq,bAq,decide_eq_true_eq]at h1;obtain⟨⟨⟨h1,h2⟩,h3⟩,h4⟩:=h1;have ha:=eA as X c _ g h.2;cases as with
     |nil=>exact absurd rfl h3
     |cons a as =>
      have e1:toX (.bi f (.cons a as)) c x=.Call (.Name (Z0 f) (kid x 0).pos) (toA (.cons a as) c (MO f x)) [] x.pos:=by cases f<;>first|(cases h1;done)|rfl
      rw[e1];exact Cb g h1 h4 (g.gl h2) ha (Zz ..) (ZX ..)
 |.bm m o as,X,c,x,g,h=>by
  have h:(decide (UU m=some (Zf as))&&okE o c (kid (kid x 0) 0)&&Yx (toX o c (kid (kid x 0) 0))&&((kid x 0).pos.endLine==x.pos.line)&&okA as c (sub x).tail)=true:=h;rw[bAq,bAq,bAq,bAq,decide_eq_true_eq]at h;obtain⟨⟨⟨⟨h1,h2⟩,h3⟩,h4⟩,h5⟩:=h;have ha:=eA as X c _ g h5;have ho:=eE o X c _ g h2;cases as with
  |nil=>exact Uh g h1 ho (fun f=>Yn h3 f _) h4
  |cons a as =>
   refine B8 g h1 ho ha (fun f=>Yn h3 f _) h4 ?_ (Zz ..) (ZX ..);rw[bAq,bAq,decide_eq_true_eq];refine⟨⟨X1 X.env x.pos (.cons a as) c (sub x).tail,rfl⟩,?_⟩;have e2:(toA (.cons a as) c (sub x).tail).length=Zf (.cons a as):=YL ..;have e3:Zf (.cons a as)<=2:=by
    have:∀ m:Own.Bm,∀ k,UU m=some k->k<=2:=by intro m k;cases m<;>intro z<;>first|(cases z;done)|(cases z;decide)
    exact this m _ h1
   show(toA (.cons a as) c (sub x).tail).length+0+0<30;omega
 |.idx a b,X,c,x,g,h=>by have h:(okE a c (kid x 0)&&okE b c (kid x 1))=true:=h;rw[bAq]at h;exact Gk (ix_seq.or (BQ (by have:=g.un;omega))) (by rw[g.K];exact Gq) (eE a X c _ g h.1) (eE b X c _ g h.2) (OE _ _ _)
 |.slc a lo hi,X,c,x,g,h=>by have h:(okE a c (kid x 0)&&okO lo c (kid (kid x 1) 0)&&okO hi c (kid (kid x 1) 1))=true:=h;rw[bAq,bAq]at h;exact Hi Lf (by rw[g.K];exact Hw) (eE a X c _ g h.1.1) (eO lo X c _ g h.1.2) (eO hi X c _ g h.2)
 |.tup es,X,c,x,g,h=>by have h:(okA es c (sub x)&&decide (Zf es<=1000))=true:=h;rw[bAq,decide_eq_true_eq]at h;exact Hb (by rw[YL];exact h.2) (eA es X c _ g h.1)
 |.key es,X,c,x,g,h=>nomatch h
 |.dctP,X,c,x,g,h=>nomatch h
 |.lst es,X,c,x,g,h=>by have h:(okA es c (sub x)&&decide (Zf es<=1000))=true:=h;rw[bAq,decide_eq_true_eq]at h;exact GT (by rw[YL];exact h.2) (eA es X c _ g h.1)
 |.dct es,X,c,x,g,h=>by
  have h:(okA es c (sub x)&&X5 es&&decide (esL es<=30))=true:=h;rw[bAq,bAq,decide_eq_true_eq]at h;obtain⟨⟨h1,h2⟩,h3⟩:=h;have hp:=eD es X c (sub x) x.pos g h1 h2;cases es with
  |nil=>exact Ec
  |cons k r=>cases r with
   |nil=>cases h2
   |cons v r =>obtain⟨q1,q2,q3⟩:=Km c (.cons k (.cons v r)) (sub x) h2;refine Gz h2 h3 hp q1 q2 (by intro z;cases z) (by rw[<-q3]at h3;omega)
 |.ife t a b,X,c,x,g,h=>by have h:(okT t c (kid x 0)&&okE a c (kid x 1)&&okE b c (kid x 2))=true:=h;rw[bAq,bAq]at h;exact F1 (eT t X c _ g h.1.1).1 (eE a X c _ g h.1.2) (eE b X c _ g h.2)
 |.comp caps m p it t e,X,c,x,g,h=>by
  have h:((Mi m p&&(Z8 (kid x 1)).length == m)&&c.cm&&ZU (scp x) c.sc c.N (Z8 (kid x 1)) caps&&(scp x).kind == .function&&okI it c (kid x 2) (!ZA p)&&okE e (c.blk (scp x) (Z8 (kid x 1)) caps) (kid x 0)&&(MT t||okT t (c.blk (scp x) (Z8 (kid x 1)) caps) (kid x 3)))=true:=h;rw[bAq,bAq,bAq,bAq,bAq,bAq]at h;obtain⟨⟨⟨⟨⟨⟨h1,h2⟩,h3⟩,h4⟩,h5⟩,h6⟩,h7⟩:=h;rw[bAq,beq_iff_eq]at h1;obtain⟨h1,rfl⟩:=h1;have hk:=eq_of_beq h4;obtain⟨t1,t2⟩:=MB (c:=c.blk (scp x) (Z8 (kid x 1)) caps) p (kid x 1);obtain⟨a1,a2⟩:=eI it X c (kid x 2) (toP p (c.blk (scp x) (Z8 (kid x 1)) caps) (kid x 1)) g (!ZA p) t1 t2 h5;exact(WU g h2 h3 hk h1 a1 a2 (g.pt h2 h3 hk h1 _)
    (fun cl C s H ex=>pe0 (eE e _ _ _ (g.blk h3 hk cl C s H ex) h6)) (fun cl C s H ex=>GG fun z=>(eT t _ _ _ (g.blk h3 hk cl C s H ex) (by rw[z]at h7;exact h7)).1)).1
 |.fstr es,X,c,x,g,h=>nomatch h
 |.repl _ _ _,X,c,x,g,h=>nomatch h
 |.split o a,X,c,x,g,h=>nomatch h
 |.rev a,X,c,x,g,h=>nomatch h
theorem eD:∀ (es:Own.Es) (X:Cx) (c:Md) (xs:List Expr) (pos:Pos),Gd X i P n c->okA es c xs=true->X5 es=true->PPs X pos (YK (toA es c xs)) (O2 (toA es c xs)) (Nu X i (Own.wF P n) es)
 |.nil,X,c,xs,pos,g,h,he=>BG
 |.cons k .nil,X,c,xs,pos,g,h,he=>by cases he
 |.cons k (.cons v r),X,c,xs,pos,g,h,he=>by have h:(okE k c (xs.headD dE)&&(okE v c (xs.tail.headD dE)&&okA r c xs.tail.tail))=true:=h;rw[bAq,bAq]at h;exact UM (eE k X c _ g h.1) (eE v X c _ g h.2.1) (eD r X c _ pos g h.2.2 he)
theorem eA:∀ (ms:Own.Es) (X:Cx) (c:Md) (xs:List Expr),Gd X i P n c->okA ms c xs=true->PA X (toA ms c xs) (tAr X i (Own.wF P n) ms (toA ms c xs).length)
 |.nil,X,c,xs,g,h=>DN
 |.cons a as,X,c,xs,g,h=>by have h:(okE a c (xs.headD dE)&&okA as c xs.tail)=true:=h;rw[bAq]at h;exact AS (eE a X c _ g h.1) (eA as X c _ g h.2) (Zz ..)
theorem eJ:∀ (ms:Own.Es) (X:Cx) (c:Md) (xs:List Expr),Gd X i P n c->okJ ms c xs=true->PJ X (toJ ms c xs) (tJs X i (Own.wF P n) ms)
 |.nil,X,c,xs,g,h=>Ez
 |.cons a as,X,c,xs,g,h=>by
  have h:((NL a||okE a c (kid (xs.headD dE) 0))&&okJ as c xs.tail)=true:=h;rw[bAq]at h;have hr:=eJ as X c _ g h.2;show PJ X ((if NL a then toX a c (xs.headD dE)else .FormattedValue (toX a c (kid (xs.headD dE) 0)) (-1) none (xs.headD dE).pos)::toJ as c xs.tail) _;cases z:NL a with
  |true =>obtain⟨s,rfl⟩:=H9 z;exact Nc Dm hr rfl
  |false =>rw[z]at h;exact Nc (Dr (eE a X c _ g h.1)) hr rfl
theorem eO:∀ (m:Own.Oe) (X:Cx) (c:Md) (x:Expr),Gd X i P n c->okO m c x=true->PO X (toO m c x) (tOx X i (Own.wF P n) m)
 |.none,X,c,x,g,h=>Bf
 |.some e,X,c,x,g,h=>AT (eE e X c _ g h)
theorem eT:∀ (m:Own.Tt) (X:Cx) (c:Md) (x:Expr),Gd X i P n c->okT m c x=true->PT X (toT m c x) (tTt X i (Own.wF P n) m)/\((Zq m||Zx m)=true->PW X (toT m c x) (tTt X i (Own.wF P n) m))
 |.yes,X,c,x,g,h=>nomatch h
 |.val e,X,c,x,g,h=>by
  refine⟨?_,fun z=>(by cases z)⟩;have h:(okE e c x&&(MC e||Hq e))=true:=h;rw[bAq]at h;have he:=eE e X c x g h.1;cases z:MC e with
  |true=>exact Fb he (by cases e<;>first|(cases z;done)|exact fun _=>rfl) g.K
  |false =>
   have h2:=h.2;rw[z]at h2;cases e with
   |cmp o a b =>have h:(okE a c (kid x 0)&&okE b c (kid x 1)&&(!YO o||Kz b))=true:=h.1;rw[bAq,bAq]at h;exact(Ki g h.2 (eE a X c _ g h.1.1) (eE b X c _ g h.1.2)).2
   |chain o1 o2 a b d =>have h:(okE a c (kid x 0)&&okE b c (kid x 1)&&okE d c (kid x 2) && !YO o1 && !YO o2)=true:=h.1;rw[bAq,bAq,bAq,bAq,Bool.not_eq_true',Bool.not_eq_true']at h;obtain⟨⟨⟨⟨h1,h2⟩,h3⟩,h4⟩,h5⟩:=h;exact(X3 g h4 h5 (eE a X c _ g h1) (eE b X c _ g h2) (eE d X c _ g h3)).2
   |_=>cases h2
 |.not t,X,c,x,g,h=>⟨Di (eT t X c _ g h).1,fun z=>(by cases z)⟩
 |.and a b,X,c,x,g,h=>by
  have h:(okT a c (kid x 0)&&okT b c (rest (Zq b) x)&&(!Zq b||(rest (Zq b) x).pos==x.pos))=true:=h;rw[bAq,bAq]at h;have h2:=eT b X c _ g h.1.2;obtain⟨y,ys,e,h3⟩:=On h.2 h2.1 h2.2;have h4:PW X (toT (.and a b) c x) (tTt X i (Own.wF P n) (.and a b)):=by show PW X (.BoolOp .And (toT a c (kid x 0)::YE (Zq b) (toT b c (rest (Zq b) x))) x.pos) _;rw[e];exact EM (eT a X c _ g h.1.1).1 h3
  exact⟨h4.pt,fun _=>h4⟩
 |.or a b,X,c,x,g,h=>by
  have h:(okT a c (kid x 0)&&okT b c (rest (Zx b) x)&&(!Zx b||(rest (Zx b) x).pos==x.pos))=true:=h;rw[bAq,bAq]at h;have h2:=eT b X c _ g h.1.2;obtain⟨y,ys,e,h3⟩:=AE h.2 h2.1 h2.2;have h4:PW X (toT (.or a b) c x) (tTt X i (Own.wF P n) (.or a b)):=by show PW X (.BoolOp .Or (toT a c (kid x 0)::YE (Zx b) (toT b c (rest (Zx b) x))) x.pos) _;rw[e];exact GM (eT a X c _ g h.1.1).1 h3
  exact⟨h4.pt,fun _=>h4⟩
theorem eI:∀ (m:Own.It) (X:Cx) (c:Md) (x tg:Expr),Gd X i P n c->∀ (b:Bool),(b=true->∃ es k p,tg=.Tuple es k p)->(b=false->∃ y p,tg=.Name y p)->okI m c x b=true->PI X tg (toI m c x) (tIt X i (Own.wF P n) m)/\∀ y,foldedSetIterable (toI m c x) X.env y=pure y
 |.seq e,X,c,x,tg,g,b,t1,t2,h=>⟨ES g.K (eE e X c _ g h),E4 _ _ _ _⟩
 |.chars e,X,c,x,tg,g,b,t1,t2,h=>nomatch h
 |.range a,X,c,x,tg,g,b,t1,t2,h=>by have h:(c.gl "range" && okE a c (kid x 1))=true:=h;rw[bAq]at h;exact⟨UP (g.gl h.1) (g.bl _ (by simp[blts])) (eE a X c _ g h.2) (Zz ..),fun _=>rfl⟩
 |.range2 a d,X,c,x,tg,g,b,t1,t2,h=>nomatch h
 |.zip a d,X,c,x,tg,g,b,t1,t2,h=>nomatch h
 |.enum e,X,c,x,tg,g,b,t1,t2,h=>by have h:(b&&c.gl "enumerate" && okE e c (kid x 1))=true:=h;rw[bAq,bAq]at h;obtain⟨es,k,p,rfl⟩:=t1 h.1.1;exact⟨Bc g.K (g.gl h.1.2) (g.bl _ (by simp[blts])) (eE e X c _ g h.2) (by rw[Zz];rfl),fun _=>rfl⟩
 |.items e,X,c,x,tg,g,b,t1,t2,h=>nomatch h
 |.rev e,_,_,_,_,_,_,_,_,h=>nomatch h
end
theorem NK{X:Cx}{c:Md}(g:Gd X i P n c){caps:List Nat}{m:Nat}{p:Own.Pt}{it:Own.It}{t:Own.Tt}{e:Own.E}{x:Expr}(h:okE (.comp caps m p it t e) c x=true) :
  PE X (toX (.comp caps m p it t e) c x) (tE X i (Own.wF P n) (.comp caps m p it t e))/\
   ∀ (y:Str) (py spos:Pos) (j:Nat),X.N[j]?=some y->L2.Loc X.env.scope y->(X.fn y=true\/X.env.scope.names.lookup y=some .local)->swapsWith (toX (.comp caps m p it t e) c x) (some (.Name y py)) spos.line X.env=pure true->PS X (.Assign [.Name y py] (toX (.comp caps m p it t e) c x) spos) (tSt X i (Own.wF P n) (.set (.one j) (.comp caps m p it t e))):=by
 have h:((Mi m p&&(Z8 (kid x 1)).length==m)&&c.cm&&ZU (scp x) c.sc c.N (Z8 (kid x 1)) caps&&(scp x).kind == .function&&okI it c (kid x 2) (!ZA p)&&okE e (c.blk (scp x) (Z8 (kid x 1)) caps) (kid x 0)&&(MT t||okT t (c.blk (scp x) (Z8 (kid x 1)) caps) (kid x 3)))=true:=h;rw[bAq,bAq,bAq,bAq,bAq,bAq]at h;obtain⟨⟨⟨⟨⟨⟨h1,h2⟩,h3⟩,h4⟩,h5⟩,h6⟩,h7⟩:=h;rw[bAq,beq_iff_eq]at h1;obtain⟨h1,rfl⟩:=h1;have hk:=eq_of_beq h4;obtain⟨t1,t2⟩:=MB (c:=c.blk (scp x) (Z8 (kid x 1)) caps) p (kid x 1);obtain⟨a1,a2⟩:=eI it X c (kid x 2) (toP p (c.blk (scp x) (Z8 (kid x 1)) caps) (kid x 1)) g (!ZA p) t1 t2 h5;exact WU g h2 h3 hk h1 a1 a2 (g.pt h2 h3 hk h1 _)
  (fun cl C s H ex=>pe0 (eE e _ _ _ (g.blk h3 hk cl C s H ex) h6)) (fun cl C s H ex=>GG fun z=>(eT t _ _ _ (g.blk h3 hk cl C s H ex) (by rw[z]at h7;exact h7)).1)
noncomputable def dS:Stmt:=.Pass ⟨0,0,0,0⟩
noncomputable def stE:Stmt->List Expr
 |.Assign ts v _=>v::ts
 |.AugAssign t _ v _=>[v,t]
 |.For t it _ _ _=>[t,it]
 |.While t _ _ _=>[t]
 |.If t _ _ _=>[t]
 |.Expr e _=>[e]
 |.Return (some e) _=>[e]
 |.Raise (some e) _ _=>[e]
 |_=>[]
noncomputable def ke (s:Stmt) (j:Nat):Expr:=(stE s).getD j dE
noncomputable def stB:Stmt->List Stmt
 |.For _ _ b _ _=>b
 |.While _ b _ _=>b
 |.If _ b _ _=>b
 |.Try b _ _ _ _=>b
 |_=>[]
noncomputable def stO:Stmt->List Stmt
 |.If _ _ b _=>b
 |_=>[]
noncomputable def stH:Stmt->List ExceptHandler
 |.Try _ hs _ _ _=>hs
 |_=>[]
noncomputable def dH:ExceptHandler:=.ExceptHandler none none [] ⟨0,0,0,0⟩
noncomputable def hT:ExceptHandler->Expr
 |.ExceptHandler (some e) _ _ _=>e
 |_=>dE
noncomputable def hB:ExceptHandler->List Stmt
 |.ExceptHandler _ _ b _=>b
noncomputable def hP:ExceptHandler->Pos
 |.ExceptHandler _ _ _ p=>p
noncomputable def Md.hot (c:Md):Md:={c with cm:=false}
noncomputable def IM (t:Option Nat) (e:Own.E) (c:Md) (y:Stmt):Stmt:=match t with
 |none=>.Expr (toX e c (ke y 0)) y.pos
 |some j=>.Assign [.Name (c.nmOf j) (ke y 1).pos] (toX e c (ke y 0)) y.pos
mutual
noncomputable def toS:Own.S->Md->Stmt->Stmt
 |.set p a,c,s=>.Assign [toP p c (ke s 1)] (toX a c (ke s 0)) s.pos
 |.setIdx a j e,c,s=>.Assign [.Subscript (toX a c (kid (ke s 1) 0)) (toX j c (kid (ke s 1) 1)) (ke s 1).pos] (toX e c (ke s 0)) s.pos
 |.setPair a i b j e,c,s=>.Assign [.Tuple [.Subscript (toX a c (kid (kid (ke s 1) 0) 0)) (toX i c (kid (kid (ke s 1) 0) 1)) (kid (ke s 1) 0).pos,.Subscript (toX b c (kid (kid (ke s 1) 1) 0)) (toX j c (kid (kid (ke s 1) 1) 1)) (kid (ke s 1) 1).pos] (num (ke s 1)) (ke s 1).pos] (toX e c (ke s 0)) s.pos
 |.setFld o f e,c,s=>.Assign [.Attribute (toX o c (kid (ke s 1) 0)) (Str.ofString f) (ke s 1).pos] (toX e c (ke s 0)) s.pos
 |.augVar j op e,c,s=>.AugAssign (.Name (c.nmOf j) (ke s 1).pos) (Uw op) (toX e c (ke s 0)) s.pos
 |.augFld o f op n,c,s=>.AugAssign (.Attribute (toX o c (kid (ke s 1) 0)) (Str.ofString f) (ke s 1).pos) (Uw op) (.Constant (.int n) (num (ke s 0)) (ke s 0).pos) s.pos
 |.augIdx a j op n,c,s=>.AugAssign (.Subscript (toX a c (kid (ke s 1) 0)) (toX j c (kid (ke s 1) 1)) (ke s 1).pos) (Uw op) (.Constant (.int n) (num (ke s 0)) (ke s 0).pos) s.pos
 |.expr e,c,s=>.Expr (toX e c (ke s 0)) s.pos
 |.ret e,c,s=>.Return (some (toX e c (ke s 0))) s.pos
 |.retN,_,s=>.Return none s.pos
 |.ite t a b,c,s=>.If (toT t c (ke s 0)) (toSs a c (stB s)) (toSs b c (stO s)) s.pos
 |.whl t b,c,s=>.While (toT t c (ke s 0)) (toSs b c (stB s)) [] s.pos
 |.for p it b,c,s=>.For (toP p c (ke s 0)) (toI it c (ke s 1)) (toSs b c (stB s)) [] s.pos
 |.forI true p e b,c,s=>.For (toP p c (ke s 0)) (toX e c (ke s 1)) (toSs b c (stB s)) [] s.pos
 |.forI false p e b,c,s=>.For (toP p c (ke s 0)) (.Call (.Attribute (toX e c (kid (kid (ke s 1) 0) 0)) "items" (kid (ke s 1) 0).pos) [] [] (ke s 1).pos) (toSs b c (stB s)) [] s.pos
 |.brk,_,s=>.Break s.pos
 |.cnt,_,s=>.Continue s.pos
 |.pass,_,s=>.Pass s.pos
 |.raise C as,c,s=>.Raise (some (.Call (.Name (Str.ofString C) (kid (ke s 0) 0).pos) (toA as c (sub (ke s 0)).tail) [] (ke s 0).pos)) none s.pos
 |.try t e hs,c,s=>.Try [IM t e c ((stB s).headD dS)] (toH hs c (stH s)) [] [] s.pos
 |_,_,s=>s
noncomputable def toH:Own.Hn->Md->List ExceptHandler->List ExceptHandler
 |.nil,_,_=>[]
 |.cons K nm b r,c,xs=>.ExceptHandler (some (.Name (Str.ofString K) (hT (xs.headD dH)).pos)) (nm.map c.nmOf) (toSs b c.hot (hB (xs.headD dH))) (hP (xs.headD dH))::toH r c xs.tail
noncomputable def toSs:Own.Ss->Md->List Stmt->List Stmt
 |.nil,_,_=>[]
 |.cons m ms,c,xs=>toS m c (xs.headD dS)::toSs ms c xs.tail
end
noncomputable def Kt (c:Md) (j:Nat):Bool:=decide (j<c.N.length)&&c.loc (c.nmOf j)
noncomputable def okP (p:Own.Pt) (c:Md):Bool:=match p with
 |.one j=>Kt c j
 |.many js=>js.all (Kt c)
 |.nest j js=>Kt c j&&js.all (Kt c)
noncomputable def Us:Own.E->Bool
 |.tup _=>true
 |.key _=>true
 |_=>false
noncomputable def Mr:Own.E->Bool
 |.comp _ _ _ _ _ _=>true
 |_=>false
noncomputable def swT (c:Md) (tg v:Expr):Bool:=match v,tg with
 |.ListComp _ _ s pos,.Name t p=>(if c.sc.kind.isAnnotationScope then ScopeKind.function else c.sc.kind) == .function&&c.sc.names.lookup t==some .local&&p.line==pos.line && !(s.names.any fun(n,k)=>n==t&&(k == .local||k == .cell))
 |_,_=>false
noncomputable def Le (c:Md) (j:Nat):Bool:=decide (j<c.N.length)&&c.sc.names.lookup (c.nmOf j)==some .local
noncomputable def I0 (c:Md):Option Nat->Bool
 |none=>true
 |some j=>Le c j
noncomputable def F3:Own.Ss->Bool
 |.nil=>false
 |_=>true
noncomputable def Ho:Own.Hn->Bool
 |.nil=>true
 |_=>false
mutual
noncomputable def okS:Own.S->Md->Stmt->Bool
 |.set p a,c,s=>okP p c&&okE a c (ke s 0)&&(ZA p || !Us a)&&(ZA p||c.cm)
 |.setIdx a j e,c,s=>okE e c (ke s 0)&&okE a c (kid (ke s 1) 0)&&okE j c (kid (ke s 1) 1)
 |.setFld o f e,c,s=>c.fl.contains f&&okE o c (kid (ke s 1) 0)&&okE e c (ke s 0)
 |.expr e,c,s=>okE e c (ke s 0) && !Mr e
 |.ret e,c,s=>okE e c (ke s 0)
 |.ite t a b,c,s=>okT t c (ke s 0)&&okSs a c (stB s)&&okSs b c (stO s)
 |.for p it b,c,s=>okP p c&&okI it c (ke s 1) (!ZA p)&&okSs b c (stB s)&&c.cm
 |.never,_,_=>true
 |_,_,_=>false
noncomputable def okH:Own.Hn->Md->List ExceptHandler->Bool
 |.nil,_,_=>false
 |.cons K nm b r,c,xs=>(c.xs.contains K||K == "ShutError")&&c.gn K && !c.xs.isEmpty&&I0 c nm&&F3 b&&okSs b c.hot (hB (xs.headD dH))&&Ho r
noncomputable def okSs:Own.Ss->Md->List Stmt->Bool
 |.nil,_,_=>true
 |.cons m ms,c,xs=>okS m c (xs.headD dS)&&okSs ms c xs.tail
end
structure Gs (X:Cx) (i:Inf) (P:Own.Pg) (n:Nat) (c:Md):Prop extends Gd X i P n c where
 fn:∀ x,c.loc x=true->X.fn x=true\/X.env.scope.names.lookup x=some .local
 own:c.cm=true->PassesOwn (model X.prog X.w) X.A X.env X.xe
 stk:c.cm=true->X.stack=X.env::X.outer
variable {X:Cx}{i:Inf}{P:Own.Pg}{n:Nat}{c:Md}
theorem Gs.nm1(g:Gs X i P n c){j:Nat}(h:Kt c j=true):X.N[j]?=some (c.nmOf j)/\L2.Loc X.env.scope (c.nmOf j)/\(X.fn (c.nmOf j)=true\/X.env.scope.names.lookup (c.nmOf j)=some .local):=by unfold Kt at h;rw[bAq,decide_eq_true_eq]at h;exact⟨AA g.N h.1,g.loc h.2,g.fn _ h.2⟩
theorem Gj(g:Gs X i P n c){p:Own.Pt}(h:okP p c=true):CB (UF X c) p:=by
 cases p with
 |one j=>exact g.nm1 h
 |many js=>exact fun j hj=>g.nm1 (List.all_eq_true.mp h j hj)
 |nest j js =>have h:(Kt c j&&js.all (Kt c))=true:=h;rw[bAq]at h;exact⟨g.nm1 h.1,fun k hk=>g.nm1 (List.all_eq_true.mp h.2 k hk)⟩
theorem C8(g:Gs X i P n c)(hcm:c.cm=true){p:Own.Pt}{x:Expr}(h:okP p c=true):PG X (toP p c x) (gPt i p):=Dc g.K (by rw[g.N];exact g.nd) (g.calm hcm) (Gj g h)
theorem XE{l:Nat}{env:Env}{tg:Expr}(a:Own.E)(x:Expr)(hs:env.scope=c.sc):swapsWith (toX a c x) (some tg) l env=pure (swT c tg (toX a c x)):=by
 cases a with
 |comp caps m p it t e =>
  cases tg with
  |Name t q =>unfold swapsWith swT Env.blockKind Env.kindOf;rw[hs];rfl
  |_=>rfl
 |_=>rfl
theorem DI(p:Own.Pt)(a:Own.E)(x y:Expr)(env:Env)(h:(ZA p || !Us a)=true):swappedStores [toP p c x] (toX a c y) env=pure none:=by
 cases p with
 |one j=>cases a<;>rfl
 |many js=>cases a<;>first|rfl|cases h
 |nest j js=>cases a<;>first|rfl|cases h
theorem OL(p:Own.Pt)(x:Expr)(env:Env):(assignEach [toP p c x] env).map (·.2)=[assign (toP p c x) env]:=by cases p<;>rfl
theorem EE{a:Own.E}{tg x:Expr}(h:swT c tg (toX a c x)=true):∃ caps m p it t e,a=.comp caps m p it t e:=by
 cases a with
 |comp caps m p it t e=>exact⟨_,_,_,_,_,_,rfl⟩
 |_=>cases h
theorem Cm(y:Own.E){x b:Expr}{pos:Pos}{env:Env}:∀ v,assign (.Subscript b (toX y c x) pos) env v=(do
    let ov<-holding [v] (eval b env)
    let iv<-holding [v,ov] (eval (toX y c x) env)
    standAt pos
    holding [v,ov,iv] (setItem ov iv v)
    release [v,ov,iv] []):=by
 intro v;cases y<;>rfl
theorem PGet.or{r r':R2}(h:PGet X r)(h':PGet X r'):PGet X (fun x y H Q=>r x y H Q\/r' x y H Q):=fun pins s σ H o j ov jv Q I ro rj q=>by
 rcases q with q|q
 .exact h pins s σ H o j ov jv Q I ro rj q
 .exact h' pins s σ H o j ov jv Q I ro rj q
theorem B9(t v:Expr)(p:Pos)(env:Env)(h:(∃ a b q,t=.Subscript a b q)\/(∃ a b q,t=.Attribute a b q)):swappedStores [t] v env=pure none:=by rcases h with⟨a,b,q,rfl⟩|⟨a,b,q,rfl⟩<;>rfl
theorem BL{a:Own.E}{x:Expr}{t:Option Expr}{l:Nat}{env:Env}(h:(!Mr a)=true):swapsWith (toX a c x) t l env=pure false:=by
 cases a with
 |comp caps m p it tt e=>cases h
 |_=>rfl
theorem Ua{a:Own.E}{tg x:Expr}(h:∀ y q,tg≠.Name y q):swT c tg (toX a c x)=false:=by
 cases a with
 |comp caps m p it tt e =>
  cases tg with
  |Name y q=>exact absurd rfl (h y q)
  |_=>rfl
 |_=>rfl
theorem Ef(g:Gs X i P n c){p:Own.Pt}{x:Expr}(hc:(ZA p||c.cm)=true)(h:okP p c=true):PG X (toP p c x) (gPt i p):=by
 by_cases hcm:c.cm=true
 .exact C8 g hcm h
 .cases p with
  |one j =>obtain⟨h1,h2,h3⟩:=g.nm1 h;exact Mq (by rw[g.N];exact g.nd) h1 h2 h3
  |many js=>exact absurd hc hcm
  |nest j js=>exact absurd hc hcm
theorem Gd.nox(g:Gd X i P n c):Gd X.nox i P n c :=
 ⟨g.K,g.N,g.sc,g.nd,g.un,g.calm,g.room,g.bl,g.dfs,g.cst,⟨g.kl.A,g.kl.F,g.kl.mkc,g.kl.mth⟩,fun h=>⟨(g.xl h).xc,(g.xl h).rs,(g.xl h).kn⟩⟩
theorem Gs.hot(g:Gs X i P n c)(a:Addr):Gs (X.caught a) i P n c.hot :=
 {K:=g.K,N:=g.N,sc:=g.sc,nd:=g.nd,un:=g.un,calm:=fun z=>(by cases z),room:=fun z=>(by cases z),bl:=g.bl,dfs:=g.dfs,cst:=g.cst,kl:=⟨g.kl.A,g.kl.F,g.kl.mkc,g.kl.mth⟩,xl:=fun h=>⟨(g.xl h).xc,(g.xl h).rs,(g.xl h).kn⟩,fn:=g.fn,own:=fun z=>(by cases z),stk:=fun z=>(by cases z)}
mutual
theorem sS:∀ (m:Own.S) (X:Cx) (c:Md) (s:Stmt),Gs X i P n c->okS m c s=true->PS X (toS m c s) (tSt X i (Own.wF P n) m)
 |.set p a,X,c,s,g,h=>by
  have h:(okP p c&&okE a c (ke s 0)&&(ZA p || !Us a)&&(ZA p||c.cm))=true:=h;rw[bAq,bAq,bAq]at h;obtain⟨⟨⟨h1,h2⟩,h3⟩,h4⟩:=h;by_cases hsw:swT c (toP p c (ke s 1)) (toX a c (ke s 0))=true
  .obtain⟨caps,k,pt,it,tt,e,rfl⟩:=EE hsw;cases p with
   |one j =>obtain⟨q1,q2,q3⟩:=g.nm1 h1;exact(NK g.toGd h2).2 _ _ _ j q1 q2 q3 (by rw[<-hsw];exact XE (c:=c) (.comp caps k pt it tt e) (ke s 0) g.sc)
   |many js=>cases hsw
   |nest j js=>cases hsw
  .have hp:PG X (toP p c (ke s 1)) (gPt i p):=Ef g h4 h1;exact DH (eE a X c _ g.toGd h2) hp (by rw[swapsWithSole,XE a _ g.sc,Bool.eq_false_iff.mpr hsw]) (DI p a _ _ _ h3) (OL p _ _)
 |.setIdx a j e,X,c,s,g,h=>by have h:(okE e c (ke s 0)&&okE a c (kid (ke s 1) 0)&&okE j c (kid (ke s 1) 1))=true:=h;rw[bAq,bAq]at h;have ha:=eE a X c _ g.toGd h.1.2;have hj:=eE j X c _ g.toGd h.2;exact Oo g.K (eE e X c _ g.toGd h.1.1) ha hj (Ew ha hj (PSet.or Uv (O3 (by have:=g.un;omega))) (Cm j)) (by rw[swapsWithSole,XE e _ g.sc,Ua (fun y q z=>(by cases z))]) (B9 _ _ (ke s 1).pos _ (.inl ⟨_,_,_,rfl⟩)) rfl
 |.setPair a j b k e,X,c,s,g,h=>nomatch h
 |.setFld o f e,X,c,s,g,h=>by have h:(c.fl.contains f&&okE o c (kid (ke s 1) 0)&&okE e c (ke s 0))=true:=h;rw[bAq,bAq]at h;exact NR g.K g.kl.A (g.kl.F _ h.1.1) (eE o X c _ g.toGd h.1.2) (eE e X c _ g.toGd h.2) (by rw[XE e _ g.sc,Ua (fun y q z=>(by cases z))])
 |.augVar j op e,X,c,s,g,h=>nomatch h
 |.augFld o f op k,X,c,s,g,h=>nomatch h
 |.expr e,X,c,s,g,h=>by have h:(okE e c (ke s 0) && !Mr e)=true:=h;rw[bAq]at h;exact Bj (eE e X c _ g.toGd h.1) (BL h.2)
 |.ret e,X,c,s,g,h=>E6 (eE e X c _ g.toGd h)
 |.retN,X,c,s,g,h=>nomatch h
 |.ite t a b,X,c,s,g,h=>by have h:(okT t c (ke s 0)&&okSs a c (stB s)&&okSs b c (stO s))=true:=h;rw[bAq,bAq]at h;exact FF (eT t X c _ g.toGd h.1.1).1 (sSs a X c _ g h.1.2) (sSs b X c _ g h.2)
 |.whl t b,X,c,s,g,h=>nomatch h
 |.for p it b,X,c,s,g,h=>by have h:(okP p c&&okI it c (ke s 1) (!ZA p)&&okSs b c (stB s)&&c.cm)=true:=h;rw[bAq,bAq,bAq]at h;obtain⟨⟨⟨h1,h2⟩,h3⟩,h4⟩:=h;obtain⟨t1,t2⟩:=MB (c:=c) p (ke s 0);obtain⟨a1,a2⟩:=eI it X c (ke s 1) (toP p c (ke s 0)) g.toGd (!ZA p) t1 t2 h2;exact Ev (g.own h4) (g.calm h4) a1 (C8 g h4 h1) (sSs b X c _ g h3) a2
 |.forI true p e b,X,c,s,g,h=>nomatch h
 |.forI false p e b,X,c,s,g,h=>nomatch h
 |.never,X,c,s,g,h=>UE
 |.brk,X,c,s,g,h=>nomatch h
 |.cnt,X,c,s,g,h=>nomatch h
 |.pass,X,c,s,g,h=>nomatch h
 |.raise C as,X,c,s,g,h=>nomatch h
 |.try t e (.cons K nm b .nil),X,c,s,g,h=>nomatch h
 |.try t e (.cons K nm b (.cons _ _ _ _)),X,c,s,g,h=>nomatch h
 |.try t e .nil,X,c,s,g,h=>nomatch h
 |.augIdx a j op k,X,c,s,g,h=>nomatch h
theorem sSs:∀ (ms:Own.Ss) (X:Cx) (c:Md) (xs:List Stmt),Gs X i P n c->okSs ms c xs=true->PSs X (toSs ms c xs) (tBl X i (Own.wF P n) ms)
 |.nil,X,c,xs,g,h=>Do
 |.cons m ms,X,c,xs,g,h=>by have h:(okS m c (xs.headD dS)&&okSs ms c xs.tail)=true:=h;rw[bAq]at h;exact A2 (sS m X c _ g h.1) (sSs ms X c _ g h.2)
end
noncomputable def K0 (N ps:List Str) (sc:Scope):Bool :=
 sc.kind == .function && !sc.isCoroutine && !sc.isGenerator&&decide N.Nodup&&(N.take ps.length==ps)&&ps.all (fun x=>sc.names.lookup x==some .local||sc.names.lookup x==some .cell)&&sc.names.all fun y=>y.2 != .free
theorem Hx{N ps:List Str}{sc:Scope}(h:K0 N ps sc=true):FnScope N ps sc:=by
 simp only[K0,bAq,Bool.not_eq_true',decide_eq_true_eq,List.all_eq_true]at h;obtain⟨⟨⟨⟨⟨⟨h1,h2⟩,h3⟩,h4⟩,h5⟩,h6⟩,h7⟩:=h;refine⟨eq_of_beq h1,h2,h3,h4,eq_of_beq h5,fun x hx=>?_,fun y hy=>?_⟩
 .simpa using h6 x hx
 .simpa using h7 y hy
structure Ds where
 st:Stmt
 N:List Str
 ps:List Str
 d:Own.Fn
structure Mt where
 C:String
 m:String
 qual:String
 x:Ds
structure Tb where
 fs:List (String×Ds)
 ms:List Mt
 cs:List (String×Own.Val)
 cl:List String
 fl:List String
 xs:List String
noncomputable def Tb.md (T:Tb) (x:Ds):Md:={N:=x.N,sc:=Zk x.st,cs:=T.cs,fs:=T.fs.map (·.1),cm:=true,cl:=T.cl,ms:=T.ms.map fun y=>(y.C,y.m),fl:=T.fl,xs:=T.xs}
noncomputable def Ds.test (T:Tb) (x:Ds):Bool :=
 K0 x.N x.ps (Zk x.st)&&okSs x.d.body (T.md x) (ZC x.st)&&x.ps.length==x.d.ar&&x.N.length==x.d.sz&&decide (x.d.ar<=x.d.sz)
structure Ds.Ok (T:Tb) (x:Ds):Prop where
 ok:x.test T=true
 eq:toSs x.d.body (T.md x) (ZC x.st)=ZC x.st
variable {pr:Program}{wd:World}{mg:Str->Option Value}{base:Heap}{i:Inf}{P:Own.Pg}{T:Tb}
def Dst (K:PySem.W.Frag) (mg:Str->Option Value) (f:String) (x:Ds):Prop:=∃ fa fd qual,Fun K (Str.ofString f) qual x.st fa fd/\mg (Str.ofString f)=some (.ref fa)/\Binds K fd x.ps []
structure Mst (i:Inf) (mg:Str->Option Value) (y:Mt) (a fa:Addr):Prop where
 cl:mg (Str.ofString y.C)=some (.ref a)
 fn:∃ fd,Fun i.K (Str.ofString y.m) (Str.ofString y.qual) y.x.st fa fd/\Binds i.K fd y.x.ps []
 at_:Meth i.K a (Str.ofString y.m) fa
theorem NC{f:String}{fa:Addr}{fd:FuncData}{ps:List Str}:FnOk pr wd i.K mg base (CX1 pr wd) 0 fa fd ps (spF i P 0 f):=by
 refine⟨fun vs H Q E h=>?_,fun A outer s H args us vs Q E hr he hb hv h=>?_⟩
 .obtain⟨_,_,_,_,_,_,w,_⟩:=h;rw[Own.wF_eq]at w;exact w.elim
 .obtain⟨_,_,_,_,_,_,w,_⟩:=h;rw[Own.wF_eq]at w;exact w.elim
theorem Aa{n:Nat}{f:String}{vs:List Own.Val}{h:Own.Hs}{Q:Own.Q1}{E:Own.XQ}(q:Own.wF P (n+1) f vs h Q E):∃ d,P f=some d/\vs.length=d.ar/\Own.wSs (Own.wF P n) d.body (d.env vs) h (fun _ g=>Q .non g) Q (fun _ _=>False) (fun _ _=>False) fun _ c g=>E c g:=by rw[Own.wF_eq]at q;obtain⟨d,e,q1,q2⟩:=go_some q;exact⟨d,e,q1,by rw[Own.wF_eq];exact q2⟩
structure Modu (mg:Str->Option Value) (base:Heap) (i:Inf) (T:Tb):Prop where
 bl:∀ x∈blts,mg x=none
 cst:∀ x v,T.cs.lookup x=some v->∃ u y,mg (Str.ofString x)=some u/\RelV y u/\∀ H,RV i.K H v y
 A:ClsA i
 F:∀ f,T.fl.contains f=true->FldOk i f
 cl:∀ C a,i.cl C a->mg (Str.ofString C)=some (.ref a)
 mkc:∀ C,T.cl.contains C=true->∃ a y f,i.ins C=true/\i.cl C a/\Mk i.K a f/\y∈T.ms/\y.C=C/\y.m = "__init__"/\Mst i mg y a f
 fs:∀ f x,(f,x)∈T.fs->Dst i.K mg f x
 ms:∀ y,y∈T.ms->∃ a f,Mst i mg y a f/\Cls i.K a
 xc:T.xs≠[]->∀ C a,i.xc C a->XCls i.K a/\PySem.W.kitOne i.K (.ref a) (.type "ValueError")=some true
 rs:T.xs≠[]->∀ C,T.xs.contains C=true->∃ a,i.xc C a/\PyProof.Rows.OwnCls (Str.ofString C) a [.type "ValueError",.type "Exception",.type "BaseException",.type "object"] "ValueError.__new__" mg base
 kn:T.xs≠[]->∀ T',(T.xs.contains T'||T' == "ShutError")=true->∃ D,mg (Str.ofString T')=some (.ref D)/\∀ C a,i.xc C a->PySem.W.kitOne i.K (.ref a) (.ref D)=some (Own.excSub C T')/\(Own.excSub C T'=true->PySem.W.exmOne i.K (.ref a) (.ref D)=some true)
structure Held (pr:Program) (wd:World) (mg:Str->Option Value) (base:Heap) (i:Inf) (P:Own.Pg) (T:Tb) (n:Nat):Prop where
 fs:∀ f x,(f,x)∈T.fs->Dfo pr wd mg base i P n f
 ms:∀ y a f,y∈T.ms->Mst i mg y a f->Dfm pr wd mg base i P n (y.C ++ "." ++ y.m) f
theorem fn_succ{n:Nat}{f:String}{x:Ds}{fa:Addr}{fd:FuncData}{nm qual:Str}(M:Modu mg base i T)(hn:Held pr wd mg base i P T n)(F:Fun i.K nm qual x.st fa fd)(hP:P f=some x.d)(ht:x.Ok T):FnOk pr wd i.K mg base (CX1 pr wd) (2*(n+1)) fa fd x.ps (spF i P (n+1) f):=by
 obtain⟨ht,heq⟩:=ht;simp only[Ds.test,bAq,decide_eq_true_eq]at ht;obtain⟨⟨⟨⟨h1,h2⟩,h3⟩,h4⟩,h5⟩:=ht;have h3:=eq_of_beq h3;have h4:=eq_of_beq h4;have S:=Hx h1;refine F.ok1 (k:=2*n+1) S (fun vs H Q E h=>?_) (fun cdv A outer s H vs Q E hr hsp hw=>?_)
 .obtain⟨args,G,Qm,Em,r,g,w,_⟩:=h;obtain⟨d,e,q,_⟩:=Aa w;rw[hP]at e;cases e;rw[<-r.length,q,h3]
 .obtain⟨args,G,Qm,Em,r,g,w,cn,ex⟩:=hsp;obtain⟨d,e,q,w⟩:=Aa w;rw[hP]at e;cases e;have gd:Gs (Wq (CX1 pr wd) pr wd i.K mg base x.N qual (Zk x.st) fa cdv A outer s H E) i P n (T.md x) :=
   { K:=rfl,N:=rfl,sc:=rfl,nd:=S.nd,un:=(by have:=hr.un;show(A.deeper _).units+200<cLine;omega),calm:=fun _=>rfl,room:=fun _=>hr,bl:=M.bl
     dfs:=fun g hg=>(by
       obtain⟨p,hy,e⟩:=qZ.mp (List.contains_iff_mem.mp hg)
       subst e
       exact hn.fs p.1 p.2 hy)
     cst:=M.cst
     kl:=⟨M.A,M.F,fun C hC=>(by
       obtain⟨a,y,f,q1,q2,q3,q4,rfl,q6,q7⟩:=M.mkc C hC
       refine⟨a,f,q1,q2,q3,M.cl _ _ q2,?_⟩
       have:=hn.ms y a f q4 q7
       rw[q6]at this
       rwa [show y.C ++ ".__init__" = y.C ++ "." ++ "__init__" by rw[String.append_assoc];rfl]),fun C m hC=>(by
       obtain⟨y,hy,e⟩:=qZ.mp (List.contains_iff_mem.mp hC)
       cases e
       obtain⟨a,f,q1,q2⟩:=M.ms y hy
       refine⟨a,f,fun b hb=>?_,q2,q1.at_,hn.ms y a f hy q1⟩
       have e1:=M.cl _ _ hb
       rw[q1.cl]at e1
       cases e1
       rfl)⟩
     xl:=fun h=>⟨M.xc h,M.rs h,M.kn h⟩
     fn:=fun _ _=>.inl rfl
     own:=fun _=>PassesOwn.leaving
     stk:=fun _=>rfl }
  have hb:=sSs x.d.body _ _ _ gd h2;rw[heq]at hb;refine⟨_,hb,?_⟩;refine⟨x.d.env args,G,(fun _ g=>Qm .non g),Qm,(fun _ _=>False),(fun _ _=>False),(fun _ c g=>Em c g),?_,w,?_⟩
  .refine⟨?_,g,?_⟩
   .have:=REn.start (n:=x.d.sz - x.d.ar) r;unfold L2.start;have e1:x.N.length - vs.length=x.d.sz - x.d.ar:=by rw[h4,<-r.length,q]
    rw[e1];exact this
   .intro pins σ H0 s0 H' a cls s' I fl hx;obtain⟨e,c,G',ad,q1,q2,q3,q4,q5⟩:=hx;exact hw pins σ H0 s0 H' a cls s' I fl (ex _ _ _ ⟨c,G',ad,q1,q2,q3,q4,q5⟩)
  .refine⟨?_,?_,?_,?_⟩
   .intro env' σ' G' H' k g' e w';exact cn .non G' H' .non k g' .non w'
   .intro v G' H' y k g' rv w';exact cn v G' H' y k g' rv w'
   .intro _ _ _ _ _ _ _ z;exact z.elim
   .intro _ _ _ _ _ _ _ z;exact z.elim
theorem held_all (M:Modu mg base i T) (hP:∀ f x,(f,x)∈T.fs->P f=some x.d) (hPm:∀ y,y∈T.ms->P (y.C ++ "." ++ y.m)=some y.x.d) (ht:∀ f x,(f,x)∈T.fs->x.Ok T) (htm:∀ y,y∈T.ms->y.x.Ok T):∀ n,Held pr wd mg base i P T n:=by
 intro n;induction n with
 |zero =>
  refine⟨fun f x h=>?_,fun y a f hy S=>?_⟩
  .obtain⟨fa,fd,qual,F,hm,hb⟩:=M.fs f x h;exact⟨fa,fd,x.ps,NC,hm,F.kp,hb⟩
  .obtain⟨fd,F,hb⟩:=S.fn;exact⟨fd,y.x.ps,NC,hb⟩
 |succ n ih =>
  refine⟨fun f x h=>?_,fun y a f hy S=>?_⟩
  .obtain⟨fa,fd,qual,F,hm,hb⟩:=M.fs f x h;exact⟨fa,fd,x.ps,fn_succ M ih F (hP f x h) (ht f x h),hm,F.kp,hb⟩
  .obtain⟨fd,F,hb⟩:=S.fn;exact⟨fd,y.x.ps,fn_succ M ih F (hPm y hy) (htm y hy),hb⟩
end Snd
namespace Hd
open PySem PySem.W PyProof.Rows
noncomputable def Xr (st:SharedT->Thread->Option (SharedT×Thread)) (ok th:Thread->Bool):Nat->SharedT->Thread->Option SharedT
 |0,_,_=>none
 |n+1,s,t=>match th t with
  |true=>some s
  |false=>match ok t with
   |false=>none
   |true=>match st s t with
    |some (s',t')=>Xr st ok th n s' t'
    |none=>none
theorem XH{tb:String->Option Builtin}{p:Program}{w:World}{n₀:Nat}{ann:Option Value}:∀ {n:Nat}{s s':SharedT}{t:Thread},Xr (stepT (denote tb) p w) (stepOk n₀ ann) through n s t=some s'->topRun tb p w n₀ ann n s.abs t=some s'.abs
 |0,_,_,_,h=>by cases h
 |n+1,s,s',t,h=>by
  unfold Xr at h;unfold topRun;cases ht:through t with
  |true=>rw[ht]at h;cases h;rfl
  |false =>
   rw[ht]at h;dsimp only at h ⊢;cases hk:stepOk n₀ ann t with
   |false=>rw[hk]at h;cases h
   |true =>
    rw[hk]at h;dsimp only at h ⊢;cases hs:stepT (denote tb) p w s t with
    |none=>rw[hs]at h;cases h
    |some r =>obtain⟨s2,t2⟩:=r;rw[hs]at h;rw[stepT_spec hs];exact XH h
noncomputable def Wk (P:Params):BT :=
 .node (boot_o_0 P) (.node (boot_o_1 P) (.node (boot_o_3 P) (.node (boot_o_7 P) .nil .nil) .nil) (.node (boot_o_5 P) (.node (boot_o_9 P) .nil .nil) .nil))
  (.node (boot_o_2 P) (.node (boot_o_4 P) (.node (boot_o_8 P) .nil .nil) .nil) (.node (boot_o_6 P) (.node (boot_o_10 P) .nil .nil) .nil))
theorem Uu(P:Params):absHeap (Wk P) 11 {}=boot_heap P:=by kernel_rfl
theorem Oc (P:Params):((boot_heap P).isNs mainGlobals&&(Array.mk []:Array GenState).size==0,(boot_heap P).objs.size,(boot_heap P).nsMap mainGlobals "__annotations__")=(true,11,some (.ref 6)):=by
 rw[show @Heap.nsMap=_ from Fast.te8920871248978507458]
 kernel_rfl
noncomputable def CC:=Fast.tw10156331382660048174
noncomputable def NH:=Fast.tw11892475500146522536
noncomputable def An:=Fast.tw14364793385576792824
noncomputable def okY:=Fast.tw6613529449190102663
noncomputable def Da:=Fast.tw4187177175401517315
noncomputable def Uq:=Fast.tw5923862056798008813
noncomputable def MQ {α:Type}(p q:Program) (loose:List Str) (Xt:Shared->Bool) (Yf:Shared->α) (h0:Heap) (s:SharedT) :=
 ((staticsOk (Uq p.main.body) h0 s.abs.heap&&namesBound p s.abs.heap&&gensDone s.abs&&laidKept h0 s.abs.heap),Da q loose (Uq p.main.body) Xt true s.abs,Yf s.abs)
theorem left_of{p q:Program}{loose:List Str}{Xt:Shared->Bool}{α:Type}{Yf:Shared->α}{Ya:World->α}{N:Nat}(e:opening p=plainProg p.main.scope.names)(hN:Nat.ble 600 N=true)(f:∀ s,fenceModules? p s=some s)
  (one:∀ (w:World) (os:OsState),(Xr (CC (NH An) p w) (okY 11 (some (.ref 6))) through N ⟨Wk w.params,11,{},Array.mk [],boot_drawn,boot_toks,os⟩ (topStub p)).map (MQ p q loose Xt Yf (boot_heap w.params))=some (true,openGood q loose,Ya w)) :
  LeftO p q loose Xt Yf Ya N:=by
 intro w;obtain⟨⟨h,gs,d,k,os⟩,e1,e2⟩:=qD.mp (boot_open e hN f w);obtain⟨rfl,rfl,rfl,rfl⟩:h=boot_heap w.params/\gs=Array.mk []/\d=boot_drawn/\k=boot_toks:=by simpa using e2
 obtain⟨s,r,z⟩:=qD.mp (one w os);obtain⟨z1,z2,z3⟩:_/\_/\_:=by simpa only[Prod.mk.injEq]using Oc w.params
 obtain⟨l1,l2,l3⟩:_/\_/\_:=by simpa only[MQ,Prod.mk.injEq]using z
 unfold CC NH An okY at r;rw[<-Fast.te10156331382660048174,<-Fast.te11892475500146522536,<-Fast.te14364793385576792824,<-Fast.te6613529449190102663]at r;unfold Uq at l1 l2;unfold Da at l2;rw[<-Fast.te5923862056798008813]at l1 l2;rw[<-Fast.te4187177175401517315]at l2;have r2:=XH r;have ea:(SharedT.mk (Wk w.params) 11 {} (Array.mk []) boot_drawn boot_toks os).abs=⟨boot_heap w.params,Array.mk [],boot_drawn,boot_toks,os⟩:=by show Shared.mk (absHeap _ _ _) _ _ _ _=_;rw[Uu]
 rw[ea]at r2;have t:topFrom treeTable p w N ⟨boot_heap w.params,Array.mk [],boot_drawn,boot_toks,os⟩=some s.abs:=by unfold topFrom;dsimp only;rw[z1,z2,z3,r2];show(match staticsOk (importedModules p.main.body) (boot_heap w.params) s.abs.heap&&namesBound p s.abs.heap&&gensDone s.abs&&laidKept (boot_heap w.params) s.abs.heap with|true=>_|false=>_)=_;rw[l1]
 unfold openEnds;rw[e1];show(topFrom treeTable p w N _).map _=_;rw[t];exact congrArg some (Prod.ext l2 l3)
end Hd
namespace Hd
open PySem PySem.W PyProof.Rows L2
noncomputable def W8:Nat->List Obj->Frag
 |_,[]=>[]
 |i,o::r=>match o with
  |⟨_,_,.freed,_⟩=>W8 (i+1) r
  |o=>(i,o)::W8 (i+1) r
noncomputable def Zw (g:Heap):Frag:=W8 0 g.objs.toList
theorem Kr:∀ (l:List Obj) (i a:Nat) (o:Obj),(W8 i l).lookup a=some o->i<=a/\l[a - i]?=some o/\(match some o with|some ⟨_,_,.freed,_⟩=>none|o=>o)=some o
 |[],_,_,_,h=>by cases h
 |x::r,i,a,o,h=>by
  have rec1:(W8 (i+1) r).lookup a=some o->i<=a/\(x::r)[a - i]?=some o/\(match some o with|some ⟨_,_,.freed,_⟩=>none|o=>o)=some o:=fun q=>by obtain⟨h1,h2,h3⟩:=Kr r (i+1) a o q;refine⟨by omega,?_,h3⟩;rw[show a - i=(a - (i+1))+1 by omega,List.getElem?_cons_succ];exact h2
  unfold W8 at h;split at h
  .exact rec1 h
  .rename_i c hne;rw[qO]at h;split at h
   .rename_i e;cases h;have e:=eq_of_beq e;subst e;refine⟨zG _,by rw[Nat.sub_self];rfl,?_⟩;split
    .rename_i d1 d2 d3 d4;cases d4;exact(hne _ _ _ rfl).elim
    .rfl
   .exact rec1 h
theorem Mm{g:Heap}{a:Addr}{o:Obj}(h:(Zw g).lookup a=some o):g.get? a=some o:=by obtain⟨_,h2,h3⟩:=Kr _ _ _ _ h;unfold Heap.get?;rw[Nat.sub_zero,Array.getElem?_toList]at h2;rw[h2];exact h3
noncomputable def Aq (K:Frag) (nm:Str):Option (FuncData×Bool×Bool):=match nsIn K mainGlobals nm with
 |some (some (.ref f))=>match K.lookup f with
  |some ⟨_,_,.func fd,_⟩=>some ({fd with kwdefaults:=.none,doc:=.none,pyModule:=.none,annotations:=none,code:=.none,closureTuple:=.none},codeIn K fd.code fd.qualname,keepIn K (.ref f))
  |_=>none
 |_=>none
noncomputable def U8 (nm:Str) (st:Stmt):Option (FuncData×Bool×Bool):=some (fnOf nm nm (Z5 st) (ZC st) (Zk st) .none .none .none .none none .none .none,true,true)
theorem Fg{K:Frag}{nm:Str}{st:Stmt}(e:Aq K nm=U8 nm st):∃ fa fd,Fun K nm nm st fa fd/\nsIn K mainGlobals nm=some (some (.ref fa)):=by
 unfold Aq at e;split at e
 .rename_i f hf;split at e
  .rename_i oc od fd sl hl;simp only[U8,Option.some.injEq,Prod.mk.injEq]at e;obtain⟨e1,e2,e3⟩:=e;obtain⟨n1,n2,n3,n4,n5,n6,n7,n8,n9,n10,n11,n12,n13,n14,n15⟩:=fd;simp only[fnOf,FuncData.mk.injEq]at e1;obtain⟨rfl,rfl,rfl,rfl,rfl,rfl,rfl,rfl,-,-,-,-,-,-,rfl⟩:=e1;exact⟨f,_,UQ hl e2 e3,hf⟩
  .cases e
 .cases e
noncomputable def C3 (K:Frag) (y:Str):Bool:=match nsIn K mainGlobals y with
 |some none=>true
 |_=>false
theorem BV{l:OpenLaw}{n k:Nat}{q:Program}{loose:List Str}{XP:(Str->Option Value)->Heap->Prop}{YP:World->Heap->Prop}{d:DefRec}{CX:World->CXT}{x:Str}
  (hn:l.most=some n) (hn2:n<=sizeLine) (hdf:d.params.defaults=[]) (hr:Room k callerA)
  (F:∀ (w:World) (mg:Str->Option Value) (fa:Addr) (h:Heap),YP w h->h.Ns mainGlobals mg->mg d.name=some (.ref fa)->∃ (K:Frag) (sp:Sp),K.In h/\
    (∃ fd:FuncData,(∀ (s:Shared) (u:Value),BindsTo s fd ⟨[u],[]⟩ [(x,u)])/\∀ base:Heap,K.In base->base.Ns mainGlobals mg->FnOk l.prog w K mg base (CX w) k fa fd [x] sp)/\
    ∀ (H:Hp) (a:Addr) (ns:List Int),ns.length<=n->EO H->SqL K H a (ns.map V.int)->sp [.ref a] H (fun v _=>v=.bl true) fun _ _ _=>False)
  (hCX:∀ (w:World) (H:Hp) (s:Shared) (e:Value) (s':Shared),CX w [] H s (fun _ _ _=>False) e s'->False) :
  WalkO q loose XP YP l.row.toRowW d [] (fun f vs=>PySem.call f vs):=by
 refine Att.attach_call hn hdf fun w s₀ s₁ mg mb fa o pm cd doc a vs ns G Y ho hd hcd hmg hobj hints hlen hg=>?_;obtain⟨K,sp,KX,⟨fd,hb,hF⟩,hsp⟩:=F w mg fa _ Y G.T.g hmg;exact OF KX G.T.g G.T.b G.T.builtins G.T.nolimit hg hobj hints (zE hlen hn2) hr hF hb (fun H hO hS=>hsp H a ns hlen hO hS) fun H e s'=>hCX w H s₁ e s'
noncomputable def Cc (f:Value->Own.Val->Bool):List Value->List Own.Val->Bool
 |[],[]=>true
 |u::us,x::xs=>f u x&&Cc f us xs
 |_,_=>false
noncomputable def CO (K:Frag):Value->Option (List Value)
 |.ref a=>match K.lookup a with
  |some ⟨.type n,_,.seq us _,_⟩=>if n == "tuple" && decide (us.size<=sizeLine)then some us.toList else none
  |_=>none
 |_=>none
noncomputable def Bw (K:Frag):Nat->Value->Own.Val->Bool
 |0,_,_=>false
 |n+1,u,v=>match v with
  |.non=>(match u with|.none=>true|_=>false)
  |.bl b=>(match u with|.bool a=>a==b|_=>false)
  |.int j=>(match u with|.int i _=>i==j|_=>false)
  |.str t=>(match u with|.str s _=>Fast.sEq s (Str.ofString t)|_=>false)
  |.tup xs=>(match CO K u with|some us=>Cc (Bw K n) us xs|none=>false)
  |_=>false
theorem AL{K:Frag}{f:Value->Own.Val->Bool}(hf:∀ u v,f u v=true->∃ z,RelV z u/\∀ H,Snd.RV K H v z):∀ (us:List Value) (xs:List Own.Val),Cc f us xs=true->∃ zs,Vals zs us/\∀ H,Snd.RVs K H xs zs
 |[],[],_=>⟨[],.nil,fun _=>.nil⟩
 |u::us,x::xs,h=>by rw[Cc,bAq]at h;obtain⟨z,r,q⟩:=hf u x h.1;obtain⟨zs,rs,qs⟩:=AL hf us xs h.2;exact⟨z::zs,.cons r rs,fun H=>.cons (q H) (qs H)⟩
 |[],_::_,h=>by cases h
 |_::_,[],h=>by cases h
theorem OW{K:Frag}:∀ (n:Nat) (u:Value) (v:Own.Val),Bw K n u v=true->∃ z,RelV z u/\∀ H,Snd.RV K H v z
 |0,_,_,h=>by cases h
 |n+1,u,v,h=>by
  unfold Bw at h;cases v with
  |non =>
   dsimp only at h;split at h
   .exact⟨.non,rfl,fun _=>.non⟩
   .cases h
  |bl b =>
   dsimp only at h;split at h
   .cases eq_of_beq h;exact⟨.bl b,rfl,fun _=>.bl b⟩
   .cases h
  |int j =>
   dsimp only at h;split at h
   .cases eq_of_beq h;exact⟨.int j,⟨_,rfl⟩,fun _=>.int j⟩
   .cases h
  |str t =>
   dsimp only at h;split at h
   .cases Fast.sEq_iff.mp h;exact⟨.str (Str.ofString t),⟨_,rfl⟩,fun _=>.str t⟩
   .cases h
  |tup xs =>
   dsimp only at h;split at h
   .rename_i us hu;obtain⟨zs,rs,qs⟩:=AL (fun u v=>OW n u v) us xs h;unfold CO at hu;split at hu
    .rename_i a;split at hu
     .rename_i nm od its k sl hl;split at hu
      .rename_i hc;rw[bAq,decide_eq_true_eq]at hc;cases eq_of_beq hc.1;cases hu;exact⟨.ref a,rfl,fun H=>.tup (.inr ⟨_,its,k,hl,rfl,rfl,hc.2,rs⟩) (qs H)⟩
      .cases hu
     .cases hu
    .cases hu
   .cases h
  |ref a=>cases h
  |scr ns=>cases h
  |key i j=>cases h
noncomputable def AB (K:Frag) (p:String×Own.Val):Bool:=match nsIn K mainGlobals (Str.ofString p.1)with
 |some (some u)=>Bw K 4 u p.2
 |_=>false
theorem XX{α β:Type}[BEq α][LawfulBEq α]{a:α}{b:β}:∀ {l:List (α×β)},l.lookup a=some b->(a,b)∈l
 |[],h=>by cases h
 |(x,y)::r,h=>by
  rw[qO]at h;split at h
  .rename_i e;cases h;cases eq_of_beq e;exact .head _
  .exact .tail _ (XX h)
theorem E0{K:Frag}{mg:Str->Option Value}{h:Heap}{x:Str}{C:Addr}{bmB:List Value}{id:String}(X:K.In h)(hm:mg x=some (.ref C))(q:excIn K C bmB id=true):PyProof.Rows.OwnCls x C bmB id mg h:=by
 constructor
 .exact hm
 have z:=q;unfold excIn at z;split at z
 next dd cd sl ho =>
  split at z
  next C1 bm k0 k1 k2 k3 n k5 em es =>
   rw[bAq,bAq,bAq,bAq,bAq]at z;obtain⟨⟨⟨⟨⟨z1,z2⟩,z3⟩,z4⟩,z5⟩,z6⟩:=z;have z1:=eq_of_beq z1;have z2:=eq_of_beq z2;have z6:=eq_of_beq z6;subst z1 z2;have z3b:cd.hasDel=false:=by
    cases e:cd.hasDel with
    |false=>rfl
    |true=>rw[e]at z3;cases z3
   have es':sl=#[k0,k1,k2,k3,some (.builtin n),k5]:=Array.toList_inj.mp es;have nN:=nsMap_none_of_in X z5 z6;have nI:=Heap.Ns.of_isNs (isNs_of_in X z5);have tI:=tail_of_in X z4;cases cd;dsimp only at em z3b nN nI;subst em z3b es';exact⟨bm,_,_,_,_,_,_,_,_,_,dd,k0,k1,k2,k3,k5,_,X _ _ ho,nI,nN,tI⟩
  next=>cases z
 next=>cases z
noncomputable def DF (K:Frag) (f:Addr):Option (FuncData×Bool×Bool):=match K.lookup f with
 |some ⟨_,_,.func fd,_⟩=>some ({fd with kwdefaults:=.none,doc:=.none,pyModule:=.none,annotations:=none,code:=.none,closureTuple:=.none},codeIn K fd.code fd.qualname,keepIn K (.ref f))
 |_=>none
noncomputable def KP (nm qual:Str) (st:Stmt):Option (FuncData×Bool×Bool):=some (fnOf nm qual (Z5 st) (ZC st) (Zk st) .none .none .none .none none .none .none,true,true)
theorem Dl{K:Frag}{nm qual:Str}{st:Stmt}{f:Addr}(e:DF K f=KP nm qual st):∃ fd,Fun K nm qual st f fd:=by
 unfold DF at e;split at e
 .rename_i oc od fd sl hl;simp only[KP,Option.some.injEq,Prod.mk.injEq]at e;obtain⟨e1,e2,e3⟩:=e;obtain⟨n1,n2,n3,n4,n5,n6,n7,n8,n9,n10,n11,n12,n13,n14,n15⟩:=fd;simp only[fnOf,FuncData.mk.injEq]at e1;obtain⟨rfl,rfl,rfl,rfl,rfl,rfl,rfl,rfl,-,-,-,-,-,-,rfl⟩:=e1;exact⟨_,UQ hl e2 e3⟩
 .cases e
noncomputable def XY (K:Frag) (C:String):Option Addr:=match nsIn K mainGlobals (Str.ofString C)with
 |some (some (.ref a))=>some a
 |_=>none
theorem Xu{K:Frag}{C:String}{a:Addr}(h:XY K C=some a):nsIn K mainGlobals (Str.ofString C)=some (some (.ref a)):=by
 unfold XY at h;split at h
 .cases h;assumption
 .cases h
structure CV where
 pg:Bool
 hd:Bool
 po:Bool
 sa:Option (Option Value)
noncomputable def Bh (K:Frag) (a:Addr):CV:=⟨plainGet K a Str.empty,hasDictIn K a,plainOver K a,findIn K (.ref a) "__setattr__"⟩
noncomputable def Nk:CV:=⟨true,true,true,some (some (.builtin "object.__setattr__"))⟩
theorem AN{K:Frag}{a:Addr}(h:Bh K a=Nk):Cls K a:=by simp only[Bh,Nk,CV.mk.injEq]at h;exact⟨h.1,h.2.1,h.2.2.1,h.2.2.2⟩
structure MV where
 fn:Option (FuncData×Bool×Bool)
 isf:Bool
 cv:CV
noncomputable def OS (K:Frag) (y:Snd.Mt):Option MV:=match XY K y.C with
 |some a=>match findIn K (.ref a) (Str.ofString y.m)with
  |some (some (.ref f))=>some ⟨DF K f,isFn K (.ref f),Bh K a⟩
  |_=>none
 |none=>none
noncomputable def Az (y:Snd.Mt):Option MV:=some ⟨KP (Str.ofString y.m) (Str.ofString y.qual) y.x.st,true,Nk⟩
theorem Go{K:Frag}{y:Snd.Mt}(e:OS K y=Az y):∃ a f fd,nsIn K mainGlobals (Str.ofString y.C)=some (some (.ref a))/\Fun K (Str.ofString y.m) (Str.ofString y.qual) y.x.st f fd/\Meth K a (Str.ofString y.m) f/\Cls K a:=by
 unfold OS at e;split at e
 .rename_i a ha;split at e
  .rename_i f hf;simp only[Az,Option.some.injEq,MV.mk.injEq]at e;obtain⟨e1,e2,e3⟩:=e;obtain⟨fd,F⟩:=Dl e1;exact⟨a,f,fd,Xu ha,F,⟨hf,e2,F.kp⟩,AN e3⟩
  .cases e
 .cases e
structure QV where
 mks:Bool
 kp:Bool
 cv:CV
 fl:List (Option (Option Value))
 ic:Option (Option Value)×Option (Option Value)×Option Bool×Option Bool
noncomputable def Ac (K:Frag) (fl:List String) (C:String):Option QV:=match XY K C with
 |some a=>some ⟨makesIn K a,keepIn K (.ref a),Bh K a,fl.map fun f=>findIn K (.ref a) (Str.ofString f),(findIn K (.ref a) "__class__",specialIn K (.builtin "object.__class__") "__get__",takesIn K (.builtin "object.__class__"),mroIn K a (.type "object"))⟩
 |none=>none
noncomputable def Ab (fl:List String):Option QV:=some ⟨true,true,Nk,fl.map fun _=>some none,(some (some (.builtin "object.__class__")),some (some (.builtin "getset_descriptor.__get__")),some true,some true)⟩
theorem Cz{K:Frag}{fl:List String}{C:String}(e:Ac K fl C=Ab fl):∃ a,nsIn K mainGlobals (Str.ofString C)=some (some (.ref a))/\makesIn K a=true/\keepIn K (.ref a)=true/\Cls K a/\(∀ f∈fl,NoAttr K a (Str.ofString f))/\Snd.IC K a:=by
 unfold Ac at e;split at e
 .rename_i a ha;simp only[Ab,Option.some.injEq,QV.mk.injEq,Prod.mk.injEq]at e;obtain⟨e1,e2,e3,e4,e5,e6,e7,e8⟩:=e;exact⟨a,Xu ha,e1,e2,AN e3,fun f hf=>List.map_inj_left.mp e4 f hf,⟨e5,e6,e7,e8⟩⟩
 .cases e
structure XV where
 ex:Bool
 f1:Option (Option Value)
 f2:Option (Option Value)
 f3:Option (Option Value)
 m1:Option Bool
 m2:Option Bool
 ci:Bool
 ve:Option Bool
 ks:List (Option (Option Bool×Option Bool))
noncomputable def Ao (K:Frag) (xs:List String) (C:String):Option XV:=match XY K C with
 |some a=>some ⟨excIn K a [.type "ValueError",.type "Exception",.type "BaseException",.type "object"] "ValueError.__new__",findIn K (.ref a) "__getattribute__",findIn K (.ref a) "__getattr__",findIn K (.ref a) "__class__",mroIn K a (.type "object"),mroIn K a (.type "BaseException"),(clsIn K a).isSome,kitOne K (.ref a) (.type "ValueError"),("ShutError" :: xs).map fun T=>(XY K T).map fun D=>(kitOne K (.ref a) (.ref D),exmOne K (.ref a) (.ref D))⟩
 |none=>none
noncomputable def AH (xs:List String) (C:String):Option XV:=some ⟨true,some (some (.builtin "BaseException.__getattribute__")),some none,some (some (.builtin "object.__class__")),some true,some true,true,some true,("ShutError" :: xs).map fun T=>some (some (Own.excSub C T),some (Own.excSub C T))⟩
theorem U9 {K:Frag}{xs:List String}{C:String}(e:Ao K xs C=AH xs C):∃ a,nsIn K mainGlobals (Str.ofString C)=some (some (.ref a))/\excIn K a [.type "ValueError",.type "Exception",.type "BaseException",.type "object"] "ValueError.__new__" = true/\XCls K a/\kitOne K (.ref a) (.type "ValueError")=some true/\
  ∀ T∈"ShutError" :: xs,∃ D,nsIn K mainGlobals (Str.ofString T)=some (some (.ref D))/\kitOne K (.ref a) (.ref D)=some (Own.excSub C T)/\exmOne K (.ref a) (.ref D)=some (Own.excSub C T):=by
 unfold Ao at e;split at e
 .rename_i a ha;simp only[AH,Option.some.injEq,XV.mk.injEq]at e;obtain⟨e1,e2,e3,e4,e5,e6,e7,e8,e9⟩:=e;refine⟨a,Xu ha,e1,⟨e2,e3,e4,e5,e6,e7⟩,e8,fun T hT=>?_⟩;have:=List.map_inj_left.mp e9 T hT;cases z:XY K T with
  |none=>rw[z]at this;cases this
  |some D =>rw[z]at this;simp only[Option.map_some,Option.some.injEq,Prod.mk.injEq]at this;exact⟨D,Xu z,this.1,this.2⟩
 .cases e
structure View where
 fs:List (Option (FuncData×Bool×Bool))
 ms:List (Option MV)
 cl:List (Option QV)
 xs:List (Option XV)
 ok:Bool
noncomputable def view (T:Snd.Tb) (K:Frag):View:=⟨T.fs.map fun p=>Aq K (Str.ofString p.1),T.ms.map (OS K),T.cl.map (Ac K T.fl),T.xs.map (Ao K T.xs),T.cs.all (AB K)&&Snd.blts.all (C3 K)⟩
noncomputable def due (T:Snd.Tb):View:=⟨T.fs.map fun p=>U8 (Str.ofString p.1) p.2.st,T.ms.map Az,T.cl.map fun _=>Ab T.fl,T.xs.map (AH T.xs),true⟩
noncomputable def hook (T:Snd.Tb):Hook where
 α:=View
 obs:=fun s=>view T (Zw s.heap)
 val:=fun _=>due T
 says:=fun _ h=>∃ g:Heap,view T (Zw g)=due T/\∀ b o,g.get? b=some o->h.get? b=some o
 of:=fun _ s e=>⟨s.heap,e,fun _ _ x=>x⟩
 keeps:=fun _ _ _ ⟨g,e,k⟩ k2=>⟨g,e,fun b o x=>k2 b o (k b o x)⟩
def Bd (nm qual:Str) (x:Snd.Ds):Prop:=∀ (kV doc pm:Value) (an:Option Addr) (cdv ct:Value) (us:List Value),us.length=x.ps.length->bindArgs (fnOf nm qual (Z5 x.st) (ZC x.st) (Zk x.st) .none kV doc pm an cdv ct) ⟨us,[]⟩=pure (x.ps.zip us)
noncomputable def BU (T:Snd.Tb):Bool:=T.cl.all fun C=>T.ms.any fun y=>y.C==C&&y.m == "__init__"
theorem law_walk{l:OpenLaw}{q:Program}{loose:List Str}{XP:(Str->Option Value)->Heap->Prop}{d:DefRec}{T:Snd.Tb}{pg:Own.Pg}{k:Nat}{xl:Snd.Ds}
  (hn:l.most=some 63) (hdf:d.params.defaults=[]) (hdn:d.name=Str.ofString "law") (hr:Room (2*(k+1)) callerA) (hlaw:("law",xl)∈T.fs) (hps:xl.ps=[Str.ofString "script"]) (hin:BU T=true)
  (tab_pg:∀ f x,(f,x)∈T.fs->pg f=some x.d) (tab_pm:∀ y,y∈T.ms->pg (y.C ++ "." ++ y.m)=some y.x.d) (tab_ok:∀ f x,(f,x)∈T.fs->x.Ok T) (tab_om:∀ y,y∈T.ms->y.x.Ok T)
  (tab_bd:∀ f x,(f,x)∈T.fs->Bd (Str.ofString f) (Str.ofString f) x) (tab_bm:∀ y,y∈T.ms->Bd (Str.ofString y.m) (Str.ofString y.qual) y.x)
  (ok:∀ ns:List Int,ns.length<=63->Own.wF pg (k+1) "law" [.scr ns] (fun _=>none) (fun v _=>v=.bl true) fun _ _=>False) :
  WalkO q loose XP (hook T).says l.row.toRowW d [] (fun f vs=>PySem.call f vs):=by
 refine BV (n:=63) (k:=2*(k+1)) (x:=Str.ofString "script") (CX:=fun w=>CX1 l.prog w) hn (by decide) hdf hr (fun w mg fa h Y G hmg=>?_) fun _ _ _ _ _ ⟨_,_,_,_,_,z⟩=>z;obtain⟨g,e,keep⟩:=Y;have X:(Zw g).In h:=fun a o z=>keep a o (Mm z);simp only[view,due,View.mk.injEq]at e;obtain⟨e1,e3,e4,e5,e2⟩:=e;rw[bAq,List.all_eq_true,List.all_eq_true]at e2
 let i:Snd.Inf:=⟨Zw g,fun C a=>T.cl.contains C=true/\mg (Str.ofString C)=some (.ref a),fun C=>T.cl.contains C,fun C a=>T.xs.contains C=true/\mg (Str.ofString C)=some (.ref a)⟩
 have hF:∀ f x,(f,x)∈T.fs->∃ fa fd,Fun (Zw g) (Str.ofString f) (Str.ofString f) x.st fa fd/\mg (Str.ofString f)=some (.ref fa):=fun f x hx=>by obtain⟨fa,fd,F,z⟩:=Fg (List.map_inj_left.mp e1 (f,x) hx);exact⟨fa,fd,F,mg_of X G z⟩
 have hcl:∀ C a,i.cl C a->makesIn (Zw g) a=true/\keepIn (Zw g) (.ref a)=true/\Cls (Zw g) a/\(∀ f∈T.fl,NoAttr (Zw g) a (Str.ofString f))/\Snd.IC (Zw g) a:=fun C a ⟨hc,hm⟩=>by obtain⟨b,z,q⟩:=Cz (List.map_inj_left.mp e4 C (List.contains_iff_mem.mp hc));have:=mg_of X G z;rw[hm]at this;cases this;exact q
 have hms:∀ y,y∈T.ms->∃ a f,Snd.Mst i mg y a f/\Cls i.K a:=fun y hy=>by obtain⟨a,f,fd,z,F,M,A⟩:=Go (List.map_inj_left.mp e3 y hy);exact⟨a,f,⟨mg_of X G z,⟨fd,F,F.binds (tab_bm y hy)⟩,M⟩,A⟩
 have hxc:∀ C a,i.xc C a->excIn (Zw g) a [.type "ValueError",.type "Exception",.type "BaseException",.type "object"] "ValueError.__new__" = true/\XCls (Zw g) a/\kitOne (Zw g) (.ref a) (.type "ValueError")=some true/\
   ∀ T'∈"ShutError" :: T.xs,∃ D,nsIn (Zw g) mainGlobals (Str.ofString T')=some (some (.ref D))/\kitOne (Zw g) (.ref a) (.ref D)=some (Own.excSub C T')/\exmOne (Zw g) (.ref a) (.ref D)=some (Own.excSub C T'):=fun C a ⟨hc,hm⟩=>by
  obtain⟨b,z,q⟩:=U9 (List.map_inj_left.mp e5 C (List.contains_iff_mem.mp hc));have:=mg_of X G z;rw[hm]at this;cases this;exact q
 have mod:∀ base:Heap,(Zw g).In base->Snd.Modu mg base i T:=fun base Xb =>
  { bl:=fun y hy=>by
      have:=e2.2 y hy
      unfold C3 at this
      split at this
      . rename_i z;exact mg_none_of X G z
      . cases this
    cst:=fun y v hv=>by
      have:=e2.1 _ (XX hv)
      unfold AB at this
      split at this
      . rename_i u z
        obtain⟨x,r,rv⟩:=OW 4 u v this
        exact⟨u,x,mg_of X G z,r,rv⟩
      . cases this
    A:=⟨fun C a _ z=>(hcl C a z).2.2.1,fun C a z=>(hcl C a z).2.2.2.2,fun C a b z y=>by have:=z.2.symm.trans y.2;cases this;rfl⟩
    F:=fun f hf=>⟨fun C a z=>(hcl C a z).2.2.2.1 f (List.contains_iff_mem.mp hf)⟩
    cl:=fun C a z=>z.2
    mkc:=fun C hC=>by
      obtain⟨a,z,_⟩:=Cz (List.map_inj_left.mp e4 C (List.contains_iff_mem.mp hC))
      have hi:i.cl C a:=⟨hC,mg_of X G z⟩
      obtain⟨y,hy,e⟩:=List.any_eq_true.mp (List.all_eq_true.mp hin C (List.contains_iff_mem.mp hC))
      rw[bAq]at e
      obtain⟨b,f,S,A⟩:=hms y hy
      have h1:=eq_of_beq e.1
      have h2:=eq_of_beq e.2
      have hb:=S.cl
      rw[h1,hi.2]at hb
      cases hb
      refine⟨a,y,f,hC,hi,⟨(hcl C a hi).1,?_,S.at_.fn,(hcl C a hi).2.1⟩,hy,h1,h2,S⟩
      have:=S.at_.at_
      rw[h2]at this
      exact this
    fs:=fun f x hx=>by
      obtain⟨fa,fd,F,m⟩:=hF f x hx
      exact⟨fa,fd,_,F,m,F.binds (tab_bd f x hx)⟩
    ms:=hms
    xc:=fun _ C a z=>⟨(hxc C a z).2.1,(hxc C a z).2.2.1⟩
    rs:=fun _ C hC=>by
      obtain⟨a,z,q1,_⟩:=U9 (List.map_inj_left.mp e5 C (List.contains_iff_mem.mp hC))
      exact⟨a,⟨hC,mg_of X G z⟩,E0 Xb (mg_of X G z) q1⟩
    kn:=fun hne T' hT=>by
      have hT2:T'∈"ShutError" :: T.xs:=by
        rcases (Bool.or_eq_true ..).mp hT with z|z
        . exact .tail _ (List.contains_iff_mem.mp z)
        . cases eq_of_beq z;exact .head _
      obtain⟨C0,hC0⟩:=List.exists_mem_of_ne_nil _ hne
      obtain⟨a0,z0,_,_,_,q0⟩:=U9 (List.map_inj_left.mp e5 C0 hC0)
      obtain⟨D,zD,_⟩:=q0 T' hT2
      refine⟨D,mg_of X G zD,fun C a z=>?_⟩
      obtain⟨D2,z2,k1,k2⟩:=(hxc C a z).2.2.2 T' hT2
      rw[zD]at z2
      cases z2
      exact⟨k1,fun e=>by rw[k2,e]⟩ }
 obtain⟨fl,fd,F,m⟩:=hF "law" xl hlaw;have ef:=hmg.symm.trans (hdn▸m);cases ef;refine⟨Zw g,Snd.spF i pg (k+1) "law",X,⟨fd,fun s u=>?_,fun base Xb _=>?_⟩,fun H a ns hl hO hS=>?_⟩
 .have B:=F.ex;obtain⟨oc,od,kV,dc,pm,an,cdv,ct,sl,rfl,lk,hcd⟩:=B;have:=tab_bd "law" xl hlaw kV dc pm an cdv ct [u] (by rw[hps];rfl);rw[hps]at this;exact .of_eq this
 .have M:=mod base Xb;have:=Snd.fn_succ (i:=i) (pr:=l.prog) (wd:=w) (base:=base) (mg:=mg) (P:=pg) (n:=k) M (Snd.held_all M tab_pg tab_pm tab_ok tab_om k) F (tab_pg "law" xl hlaw) (tab_ok "law" xl hlaw);rw[hps]at this;exact this
 .refine⟨[.scr ns],fun _=>none,fun v _=>v=.bl true,fun _ _=>False,.cons (.scr ?_) .nil,fun _ _ e=>(by cases e),ok ns hl,?_,?_⟩
  .rcases hS with(h|⟨o,h⟩)|h
   .rcases hO a with z|⟨o,xs,z⟩
    .rw[h]at z;cases z
    .rw[h]at z;cases z
   .exact .inl ⟨o,h⟩
   .exact .inr h
  .intro v G' H' x _ _ r e;subst e;exact r.bl_inv
  .rintro cls d H' ⟨_,_,_,_,_,_,_,z⟩;exact z
end Hd
set_option maxRecDepth 20000
set_option maxHeartbeats 2000000
namespace Own
abbrev B0 (P:Pg) (n:Nat) (d:Fn) (e:Env) (h:Hs) (Q:Q1) (X:XQ):Prop:=wSs (wF P n) d.body e h (fun _ g=>Q .non g) Q (fun _ _=>False) (fun _ _=>False) fun _ c g=>X c g
variable {P:Pg}{n:Nat}{a0 a1 a2 a3 a4 a5 a6 a7:Val}{h:Hs}{Q:Q1}{X:XQ}
noncomputable abbrev Pk:Fn:={ ar:=1,sz:=1,body:=(.cons .never
    .nil) }
noncomputable abbrev Pj:Fn:={ ar:=2,sz:=5,body:=(.cons (.set (.one 2) (.lst .nil))
    (.cons (.for (.many [3,4]) (.enum (.idx (.var 0) (.cst (.int 1)))) (.cons (.ite (.val (.cmp .isin (.var 1) (.slc (.var 4) .none (.some (.cst (.int 2)))))) (.cons (.expr (.bm .append (.var 2) (.cons (.tup (.cons (.var 3) (.cons (.call "far_end" (.cons (.var 4) (.cons (.var 1) .nil))) (.cons (.idx (.var 4) (.cst (.int 2))) .nil)))) .nil)))
    .nil) .nil)
    .nil))
    (.cons (.ret (.var 2))
    .nil))) }
noncomputable abbrev PB:Fn:={ ar:=2,sz:=2,body:=(.cons (.ret (.ife (.val (.cmp .eq (.idx (.var 0) (.cst (.int 0))) (.var 1))) (.idx (.var 0) (.cst (.int 1))) (.idx (.var 0) (.cst (.int 0)))))
    .nil) }
noncomputable abbrev LJ:Fn:={ ar:=5,sz:=8,body:=(.cons (.setFld (.var 0) "number" (.var 1))
    (.cons (.setFld (.var 0) "life" (.var 2))
    (.cons (.setFld (.var 0) "age_let_go" (.var 4))
    (.cons (.setFld (.var 0) "ties_by_place" (.dct .nil))
    (.cons (.for (.many [5,6,7]) (.seq (.var 3)) (.cons (.setIdx (.fld (.var 0) "ties_by_place") (.var 5) (.tup (.cons (.var 6) (.cons (.var 7) .nil))))
    .nil))
    (.cons (.setFld (.var 0) "held_by_place" (.dct .nil))
    (.cons (.setFld (.var 0) "label_now" (.tup (.cons (.var 1) (.cons (.cst (.int 0)) (.cons (.cst .non) (.cons (.cst .non) .nil))))))
    (.cons (.setFld (.var 0) "version" (.cst (.int 0)))
    (.cons (.setFld (.var 0) "ticks_had" (.cst (.int 0)))
    .nil))))))))) }
noncomputable abbrev LI:Fn:={ ar:=1,sz:=1,body:=(.cons (.expr (.call "_wall" (.cons (.cst (.int 0)) .nil)))
    .nil) }
noncomputable abbrev LN:Fn:={ ar:=1,sz:=1,body:=(.cons (.ret (.fld (.var 0) "label_now"))
    .nil) }
noncomputable abbrev LF:Fn:={ ar:=1,sz:=1,body:=(.cons (.ret (.tup (.cons (.fld (.var 0) "life") (.cons (.fld (.var 0) "version") .nil))))
    .nil) }
noncomputable abbrev LW:Fn:={ ar:=2,sz:=2,body:=(.cons (.ret (.bm .dget (.fld (.var 0) "held_by_place") (.cons (.var 1) .nil)))
    .nil) }
noncomputable abbrev LL:Fn:={ ar:=4,sz:=4,body:=(.cons (.expr (.call "_wall" (.cons (.cst (.int 1)) .nil)))
    .nil) }
noncomputable abbrev LZ:Fn:={ ar:=2,sz:=2,body:=(.cons (.expr (.bm .dpopD (.fld (.var 0) "ties_by_place") (.cons (.var 1) (.cons (.cst .non) .nil))))
    (.cons (.expr (.bm .dpopD (.fld (.var 0) "held_by_place") (.cons (.var 1) (.cons (.cst .non) .nil))))
    .nil)) }
noncomputable abbrev LX:Fn:={ ar:=3,sz:=3,body:=(.cons (.expr (.call "_wall" (.cons (.cst (.int 2)) .nil)))
    .nil) }
noncomputable abbrev LH:Fn:={ ar:=1,sz:=1,body:=(.cons (.expr (.call "_wall" (.cons (.cst (.int 3)) .nil)))
    .nil) }
noncomputable abbrev LO:Fn:={ ar:=1,sz:=1,body:=(.cons (.expr (.call "_wall" (.cons (.cst (.int 4)) .nil)))
    .nil) }
noncomputable abbrev LE:Fn:={ ar:=1,sz:=1,body:=(.cons (.expr (.call "_wall" (.cons (.cst (.int 5)) .nil)))
    .nil) }
noncomputable abbrev LG:Fn:={ ar:=2,sz:=2,body:=(.cons (.expr (.call "_wall" (.cons (.cst (.int 6)) .nil)))
    .nil) }
noncomputable abbrev LU:Fn:={ ar:=2,sz:=2,body:=(.cons (.expr (.call "_wall" (.cons (.cst (.int 7)) .nil)))
    .nil) }
noncomputable abbrev LM:Fn:={ ar:=2,sz:=3,body:=(.cons (.set (.one 2) (.meth "Bridge" "held" (.var 0) (.cons (.var 1) .nil)))
    (.cons (.ret (.and (.cmp .isnot (.var 2) (.cst .non)) (.cmp .eq (.idx (.idx (.var 2) (.cst (.int 0))) (.glob "RESTS" (.int 5))) (.meth "Bridge" "stamp" (.var 0) .nil))))
    .nil)) }
noncomputable abbrev LK:Fn:={ ar:=2,sz:=3,body:=(.cons (.set (.one 2) (.meth "Bridge" "held" (.var 0) (.cons (.var 1) .nil)))
    (.cons (.ite (.or (.val (.cmp .is (.var 2) (.cst .non))) (.val (.cmp .ne (.idx (.idx (.var 2) (.cst (.int 0))) (.glob "AGREES" (.int 6))) (.meth "Bridge" "stamp" (.var 0) .nil)))) (.cons (.ret (.cst (.bl false)))
    .nil) .nil)
    (.cons (.ret (.cmp .eq (.idx (.idx (.var 2) (.cst (.int 0))) (.glob "STAMP" (.int 1))) (.idx (.fld (.var 0) "label_now") (.cst (.int 3)))))
    .nil))) }
noncomputable abbrev LY:Fn:={ ar:=2,sz:=2,body:=(.cons (.ite (.val (.cmp .notin (.var 1) (.fld (.var 0) "ties_by_place"))) (.cons (.ret (.cst (.str "down")))
    .nil) .nil)
    (.cons (.ite (.val (.cmp .eq (.var 1) (.idx (.fld (.var 0) "label_now") (.cst (.int 2))))) (.cons (.ret (.ife (.val (.meth "Bridge" "is_agreed_to" (.var 0) (.cons (.var 1) .nil))) (.cst (.str "child")) (.cst (.str "shut"))))
    .nil) .nil)
    (.cons (.ret (.ife (.val (.meth "Bridge" "is_rested_on" (.var 0) (.cons (.var 1) .nil))) (.cst (.str "parent")) (.cst (.str "shut"))))
    .nil))) }
noncomputable abbrev L7:Fn:={ ar:=3,sz:=4,body:=(.cons (.setFld (.var 0) "net_made_of" (.var 1))
    (.cons (.setFld (.var 0) "greatest_age" (.var 2))
    (.cons (.setFld (.var 0) "lives" (.dct .nil))
    (.cons (.setFld (.var 0) "standing" (.dct .nil))
    (.cons (.setFld (.var 0) "ties_fallen" (.dct .nil))
    (.cons (.setFld (.var 0) "letters_on_road" (.lst .nil))
    (.cons (.for (.one 3) (.seq (.idx (.var 1) (.cst (.int 0)))) (.cons (.setIdx (.fld (.var 0) "lives") (.var 3) (.cst (.int 0)))
    (.cons (.setIdx (.fld (.var 0) "standing") (.var 3) (.make "Bridge" (.cons (.var 3) (.cons (.cst (.int 0)) (.cons (.call "neighbours" (.cons (.var 1) (.cons (.var 3) .nil))) (.cons (.var 2) .nil))))))
    .nil)))
    .nil))))))) }
noncomputable abbrev PU:Fn:={ ar:=1,sz:=1,body:=(.cons (.expr (.call "_wall" (.cons (.cst (.int 8)) .nil)))
    .nil) }
noncomputable abbrev L9:Fn:={ ar:=1,sz:=1,body:=(.cons (.ret (.fld (.var 0) "net_made_of"))
    .nil) }
noncomputable abbrev L5:Fn:={ ar:=1,sz:=1,body:=(.cons (.ret (.fld (.var 0) "greatest_age"))
    .nil) }
noncomputable abbrev PZ:Fn:={ ar:=1,sz:=1,body:=(.cons (.ret (.bi .list (.cons (.fld (.var 0) "letters_on_road") .nil)))
    .nil) }
noncomputable abbrev LV:Fn:={ ar:=1,sz:=2,body:=(.cons (.set (.one 1) (.comp [0] 1 (.one 0) (.seq (.idx (.fld (.var 0) "net_made_of") (.cst (.int 0)))) (.val (.cmp .notin (.var 0) (.fld (.var 1) "standing"))) (.var 0)))
    (.cons (.ret (.tup (.cons (.bi .tuple (.cons (.var 1) .nil)) (.cons (.bi .tuple (.cons (.bi .sortedI (.cons (.fld (.var 0) "ties_fallen") .nil)) .nil)) .nil))))
    .nil)) }
noncomputable abbrev L8:Fn:={ ar:=1,sz:=1,body:=(.cons (.ret (.comp [0] 1 (.one 0) (.seq (.bi .sortedI (.cons (.fld (.var 0) "standing") .nil))) .yes (.tup (.cons (.var 0) (.cons (.meth "Bridge" "label" (.idx (.fld (.var 1) "standing") (.var 0)) .nil) .nil)))))
    .nil) }
noncomputable abbrev PK:Fn:={ ar:=1,sz:=1,body:=(.cons (.ret (.comp [0] 1 (.one 0) (.seq (.bi .sortedI (.cons (.fld (.var 0) "standing") .nil))) .yes (.tup (.cons (.var 0) (.cons (.meth "Bridge" "stamp" (.idx (.fld (.var 1) "standing") (.var 0)) .nil) .nil)))))
    .nil) }
noncomputable abbrev LR:Fn:={ ar:=2,sz:=2,body:=(.cons (.ret (.bm .dget (.fld (.var 0) "standing") (.cons (.var 1) .nil)))
    .nil) }
noncomputable abbrev L1:Fn:={ ar:=2,sz:=5,body:=(.cons (.ite (.not (.val (.meth "Yard" "has_tie" (.var 0) (.cons (.var 1) .nil)))) (.cons (.ret (.tup (.cons (.cst (.str "down")) (.cons (.cst (.str "down")) .nil))))
    .nil) .nil)
    (.cons (.set (.many [2,3,4]) (.idx (.idx (.fld (.var 0) "net_made_of") (.cst (.int 1))) (.var 1)))
    (.cons (.ret (.tup (.cons (.meth "Yard" "end_at" (.var 0) (.cons (.var 2) (.cons (.var 1) .nil))) (.cons (.meth "Yard" "end_at" (.var 0) (.cons (.var 3) (.cons (.var 1) .nil))) .nil))))
    .nil))) }
noncomputable abbrev L0:Fn:={ ar:=3,sz:=3,body:=(.cons (.ite (.val (.cmp .notin (.var 1) (.fld (.var 0) "standing"))) (.cons (.ret (.cst (.str "down")))
    .nil) .nil)
    (.cons (.ret (.meth "Bridge" "end" (.idx (.fld (.var 0) "standing") (.var 1)) (.cons (.var 2) .nil)))
    .nil)) }
noncomputable abbrev L6:Fn:={ ar:=2,sz:=2,body:=(.cons (.ret (.chain .le .lt (.cst (.int 0)) (.var 1) (.bi .len (.cons (.idx (.fld (.var 0) "net_made_of") (.cst (.int 1))) .nil))))
    .nil) }
noncomputable abbrev LT:Fn:={ ar:=2,sz:=2,body:=(.cons (.expr (.call "_wall" (.cons (.cst (.int 9)) .nil)))
    .nil) }
noncomputable abbrev PN:Fn:={ ar:=2,sz:=2,body:=(.cons (.expr (.call "_wall" (.cons (.cst (.int 10)) .nil)))
    .nil) }
noncomputable abbrev LS:Fn:={ ar:=2,sz:=2,body:=(.cons (.expr (.call "_wall" (.cons (.cst (.int 11)) .nil)))
    .nil) }
noncomputable abbrev PM:Fn:={ ar:=2,sz:=2,body:=(.cons (.expr (.call "_wall" (.cons (.cst (.int 12)) .nil)))
    .nil) }
noncomputable abbrev L3:Fn:={ ar:=2,sz:=2,body:=(.cons (.expr (.call "_wall" (.cons (.cst (.int 13)) .nil)))
    .nil) }
noncomputable abbrev L4:Fn:={ ar:=2,sz:=2,body:=(.cons (.expr (.call "_wall" (.cons (.cst (.int 14)) .nil)))
    .nil) }
noncomputable abbrev LP:Fn:={ ar:=2,sz:=2,body:=(.cons (.expr (.call "_wall" (.cons (.cst (.int 15)) .nil)))
    .nil) }
noncomputable abbrev LQ:Fn:={ ar:=2,sz:=2,body:=(.cons (.expr (.call "_wall" (.cons (.cst (.int 16)) .nil)))
    .nil) }
noncomputable abbrev PX:Fn:={ ar:=2,sz:=2,body:=(.cons (.expr (.call "_wall" (.cons (.cst (.int 17)) .nil)))
    .nil) }
noncomputable abbrev PY:Fn:={ ar:=2,sz:=2,body:=(.cons (.expr (.call "_wall" (.cons (.cst (.int 18)) .nil)))
    .nil) }
noncomputable abbrev PP:Fn:={ ar:=2,sz:=2,body:=(.cons (.ite (.val (.cmp .lt (.var 1) (.bi .len (.cons (.var 0) .nil)))) (.cons (.ret (.idx (.var 0) (.var 1)))
    .nil) .nil)
    (.cons (.ret (.cst (.int 0)))
    .nil)) }
noncomputable abbrev PV:Fn:={ ar:=2,sz:=3,body:=(.cons (.set (.one 2) (.bin .mod (.bin .mul (.bin .add (.bin .add (.bin .mod (.var 0) (.cst (.int 2147483647))) (.bin .mul (.cst (.int 7919)) (.var 1))) (.cst (.int 1))) (.cst (.int 48271))) (.cst (.int 2147483647))))
    (.cons (.set (.one 2) (.bin .mod (.bin .mul (.var 2) (.var 2)) (.cst (.int 2147483629))))
    (.cons (.ret (.bin .fdiv (.bin .mod (.bin .mul (.bin .add (.var 2) (.bin .mul (.cst (.int 40692)) (.bin .add (.var 1) (.cst (.int 3))))) (.cst (.int 69621))) (.cst (.int 2147483579))) (.cst (.int 8))))
    .nil))) }
noncomputable abbrev PQ:Fn:={ ar:=2,sz:=6,body:=(.cons (.set (.one 2) (.bin .mod (.var 0) (.bin .mul (.bin .mul (.bin .pow (.cst (.int 10)) (.cst (.int 60))) (.bin .pow (.cst (.int 10)) (.cst (.int 60)))) (.bin .pow (.cst (.int 10)) (.cst (.int 30))))))
    (.cons (.set (.one 3) (.cmp .ge (.var 2) (.bin .pow (.cst (.int 10)) (.cst (.int 18)))))
    (.cons (.set (.one 4) (.lst .nil))
    (.cons (.for (.one 5) (.range (.var 1)) (.cons (.ite (.and (.val (.var 3)) (.val (.cmp .gt (.var 2) (.cst (.int 0))))) (.cons (.expr (.bm .append (.var 4) (.cons (.bin .mod (.var 2) (.cst (.int 1000))) .nil)))
    (.cons (.set (.one 2) (.bin .fdiv (.var 2) (.cst (.int 1000))))
    .nil)) (.cons (.expr (.bm .append (.var 4) (.cons (.call "_law_mixed" (.cons (.var 0) (.cons (.var 5) .nil))) .nil)))
    .nil))
    .nil))
    (.cons (.ret (.var 4))
    .nil))))) }
noncomputable abbrev PH:Fn:={ ar:=1,sz:=3,body:=(.cons (.set (.one 1) (.bin .add (.cst (.int 2)) (.bin .mod (.idx (.var 0) (.cst (.int 0))) (.cst (.int 4)))))
    (.cons (.ite (.val (.cmp .eq (.bin .mod (.bin .fdiv (.idx (.var 0) (.cst (.int 0))) (.cst (.int 4))) (.cst (.int 8))) (.cst (.int 7)))) (.cons (.set (.one 1) (.bin .add (.cst (.int 1)) (.bin .mod (.bin .fdiv (.idx (.var 0) (.cst (.int 0))) (.cst (.int 32))) (.cst (.int 10)))))
    .nil) .nil)
    (.cons (.set (.one 2) (.idx (.lst (.cons (.cst (.int 1000)) (.cons (.cst (.int 12)) (.cons (.cst (.int 1000)) (.cons (.cst (.int 30)) .nil))))) (.bin .mod (.idx (.var 0) (.cst (.int 1))) (.cst (.int 4)))))
    (.cons (.ret (.bi .sortedSet (.cons (.comp [2] 1 (.one 0) (.seq (.slc (.var 0) (.some (.cst (.int 4))) (.some (.bin .add (.cst (.int 4)) (.var 1))))) .yes (.bin .mod (.var 0) (.var 1))) .nil)))
    .nil)))) }
noncomputable abbrev Pw:Fn:={ ar:=3,sz:=8,body:=(.cons (.set (.one 3) (.bi .len (.cons (.var 0) .nil)))
    (.cons (.set (.one 4) (.bin .mod (.idx (.var 1) (.cst (.int 0))) (.var 3)))
    (.cons (.set (.one 5) (.bin .mod (.bin .add (.bin .add (.var 4) (.cst (.int 1))) (.bin .mod (.idx (.var 1) (.cst (.int 1))) (.bin .sub (.var 3) (.cst (.int 1))))) (.var 3)))
    (.cons (.ite (.and (.val (.cmp .lt (.bin .add (.var 2) (.cst (.int 1))) (.var 3))) (.val (.cmp .eq (.bin .mod (.bin .fdiv (.idx (.var 1) (.cst (.int 0))) (.cst (.int 10))) (.cst (.int 2))) (.cst (.int 0))))) (.cons (.set (.one 4) (.bin .add (.var 2) (.cst (.int 1))))
    (.cons (.set (.one 5) (.bin .mod (.idx (.var 1) (.cst (.int 1))) (.bin .add (.var 2) (.cst (.int 1)))))
    .nil)) .nil)
    (.cons (.set (.one 6) (.bin .add (.cst (.int 1)) (.bin .mod (.idx (.var 1) (.cst (.int 2))) (.cst (.int 1000)))))
    (.cons (.ite (.val (.cmp .eq (.bin .mod (.bin .fdiv (.idx (.var 1) (.cst (.int 0))) (.cst (.int 20))) (.cst (.int 2))) (.cst (.int 0)))) (.cons (.set (.one 6) (.bin .add (.cst (.int 1)) (.bin .mod (.idx (.var 1) (.cst (.int 2))) (.cst (.int 3)))))
    .nil) .nil)
    (.cons (.set (.one 7) (.bi .sortedI (.cons (.lst (.cons (.idx (.var 0) (.var 4)) (.cons (.idx (.var 0) (.var 5)) .nil))) .nil)))
    (.cons (.ret (.tup (.cons (.idx (.var 7) (.cst (.int 0))) (.cons (.idx (.var 7) (.cst (.int 1))) (.cons (.var 6) .nil)))))
    .nil)))))))) }
noncomputable abbrev Pz:Fn:={ ar:=2,sz:=7,body:=(.cons (.set (.one 2) (.call "_law_draws" (.cons (.var 0) (.cons (.cst (.int 14)) .nil))))
    (.cons (.set (.one 3) (.call "_law_bridges" (.cons (.var 2) .nil)))
    (.cons (.set (.one 4) (.bin .mod (.idx (.var 2) (.cst (.int 2))) (.cst (.int 8))))
    (.cons (.ite (.val (.cmp .eq (.bin .mod (.bin .fdiv (.idx (.var 2) (.cst (.int 2))) (.cst (.int 8))) (.cst (.int 7))) (.cst (.int 6)))) (.cons (.set (.one 4) (.bin .mod (.bin .fdiv (.idx (.var 2) (.cst (.int 2))) (.cst (.int 56))) (.cst (.int 17))))
    .nil) .nil)
    (.cons (.ite (.val (.cmp .eq (.bi .len (.cons (.var 3) .nil)) (.cst (.int 1)))) (.cons (.set (.one 4) (.cst (.int 0)))
    .nil) .nil)
    (.cons (.set (.one 5) (.call "_law_draws" (.cons (.var 1) (.cons (.bin .mul (.cst (.int 3)) (.var 4)) .nil))))
    (.cons (.set (.one 6) (.comp [3,5] 1 (.one 0) (.range (.var 4)) .yes (.call "_law_tie" (.cons (.var 1) (.cons (.slc (.var 2) (.some (.bin .mul (.cst (.int 3)) (.var 0))) (.some (.bin .add (.bin .mul (.cst (.int 3)) (.var 0)) (.cst (.int 3))))) (.cons (.var 0) .nil))))))
    (.cons (.ret (.tup (.cons (.bi .tuple (.cons (.var 3) .nil)) (.cons (.bi .tuple (.cons (.var 6) .nil)) .nil))))
    .nil)))))))) }
noncomputable abbrev PR:Fn:={ ar:=1,sz:=2,body:=(.cons (.set (.one 1) (.call "_law_draws" (.cons (.var 0) (.cons (.cst (.int 4)) .nil))))
    (.cons (.ite (.val (.cmp .eq (.bin .mod (.bin .fdiv (.idx (.var 1) (.cst (.int 1))) (.cst (.int 4))) (.cst (.int 2))) (.cst (.int 0)))) (.cons (.ret (.bin .add (.cst (.int 4)) (.bin .mod (.idx (.var 1) (.cst (.int 3))) (.cst (.int 8)))))
    .nil) .nil)
    (.cons (.ret (.bin .add (.cst (.int 4)) (.bin .mod (.idx (.var 1) (.cst (.int 3))) (.cst (.int 197)))))
    .nil))) }
noncomputable abbrev Py:Fn:={ ar:=2,sz:=3,body:=(.cons (.ite (.val (.cmp .is (.var 1) (.cst .non))) (.cons (.ret (.cmp .is (.var 0) (.cst .non)))
    .nil) .nil)
    (.cons (.ite (.val (.bi (.isi ["str"]) (.cons (.var 1) .nil))) (.cons (.ret (.and (.bi (.isi ["str"]) (.cons (.var 0) .nil)) (.cmp .eq (.var 0) (.var 1))))
    .nil) .nil)
    (.cons (.ite (.val (.bi (.isi ["int"]) (.cons (.var 1) .nil))) (.cons (.ret (.and (.bi (.isi ["int"]) (.cons (.var 0) .nil)) (.and (.not (.bi (.isi ["bool"]) (.cons (.var 0) .nil))) (.cmp .eq (.var 0) (.var 1)))))
    .nil) .nil)
    (.cons (.ite (.val (.bi (.isi ["tuple"]) (.cons (.var 1) .nil))) (.cons (.ite (.not (.val (.bi (.isi ["tuple"]) (.cons (.var 0) .nil)))) (.cons (.ret (.cst (.bl false)))
    .nil) .nil)
    .nil) (.cons (.ite (.not (.val (.bi (.isi ["list"]) (.cons (.var 0) .nil)))) (.cons (.ret (.cst (.bl false)))
    .nil) .nil)
    .nil))
    (.cons (.ite (.val (.cmp .ne (.bi .len (.cons (.var 0) .nil)) (.bi .len (.cons (.var 1) .nil)))) (.cons (.ret (.cst (.bl false)))
    .nil) .nil)
    (.cons (.for (.one 2) (.range (.bi .len (.cons (.var 1) .nil))) (.cons (.ite (.not (.val (.call "_law_same" (.cons (.idx (.var 0) (.var 2)) (.cons (.idx (.var 1) (.var 2)) .nil))))) (.cons (.ret (.cst (.bl false)))
    .nil) .nil)
    .nil))
    (.cons (.ret (.cst (.bl true)))
    .nil))))))) }
noncomputable abbrev PF:Fn:={ ar:=3,sz:=7,body:=(.cons (.set (.one 3) (.meth "Yard" "labels" (.var 0) .nil))
    (.cons (.set (.one 4) (.comp [] 1 (.one 0) (.seq (.idx (.var 1) (.cst (.int 0)))) .yes (.tup (.cons (.var 0) (.cons (.tup (.cons (.var 0) (.cons (.cst (.int 0)) (.cons (.cst .non) (.cons (.cst .non) .nil))))) .nil)))))
    (.cons (.ite (.not (.val (.call "_law_same" (.cons (.var 3) (.cons (.var 4) .nil))))) (.cons (.ret (.cst (.bl false)))
    .nil) .nil)
    (.cons (.expr (.bm .clear (.var 3) .nil))
    (.cons (.set (.one 5) (.meth "Yard" "stamps" (.var 0) .nil))
    (.cons (.ite (.not (.val (.call "_law_same" (.cons (.var 5) (.cons (.comp [] 1 (.one 0) (.seq (.idx (.var 1) (.cst (.int 0)))) .yes (.tup (.cons (.var 0) (.cons (.tup (.cons (.cst (.int 0)) (.cons (.cst (.int 0)) .nil))) .nil)))) .nil))))) (.cons (.ret (.cst (.bl false)))
    .nil) .nil)
    (.cons (.expr (.bm .append (.var 5) (.cons (.idx (.var 5) (.cst (.int 0))) .nil)))
    (.cons (.set (.one 6) (.meth "Yard" "road" (.var 0) .nil))
    (.cons (.ite (.or (.not (.val (.call "_law_same" (.cons (.var 6) (.cons (.lst .nil) .nil))))) (.not (.val (.call "_law_same" (.cons (.meth "Yard" "down" (.var 0) .nil) (.cons (.tup (.cons (.tup .nil) (.cons (.tup .nil) .nil))) .nil)))))) (.cons (.ret (.cst (.bl false)))
    .nil) .nil)
    (.cons (.expr (.bm .append (.var 6) (.cons (.var 1) .nil)))
    (.cons (.ite (.or (.not (.val (.call "_law_same" (.cons (.meth "Yard" "net" (.var 0) .nil) (.cons (.var 1) .nil))))) (.not (.val (.call "_law_same" (.cons (.meth "Yard" "greatest" (.var 0) .nil) (.cons (.var 2) .nil)))))) (.cons (.ret (.cst (.bl false)))
    .nil) .nil)
    (.cons (.ret (.call "_law_same" (.cons (.meth "Yard" "labels" (.var 0) .nil) (.cons (.var 4) .nil))))
    .nil)))))))))))) }
noncomputable abbrev Px:Fn:={ ar:=2,sz:=3,body:=(.cons (.for (.one 2) (.range (.bi .len (.cons (.idx (.var 1) (.cst (.int 1))) .nil))) (.cons (.ite (.not (.val (.call "_law_same" (.cons (.meth "Yard" "ends" (.var 0) (.cons (.var 2) .nil)) (.cons (.tup (.cons (.cst (.str "shut")) (.cons (.cst (.str "shut")) .nil))) .nil))))) (.cons (.ret (.cst (.bl false)))
    .nil) .nil)
    .nil))
    (.cons (.ret (.cst (.bl true)))
    .nil)) }
noncomputable abbrev PL:Fn:={ ar:=3,sz:=5,body:=(.cons (.for (.one 3) (.seq (.var 2)) (.cons (.set (.one 4) (.meth "Yard" "bridge" (.var 0) (.cons (.var 3) .nil)))
    (.cons (.ite (.val (.cmp .notin (.var 3) (.idx (.var 1) (.cst (.int 0))))) (.cons (.ite (.val (.cmp .isnot (.var 4) (.cst .non))) (.cons (.ret (.cst (.bl false)))
    .nil) .nil)
    .nil) (.cons (.ite (.not (.val (.bi (.isc "Bridge") (.cons (.var 4) .nil)))) (.cons (.ret (.cst (.bl false)))
    .nil) .nil)
    (.cons (.ite (.or (.not (.val (.call "_law_same" (.cons (.meth "Bridge" "label" (.var 4) .nil) (.cons (.tup (.cons (.var 3) (.cons (.cst (.int 0)) (.cons (.cst .non) (.cons (.cst .non) .nil))))) .nil))))) (.not (.val (.call "_law_same" (.cons (.meth "Bridge" "stamp" (.var 4) .nil) (.cons (.tup (.cons (.cst (.int 0)) (.cons (.cst (.int 0)) .nil))) .nil)))))) (.cons (.ret (.cst (.bl false)))
    .nil) .nil)
    .nil)))
    .nil)))
    (.cons (.ret (.cst (.bl true)))
    .nil)) }
noncomputable abbrev PD:Fn:={ ar:=1,sz:=9,body:=(.cons (.set (.one 2) (.comp [0] 1 (.one 0) (.seq (.lst (.cons (.cst (.int 0)) (.cons (.cst (.int 2)) .nil)))) .yes (.call "_law_net" (.cons (.call "_law_cell_at" (.cons (.var 1) (.cons (.var 0) .nil))) (.cons (.call "_law_cell_at" (.cons (.var 1) (.cons (.bin .add (.var 0) (.cst (.int 1))) .nil))) .nil)))))
    (.cons (.set (.one 3) (.comp [0] 1 (.one 0) (.seq (.lst (.cons (.cst (.int 0)) (.cons (.cst (.int 2)) .nil)))) .yes (.call "_law_greatest" (.cons (.call "_law_cell_at" (.cons (.var 1) (.cons (.var 0) .nil))) .nil))))
    (.cons (.set (.one 4) (.lst (.cons (.make "Yard" (.cons (.idx (.var 2) (.cst (.int 0))) (.cons (.idx (.var 3) (.cst (.int 0))) .nil))) (.cons (.make "Yard" (.cons (.idx (.var 2) (.cst (.int 1))) (.cons (.idx (.var 3) (.cst (.int 1))) .nil))) .nil))))
    (.cons (.set (.one 5) (.comp [] 1 (.one 0) (.seq (.slc (.var 0) (.some (.cst (.int 4))) (.some (.cst (.int 24))))) .yes (.bin .mod (.var 0) (.cst (.int 1002)))))
    (.cons (.set (.one 6) (.bin .mod (.bin .fdiv (.call "_law_cell_at" (.cons (.var 0) (.cons (.cst (.int 4)) .nil))) (.cst (.int 1002))) (.cst (.int 2))))
    (.cons (.for (.one 7) (.range (.cst (.int 4))) (.cons (.set (.one 1) (.idx (.lst (.cons (.bin .mod (.var 7) (.cst (.int 2))) (.cons (.bin .sub (.cst (.int 1)) (.bin .mod (.var 7) (.cst (.int 2)))) .nil))) (.var 6)))
    (.cons (.set (.one 8) (.bin .add (.bin .add (.bi .list (.cons (.idx (.idx (.var 2) (.cst (.int 0))) (.cst (.int 0))) .nil)) (.bi .list (.cons (.idx (.idx (.var 2) (.cst (.int 1))) (.cst (.int 0))) .nil))) (.var 5)))
    (.cons (.ite (.and (.val (.cmp .eq (.var 6) (.cst (.int 0)))) (.not (.val (.call "_law_begins" (.cons (.idx (.var 4) (.var 1)) (.cons (.idx (.var 2) (.var 1)) (.cons (.idx (.var 3) (.var 1)) .nil))))))) (.cons (.ret (.cst (.bl false)))
    .nil) .nil)
    (.cons (.ite (.or (.not (.val (.call "_law_shut" (.cons (.idx (.var 4) (.var 1)) (.cons (.idx (.var 2) (.var 1)) .nil))))) (.not (.val (.call "_law_bridges_there" (.cons (.idx (.var 4) (.var 1)) (.cons (.idx (.var 2) (.var 1)) (.cons (.var 8) .nil))))))) (.cons (.ret (.cst (.bl false)))
    .nil) .nil)
    (.cons (.ite (.and (.val (.cmp .eq (.var 6) (.cst (.int 1)))) (.not (.val (.call "_law_begins" (.cons (.idx (.var 4) (.var 1)) (.cons (.idx (.var 2) (.var 1)) (.cons (.idx (.var 3) (.var 1)) .nil))))))) (.cons (.ret (.cst (.bl false)))
    .nil) .nil)
    .nil))))))
    (.cons (.ret (.cst (.bl true)))
    .nil))))))) }
class Al (P:Pg):Prop where
 c0:P "_wall" = some Pk
 c1:P "neighbours" = some Pj
 c2:P "far_end" = some PB
 c3:P "Bridge.__init__" = some LJ
 c4:P "Bridge.twin" = some LI
 c5:P "Bridge.label" = some LN
 c6:P "Bridge.stamp" = some LF
 c7:P "Bridge.held" = some LW
 c8:P "Bridge.up" = some LL
 c9:P "Bridge.down" = some LZ
 c10:P "Bridge.hear" = some LX
 c11:P "Bridge.tick" = some LH
 c12:P "Bridge.let_grow_older" = some LO
 c13:P "Bridge.reckon_label" = some LE
 c14:P "Bridge.take_label" = some LG
 c15:P "Bridge.letter_over" = some LU
 c16:P "Bridge.is_rested_on" = some LM
 c17:P "Bridge.is_agreed_to" = some LK
 c18:P "Bridge.end" = some LY
 c19:P "Yard.__init__" = some L7
 c20:P "Yard.twin" = some PU
 c21:P "Yard.net" = some L9
 c22:P "Yard.greatest" = some L5
 c23:P "Yard.road" = some PZ
 c24:P "Yard.down" = some LV
 c25:P "Yard.labels" = some L8
 c26:P "Yard.stamps" = some PK
 c27:P "Yard.bridge" = some LR
 c28:P "Yard.ends" = some L1
 c29:P "Yard.end_at" = some L0
 c30:P "Yard.has_tie" = some L6
 c31:P "Yard.deed" = some LT
 c32:P "Yard.tick_of" = some PN
 c33:P "Yard.come" = some LS
 c34:P "Yard.take_off" = some PM
 c35:P "Yard.fall_of_bridge" = some L3
 c36:P "Yard.fall_of_tie" = some L4
 c37:P "Yard.back_of_bridge" = some LP
 c38:P "Yard.back_of_tie" = some LQ
 c39:P "Yard.set_ties_of" = some PX
 c40:P "Yard.set_tie" = some PY
 c41:P "_law_cell_at" = some PP
 c42:P "_law_mixed" = some PV
 c43:P "_law_draws" = some PQ
 c44:P "_law_bridges" = some PH
 c45:P "_law_tie" = some Pw
 c46:P "_law_net" = some Pz
 c47:P "_law_greatest" = some PR
 c48:P "_law_same" = some Py
 c49:P "_law_begins" = some PF
 c50:P "_law_shut" = some Px
 c51:P "_law_bridges_there" = some PL
 c52:P "law" = some PD
theorem Jq [I:Al P] (q:B0 P n Pj [some a0,some a1,none,none,none] h Q X):wF P (n+1) "neighbours" [a0,a1] h Q X:=Zo I.c1 rfl q
theorem NT [I:Al P] (q:B0 P n PB [some a0,some a1] h Q X):wF P (n+1) "far_end" [a0,a1] h Q X:=Zo I.c2 rfl q
theorem Wy [I:Al P] (q:B0 P n LJ [some a0,some a1,some a2,some a3,some a4,none,none,none] h Q X):wF P (n+1) "Bridge.__init__" [a0,a1,a2,a3,a4] h Q X:=Zo I.c3 rfl q
theorem Wg [I:Al P] (q:B0 P n LN [some a0] h Q X):wF P (n+1) "Bridge.label" [a0] h Q X:=Zo I.c5 rfl q
theorem X8 [I:Al P] (q:B0 P n LF [some a0] h Q X):wF P (n+1) "Bridge.stamp" [a0] h Q X:=Zo I.c6 rfl q
theorem Wo [I:Al P] (q:B0 P n LW [some a0,some a1] h Q X):wF P (n+1) "Bridge.held" [a0,a1] h Q X:=Zo I.c7 rfl q
theorem Yb [I:Al P] (q:B0 P n LM [some a0,some a1,none] h Q X):wF P (n+1) "Bridge.is_rested_on" [a0,a1] h Q X:=Zo I.c16 rfl q
theorem JN [I:Al P] (q:B0 P n LY [some a0,some a1] h Q X):wF P (n+1) "Bridge.end" [a0,a1] h Q X:=Zo I.c18 rfl q
theorem JX [I:Al P] (q:B0 P n L7 [some a0,some a1,some a2,none] h Q X):wF P (n+1) "Yard.__init__" [a0,a1,a2] h Q X:=Zo I.c19 rfl q
theorem K2 [I:Al P] (q:B0 P n L9 [some a0] h Q X):wF P (n+1) "Yard.net" [a0] h Q X:=Zo I.c21 rfl q
theorem Xn [I:Al P] (q:B0 P n L5 [some a0] h Q X):wF P (n+1) "Yard.greatest" [a0] h Q X:=Zo I.c22 rfl q
theorem Kk [I:Al P] (q:B0 P n PZ [some a0] h Q X):wF P (n+1) "Yard.road" [a0] h Q X:=Zo I.c23 rfl q
theorem JS [I:Al P] (q:B0 P n LV [some a0,none] h Q X):wF P (n+1) "Yard.down" [a0] h Q X:=Zo I.c24 rfl q
theorem WF [I:Al P] (q:B0 P n L8 [some a0] h Q X):wF P (n+1) "Yard.labels" [a0] h Q X:=Zo I.c25 rfl q
theorem Wt [I:Al P] (q:B0 P n PK [some a0] h Q X):wF P (n+1) "Yard.stamps" [a0] h Q X:=Zo I.c26 rfl q
theorem WC [I:Al P] (q:B0 P n LR [some a0,some a1] h Q X):wF P (n+1) "Yard.bridge" [a0,a1] h Q X:=Zo I.c27 rfl q
theorem KI [I:Al P] (q:B0 P n L1 [some a0,some a1,none,none,none] h Q X):wF P (n+1) "Yard.ends" [a0,a1] h Q X:=Zo I.c28 rfl q
theorem WD [I:Al P] (q:B0 P n L0 [some a0,some a1,some a2] h Q X):wF P (n+1) "Yard.end_at" [a0,a1,a2] h Q X:=Zo I.c29 rfl q
theorem XG [I:Al P] (q:B0 P n L6 [some a0,some a1] h Q X):wF P (n+1) "Yard.has_tie" [a0,a1] h Q X:=Zo I.c30 rfl q
theorem Wp [I:Al P] (q:B0 P n PP [some a0,some a1] h Q X):wF P (n+1) "_law_cell_at" [a0,a1] h Q X:=Zo I.c41 rfl q
theorem Kd [I:Al P] (q:B0 P n PV [some a0,some a1,none] h Q X):wF P (n+1) "_law_mixed" [a0,a1] h Q X:=Zo I.c42 rfl q
theorem KA [I:Al P] (q:B0 P n PQ [some a0,some a1,none,none,none,none] h Q X):wF P (n+1) "_law_draws" [a0,a1] h Q X:=Zo I.c43 rfl q
theorem Wz [I:Al P] (q:B0 P n PH [some a0,none,none] h Q X):wF P (n+1) "_law_bridges" [a0] h Q X:=Zo I.c44 rfl q
theorem NJ [I:Al P] (q:B0 P n Pw [some a0,some a1,some a2,none,none,none,none,none] h Q X):wF P (n+1) "_law_tie" [a0,a1,a2] h Q X:=Zo I.c45 rfl q
theorem Ov [I:Al P] (q:B0 P n Pz [some a0,some a1,none,none,none,none,none] h Q X):wF P (n+1) "_law_net" [a0,a1] h Q X:=Zo I.c46 rfl q
theorem XZ [I:Al P] (q:B0 P n PR [some a0,none] h Q X):wF P (n+1) "_law_greatest" [a0] h Q X:=Zo I.c47 rfl q
theorem ZO [I:Al P] (q:B0 P n Py [some a0,some a1,none] h Q X):wF P (n+1) "_law_same" [a0,a1] h Q X:=Zo I.c48 rfl q
theorem Jd [I:Al P] (q:B0 P n PF [some a0,some a1,some a2,none,none,none,none] h Q X):wF P (n+1) "_law_begins" [a0,a1,a2] h Q X:=Zo I.c49 rfl q
theorem K3 [I:Al P] (q:B0 P n Px [some a0,some a1,none] h Q X):wF P (n+1) "_law_shut" [a0,a1] h Q X:=Zo I.c50 rfl q
theorem Yp [I:Al P] (q:B0 P n PL [some a0,some a1,some a2,none,none] h Q X):wF P (n+1) "_law_bridges_there" [a0,a1,a2] h Q X:=Zo I.c51 rfl q
theorem Hg [I:Al P] (q:B0 P n PD [some a0,none,none,none,none,none,none,none,none] h Q X):wF P (n+1) "law" [a0] h Q X:=Zo I.c52 rfl q
local macro_rules | `(tactic| walk_at "ne")=>`(tactic| first | assumption | (apply Ne.symm; assumption) | ((with_reducible apply ne_none'); (· assumption); (· walk_at "look")) | (apply Ne.symm; (with_reducible apply ne_none'); (· assumption); (· walk_at "look")))
local macro_rules | `(tactic| walk_at "look")=>`(tactic| first | assumption | with_reducible exact upd_same | ((with_reducible apply upd_ne'); (· walk_at "ne"); (· walk_at "look")) | ((with_reducible apply Ext.get); (· assumption); (· walk_at "look")) | ((with_reducible apply ExtB.get); (· assumption); (· walk_at "ne"); (· walk_at "look")))
local macro_rules | `(tactic| walk_at "ar")=>`(tactic| first | decide | omega | assumption | (simp only [qB,List.length_nil]; decide))
local macro_rules | `(tactic| walk_at "mul")=>`(tactic| first | exact .inl (.inr (by omega)) | exact .inl (.inl (by omega)) | exact .inr ⟨by decide,by decide⟩)
local macro_rules | `(tactic| walk_at "setl")=>`(tactic| first | (simp only [List.zip_cons_cons,List.zip_nil_right,List.zip_nil_left,List.foldl_cons,List.foldl_nil,List.set_cons_succ,List.set_cons_zero]; done) | (simp only [List.zip_cons_cons,List.zip_nil_right,List.zip_nil_left,List.foldl_cons,List.foldl_nil,List.set_cons_succ,List.set_cons_zero]; exact rfl) | exact rfl)
local macro_rules | `(tactic| walk_at "py1")=>do
 let a<-#[`ss_cons,`ss_nil,`s_set,`s_ret,`s_ite,`s_expr,`s_for,`s_setIdx,`s_setFld,`e_cst,`e_bin,`e_idx,`e_cmp,`e_call,`e_bi,`e_tup,`e_lst,`e_meth,`e_fld,`e_bm,`e_slc,`e_and,`e_not,`e_chain,`e_make,`e_dct0,`e_dct,`e_ife,`e_comp,`a_cons,`a_nil,`o_none,`o_some,`t_val,`t_not,`t_and,`t_or,`t_yes,`i_seq,`i_range,`i_enum,`b_add,`b_sub,`g_int,`g_bl,`g_ref,`g_tbl,`c_lt,`c_gt,`c_le,`c_ge,`c_eqI,`c_neI,`c_eqS,`c_isN,`c_notN,`ln_scr,`ln_tup,`ls_tup,`sl_scr,`it_tup].mapM fun n=>`(tactic| refine $(Lean.mkIdent n) ?_)
 let c<-#[`ln_lst,`tp_lst,`ls_lst,`sl_lst,`it_lst].mapM fun n=>`(tactic| ((with_reducible apply $(Lean.mkIdent n)); (· walk_at "look")))
 `(tactic| first
 |(with_reducible first $[| $a:tactic]*)
 |((with_reducible apply FV);(· exact rfl))
 |((with_reducible apply D0);(· walk_at "setl"))|((with_reducible apply Dw);(· (simp only[bindL,List.set_cons_succ,List.set_cons_zero];exact rfl)))|((with_reducible apply b_mul);(· walk_at "mul"))|((with_reducible apply b_fdiv);(· walk_at "ar"))|((with_reducible apply b_mod);(· walk_at "ar"))|((with_reducible apply Fq);(· walk_at "ar");(· simp only[Int.reduceToNat,Int.reducePow];exact rfl))|((with_reducible apply K4);(· walk_at "look");(· walk_at "look");(· first|(simp only[List.cons_append,List.nil_append,qB,List.length_nil];decide)|omega))
 |((with_reducible apply ix_tup);(· exact rfl))|((with_reducible apply Ze);(· walk_at "look");(· exact rfl))
 |((with_reducible apply Z4);(· walk_at "look");(· walk_at "ar"))|((with_reducible apply DY);(· walk_at "look");(· exact rfl))|((with_reducible apply DJ);(· walk_at "look");(· exact rfl))
 |((with_reducible apply U2);(· exact rfl))|((with_reducible apply sl_tup);(· decide))
 | ((with_reducible apply E3);(· first | exact .inl rfl | exact .inr (.inl rfl) | simp);(· walk_at "look")) | ((with_reducible apply FI);(· first | exact rfl | simp);(· walk_at "look")) | ((with_reducible apply Wl);(· walk_at "look");(· walk_at "ar")) | (first $[| $c:tactic]*))
local macro_rules | `(tactic| walk_at "py")=>`(tactic| repeat walk_at "py1")
section
variable {α:Type}(val:α->Val)
noncomputable def ZS (kvs:List (Int×α)):List (Val×Val):=kvs.map fun p=>(.int p.1,val p.2)
noncomputable def Wx (kvs:List (Int×α)) (k:Int) (v:α):List (Int×α):=if(kvs.lookup k).isSome then kvs.map (fun p=>if p.1=k then(k,v)else p)else kvs++[(k,v)]
variable {val}
theorem JK(a b:Int):(Val.int a==Val.int b)=decide (a=b):=by
 by_cases e:a=b
 .subst e;simp
 .rw[qP e];exact beq_eq_false_iff_ne.mpr fun z=>e (by injection z)
theorem Kc(kvs:List (Int×α))(k:Int):lookK (ZS val kvs) (.int k)=(kvs.lookup k).map val:=by
 induction kvs with
 |nil=>rfl
 |cons p r ih =>
  unfold lookK ZS at ih ⊢;rw[qG,List.find?_cons,qO,JK];by_cases e:p.1=k
  .have:(k==p.1)=true:=by simp[e]
   simp[e]
  .have h2:(k==p.1)=false:=by simpa using fun z=>e z.symm
   rw[qP e,h2];exact ih
theorem BY(kvs:List (Int×α))(k:Int):hasK (ZS val kvs) (.int k)=(kvs.lookup k).isSome:=by
 induction kvs with
 |nil=>rfl
 |cons p r ih =>
  unfold hasK ZS at ih ⊢;rw[qG,List.any_cons,qO,JK];by_cases e:p.1=k
  .simp[e]
  .have h2:(k==p.1)=false:=by simpa using fun z=>e z.symm
   rw[qP e,h2];exact ih
theorem Jl(kvs:List (Int×α))(k:Int)(v:α):putK (ZS val kvs) (.int k) (val v)=ZS val (Wx kvs k v):=by
 unfold putK Wx;rw[BY];split
 .unfold ZS;rw[List.map_map,List.map_map];refine List.map_congr_left fun p _=>?_;simp only[Function.comp_apply,JK];by_cases e:p.1=k
  .simp[e]
  .simp[e]
 .unfold ZS;rw[qJ];rfl
theorem OY(ns:List Int):intsOf (ns.map Val.int)=some ns:=by
 induction ns with
 |nil=>rfl
 |cons n ns ih=>show(intsOf (ns.map Val.int)).map _=_;rw[ih];rfl
theorem Ay(kvs:List (Int×α)):keysOf (ZS val kvs)=some (kvs.map (·.1)):=by unfold keysOf ZS;rw[List.map_map];exact(congrArg intsOf (List.map_map (f:=fun p:Int×α=>p.1) (g:=Val.int) (l:=kvs)).symm).trans (OY _)
theorem DD(kvs:List (Int×α)):(ZS val kvs).length=kvs.length:=by unfold ZS;rw[qA]
theorem Kn{kvs:List (Int×α)}{k:Int}{v:α}(h:kvs.lookup k=some v):(k,v)∈kvs:=by
 induction kvs with
 |nil=>cases h
 |cons p r ih =>
  rw[qO]at h;by_cases e:k=p.1
  .have:(k==p.1)=true:=by simp[e]
   rw[this]at h;cases h;rw[e];exact qT
  .have:(k==p.1)=false:=by simpa using e
   rw[this]at h;exact qI _ (ih h)
theorem NZ{kvs:List (Int×α)}{k:Int}(h:k∈kvs.map (·.1)):∃ v,kvs.lookup k=some v:=by
 induction kvs with
 |nil=>cases h
 |cons p r ih =>
  rw[qO];by_cases e:k=p.1
  .have:(k==p.1)=true:=by simp[e]
   rw[this];exact⟨_,rfl⟩
  .have:(k==p.1)=false:=by simpa using e
   rw[this];rw[qG,qE]at h;exact ih (h.resolve_left e)
theorem JO{kvs:List (Int×α)}(nd:(kvs.map (·.1)).Nodup){k:Int}{v:α}(h:(k,v)∈kvs):kvs.lookup k=some v:=by
 induction kvs with
 |nil=>cases h
 |cons p r ih =>
  rw[qG,List.nodup_cons]at nd;rw[qO];rcases qE.mp h with e|h
  .subst e;simp
  .have:k≠p.1:=fun z=>nd.1 (z▸qY (f:=(·.1)) h);have:(k==p.1)=false:=by simpa using this
   rw[this];exact ih nd.2 h
theorem M3{kvs:List (Int×α)}{k:Int}(v:α)(h:k∉kvs.map (·.1)):Wx kvs k v=kvs++[(k,v)]:=by
 unfold Wx;have:kvs.lookup k=none:=by
  cases e:kvs.lookup k with
  |none=>rfl
  |some w=>exact absurd (qY (f:=(·.1)) (Kn e)) h
 rw[this];rfl
end
noncomputable abbrev Pi:=Int×Int
noncomputable abbrev pV (p:Pi):Val:=.tup [.int p.1,.int p.2]
noncomputable def oV:Option Pi->Val
 |none=>.non
 |some p=>pV p
structure L where
 num:Pi
 st:Pi
 root:Int
 cost:Int
 age:Int
 rests:Option Pi
 agrees:Option Pi
noncomputable abbrev L.v (l:L):Val:=.tup [pV l.num,pV l.st,.int l.root,.int l.cost,.int l.age,oV l.rests,oV l.agrees]
noncomputable abbrev E9 (t:Int×Int):Val:=.tup [.int t.1,.int t.2]
noncomputable abbrev hdV (t:L×Int):Val:=.tup [t.1.v,.int t.2]
structure Lab where
 root:Int
 cost:Int
 up:Option (Int×Pi)
 deriving DecidableEq
noncomputable def upV:Option (Int×Pi)->Val
 |none=>.non
 |some p=>.int p.1
noncomputable def rsV:Option (Int×Pi)->Val
 |none=>.non
 |some p=>pV p.2
noncomputable abbrev Lab.v (l:Lab):Val:=.tup [.int l.root,.int l.cost,upV l.up,rsV l.up]
structure Br where
 number:Int
 life:Int
 most:Int
 ties:List (Int×(Int×Int))
 held:List (Int×(L×Int))
 label:Lab
 version:Int
 count:Int
noncomputable def Br.fs (B:Br) (t d:Ad):List (String×Val):=[("number",.int B.number),("life",.int B.life),("age_let_go",.int B.most),("ties_by_place",.ref t),("held_by_place",.ref d),("label_now",B.label.v),("version",.int B.version),("ticks_had",.int B.count)]
structure BrAt (h:Hs) (b t d:Ad) (B:Br):Prop where
 ins:h b=some (.ins "Bridge" [("number",.int B.number),("life",.int B.life),("age_let_go",.int B.most),("ties_by_place",.ref t),("held_by_place",.ref d),("label_now",B.label.v),("version",.int B.version),("ticks_had",.int B.count)])
 ties:h t=some (.dct (ZS E9 B.ties))
 held:h d=some (.dct (ZS hdV B.held))
 ne:t≠d
theorem UJ{h:Hs}{a b:Ad}{o u:Ob}(ha:h a=some o)(hb:h b=some u)(ne:o≠u):a≠b:=fun e=>by subst e;rw[ha]at hb;exact ne (Option.some.inj hb)
theorem BrAt.nbt{h:Hs}{b t d:Ad}{B:Br}(x:BrAt h b t d B):b≠t:=UJ x.ins x.ties nofun
theorem BrAt.nbd{h:Hs}{b t d:Ad}{B:Br}(x:BrAt h b t d B):b≠d:=UJ x.ins x.held nofun
structure Ex (S:List Ad) (h g:Hs):Prop where
 get:∀ {a:Ad}{o:Ob},a∉S->h a=some o->g a=some o
theorem Ex.refl{h:Hs}{S:List Ad}:Ex S h h:=⟨fun _ e=>e⟩
theorem Ex.trans{h g k:Hs}{S:List Ad}(e:Ex S h g)(f:Ex S g k):Ex S h k:=⟨fun n x=>f.get n (e.get n x)⟩
theorem Ex.of{h g:Hs}{S:List Ad}(e:Ext h g):Ex S h g:=⟨fun _ x=>e.get x⟩
theorem Ex.upd{h:Hs}{S:List Ad}{w:Ad}{o:Ob}(m:w∈S):Ex S h (upd h w o):=⟨fun {a _} n x=>by rw[upd_ne (fun e:a=w=>n (by rw[e];exact m))];exact x⟩
theorem Ex.sub{h g:Hs}{S T:List Ad}(e:Ex S h g)(m:∀ a∈S,a∈T):Ex T h g:=⟨fun n x=>e.get (fun z=>n (m _ z)) x⟩
theorem Ex.ext{h g:Hs}(e:Ex [] h g):Ext h g:=⟨fun x=>e.get (by simp) x⟩
theorem Ex.none{h g:Hs}{b p:Ad}(e:Ex [b] h g)(hb:g b≠none)(hp:g p=none):h p=none:=by
 cases z:h p with
 |none=>rfl
 |some o =>
  by_cases hpb:p=b
  .subst hpb;exact absurd hp hb
  .rw[e.get (by simpa using hpb) z]at hp;cases hp
theorem BrAt.keep{h g:Hs}{b t d:Ad}{B:Br}{S:List Ad}(x:BrAt h b t d B)(e:Ex S h g)(hb:b∉S)(ht:t∉S)(hd:d∉S):BrAt g b t d B:=⟨e.get hb x.ins,e.get ht x.ties,e.get hd x.held,x.ne⟩
theorem BrAt.ext{h g:Hs}{b t d:Ad}{B:Br}(x:BrAt h b t d B)(e:Ext h g):BrAt g b t d B:=⟨e.get x.ins,e.get x.ties,e.get x.held,x.ne⟩
theorem nw{h:Hs}{o:Ob}{Q:Q1}(q:∀ p,h p=none->Q (.ref p) (upd h p o)):new h o Q:=Ju q
theorem Yu{α β:Type}{f:α->β}:∀ {xs:List α}{i:Nat}{q:α},(xs.map f).Nodup->xs[i]?=some q->f q∉(xs.take i).map f
 |[],_,_,_,h=>by simp at h
 |x::xs,0,_,_,_=>by simp
 |x::xs,i+1,q,nd,h=>by
  rw[qG,List.nodup_cons]at nd;have h:xs[i]?=some q:=by simpa using h
  rw[List.take_succ_cons,qG,qE,not_or];exact⟨fun e=>nd.1 (e▸qY (qX h)),Yu nd.2 h⟩
theorem Y5{α:Type}{xs:List α}{i:Nat}{x:α}(h:xs[i]?=some x):xs.take (i+1)=xs.take i++[x]:=by rw[List.take_add_one,h];rfl
theorem Y4{α:Type}{xs:List α}{f:α->Val}{i:Nat}{v:Val}(h:(xs.map f)[i]?=some v):∃ x,xs[i]?=some x/\v=f x:=by rw[qF]at h;obtain⟨x,h1,h2⟩:=qD.mp h;exact⟨x,h1,h2.symm⟩
variable {P:Pg} [Al P] {n:Nat}{h:Hs}{w b t d st a f tt hh:Ad}{S B:Br}{c:Int}{all:List (Int×Int)}{ps:List Int}{Q:Q1}{X:XQ}
theorem Kj (x:BrAt h b t d B) (k:Q B.label.v h):wF P (n+1) "Bridge.label" [.ref b] h Q X:=by obtain⟨hi,ht,hd,hne⟩:=x;refine Wg ?_;walk_at "py";exact k
theorem Kq (x:BrAt h b t d B) (k:Q (pV (B.life,B.version)) h):wF P (n+1) "Bridge.stamp" [.ref b] h Q X:=by obtain⟨hi,ht,hd,hne⟩:=x;refine X8 ?_;walk_at "py";exact k
noncomputable def hdO:Option (L×Int)->Val
 |none=>.non
 |some p=>hdV p
theorem Be {p:Int}(x:BrAt h b t d B) (k:Q (hdO (B.held.lookup p)) h):wF P (n+1) "Bridge.held" [.ref b,.int p] h Q X:=by
 obtain⟨hi,ht,hd,hne⟩:=x;refine Wo ?_;walk_at "py";refine UL (v:=.int p) hd rfl ?_;rw[Kc];cases e:B.held.lookup p with
 |none=>rw[e]at k;exact k
 |some q=>rw[e]at k;exact k
theorem Gv{v u:Val}{c:Bool}{KB:Bool->Prop}(e:eqV h v u=some c)(q:KB c):go (cmpV h .eq v u) KB:=go_of e q
noncomputable def IY (u:Option (Int×Pi)) (p:Int):Bool:=match u with
 |none=>false
 |some q=>decide (p=q.1)
theorem GU(h:Hs)(p:Int)(u:Option (Int×Pi)):eqV h (.int p) (upV u)=some (IY u p):=by
 cases u with
 |none=>rfl
 |some q =>show some (D.eqv (.int p) (.int q.1))=_;rw[M7];rfl
theorem Zn{h:Hs}{o:Ob}{Q:Q1}(q:∀ p g,h p=none->Ext h g->g p=some o->Q (.ref p) g):new h o Q:=Ju fun p hp=>q p _ hp (Ext.new hp) upd_same
theorem YV{α:Type}{xs:List α}{r:Int}{x:α}(r0:0<=r)(e:xs[r.toNat]?=some x):atI xs r=some x:=by have:=(qK.mp e).1;unfold atI ixN;rw[if_pos r0,if_pos (by omega)];exact e
theorem FC{α:Type}{xs:List α}{r:Int}(r0:0<=r)(r1:r<xs.length):∃ x,xs[r.toNat]?=some x/\x∈xs:=by
 have h:r.toNat<xs.length:=by omega
 exact⟨xs[r.toNat],qH h,List.getElem_mem h⟩
theorem Xa{α:Type}{xs:List α}{r:Int}(r0:0<=r)(r1:r<xs.length):∃ x,atI xs r=some x/\x∈xs:=by obtain⟨x,h1,h2⟩:=FC r0 r1;exact⟨x,YV r0 h1,h2⟩
theorem Xf:∀ ns:List Int,intsOf (ns.map .int)=some ns
 |[]=>rfl
 |n::ns=>by rw[qG,intsOf,Xf ns];rfl
theorem WL{x:Int}:∀ {ns:List Int},x∈dedup ns↔x∈ns
 |[]=>by simp[dedup]
 |n::ns=>by rw[dedup,qE,List.mem_filter,WL,qE];by_cases h:x=n<;>simp[h]
theorem KN:∀ (ns:List Int),(dedup ns).length<=ns.length
 |[]=>by simp[dedup]
 |n::ns=>by have:=KN ns;have:=List.length_filter_le (fun y=>y != n) (dedup ns);rw[dedup,qB,qB];omega
theorem Ym{i:Nat}{v:Val}{m:Int}(h:(rangeV 0 m)[i]?=some v):v=.int i/\(i:Int)<m:=by unfold rangeV at h;rw[qF]at h;obtain⟨k,hk,rfl⟩:=qD.mp h;obtain⟨hlt,rfl⟩:=qK.mp hk;rw[List.length_range]at hlt;rw[List.getElem_range];exact⟨by rw[Int.zero_add],by omega⟩
theorem JE{m:Int}:(rangeV 0 m).length=m.toNat:=by unfold rangeV;rw[qA,List.length_range,Int.sub_zero]
def Brs (ns:List Int):Prop:=∀ i∈ns,0<=i/\i<1000
noncomputable abbrev Tie:=Int×Int×Int
noncomputable def trV (t:Tie):Val:=.tup [.int t.1,.int t.2.1,.int t.2.2]
def LOk (ns:List Int) (t:Tie):Prop:=t.1∈ns/\t.2.1∈ns/\t.1<t.2.1/\1<=t.2.2/\t.2.2<=1000
structure NetOk (bs:List Int) (ts:List Tie):Prop where
 one:1<=bs.length
 ten:bs.length<=10
 rng:Brs bs
 up:bs.Pairwise (· < ·)
 sixteen:ts.length<=16
 tie:∀ t∈ts,LOk bs t
noncomputable def ZM (bs:List Int) (ts:List Tie):Val:=.tup [.tup (bs.map .int),.tup (ts.map trV)]
theorem AK{ns:List Int}{i:Int}:i∈sortI ns↔i∈ns:=(List.mergeSort_perm ns _).mem_iff
theorem Np{ns:List Int}(nd:ns.Nodup):(sortI ns).Pairwise (· < ·):=by have p:=List.mergeSort_perm ns fun a b=>decide (a<=b);have s:(sortI ns).Pairwise (fun a b=>decide (a<=b)=true):=List.pairwise_mergeSort (fun a b c h1 h2=>by simp at *;omega) (fun a b=>by simp;omega) ns;have d:(sortI ns).Nodup:=p.nodup_iff.mpr nd;exact(s.and d).imp fun⟨h1,h2⟩=>by simp at h1;omega
theorem Lj{h:Hs}{a:Ad}{ns:List Int}{Q:Q1}(e:h a=some (.lst (ns.map .int)))(m:ns.length<64)(q:new h (.lst ((sortI (dedup ns)).map .int)) Q):(biV h .sortedSet [.ref a]).wp h Q:=wp_new (by show biSortedSet h (.ref a)=_;unfold biSortedSet sortOf;simp only[e,lsOf,Option.bind_some,Xf];rw[if_pos m]) q
theorem Ks:∀ ns:List Int,(dedup ns).Nodup
 |[]=>List.nodup_nil
 |n::ns=>by rw[dedup,List.nodup_cons];refine⟨fun z=>?_,(Ks ns).sublist List.filter_sublist⟩;have:=(List.mem_filter.mp z).2;simp at this
theorem F5(ns:List Int):(sortI (dedup ns)).Pairwise (· < ·):=Np (Ks ns)
theorem FG(ns:List Int):(sortI (dedup ns)).length<=ns.length:=by rw[sortI,List.length_mergeSort];exact KN ns
theorem EB{ns:List Int}(h:1<=ns.length):1<=(sortI (dedup ns)).length:=by
 rw[sortI,List.length_mergeSort];cases ns with
 |nil=>exact absurd h (by decide)
 |cons n ns=>rw[dedup,qB];omega
theorem sd_mem{ns:List Int}{i:Int}:i∈sortI (dedup ns)↔i∈ns:=by rw[AK,WL]
theorem XM(ns:List Int)(lo hi:Option Int):cut (ns.map Val.int) lo hi=(cut ns lo hi).map Val.int:=by unfold cut;rw[qA,List.map_take,List.map_drop]
theorem Mw{α:Type}{xs:List α}{a b:Int}(h0:0<=a)(h1:a<=b):cut xs (some a) (some b)=(xs.drop a.toNat).take (b.toNat - a.toNat):=by
 unfold cut cutAt;dsimp only;rw[if_pos h0,if_pos (by omega)];by_cases h:a.toNat<=xs.length
 .rw[Nat.min_eq_left h];by_cases h2:b.toNat<=xs.length
  .rw[Nat.min_eq_left h2]
  .rw[Nat.min_eq_right (by omega)];rw[List.take_of_length_le (by rw[List.length_drop];omega),List.take_of_length_le (by rw[List.length_drop];omega)]
 .rw[List.drop_eq_nil_of_le (by omega:xs.length<=min a.toNat xs.length),List.drop_eq_nil_of_le (by omega:xs.length<=a.toNat)];simp
theorem Xx {ns:List Int}{k:Nat}(q:∀ c,Q (.int c) h):wF P (n+1) "_law_cell_at" [.scr ns,.int k] h Q X:=by
 refine Wp ?_;walk_at "py";refine ifP (fun hc=>?_) (fun hc=>?_)
 .walk_at "py";have hk:k<ns.length:=by omega
  refine Er (v:=.int ns[k]) ?_ ?_
  .refine YV (by omega) ?_;rw[qF];simp[hk]
  .exact q _
 .walk_at "py";exact q _
theorem Kh {c:Int}{k:Nat}(hk:k<=100) (q:∀ r,0<=r->Q (.int r) h):wF P (n+1) "_law_mixed" [.int c,.int k] h Q X:=by refine Kd ?_;walk_at "py";refine q _ ?_;exact Int.ediv_nonneg (Int.emod_nonneg _ (by decide)) (by decide)
def Nn (ns:List Int):Prop:=∀ x∈ns,0<=x
theorem XI {c:Int}{m:Nat}(hm:m<=100) (q:∀ p (ns:List Int) g,h p=none->Ext h g->g p=some (.lst (ns.map .int))->ns.length=m->Nn ns->Q (.ref p) g):wF P (n+2) "_law_draws" [.int c,.int m] h Q X:=by
 refine KA ?_;walk_at "py";refine Zn fun p g1 hp x1 e1=>?_;walk_at "py";refine⟨⟨by omega,by omega⟩,?_⟩;refine ZK (fun i en g=>∃ r v5 b,∃ ns:List Int,en=[some (.int c),some (.int m),some (.int r),some (.bl b),some (.ref p),v5]/\g p=some (.lst (ns.map .int))/\ns.length=i/\Nn ns/\Ext h g) ⟨_,_,_,[],rfl,e1,rfl,(fun x hx=>absurd hx List.not_mem_nil),x1⟩ (fun _ _ _ _ _=>trivial) ?_ ?_
 .rintro i v en g hv ⟨r,v5,b,ns,rfl,e,hl,hn,x⟩ K hK;obtain⟨rfl,hi⟩:=Ym hv;have put:∀ {y:Int}{r':Int},0<=y->K [some (.int c),some (.int m),some (.int r'),some (.bl b),some (.ref p),some (.int i)] (upd g p (.lst (ns.map Val.int++[.int y]))):=fun {y r'} hy=>by
   refine hK _ _ ⟨_,_,_,ns++[y],rfl,by rw[upd_same,qJ];rfl,by rw[qU,hl];rfl,fun z hz=>?_,⟨fun e=>by rw[upd_ne (Zj e hp)];exact x.get e⟩⟩;rcases q8.mp hz with hz|hz
   .exact hn z hz
   .rw[zH.mp hz];exact hy
  have hlim:(ns.map Val.int).length<lim:=by rw[qA];exact qS (by omega:ns.length<=100) (by decide)
  walk_at "py";refine ifD (fun hc=>?_) (fun hc=>?_)
  .walk_at "py";refine ifP (fun hr=>?_) (fun hr=>?_)
   .walk_at "py";exact put (Int.emod_nonneg _ (by decide))
   .walk_at "py";refine Kh (by omega) fun y hy=>?_;walk_at "py";exact put hy
  .refine ifF rfl ?_;walk_at "py";refine Kh (by omega) fun y hy=>?_;walk_at "py";exact put hy
 .rintro en g ⟨r,v5,b,ns,rfl,e,hl,hn,x⟩;rw[JE]at hl;walk_at "py";exact q p ns g hp x e (by omega) hn
theorem nth{ns:List Int}{i:Nat}(hi:i<ns.length)(hn:Nn ns):∃ x,0<=x/\atI (ns.map Val.int) i=some (.int x):=by refine⟨ns[i],hn _ (List.getElem_mem hi),YV (by omega) ?_⟩;rw[qF];simp[hi]
theorem MA {a:Ad}{ns:List Int}(ea:h a=some (.lst (ns.map .int))) (hl:ns.length=14) (hn:Nn ns) (q:∀ p (bs:List Int) g,h p=none->Ext h g->g p=some (.lst (bs.map .int))->1<=bs.length->bs.length<=10->Brs bs->bs.Pairwise (· < ·)->Q (.ref p) g):wF P (n+1) "_law_bridges" [.ref a] h Q X:=by
 obtain⟨s0,s00,a0⟩:=nth (i:=0) (by omega) hn;obtain⟨s1,s10,a1⟩:=nth (i:=1) (by omega) hn;have fin:∀ m:Int,1<=m->m<=10->∀ {v3:Option Val},wSs (wF P n) (.cons (.set (.one 2) (.idx (.lst (.cons (.cst (.int 1000)) (.cons (.cst (.int 12)) (.cons (.cst (.int 1000)) (.cons (.cst (.int 30)) .nil))))) (.bin .mod (.idx (.var 0) (.cst (.int 1))) (.cst (.int 4))))) (.cons (.ret (.bi .sortedSet (.cons (.comp [2] 1 (.one 0) (.seq (.slc (.var 0) (.some (.cst (.int 4))) (.some (.bin .add (.cst (.int 4)) (.var 1))))) .yes (.bin .mod (.var 0) (.var 1))) .nil))) .nil)) [some (.ref a),some (.int m),v3] h (fun _ g=>Q .non g) Q (fun _ _=>False) (fun _ _=>False) fun _ c g=>X c g:=by
  intro m m1 m2 v3;walk_at "py";refine Zn fun p1 g1 hp1 x1 e1=>?_;walk_at "py";refine Ze (x1.get ea) a1 ?_;walk_at "py";obtain⟨v,ev,hv⟩:=Xa (xs:=[Val.int 1000,.int 12,.int 1000,.int 30]) (r:=s1 % 4) (Int.emod_nonneg _ (by decide)) (Int.emod_lt_of_pos _ (by decide));obtain⟨wd,rfl,w1,w2⟩:∃ wd:Int,v=.int wd/\1<=wd/\wd<=1000:=by simp only[qE,List.not_mem_nil,or_false]at hv;rcases hv with rfl|rfl|rfl|rfl<;>exact⟨_,rfl,by decide,by decide⟩
  refine Ze e1 ev ?_;walk_at "py";refine Zn fun p2 g2 hp2 x2 e2=>?_;rw[XM,Mw (by decide) (by omega)]at e2;have hc:((ns.drop (4:Int).toNat).take ((4+m).toNat - (4:Int).toNat)).length=m.toNat:=by rw[qV,List.length_drop,hl];omega
  generalize (ns.drop (4:Int).toNat).take ((4+m).toNat - (4:Int).toNat)=ks at e2 hc;walk_at "py";refine⟨qS (by rw[qA];omega:_<=10) (by decide),Yl (fun v=>match v with|.int b=>some (.int (b % wd))|_=>none) (lsE e2) (fun v hv K hK=>?_) ?_⟩
  .obtain⟨b,_,rfl⟩:=qZ.mp hv;walk_at "py";refine ifT rfl ?_;walk_at "py";exact hK
  rw[show(ks.map Val.int).filterMap (fun v=>match v with|.int b=>some (.int (b % wd))|_=>none)=(ks.map (· % wd)).map Val.int by rw[List.filterMap_map,List.map_map];exact congrFun (List.filterMap_eq_map' (f:=fun b:Int=>Val.int (b % wd))) ks];refine Zn fun p3 g3 hp3 x3 e3=>?_;walk_at "py";have hk:(ks.map (· % wd)).length=m.toNat:=by rw[qA];exact hc
  refine Lj e3 (by omega) (Zn fun p4 g4 hp4 x4 e4=>?_);have xx:=((x1.trans x2).trans x3).trans x4;have hp0:h p4=none:=by
   cases z:h p4 with
   |none=>rfl
   |some o=>rw[x3.get (x2.get (x1.get z))]at hp4;cases hp4
  refine q p4 _ g4 hp0 xx e4 (EB (by omega)) (zE (FG _) (by omega)) (fun i hi=>?_) (F5 _);obtain⟨b,_,rfl⟩:=qZ.mp (sd_mem.mp hi);exact⟨Int.emod_nonneg _ (by omega),Int.lt_of_lt_of_le (Int.emod_lt_of_pos _ (by omega)) w2⟩
 refine Wz ?_;walk_at "py";refine Ze ea a0 ?_;walk_at "py";refine Ze ea a0 ?_;walk_at "py";refine ifP (fun hc=>?_) (fun hc=>?_)
 .walk_at "py";refine Ze ea a0 ?_
  iterate 6 walk_at "py1"
  refine ss_nil ?_;exact fin _ (by omega) (by omega)
 .refine ss_nil ?_;exact fin _ (by omega) (by omega)
theorem F0{ns:List Int}(nd:ns.Nodup){i j:Int}{a b:Int}(i0:0<=i)(i1:i<ns.length)(j0:0<=j)(j1:j<ns.length)(hij:i≠j)(ea:atI (ns.map Val.int) i=some (.int a))(eb:atI (ns.map Val.int) j=some (.int b)):a≠b:=by
 have hi:i.toNat<ns.length:=by omega
 have hj:j.toNat<ns.length:=by omega
 have e1:=YV (xs:=ns.map Val.int) i0 (x:=.int ns[i.toNat]) (by rw[qF,qH hi];rfl);have e2:=YV (xs:=ns.map Val.int) j0 (x:=.int ns[j.toNat]) (by rw[qF,qH hj];rfl);rw[ea]at e1;rw[eb]at e2;simp only[Option.some.injEq,Val.int.injEq]at e1 e2;rw[e1,e2];intro z;have:=(List.getElem_inj nd).mp z;omega
theorem Ur{a r L:Int}(a0:0<=a)(a1:a<L)(r0:0<=r)(r1:r<L - 1):(a+1+r) % L≠a:=by
 by_cases hc:a+1+r<L
 .rw[Int.emod_eq_of_lt (by omega) hc];omega
 .rw[<-Int.sub_emod_right,Int.emod_eq_of_lt (by omega) (by omega)];omega
theorem GQ(a b:Int):sortI [a,b]=if b<a then [b,a]else [a,b]:=by
 unfold sortI;by_cases h:b<a
 .rw[if_pos h,List.mergeSort];simp[List.MergeSort.Internal.splitInTwo,List.mergeSort,List.merge,Int.not_le.mpr h]
 .rw[if_neg h,List.mergeSort];simp[List.MergeSort.Internal.splitInTwo,List.mergeSort,List.merge,Int.not_lt.mp h]
theorem Cj {pb pt:Ad}{bs th:List Int}{k:Nat}(eb:h pb=some (.lst (bs.map .int))) (l2:2<=bs.length) (l10:bs.length<=10) (nd:bs.Nodup) (et:h pt=some (.lst (th.map .int))) (hl:th.length=3) (hn:Nn th) (q:∀ t g,LOk bs t->Ext h g->Q (trV t) g):wF P (n+1) "_law_tie" [.ref pb,.ref pt,.int k] h Q X:=by
 have hL:(bs.map Val.int).length=bs.length:=qA _;obtain⟨t0,t00,a0⟩:=nth (i:=0) (by omega) hn;obtain⟨t1,t10,a1⟩:=nth (i:=1) (by omega) hn;obtain⟨t2,t20,a2⟩:=nth (i:=2) (by omega) hn;have fin:∀ {one other:Int},0<=one->one<bs.length->0<=other->other<bs.length->one≠other->wSs (wF P n) (.cons (.set (.one 6) (.bin .add (.cst (.int 1)) (.bin .mod (.idx (.var 1) (.cst (.int 2))) (.cst (.int 1000))))) (.cons (.ite (.val (.cmp .eq (.bin .mod (.bin .fdiv (.idx (.var 1) (.cst (.int 0))) (.cst (.int 20))) (.cst (.int 2))) (.cst (.int 0)))) (.cons (.set (.one 6) (.bin .add (.cst (.int 1)) (.bin .mod (.idx (.var 1) (.cst (.int 2))) (.cst (.int 3))))) .nil) .nil) (.cons (.set (.one 7) (.bi .sortedI (.cons (.lst (.cons (.idx (.var 0) (.var 4)) (.cons (.idx (.var 0) (.var 5)) .nil))) .nil))) (.cons (.ret (.tup (.cons (.idx (.var 7) (.cst (.int 0))) (.cons (.idx (.var 7) (.cst (.int 1))) (.cons (.var 6) .nil))))) .nil)))) [some (.ref pb),some (.ref pt),some (.int k),some (.int bs.length),some (.int one),some (.int other),none,none] h (fun _ g=>Q .non g) Q (fun _ _=>False) (fun _ _=>False) fun _ c g=>X c g:=by
  intro one other o0 o1 p0 p1 hne;obtain⟨u1,eu1,hu1⟩:=Xa (xs:=bs.map Val.int) (r:=one) o0 (by omega);obtain⟨i1,hi1,rfl⟩:=qZ.mp hu1;obtain⟨u2,eu2,hu2⟩:=Xa (xs:=bs.map Val.int) (r:=other) p0 (by omega);obtain⟨i2,hi2,rfl⟩:=qZ.mp hu2;have hi:=F0 nd o0 o1 p0 p1 hne eu1 eu2;have last:∀ c:Int,1<=c->c<=1000->wSs (wF P n) (.cons (.set (.one 7) (.bi .sortedI (.cons (.lst (.cons (.idx (.var 0) (.var 4)) (.cons (.idx (.var 0) (.var 5)) .nil))) .nil))) (.cons (.ret (.tup (.cons (.idx (.var 7) (.cst (.int 0))) (.cons (.idx (.var 7) (.cst (.int 1))) (.cons (.var 6) .nil))))) .nil)) [some (.ref pb),some (.ref pt),some (.int k),some (.int bs.length),some (.int one),some (.int other),some (.int c),none] h (fun _ g=>Q .non g) Q (fun _ _=>False) (fun _ _=>False) fun _ c g=>X c g:=by
   intro c c0 c1;walk_at "py";refine Ze eb eu1 ?_;walk_at "py";refine Ze eb eu2 ?_;walk_at "py";refine Zn fun p3 g3 hp3 x3 e3=>?_;walk_at "py";refine ED (ns:=[i1,i2]) e3 rfl (by simp) (Zn fun p4 g4 hp4 x4 e4=>?_);rw[GQ]at e4;have x34:=x3.trans x4;by_cases hlt:i2<i1
   .rw[if_pos hlt]at e4;walk_at "py";exact q (i2,i1,c) g4 ⟨hi2,hi1,hlt,c0,c1⟩ x34
   .rw[if_neg hlt]at e4;walk_at "py";exact q (i1,i2,c) g4 ⟨hi1,hi2,by show i1<i2;omega,c0,c1⟩ x34
  walk_at "py";refine Ze et a2 ?_;walk_at "py";refine Ze et a0 ?_;walk_at "py";refine ifP (fun hc=>?_) (fun hc=>?_)
  .walk_at "py";refine Ze et a2 ?_
   iterate 5 walk_at "py1"
   exact last _ (by omega) (by omega)
  .refine ss_nil ?_;exact last _ (by omega) (by omega)
 refine NJ ?_;walk_at "py";refine Ze et a0 ?_;rw[hL];walk_at "py";refine Ze et a1 ?_;walk_at "py";have o0:=Int.emod_nonneg t0 (show(bs.length:Int)≠0 by omega);have o1:=Int.emod_lt_of_pos t0 (show(0:Int)<bs.length by omega);have r0:=Int.emod_nonneg t1 (show(bs.length:Int) - 1≠0 by omega);have r1:=Int.emod_lt_of_pos t1 (show(0:Int)<(bs.length:Int) - 1 by omega);have p0:=Int.emod_nonneg (t0 % bs.length+1+t1 % ((bs.length:Int) - 1)) (show(bs.length:Int)≠0 by omega);have p1:=Int.emod_lt_of_pos (t0 % bs.length+1+t1 % ((bs.length:Int) - 1)) (show(0:Int)<bs.length by omega);refine ifP (fun hc=>?_) (fun hc=>?_)
 .walk_at "py";refine Ze et a0 ?_;walk_at "py";refine ifP (fun hd=>?_) (fun hd=>?_)
  .walk_at "py";refine Ze et a1 ?_
   iterate 7 walk_at "py1"
   have q0:=Int.emod_nonneg t1 (show(k:Int)+1≠0 by omega);have q1:=Int.emod_lt_of_pos t1 (show(0:Int)<(k:Int)+1 by omega);exact fin (by omega) hc q0 (by omega) (by omega)
  .refine ss_nil ?_;exact fin o0 o1 p0 p1 (Ur o0 o1 r0 r1).symm
 .refine ifF rfl ?_;refine ss_nil ?_;exact fin o0 o1 p0 p1 (Ur o0 o1 r0 r1).symm
theorem E1 {c d:Int}(q:∀ bs ts g,NetOk bs ts->Ext h g->Q (ZM bs ts) g):wF P (n+3) "_law_net" [.int c,.int d] h Q X:=by
 refine Ov ?_;walk_at "py";refine XI (m:=14) (by decide) fun p ns g1 hp x1 e1 hl hn=>?_;obtain⟨s2,s20,a2⟩:=nth (i:=2) (by omega) hn;walk_at "py";refine MA e1 hl hn fun pb bs g2 hpb x2 eb l1 l10 hb up=>?_;have hL:(bs.map Val.int).length=bs.length:=qA _;have nd:bs.Nodup:=up.imp fun h=>by omega
 have e1':=x2.get e1;have x12:=x1.trans x2;have fin:∀ m:Nat,m<=16->(0<m->2<=bs.length)->wSs (wF P (n+2)) (.cons (.set (.one 5) (.call "_law_draws" (.cons (.var 1) (.cons (.bin .mul (.cst (.int 3)) (.var 4)) .nil)))) (.cons (.set (.one 6) (.comp [3,5] 1 (.one 0) (.range (.var 4)) .yes (.call "_law_tie" (.cons (.var 1) (.cons (.slc (.var 2) (.some (.bin .mul (.cst (.int 3)) (.var 0))) (.some (.bin .add (.bin .mul (.cst (.int 3)) (.var 0)) (.cst (.int 3))))) (.cons (.var 0) .nil)))))) (.cons (.ret (.tup (.cons (.bi .tuple (.cons (.var 3) .nil)) (.cons (.bi .tuple (.cons (.var 6) .nil)) .nil)))) .nil))) [some (.int c),some (.int d),some (.ref p),some (.ref pb),some (.int m),none,none] g2 (fun _ g=>Q .non g) Q (fun _ _=>False) (fun _ _=>False) fun _ c g=>X c g:=by
  intro m hm h2;walk_at "py";rw[show(3:Int)*(m:Int)=((3*m:Nat):Int) by omega];refine XI (m:=3*m) (by omega) fun pd ds g3 hpd x3 e3 hdl hdn=>?_;have eb3:=x3.get eb;walk_at "py";refine⟨⟨by omega,by omega⟩,by rw[JE];exact qS (by omega:_<=16) (by decide),?_⟩;refine ZZ (fun i zs g=>∃ ts:List Tie,zs=ts.map trV/\ts.length=i/\(∀ t∈ts,LOk bs t)/\Ext g3 g) ⟨[],rfl,rfl,(fun t ht=>absurd ht List.not_mem_nil),.refl⟩ (fun _ _ _ _ _=>trivial) ?_ ?_
  .rintro i v zs g hv ⟨ts,rfl,htl,ht,x⟩ K hK;obtain⟨rfl,hi⟩:=Ym hv;walk_at "py";refine ifT rfl ?_;walk_at "py";refine Zn fun p4 g4 hp4 x4 e4=>?_;rw[XM,Mw (by omega) (by omega)]at e4;have hc:((ds.drop (3*(i:Int)).toNat).take ((3*(i:Int)+3).toNat - (3*(i:Int)).toNat)).length=3:=by
    rw[qV,List.length_drop,hdl];omega
   have hcn:Nn ((ds.drop (3*(i:Int)).toNat).take ((3*(i:Int)+3).toNat - (3*(i:Int)).toNat)):=fun y hy=>hdn y (List.mem_of_mem_drop (List.mem_of_mem_take hy));walk_at "py";refine Cj (x4.get (x.get eb3)) (h2 (by omega)) l10 nd e4 hc hcn fun t g5 lo x5=>?_;refine hK _ _ ⟨ts++[t],by rw[qJ];rfl,by rw[qU,htl];rfl,fun y hy=>?_,(x.trans x4).trans x5⟩;rcases q8.mp hy with hy|hy
   .exact ht y hy
   .rw[zH.mp hy];exact lo
  .rintro zs g ⟨ts,rfl,htl,ht,x⟩;rw[JE]at htl;refine Zn fun p6 g6 hp6 x6 e6=>?_;have eb6:=x6.get (x.get eb3);walk_at "py";exact q bs ts g6 ⟨l1,l10,hb,up,by omega,ht⟩ (((x12.trans x3).trans x).trans x6)
 walk_at "py";refine Ze e1' a2 ?_;walk_at "py";refine Ze e1' a2 ?_;walk_at "py";have tail:∀ m:Int,0<=m->m<=16->wSs (wF P (n+2)) (.cons (.ite (.val (.cmp .eq (.bi .len (.cons (.var 3) .nil)) (.cst (.int 1)))) (.cons (.set (.one 4) (.cst (.int 0))) .nil) .nil) (.cons (.set (.one 5) (.call "_law_draws" (.cons (.var 1) (.cons (.bin .mul (.cst (.int 3)) (.var 4)) .nil)))) (.cons (.set (.one 6) (.comp [3,5] 1 (.one 0) (.range (.var 4)) .yes (.call "_law_tie" (.cons (.var 1) (.cons (.slc (.var 2) (.some (.bin .mul (.cst (.int 3)) (.var 0))) (.some (.bin .add (.bin .mul (.cst (.int 3)) (.var 0)) (.cst (.int 3))))) (.cons (.var 0) .nil)))))) (.cons (.ret (.tup (.cons (.bi .tuple (.cons (.var 3) .nil)) (.cons (.bi .tuple (.cons (.var 6) .nil)) .nil)))) .nil)))) [some (.int c),some (.int d),some (.ref p),some (.ref pb),some (.int m),none,none] g2 (fun _ g=>Q .non g) Q (fun _ _=>False) (fun _ _=>False) fun _ c g=>X c g:=by
  intro m m0 m1;walk_at "py";rw[hL];refine ifP (fun hc=>?_) (fun hc=>?_)
  .iterate 5 walk_at "py1"
   exact fin 0 (by omega) (fun z=>absurd z (by decide))
  .refine ss_nil ?_;have:=fin m.toNat (by omega) (fun _=>by omega)
   rwa [Int.toNat_of_nonneg m0]at this
 refine ifP (fun hc=>?_) (fun hc=>?_)
 .walk_at "py";refine Ze e1' a2 ?_
  iterate 6 walk_at "py1"
  exact tail _ (by omega) (by omega)
 .refine ss_nil ?_;exact tail _ (by omega) (by omega)
theorem J8 {c:Int}(q:∀ m g,4<=m->m<=200->Ext h g->Q (.int m) g):wF P (n+3) "_law_greatest" [.int c] h Q X:=by
 refine XZ ?_;walk_at "py";refine XI (m:=4) (by decide) fun p ns g1 hp x1 e1 hl hn=>?_;obtain⟨s1,s10,a1⟩:=nth (i:=1) (by omega) hn;obtain⟨s3,s30,a3⟩:=nth (i:=3) (by omega) hn;walk_at "py";refine Ze e1 a1 ?_;walk_at "py";refine ifP (fun hc=>?_) (fun hc=>?_)
 .walk_at "py";refine Ze e1 a3 ?_;walk_at "py";exact q _ g1 (by omega) (by omega) x1
 .walk_at "py";refine Ze e1 a3 ?_;walk_at "py";exact q _ g1 (by omega) (by omega) x1
theorem JW{h:Hs}{d:Nat}:∀ ns:List Int,(ns.map Val.int).mapM (dat h d)=some (ns.map D.int)
 |[]=>rfl
 |n::ns=>by rw[qG,List.mapM_cons,JW ns,qG];cases d<;>rfl
theorem Nr{i:Int}:∀ ns:List Int,((ns.map D.int).any fun e=>D.eqv e (.int i))=decide (i∈ns)
 |[]=>by simp
 |n::ns=>by
  rw[qG,List.any_cons,Nr ns,M7];by_cases h:n=i
  .simp[h]
  .simp[h,Ne.symm h]
theorem Nj{h:Hs}{i:Int}{ns:List Int}:inL h (.int i) (ns.map .int)=some (decide (i∈ns)):=by unfold inL;rw[JW];exact congrArg some (Nr ns)
theorem Ch{h g:Hs}{p:Ad}{o:Ob}(x:Ext h g)(e:h p=none):Ext h (upd g p o):=⟨fun {a u} z=>by rw[upd_ne (Zj z e)];exact x.get z⟩
noncomputable def far (t:Tie) (b:Int):Int:=if t.1=b then t.2.1 else t.1
noncomputable def nbs (b:Int):Nat->List Tie->List Tie
 |_,[]=>[]
 |k,t::r=>if b=t.1\/b=t.2.1 then((k:Int),far t b,t.2.2)::nbs b (k+1) r else nbs b (k+1) r
theorem JU{b:Int}{t:Tie}:∀ {l:List Tie}{k:Nat},nbs b k (l++[t])=nbs b k l++(if b=t.1\/b=t.2.1 then [(((k+l.length:Nat):Int),far t b,t.2.2)]else [])
 |[],k=>by show nbs b k [t]=_;unfold nbs;split<;>rfl
 |u::l,k=>by
  rw[List.cons_append,nbs,nbs,JU,qB,show k+1+l.length=k+(l.length+1) by omega];by_cases h:b=u.1\/b=u.2.1
  .rw[if_pos h,if_pos h,List.cons_append]
  .rw[if_neg h,if_neg h]
theorem M5:∀ {xs:List Val}{k i:Nat}{v:Val},(enumL k xs)[i]?=some v->∃ x,xs[i]?=some x/\v=.tup [.int ((k+i:Nat):Int),x]
 |[],_,_,_,e=>by simp[enumL]at e
 |x::xs,k,0,v,e=>by have e:some (Val.tup [.int k,x])=some v:=e;cases e;exact⟨x,rfl,rfl⟩
 |x::xs,k,i+1,v,e=>by obtain⟨y,h1,h2⟩:=M5 (xs:=xs) (k:=k+1) (i:=i) (v:=v) (by simpa[enumL]using e);exact⟨y,by simpa using h1,by rw[h2,show k+1+i=k+(i+1) by omega]⟩
theorem KD:∀ (xs:List Val) (k:Nat),(enumL k xs).length=xs.length
 |[],_=>rfl
 |_::xs,k=>by simp[enumL,KD xs (k+1)]
theorem EW{h:Hs}{i:Int}{ns:List Int}{KB:Bool->Prop}(q:KB (decide (i∈ns))):go (cmpV h .isin (.int i) (.tup (ns.map .int))) KB:=go_of (by show inV h (.int i) (.tup _)=_;unfold inV;exact Nj) q
theorem Dz{h:Hs}{i:Int}{ns:List Int}{KB:Bool->Prop}(q:KB (!decide (i∈ns))):go (cmpV h .notin (.int i) (.tup (ns.map .int))) KB:=go_of (by show(inV h (.int i) (.tup _)).map _=_;unfold inV;simp only[Nj];rfl) q
section
variable {bs:List Int}{ts:List Tie}
theorem D7 {t:Tie}{b:Int}(k:Q (.int (far t b)) h):wF P (n+1) "far_end" [trV t,.int b] h Q X:=by
 obtain⟨x,y,c⟩:=t;unfold trV;unfold far at k;dsimp only at k ⊢;refine NT ?_;walk_at "py";by_cases e:x=b
 .refine ifT (qQ e) ?_;rw[if_pos e]at k;walk_at "py";exact k
 .refine ifF (qP e) ?_;rw[if_neg e]at k;walk_at "py";exact k
theorem Wv {b:Int}(l:ts.length<=16) (k:∀ p g,h p=none->Ext h g->g p=some (.lst ((nbs b 0 ts).map trV))->Q (.ref p) g):wF P (n+2) "neighbours" [ZM bs ts,.int b] h Q X:=by
 unfold ZM;refine Jq ?_;walk_at "py";refine Zn fun p g0 hp x0 e0=>?_;walk_at "py";refine go_of rfl ?_;have nl:∀ l:List Tie,∀ k,(nbs b k l).length<=l.length:=by
  intro l;induction l with
  |nil=>intro k;exact zG _
  |cons t l ih =>intro k;have:=ih (k+1);unfold nbs;split<;>simp only[qB]<;>omega
 refine ZK (fun i en g=>∃ v3 v4,en=[some (.tup [.tup (bs.map .int),.tup (ts.map trV)]),some (.int b),some (.ref p),v3,v4]/\Ext h g/\g p=some (.lst ((nbs b 0 (ts.take i)).map trV))) ⟨_,_,rfl,x0,e0⟩ (fun _ _ _ _ _=>trivial) ?_ ?_
 .rintro i v en g hv ⟨v3,v4,rfl,x,ep⟩ K hK;obtain⟨y,hy,rfl⟩:=M5 hv;rw[qF]at hy;obtain⟨t,ht,rfl⟩:=qD.mp hy;have hi:i<ts.length:=(qK.mp ht).1;have hn:nbs b 0 (ts.take (i+1))=nbs b 0 (ts.take i)++(if b=t.1\/b=t.2.1 then [((i:Int),far t b,t.2.2)]else []):=by
   rw[List.take_add_one,ht];have:=JU (b:=b) (t:=t) (l:=ts.take i) (k:=0);rw[qV,Nat.min_eq_left (by omega),Nat.zero_add]at this;exact this
  rw[Nat.zero_add];have et:trV t=.tup [.int t.1,.int t.2.1,.int t.2.2]:=rfl;walk_at "py";rw[et];refine sl_tup (by simp[cutAt]) ?_;refine EW (ns:=[t.1,t.2.1]) ?_;walk_at "py";refine ifP (fun hc=>?_) (fun hc=>?_)
  .walk_at "py";refine D7 (t:=t) ?_;walk_at "py";have hl:=nl (ts.take i) 0;rw[qV]at hl;refine Wl ep (by rw[qA,lim];omega) ?_;walk_at "py";refine hK _ _ ⟨_,_,rfl,?_,?_⟩
   .exact Ch x hp
   .have hc:b=t.1\/b=t.2.1:=by simpa using hc
    rw[hn,if_pos hc,qJ];exact upd_same
  .walk_at "py";refine hK _ _ ⟨_,_,rfl,x,?_⟩;have hc:¬ (b=t.1\/b=t.2.1):=by simpa using hc
   rw[hn,if_neg hc,zB];exact ep
 .rintro en g ⟨v3,v4,rfl,x,ep⟩;rw[KD,qA,zA]at ep;walk_at "py";exact k p g hp x ep
end
noncomputable def Wh (rs:List Tie):List (Int×(Int×Int)):=rs.map fun r=>(r.1,r.2)
theorem Nm(rs:List Tie):(Wh rs).map (·.1)=rs.map (·.1):=by unfold Wh;rw[List.map_map];rfl
noncomputable def KM (own life most:Int) (rs:List Tie):Br:=⟨own,life,most,Wh rs,[],⟨own,0,none⟩,0,0⟩
theorem AX {b l:Ad}{own life most:Int}{rs:List Tie}(hb:h b=some (.ins "Bridge" [])) (hl:h l=some (.lst (rs.map trV))) (nd:(rs.map (·.1)).Nodup) (h16:rs.length<=16)
  (k:∀ t d g,h t=none->h d=none->BrAt g b t d (KM own life most rs)->Ex [b] h g->Q .non g):wF P (n+1) "Bridge.__init__" [.ref b,.int own,.int life,.ref l,.int most] h Q X:=by
 have nlb:b≠l:=UJ hb hl nofun;refine Wy ?_;walk_at "py";refine Z4 upd_same (show(1:Nat)<900 by decide) ?_;walk_at "py";refine Z4 upd_same (show(2:Nat)<900 by decide) ?_;walk_at "py";intro t ht;rw[upd_upd,upd_upd]at ht ⊢;have ntb:b≠t:=Zj upd_same ht;have nht:h t=none:=by rw[upd_ne ntb.symm]at ht;exact ht
 have ntl:l≠t:=Zj hl nht;walk_at "py";refine Z4 (upd_ne' ntb upd_same) (show(3:Nat)<900 by decide) ?_;walk_at "py";have hl1:∀ {o1 o2 o3:Ob},upd (upd (upd h b o1) t o2) b o3 l=some (.lst (rs.map trV)):=fun {_ _ _}=>by rw[upd_ne nlb.symm,upd_ne ntl,upd_ne nlb.symm];exact hl
 refine ZK (fun i e g=>∃ u v w,e=[some (.ref b),some (.int own),some (.int life),some (.ref l),some (.int most),u,v,w]/\g b=some (.ins "Bridge" [("number",.int own),("life",.int life),("age_let_go",.int most),("ties_by_place",.ref t)])/\g t=some (.dct (ZS E9 (Wh (rs.take i))))/\Ex [b] h g) ⟨none,none,none,rfl,upd_same,by rw[upd_ne ntb.symm];exact upd_same,?_⟩ ?_ ?_ ?_
 .refine⟨fun {a o} na e=>?_⟩;have nab:a≠b:=by simpa using na
  rw[upd_ne nab,upd_ne (Zj e nht),upd_ne nab];exact e
 .rintro i e g _ ⟨u,v,w,rfl,h1,h2,h3⟩;exact lsE (h3.get (by simpa using nlb.symm) hl)
 .rintro i v e g hv ⟨u,v,w,rfl,h1,h2,h3⟩ K hK;obtain⟨r,hp,rfl⟩:=Y4 hv;have nk:=Yu nd hp;obtain⟨p,nb,c⟩:=r;unfold trV;walk_at "py";refine K6 (k:=.int p) h2 ⟨rfl,?_⟩ ?_
  .rw[DD];unfold Wh;rw[qA];exact qS (zE (List.length_take_le' _ _) h16) (by decide)
  rw[show Val.tup [.int nb,.int c]=E9 (nb,c) from rfl,Jl];walk_at "py";refine hK _ _ ⟨_,_,_,rfl,by rw[upd_ne ntb];exact h1,?_,?_⟩
  .rw[upd_same,M3,Y5 hp]
   .unfold Wh;rw[qJ];rfl
   .rw[Nm];exact nk
  .exact⟨fun na e=>by rw[upd_ne (Zj e nht)];exact h3.get na e⟩
 .rintro e g ⟨u,v,w,rfl,h1,h2,h3⟩;rw[qA,zA]at h2;walk_at "py";intro d hd;have ndb:b≠d:=Zj h1 hd;have ndt:t≠d:=Zj h2 hd;have nhd:h d=none:=h3.none (by rw[h1];intro z;cases z) hd;walk_at "py";refine Z4 upd_same (show(5:Nat)<900 by decide) ?_;walk_at "py";refine Z4 upd_same (show(6:Nat)<900 by decide) ?_;walk_at "py";refine Z4 upd_same (show(7:Nat)<900 by decide) ?_;walk_at "py";rw[upd_upd,upd_upd,upd_upd];refine k t d _ nht nhd ⟨upd_same,?_,?_,ndt⟩ ?_
  .rw[upd_ne ntb.symm,upd_ne ndt];exact h2
  .rw[upd_ne ndb.symm];exact upd_same
  .exact(h3.trans (.of (Ext.new hd))).trans (Ex.upd (by simp))
theorem Ap{b:Int}:∀ {l:List Tie}{k:Nat},((nbs b k l).map (·.1)).Pairwise (· < ·)/\∀ r∈nbs b k l,(k:Int)<=r.1/\r.1<(k+l.length:Nat)
 |[],k=>⟨by simp[nbs],fun r hr=>absurd hr (by simp[nbs])⟩
 |t::l,k=>by
  obtain⟨h1,h2⟩:=Ap (b:=b) (l:=l) (k:=k+1);unfold nbs;split
  .refine⟨?_,fun r hr=>?_⟩
   .rw[qG,List.pairwise_cons];refine⟨fun x hx=>?_,h1⟩;obtain⟨r,hr,rfl⟩:=qZ.mp hx;have:=(h2 r hr).1;show(k:Int)<r.1;omega
   .rcases qE.mp hr with rfl|hr
    .exact⟨Int.le_refl _,by show(k:Int)<((k+(t::l).length:Nat):Int);rw[qB];omega⟩
    .have:=h2 r hr;rw[qB];omega
  .refine⟨h1,fun r hr=>?_⟩;have:=h2 r hr;rw[qB];omega
theorem Nv{b:Int}:∀ {l:List Tie}{k:Nat},(nbs b k l).length<=l.length
 |[],k=>zG _
 |t::l,k=>by have:=Nv (b:=b) (l:=l) (k:=k+1);unfold nbs;split<;>simp only[qB]<;>omega
structure En where
 num:Int
 b:Ad
 t:Ad
 d:Ad
 B:Br
structure Yd where
 y:Ad
 lv:Ad
 st:Ad
 fl:Ad
 rd:Ad
 bs:List Int
 ts:List Tie
 most:Int
 lives:List (Int×Int)
 es:List En
 fallen:List (Int×Bool)
 road:List (Int×Int×Int×L)
noncomputable def enA (es:List En):List Ad:=es.flatMap fun e=>[e.b,e.t,e.d]
noncomputable def Yd.adr (Y:Yd):List Ad:=[Y.y,Y.lv,Y.st,Y.fl,Y.rd]++enA Y.es
noncomputable abbrev rfV (a:Ad):Val:=.ref a
noncomputable abbrev rdV (r:Int×Int×Int×L):Val:=.tup [.int r.1,.int r.2.1,.int r.2.2.1,r.2.2.2.v]
noncomputable def stands (es:List En):List (Int×Ad):=es.map fun e=>(e.num,e.b)
theorem ZJ(es:List En):(stands es).map (·.1)=es.map (·.num):=by unfold stands;rw[List.map_map];rfl
structure YAt (h:Hs) (Y:Yd):Prop where
 ins:h Y.y=some (.ins "Yard" [("net_made_of",ZM Y.bs Y.ts),("greatest_age",.int Y.most),("lives",.ref Y.lv),("standing",.ref Y.st),("ties_fallen",.ref Y.fl),("letters_on_road",.ref Y.rd)])
 lives:h Y.lv=some (.dct (ZS Val.int Y.lives))
 stand:h Y.st=some (.dct (ZS rfV (stands Y.es)))
 fallen:h Y.fl=some (.dct (ZS Val.bl Y.fallen))
 road:h Y.rd=some (.lst (Y.road.map rdV))
 brs:∀ e∈Y.es,BrAt h e.b e.t e.d e.B
 nd:Y.adr.Nodup
 key:(Y.es.map (·.num)).Nodup
theorem UO{es:List En}{e:En}(h:e∈es):e.b∈enA es/\e.t∈enA es/\e.d∈enA es:=by refine⟨?_,?_,?_⟩<;>exact List.mem_flatMap.mpr ⟨e,h,by simp⟩
theorem Jr(es:List En)(e:En):enA (es++[e])=enA es++[e.b,e.t,e.d]:=by unfold enA;rw[List.flatMap_append];simp
theorem YAt.keep{h g:Hs}{Y:Yd}{S:List Ad}(x:YAt h Y)(e:Ex S h g)(ds:∀ a∈Y.adr,a∉S):YAt g Y:=by have m:∀ a∈[Y.y,Y.lv,Y.st,Y.fl,Y.rd],a∉S:=fun a ha=>ds a (qM _ ha);refine⟨e.get (m _ (by simp)) x.ins,e.get (m _ (by simp)) x.lives,e.get (m _ (by simp)) x.stand,e.get (m _ (by simp)) x.fallen,e.get (m _ (by simp)) x.road,fun b hb=>?_,x.nd,x.key⟩;obtain⟨q1,q2,q3⟩:=UO hb;exact(x.brs b hb).keep e (ds _ (qL _ q1)) (ds _ (qL _ q2)) (ds _ (qL _ q3))
theorem YAt.ext{h g:Hs}{Y:Yd}(x:YAt h Y)(e:Ext h g):YAt g Y:=x.keep (S:=[]) (.of e) fun _ _=>by simp
theorem YAt.taken{h:Hs}{Y:Yd}(x:YAt h Y){a:Ad}(ha:a∈Y.adr):h a≠none:=by
 rcases q8.mp ha with ha|ha
 .simp only[qE,List.not_mem_nil,or_false]at ha;rcases ha with rfl|rfl|rfl|rfl|rfl
  .rw[x.ins];simp
  .rw[x.lives];simp
  .rw[x.stand];simp
  .rw[x.fallen];simp
  .rw[x.road];simp
 .obtain⟨e,he,ha⟩:=List.mem_flatMap.mp ha;have:=x.brs e he;simp only[qE,List.not_mem_nil,or_false]at ha;rcases ha with rfl|rfl|rfl
  .rw[this.ins];simp
  .rw[this.ties];simp
  .rw[this.held];simp
theorem Yd.sep{Y:Yd}(nd:Y.adr.Nodup){a b:Ad}(ha:a∈[Y.y,Y.lv,Y.st,Y.fl,Y.rd])(hb:b∈enA Y.es):b≠a:=fun z=>(List.nodup_append.mp nd).2.2 a ha b hb z.symm
theorem Yd.five{Y:Yd}(nd:Y.adr.Nodup):(Y.y≠Y.lv/\Y.y≠Y.st/\Y.y≠Y.fl/\Y.y≠Y.rd)/\(Y.lv≠Y.st/\Y.lv≠Y.fl/\Y.lv≠Y.rd)/\(Y.st≠Y.fl/\Y.st≠Y.rd)/\Y.fl≠Y.rd:=by have:=(List.nodup_append.mp nd).1;simp only[List.nodup_cons,qE,List.not_mem_nil,or_false,not_or,not_false_eq_true,List.nodup_nil,and_true]at this;obtain⟨⟨a1,a2,a3,a4⟩,⟨b1,b2,b3⟩,⟨c1,c2⟩,d1⟩:=this;exact⟨⟨a1,a2,a3,a4⟩,⟨b1,b2,b3⟩,⟨c1,c2⟩,d1⟩
theorem BrAt.off{h:Hs}{a:Ad}{o:Ob}{e:En}{es:List En}(x:BrAt h e.b e.t e.d e.B)(he:e∈es)(n:∀ b∈enA es,b≠a):BrAt (upd h a o) e.b e.t e.d e.B:=by obtain⟨q1,q2,q3⟩:=UO he;exact⟨(upd_ne (n _ q1)).trans x.ins,(upd_ne (n _ q2)).trans x.ties,(upd_ne (n _ q3)).trans x.held,x.ne⟩
theorem YAt.setLives{h:Hs}{Y:Yd}(x:YAt h Y)(l:List (Int×Int)):YAt (upd h Y.lv (.dct (ZS Val.int l))) {Y with lives:=l}:=by obtain⟨⟨a1,a2,a3,a4⟩,⟨b1,b2,b3⟩,_,_⟩:=Yd.five x.nd;exact⟨(upd_ne a1).trans x.ins,upd_same,(upd_ne b1.symm).trans x.stand,(upd_ne b2.symm).trans x.fallen,(upd_ne b3.symm).trans x.road,fun e he=>(x.brs e he).off he fun b hb=>Yd.sep x.nd (by simp) hb,x.nd,x.key⟩
theorem YAt.stands{h:Hs}{Y:Yd}{e:En}(x:YAt h Y)(hb:BrAt h e.b e.t e.d e.B)(hn:e.num∉Y.es.map (·.num))(fr:∀ a∈[e.b,e.t,e.d],a∉Y.adr):YAt (upd h Y.st (.dct (ZS rfV (stands (Y.es++[e]))))) {Y with es:=Y.es++[e]}:=by
 obtain⟨⟨a1,a2,a3,a4⟩,⟨b1,b2,b3⟩,⟨c1,c2⟩,d1⟩:=Yd.five x.nd;have hst:Y.st∈Y.adr:=qM _ (by simp);have nb:∀ a∈enA (Y.es++[e]),a≠Y.st:=fun a ha=>by
  rw[Jr]at ha;rcases q8.mp ha with ha|ha
  .exact Yd.sep x.nd (by simp) ha
  .exact fun z=>fr a ha (z▸hst)
 refine⟨(upd_ne a2).trans x.ins,(upd_ne b1).trans x.lives,upd_same,(upd_ne c1.symm).trans x.fallen,(upd_ne c2.symm).trans x.road,fun q hq=>?_,?_,?_⟩
 .refine BrAt.off ?_ hq nb;rcases q8.mp hq with hq|hq
  .exact x.brs q hq
  .rw[zH.mp hq];exact hb
 .show([Y.y,Y.lv,Y.st,Y.fl,Y.rd]++enA (Y.es++[e])).Nodup;rw[Jr,<-List.append_assoc,List.nodup_append];refine⟨x.nd,?_,fun a ha b hb z=>fr b hb (z▸ha)⟩;simp[hb.nbt,hb.nbd,hb.ne]
 .show((Y.es++[e]).map (·.num)).Nodup;rw[qJ,List.nodup_append];refine⟨x.key,by simp,fun a ha b hb=>?_⟩;have:b=e.num:=by simpa using hb
  rw[this];exact fun z=>hn (z▸ha)
theorem Xy {h0 g:Hs}{p a:Ad}{fs:List (String×Val)}{o:Ob}{f:String}{K:Hs->Prop}(i:g p=some (.ins "Yard" fs)) (x:Ex [p] h0 g) (hp:h0 p=none) (ha:g a=none) (m:fs.length<900) (q:∀ g',g' p=some (.ins "Yard" (putF fs f (.ref a)))->g' a=some o->Ex [p] h0 g'->Ex [p] g g'->p≠a->h0 a=none->K g'):go (putFV (upd g a o) (.ref p) f (.ref a)) K:=by
 have n:=Zj i ha;have y:Ex [p] g (upd (upd g a o) p (.ins "Yard" (putF fs f (.ref a)))):=⟨fun {b u} nb e=>by rw[upd_ne (fun z=>nb (by simp[z])),upd_ne (Zj e ha)];exact e⟩
 refine Z4 (upd_ne' n i) m (q _ upd_same ((upd_ne n.symm).trans upd_same) (x.trans y) y n ?_);cases z:h0 a with
 |none=>rfl
 |some u=>rw[x.get (by simpa using n.symm) z]at ha;cases ha
structure YNew (bs:List Int) (ts:List Tie) (most:Int) (Y:Yd):Prop where
 hb:Y.bs=bs
 ht:Y.ts=ts
 hm:Y.most=most
 num:Y.es.map (·.num)=bs
 br:∀ e∈Y.es,e.B=KM e.num 0 most (nbs e.num 0 ts)
 fallen:Y.fallen=[]
 road:Y.road=[]
section
variable {bs:List Int}{ts:List Tie}
theorem Kb {p:Ad}{most:Int}(no:NetOk bs ts) (hp:h p=none) (k:∀ Y g,Y.y=p->YAt g Y->YNew bs ts most Y->(∀ a∈Y.adr,h a=none)->Ext h g->Q .non g):wF P (n+3) "Yard.__init__" [.ref p,ZM bs ts,.int most] (upd h p (.ins "Yard" [])) Q X:=by
 have h10:=no.ten;have h16:=no.sixteen;have hbl:(bs.map Val.int).length=bs.length:=qA _;have ndb:bs.Nodup:=no.up.imp fun h=>by omega
 refine JX ?_;walk_at "py";refine Z4 upd_same (show(1:Nat)<900 by decide) ?_;rw[upd_upd,upd_upd];have i1:=upd_same (h:=h) (a:=p) (o:=Ob.ins "Yard" (putF (putF [] "net_made_of" (ZM bs ts)) "greatest_age" (.int most)));have x1:Ex [p] h (upd h p (Ob.ins "Yard" (putF (putF [] "net_made_of" (ZM bs ts)) "greatest_age" (.int most)))):=Ex.upd (by simp);generalize upd h p (Ob.ins "Yard" (putF (putF [] "net_made_of" (ZM bs ts)) "greatest_age" (.int most)))=g1 at i1 x1 ⊢;walk_at "py";intro lv hlv;walk_at "py";refine Xy i1 x1 hp hlv (show(2:Nat)<900 by decide) fun g2 i2 lv2 x2 y2 nlv flv=>?_;walk_at "py";intro st hst;walk_at "py";refine Xy i2 x2 hp hst (show(3:Nat)<900 by decide) fun g3 i3 st3 x3 y3 nst fst=>?_;walk_at "py";intro fl hfl;walk_at "py";refine Xy i3 x3 hp hfl (show(4:Nat)<900 by decide) fun g4 i4 fl4 x4 y4 nfl ffl=>?_;walk_at "py";refine Ju fun rd hrd=>?_;walk_at "py";refine Xy i4 x4 hp hrd (show(5:Nat)<900 by decide) fun g5 i5 rd5 x5 y5 nrd frd=>?_;have q1:lv≠st:=Zj lv2 hst;have lv3:=y3.get (by simpa using nlv.symm) lv2;have q2:lv≠fl:=Zj lv3 hfl;have q3:st≠fl:=Zj st3 hfl;have lv4:=y4.get (by simpa using nlv.symm) lv3;have st4:=y4.get (by simpa using nst.symm) st3;have q4:lv≠rd:=Zj lv4 hrd;have q5:st≠rd:=Zj st4 hrd;have q6:fl≠rd:=Zj fl4 hrd;have lv5:=y5.get (by simpa using nlv.symm) lv4;have st5:=y5.get (by simpa using nst.symm) st4;have fl5:=y5.get (by simpa using nfl.symm) fl4;have xe:Ext h g5:=⟨fun {a o} e=>x5.get (by simpa using Zj e hp) e⟩
 have Y0:YAt g5 ⟨p,lv,st,fl,rd,bs,ts,most,[],[],[],[]⟩:=⟨i5,lv5,st5,fl5,rd5,(fun e he=>absurd he List.not_mem_nil),by
   show([p,lv,st,fl,rd]++[]).Nodup
   simp[nlv,nst,nfl,nrd,q1,q2,q3,q4,q5,q6],List.nodup_nil⟩
 walk_at "py";refine ix_tup (xs:=[.tup (bs.map .int),.tup (ts.map trV)]) (v:=.tup (bs.map .int)) rfl ?_;walk_at "py";refine ZK (fun i en g=>∃ v3 lvs es,en=[some (.ref p),some (ZM bs ts),some (.int most),v3]/\YAt g ⟨p,lv,st,fl,rd,bs,ts,most,lvs,es,[],[]⟩/\lvs.length<=i/\es.map (·.num)=bs.take i/\(∀ e∈es,e.B=KM e.num 0 most (nbs e.num 0 ts))/\(∀ a∈[p,lv,st,fl,rd]++enA es,h a=none)/\Ext h g) ⟨_,[],[],rfl,Y0,zG _,rfl,(fun e he=>absurd he List.not_mem_nil),?_,xe⟩ (fun _ _ _ _ _=>trivial) ?_ ?_
 .intro a ha;simp only[enA,List.flatMap_nil,zB,qE,List.not_mem_nil,or_false]at ha;rcases ha with rfl|rfl|rfl|rfl|rfl<;>assumption
 .rintro i v en g hv ⟨v3,lvs,es,rfl,Y,hlv,hnum,hbr,hfr,x⟩ K hK;obtain⟨b,hb,rfl⟩:=Y4 hv;have hi:i<bs.length:=(qK.mp hb).1;have hnb:b∉es.map (·.num):=by
   rw[hnum];intro m;have:=Yu (f:=id) (by rw[List.map_id];exact ndb) hb;rw[List.map_id]at this;exact this m
  have hesl:es.length<=10:=by rw[<-qA (f:=(·.num)) (as:=es),hnum,qV];omega
  obtain⟨yi,yl,ys,yf,yr,yb,ynd,yk⟩:=id Y;dsimp only at yi yl ys yf yr yb;walk_at "py";refine K6 (k:=.int b) yl ⟨rfl,by rw[DD];exact qS (by omega:lvs.length<=10) (by decide)⟩ ?_;rw[Jl (val:=Val.int)];have Y1:=Y.setLives (Wx lvs b 0);have x1:Ext h (upd g lv (.dct (ZS Val.int (Wx lvs b 0)))):=⟨fun e=>by rw[upd_ne (Zj e flv)];exact x.get e⟩
  dsimp only at Y1;generalize upd g lv (.dct (ZS Val.int (Wx lvs b 0)))=g6 at Y1 x1;obtain⟨zi,zl,zs,zf,zr,zb,znd,zk⟩:=id Y1;dsimp only at zi zl zs zf zr zb;walk_at "py";refine Wv h16 fun pn g7 hpn x7 en=>?_;have Y7:=Y1.ext x7;walk_at "py";intro q hq;have nr:=Ap (b:=b) (l:=ts) (k:=0);have nl:=Nv (b:=b) (l:=ts) (k:=0);have xq:Ext g7 (upd g7 q (.ins "Bridge" [])):=Ext.new hq;have eq:(upd g7 q (.ins "Bridge" [])) q=some (.ins "Bridge" []):=upd_same;refine AX (rs:=nbs b 0 ts) eq (xq.get en) (nr.1.imp fun z=>by omega) (by omega) fun t d g8 ht hd ba x8=>?_;have x78:Ext g7 g8:=⟨fun {a o} e=>x8.get (by simpa using Zj e hq) (xq.get e)⟩
  have Y8:=Y7.ext x78;have ht7:g7 t=none:=by cases z:g7 t with|none=>rfl|some o=>rw[xq.get z]at ht;cases ht
  have hd7:g7 d=none:=by cases z:g7 d with|none=>rfl|some o=>rw[xq.get z]at hd;cases hd
  refine⟨rfl,?_⟩;obtain⟨wi,wl,ws,wf,wr,wb,wnd,wk⟩:=id Y8;dsimp only at wi wl ws wf wr wb;walk_at "py";refine K6 (k:=.int b) ws ⟨rfl,by rw[DD];unfold stands;rw[qA];exact qS hesl (by decide)⟩ ?_;rw[Jl (val:=rfV),M3 _ (by rw[ZJ];exact hnb)];have hst:stands es++[(b,q)]=stands (es++[⟨b,q,t,d,KM b 0 most (nbs b 0 ts)⟩]):=by unfold stands;rw[qJ];rfl
  rw[hst];have fr:∀ a∈[q,t,d],g7 a=none:=fun a ha=>by simp only[qE,List.not_mem_nil,or_false]at ha;rcases ha with rfl|rfl|rfl<;>assumption
  have Y9:=Y8.stands (e:=⟨b,q,t,d,KM b 0 most (nbs b 0 ts)⟩) ba hnb fun a ha z=>Y7.taken z (fr a ha);walk_at "py";have x9:Ext h g8:=(x1.trans x7).trans x78;refine hK _ _ ⟨_,_,_,rfl,Y9,?_,?_,?_,?_,⟨fun e=>by rw[upd_ne (Zj e fst)];exact x9.get e⟩⟩
  .have:(Wx lvs b 0).length<=lvs.length+1:=by
    unfold Wx;split
    .rw[qA];omega
    .rw[qU];simp
   show(Wx lvs b 0).length<=i+1;omega
  .rw[qJ,hnum,List.take_add_one,hb];rfl
  .intro e he;rcases q8.mp he with he|he
   .exact hbr e he
   .rw[zH.mp he]
  .intro a ha;rw[Jr,<-List.append_assoc]at ha;rcases q8.mp ha with ha|ha
   .exact hfr a ha
   .cases z:h a with
    |none=>rfl
    |some o=>have:=fr a ha;rw[(x1.trans x7).get z]at this;cases this
 .rintro en g ⟨v3,lvs,es,rfl,Y,hlv,hnum,hbr,hfr,x⟩;rw[hbl,zA]at hnum;walk_at "py";exact k _ g rfl Y ⟨rfl,rfl,rfl,hnum,hbr,rfl,rfl⟩ hfr x
end
def Pl:Nat->Val->Prop
 |_,.non=>True
 |_,.int _=>True
 |_,.str s=>True
 |d+1,.tup xs=>xs.length<=100/\∀ x∈xs,Pl d x
 |_,_=>False
theorem Xv {h:Hs}{a:Ad}{xs:List Val}(e:h a=some (.lst xs)) (T:String):isiAny h (.ref a) [T]=some (T == "list"):=by
 unfold isiAny isiV kindV;simp only[e,Option.map_some,Option.bind_some,isiAny];by_cases z:T = "list"
 .subst z;rfl
 .have e1:("list" == T)=false:=beq_eq_false_iff_ne.mpr fun y=>z y.symm;have e2:(T == "list")=false:=beq_eq_false_iff_ne.mpr z;rw[e1,e2];rfl
theorem Kx (k:Q (.bl true) h):wF P (n+1) "_law_same" [.non,.non] h Q X:=by refine ZO ?_;walk_at "py";refine ifT (by decide) ?_;walk_at "py";exact k
theorem J7 {i:Int}(k:Q (.bl true) h):wF P (n+1) "_law_same" [.int i,.int i] h Q X:=by refine ZO ?_;walk_at "py";refine ifF (by simp) ?_;walk_at "py";refine ifF rfl ?_;walk_at "py";refine ifT rfl ?_;walk_at "py";refine ifT rfl ?_;walk_at "py";refine ifT rfl ?_;walk_at "py";rw[qQ rfl];exact k
theorem KE {s:String}(k:Q (.bl true) h):wF P (n+1) "_law_same" [.str s,.str s] h Q X:=by refine ZO ?_;walk_at "py";refine ifF (by simp) ?_;walk_at "py";refine ifT rfl ?_;walk_at "py";refine ifT rfl ?_;walk_at "py";rw[qQ rfl];exact k
theorem Z9:∀ (d:Nat){v:Val}{h:Hs}{Q:Q1},Pl d v->Q (.bl true) h->wF P (n+d+1) "_law_same" [v,v] h Q X:=by
 intro d;induction d with
 |zero =>
  intro v h Q hv k;cases v with
  |non=>exact Kx k
  |int i=>exact J7 k
  |str s=>exact KE k
  |_=>exact hv.elim
 |succ d ih =>
  intro v h Q hv k;cases v with
  |tup xs =>
   refine ZO ?_;walk_at "py";refine ifF (by simp) ?_;walk_at "py";refine ifF rfl ?_;walk_at "py";refine ifF rfl ?_;walk_at "py";refine ifT rfl ?_;walk_at "py";refine ifF rfl ?_;walk_at "py";refine ifF (by simp) ?_;walk_at "py";obtain⟨hl,hv⟩:=hv;refine⟨⟨by omega,by omega⟩,?_⟩;refine ZK (fun i e g=>g=h/\∃ v,e=[some (.tup xs),some (.tup xs),v]) ⟨rfl,_,rfl⟩ (fun _ _ _ _ _=>trivial) ?_ ?_
   .rintro i v e g hvi ⟨rfl,v1,rfl⟩ K hK;obtain⟨rfl,hi⟩:=Ym hvi;obtain⟨x,ex,hx⟩:=Xa (xs:=xs) (r:=(i:Int)) (by omega) hi;walk_at "py";refine ix_tup ex ?_;walk_at "py";refine ix_tup ex ?_;walk_at "py";refine ih (hv x hx) ?_;walk_at "py";refine ifF rfl ?_;walk_at "py";exact hK _ _ ⟨rfl,_,rfl⟩
   .rintro e g ⟨rfl,v1,rfl⟩;walk_at "py";exact k
  |non=>exact Kx k
  |int i=>exact J7 k
  |str s=>exact KE k
  |_=>exact hv.elim
theorem YS {d:Nat}{a b:Ad}{xs:List Val}(ha:h a=some (.lst xs)) (hb:h b=some (.lst xs)) (hl:xs.length<=100000) (hx:∀ x∈xs,Pl d x) (k:Q (.bl true) h):wF P (n+d+2) "_law_same" [.ref a,.ref b] h Q X:=by
 refine ZO ?_;walk_at "py";refine ifF (by simp) ?_;walk_at "py";refine U2 (Xv hb _) ?_;walk_at "py";refine ifF rfl ?_;walk_at "py";refine U2 (Xv hb _) ?_;walk_at "py";refine ifF rfl ?_;walk_at "py";refine U2 (Xv hb _) ?_;walk_at "py";refine ifF rfl ?_;walk_at "py";refine U2 (Xv ha _) ?_;walk_at "py";refine ifF rfl ?_;walk_at "py";refine ifF (by simp) ?_;walk_at "py";refine⟨⟨by omega,by omega⟩,?_⟩;refine ZK (fun i e g=>g=h/\∃ v,e=[some (.ref a),some (.ref b),v]) ⟨rfl,_,rfl⟩ (fun _ _ _ _ _=>trivial) ?_ ?_
 .rintro i v e g hvi ⟨rfl,v1,rfl⟩ K hK;obtain⟨rfl,hi⟩:=Ym hvi;obtain⟨x,ex,hx'⟩:=Xa (xs:=xs) (r:=(i:Int)) (by omega) hi;walk_at "py";refine Ze ha ex ?_;walk_at "py";refine Ze hb ex ?_;walk_at "py";refine Z9 d (hx x hx') ?_;walk_at "py";refine ifF rfl ?_;walk_at "py";exact hK _ _ ⟨rfl,_,rfl⟩
 .rintro e g ⟨rfl,v1,rfl⟩;walk_at "py";exact k
theorem Ba {Y:Yd}(x:YAt h Y) (hl:Y.road.length<=5000) (k:∀ p g,h p=none->Ext h g->g p=some (.lst (Y.road.map rdV))->Q (.ref p) g):wF P (n+1) "Yard.road" [.ref Y.y] h Q X:=by have xi:=x.ins;have xr:=x.road;refine Kk ?_;walk_at "py";exact Zn k
theorem WV{l:List Int}(h:l.Pairwise (· < ·)):sortI l=l:=by have h1:=Np (h.imp fun z=>by omega:l.Nodup);have p:=List.mergeSort_perm l fun a b=>decide (a<=b);exact p.eq_of_pairwise (fun a b _ _ z1 z2=>by omega) h1 h
theorem W5 {Y:Yd}(x:YAt h Y) (up:(Y.es.map (·.num)).Pairwise (· < ·)) (hl:Y.es.length<=10) (k:∀ p g,h p=none->Ext h g->g p=some (.lst (Y.es.map fun e=>.tup [.int e.num,e.B.label.v]))->Q (.ref p) g):wF P (n+2) "Yard.labels" [.ref Y.y] h Q X:=by
 have xi:=x.ins;have xs:=x.stand;have hL:(Y.es.map (·.num)).length=Y.es.length:=qA _;refine WF ?_;walk_at "py";refine Mb xs (Ay _) (by rw[ZJ];omega) (Zn fun p1 g1 hp1 x1 e1=>?_);rw[ZJ,WV up]at e1;have x':=x.ext x1;have xi:=x'.ins;have xs:=x'.stand;walk_at "py";refine⟨qS (by rw[qA,hL];exact hl) (by decide),?_⟩;refine ZZ (fun i ys g=>g=g1/\ys=(Y.es.take i).map fun e=>.tup [.int e.num,e.B.label.v]) ⟨rfl,rfl⟩ (fun i ys g _ ⟨z,_⟩=>by rw[z];exact lsE e1) ?_ ?_
 .rintro i v ys g hv ⟨rfl,rfl⟩ K hK;obtain⟨nm,hnm,rfl⟩:=Y4 hv;rw[qF]at hnm;obtain⟨e,he,rfl⟩:=qD.mp hnm;have hm:=qX he;have lk:(stands Y.es).lookup e.num=some e.b:=JO (by rw[ZJ];exact x.key) (qZ.mpr ⟨e,hm,rfl⟩);have ba:=x'.brs e hm;have bi:=ba.ins;walk_at "py";refine ifT rfl ?_;walk_at "py";refine Ml xs rfl (by rw[Kc,lk];rfl) ?_;walk_at "py";refine Kj ba ?_;walk_at "py";refine hK _ _ ⟨rfl,?_⟩;rw[Y5 he,qJ];rfl
 .rintro ys g ⟨rfl,rfl⟩;rw[qA,hL,zA];refine Zn fun p g2 hp x2 ep=>k p g2 ?_ (x1.trans x2) ep;cases z:h p with
  |none=>rfl
  |some u=>rw[x1.get z]at hp;cases hp
theorem N7 {Y:Yd}(x:YAt h Y) (up:(Y.es.map (·.num)).Pairwise (· < ·)) (hl:Y.es.length<=10) (k:∀ p g,h p=none->Ext h g->g p=some (.lst (Y.es.map fun e=>.tup [.int e.num,pV (e.B.life,e.B.version)]))->Q (.ref p) g):wF P (n+2) "Yard.stamps" [.ref Y.y] h Q X:=by
 have xi:=x.ins;have xs:=x.stand;have hL:(Y.es.map (·.num)).length=Y.es.length:=qA _;refine Wt ?_;walk_at "py";refine Mb xs (Ay _) (by rw[ZJ];omega) (Zn fun p1 g1 hp1 x1 e1=>?_);rw[ZJ,WV up]at e1;have x':=x.ext x1;have xi:=x'.ins;have xs:=x'.stand;walk_at "py";refine⟨qS (by rw[qA,hL];exact hl) (by decide),?_⟩;refine ZZ (fun i ys g=>g=g1/\ys=(Y.es.take i).map fun e=>.tup [.int e.num,pV (e.B.life,e.B.version)]) ⟨rfl,rfl⟩ (fun i ys g _ ⟨z,_⟩=>by rw[z];exact lsE e1) ?_ ?_
 .rintro i v ys g hv ⟨rfl,rfl⟩ K hK;obtain⟨nm,hnm,rfl⟩:=Y4 hv;rw[qF]at hnm;obtain⟨e,he,rfl⟩:=qD.mp hnm;have hm:=qX he;have lk:(stands Y.es).lookup e.num=some e.b:=JO (by rw[ZJ];exact x.key) (qZ.mpr ⟨e,hm,rfl⟩);have ba:=x'.brs e hm;have bi:=ba.ins;walk_at "py";refine ifT rfl ?_;walk_at "py";refine Ml xs rfl (by rw[Kc,lk];rfl) ?_;walk_at "py";refine Kq ba ?_;walk_at "py";refine hK _ _ ⟨rfl,?_⟩;rw[Y5 he,qJ];rfl
 .rintro ys g ⟨rfl,rfl⟩;rw[qA,hL,zA];refine Zn fun p g2 hp x2 ep=>k p g2 ?_ (x1.trans x2) ep;cases z:h p with
  |none=>rfl
  |some u=>rw[x1.get z]at hp;cases hp
theorem OZ{num:Int}:Pl 2 (.tup [.int num,.tup [.int num,.int 0,.non,.non]]):=⟨by simp,by simp[Pl]⟩
theorem D8{num:Int}:Pl 2 (.tup [.int num,.tup [.int 0,.int 0]]):=⟨by simp,by simp[Pl]⟩
theorem F2{h:Hs}{a:Ad}{xs:List Val}{K:Val×Hs->Prop}(e1:h a=some (.lst xs))(q:K (.non,upd h a (.lst []))):go (bmV h .clear (.ref a) []) K:=go_of (by show(lsOf (h a)).bind _=_;rw[lsE e1];rfl) q
theorem Ng{b:Int}:∀ {l:List Tie}{k i:Nat}{t:Tie},l[i]?=some t->(b=t.1\/b=t.2.1)->((k+i:Nat):Int)∈(nbs b k l).map (·.1)
 |[],_,_,_,e,_=>by simp at e
 |u::l,k,0,t,e,hb=>by have e:some u=some t:=e;cases e;unfold nbs;rw[if_pos hb];simp
 |u::l,k,i+1,t,e,hb=>by
  have:=Ng (l:=l) (k:=k+1) (i:=i) (t:=t) (by simpa using e) hb;rw[show k+(i+1)=k+1+i by omega];unfold nbs;split
  .exact qI _ this
  .exact this
section
variable {bs:List Int}{ts:List Tie}{most:Int}{Y:Yd}
theorem YNew.up(nw:YNew bs ts most Y)(no:NetOk bs ts):(Y.es.map (·.num)).Pairwise (· < ·):=by rw[nw.num];exact no.up
theorem YNew.ten(nw:YNew bs ts most Y)(no:NetOk bs ts):Y.es.length<=10:=by have:=no.ten;rw[<-nw.num,qA]at this;exact this
theorem YNew.at_(nw:YNew bs ts most Y)(x:YAt h Y){b:Int}(hb:b∈bs):∃ e∈Y.es,e.num=b/\(stands Y.es).lookup b=some e.b:=by rw[<-nw.num]at hb;obtain⟨e,he,rfl⟩:=qZ.mp hb;exact⟨e,he,rfl,JO (by rw[ZJ];exact x.key) (qZ.mpr ⟨e,he,rfl⟩)⟩
theorem YNew.no_(nw:YNew bs ts most Y){b:Int}(hb:b∉bs):(stands Y.es).lookup b=none:=by
 cases z:(stands Y.es).lookup b with
 |none=>rfl
 |some q =>have:=qY (f:=(·.1)) (Kn z);rw[ZJ,nw.num]at this;exact absurd this hb
theorem OC (x:YAt h Y) (nw:YNew bs ts most Y) (no:NetOk bs ts) (k:∀ g,Ext h g->Q (.tup [.tup [],.tup []]) g):wF P (n+1) "Yard.down" [.ref Y.y] h Q X:=by
 have xi:=x.ins;have xs:=x.stand;have hbl:(Y.bs.map Val.int).length<=10:=by rw[qA,nw.hb];exact no.ten
 refine JS ?_;walk_at "py";refine ix_tup (xs:=[.tup (Y.bs.map .int),.tup (Y.ts.map trV)]) (v:=.tup (Y.bs.map .int)) rfl ?_;walk_at "py";refine⟨qS hbl (by decide),Yl (fun _=>none) trivial (fun v hv K hK=>?_) ?_⟩
 .obtain⟨b,hb,rfl⟩:=qZ.mp hv;rw[nw.hb]at hb;obtain⟨e,_,_,he⟩:=nw.at_ x hb;walk_at "py";refine UZ xs rfl ?_;rw[BY,he];walk_at "py";refine ifF rfl ?_;walk_at "py";exact hK
 rw[show(Y.bs.map Val.int).filterMap (fun _=>(none:Option Val))=[] by induction Y.bs.map Val.int with|nil=>rfl|cons a r ih=>simpa using ih];refine Zn fun p1 g1 hp1 x1 e1=>?_;have x':=x.ext x1;have xi:=x'.ins;have xf:=x'.fallen;rw[nw.fallen]at xf;walk_at "py";refine Mb xf (Ay _) (by simp) (Zn fun p2 g2 hp2 x2 e2=>?_);walk_at "py";rw[show sortI (([]:List (Int×Bool)).map (·.1))=[] from List.mergeSort_nil];exact k _ (x1.trans x2)
theorem BO (x:YAt h Y) (k:Q (ZM Y.bs Y.ts) h):wF P (n+1) "Yard.net" [.ref Y.y] h Q X:=by have xi:=x.ins;refine K2 ?_;walk_at "py";exact k
theorem U1 (x:YAt h Y) (k:Q (.int Y.most) h):wF P (n+1) "Yard.greatest" [.ref Y.y] h Q X:=by have xi:=x.ins;refine Xn ?_;walk_at "py";exact k
theorem Mo {b:Int}(x:YAt h Y) (k:Q ((((stands Y.es).lookup b).map rfV).getD .non) h):wF P (n+1) "Yard.bridge" [.ref Y.y,.int b] h Q X:=by have xi:=x.ins;have xs:=x.stand;refine WC ?_;walk_at "py";refine UL xs rfl ?_;rw[Kc];exact k
theorem BR {b t d:Ad}{B:Br}{p:Int}(x:BrAt h b t d B) (hu:B.label.up=none) (hh:B.held=[]) (hs:(B.ties.lookup p).isSome=true) (k:Q (.str "shut") h):wF P (n+3) "Bridge.end" [.ref b,.int p] h Q X:=by obtain⟨hi,ht,hd,hne⟩:=id x;refine JN ?_;walk_at "py";refine UZ ht rfl ?_;rw[BY,hs];walk_at "py";refine ifF rfl ?_;walk_at "py";refine Gv (GU h p B.label.up) ?_;rw[hu];walk_at "py";refine ifF rfl ?_;walk_at "py";refine Yb ?_;walk_at "py";refine Be x ?_;rw[hh];walk_at "py";refine ifF rfl ?_;walk_at "py";refine ifF rfl ?_;walk_at "py";exact k
theorem WI {b:Int}{p:Nat}{t:Tie}(x:YAt h Y) (nw:YNew bs ts most Y) (hb:b∈bs) (et:ts[p]?=some t) (ht:b=t.1\/b=t.2.1) (k:Q (.str "shut") h):wF P (n+4) "Yard.end_at" [.ref Y.y,.int b,.int p] h Q X:=by
 have xi:=x.ins;have xs:=x.stand;obtain⟨e,he,en,lk⟩:=nw.at_ x hb;have hB:=nw.br e he;have ba:=x.brs e he;have bi:=ba.ins;have hs:(e.B.ties.lookup (p:Int)).isSome=true:=by rw[hB];have m:=Ng (b:=e.num) (k:=0) (i:=p) et (by rw[en];exact ht);rw[Nat.zero_add,<-Nm]at m;obtain⟨v,hv⟩:=NZ m;show((Wh (nbs e.num 0 ts)).lookup (p:Int)).isSome=true;rw[hv];rfl
 refine WD ?_;walk_at "py";refine UZ xs rfl ?_;rw[BY,lk];walk_at "py";refine ifF rfl ?_;walk_at "py";refine Ml xs rfl (by rw[Kc,lk];rfl) ?_;walk_at "py";refine BR (P:=P) ba (by rw[hB];rfl) (by rw[hB];rfl) hs ?_;walk_at "py";exact k
theorem OM {p:Nat}(x:YAt h Y) (nw:YNew bs ts most Y) (no:NetOk bs ts) (hp:p<ts.length) (k:Q (.tup [.str "shut",.str "shut"]) h):wF P (n+5) "Yard.ends" [.ref Y.y,.int p] h Q X:=by
 have xi:=x.ins;obtain⟨⟨t1,t2,c⟩,et⟩:∃ t,ts[p]?=some t:=⟨_,qH hp⟩
 have lo:=no.tie _ (qX et);have htl:(Y.ts.map trV).length=ts.length:=by rw[qA,nw.ht]
 refine KI ?_;walk_at "py";refine XG ?_;walk_at "py";refine ifT (by simp) ?_;walk_at "py";refine ix_tup (xs:=[.tup (Y.bs.map .int),.tup (Y.ts.map trV)]) (v:=.tup (Y.ts.map trV)) rfl ?_;walk_at "py";refine ifF (by rw[htl];simpa using hp) ?_;walk_at "py";refine ix_tup (xs:=[.tup (Y.bs.map .int),.tup (Y.ts.map trV)]) (v:=.tup (Y.ts.map trV)) rfl ?_;walk_at "py";refine ix_tup (v:=.tup [.int t1,.int t2,.int c]) (YV (by omega) (by rw[qF,nw.ht,Int.toNat_natCast,et];rfl)) ?_;walk_at "py";refine WI (P:=P) x nw lo.1 et (.inl rfl) ?_;walk_at "py";refine WI (P:=P) x nw lo.2.1 et (.inr rfl) ?_;walk_at "py";exact k
end
theorem JL{h g k:Hs}{p:Ad}(x:Ext h g)(y:Ex [p] g k)(hp:h p=none):Ext h k:=⟨fun {a o} e=>y.get (fun z=>Zj e hp (zH.mp z)) (x.get e)⟩
theorem D6{bs:List Int}{ts:List Tie}(no:NetOk bs ts):Pl 3 (ZM bs ts):=by
 have:=no.ten;have:=no.sixteen;refine⟨by simp,fun v hv=>?_⟩;simp only[qE,List.not_mem_nil,or_false]at hv;rcases hv with rfl|rfl
 .refine⟨by rw[qA];omega,fun v hv=>?_⟩;obtain⟨b,_,rfl⟩:=qZ.mp hv;trivial
 .refine⟨by rw[qA];omega,fun v hv=>?_⟩;obtain⟨t,_,rfl⟩:=qZ.mp hv;exact⟨by simp,by simp[Pl]⟩
section
variable {bs:List Int}{ts:List Tie}{most:Int}{Y:Yd}
theorem WY (no:NetOk bs ts) (x:YAt h Y) (nw:YNew bs ts most Y) (k:∀ g,Ext h g->Q (.bl true) g):wF P (n+6) "_law_begins" [.ref Y.y,ZM bs ts,.int most] h Q X:=by
 have up:=nw.up no;have hel:=nw.ten no;have hbl:(bs.map Val.int).length=bs.length:=qA _;have xi:=x.ins;have el:(Y.es.map fun e=>Val.tup [.int e.num,e.B.label.v])=bs.map fun b=>.tup [.int b,.tup [.int b,.int 0,.non,.non]]:=by rw[<-nw.num,List.map_map];refine List.map_congr_left fun e he=>?_;rw[nw.br e he];rfl
 have es:(Y.es.map fun e=>Val.tup [.int e.num,pV (e.B.life,e.B.version)])=bs.map fun b=>.tup [.int b,.tup [.int 0,.int 0]]:=by rw[<-nw.num,List.map_map];refine List.map_congr_left fun e he=>?_;rw[nw.br e he];rfl
 have hlm:∀ f:Int->Val,(bs.map f).length<=100000:=fun f=>by rw[qA];have:=no.ten;omega
 refine Jd ?_;walk_at "py";refine W5 x up hel fun p1 g1 hp1 x1 e1=>?_;rw[el]at e1;walk_at "py";refine ix_tup (xs:=[.tup (bs.map .int),.tup (ts.map trV)]) (v:=.tup (bs.map .int)) rfl ?_;walk_at "py";refine⟨qS (by rw[hbl];exact no.ten) (by decide),Yl (fun v=>some (.tup [v,.tup [v,.int 0,.non,.non]])) trivial (fun v hv K hK=>?_) ?_⟩
 .obtain⟨b,_,rfl⟩:=qZ.mp hv;walk_at "py";refine ifT rfl ?_;walk_at "py";exact hK
 rw[show(bs.map Val.int).filterMap (fun v=>some (Val.tup [v,.tup [v,.int 0,.non,.non]]))=bs.map fun b=>.tup [.int b,.tup [.int b,.int 0,.non,.non]] by rw[List.filterMap_map];exact congrFun (List.filterMap_eq_map' (f:=fun b:Int=>Val.tup [.int b,.tup [.int b,.int 0,.non,.non]])) bs];refine Zn fun p2 g2 hp2 x2 e2=>?_;have n12:p1≠p2:=Zj e1 hp2;have e12:=x2.get e1;walk_at "py";refine YS (d:=2) e12 e2 (hlm _) (fun v hv=>by obtain⟨b,_,rfl⟩:=qZ.mp hv;exact OZ) ?_;walk_at "py";refine ifF rfl ?_;walk_at "py";refine F2 e12 ?_;dsimp only;have y3:Ex [p1] g2 (upd g2 p1 (.lst [])):=Ex.upd (by simp);generalize upd g2 p1 (.lst [])=g3 at y3;have x3:Ext h g3:=JL (x1.trans x2) y3 hp1;have e23:=y3.get (by simpa using n12.symm) e2;have Y3:=x.ext x3;have xi3:=Y3.ins;walk_at "py";refine N7 Y3 up hel fun p4 g4 hp4 x4 e4=>?_;rw[es]at e4;walk_at "py";refine ix_tup (xs:=[.tup (bs.map .int),.tup (ts.map trV)]) (v:=.tup (bs.map .int)) rfl ?_;walk_at "py";refine⟨qS (by rw[hbl];exact no.ten) (by decide),Yl (fun v=>some (.tup [v,.tup [.int 0,.int 0]])) trivial (fun v hv K hK=>?_) ?_⟩
 .obtain⟨b,_,rfl⟩:=qZ.mp hv;walk_at "py";refine ifT rfl ?_;walk_at "py";exact hK
 rw[show(bs.map Val.int).filterMap (fun v=>some (Val.tup [v,.tup [.int 0,.int 0]]))=bs.map fun b=>.tup [.int b,.tup [.int 0,.int 0]] by rw[List.filterMap_map];exact congrFun (List.filterMap_eq_map' (f:=fun b:Int=>Val.tup [.int b,.tup [.int 0,.int 0]])) bs];refine Zn fun p5 g5 hp5 x5 e5=>?_;have e45:=x5.get e4;walk_at "py";refine YS (d:=2) e45 e5 (hlm _) (fun v hv=>by obtain⟨b,_,rfl⟩:=qZ.mp hv;exact D8) ?_;walk_at "py";refine ifF rfl ?_;walk_at "py";obtain⟨u,eu,_⟩:=Xa (xs:=bs.map fun b=>Val.tup [.int b,.tup [.int 0,.int 0]]) (r:=0) (Int.le_refl _) (by rw[qA];have:=no.one;omega);refine Ze e45 eu ?_;walk_at "py";refine Wl e45 (qS (by rw[qA];exact no.ten) (by decide)) ?_;dsimp only;have y6:Ex [p4] g5 (upd g5 p4 (.lst ((bs.map fun b=>Val.tup [.int b,.tup [.int 0,.int 0]])++[u]))):=Ex.upd (by simp);generalize upd g5 p4 (.lst ((bs.map fun b=>Val.tup [.int b,.tup [.int 0,.int 0]])++[u]))=g6 at y6;have x6:Ext g3 g6:=JL (x4.trans x5) y6 hp4;have Y6:=Y3.ext x6;have xi6:=Y6.ins;walk_at "py";refine Ba Y6 (by rw[nw.road];simp) fun p7 g7 hp7 x7 e7=>?_;rw[nw.road]at e7;have Y7:=Y6.ext x7;walk_at "py";refine Zn fun p8 g8 hp8 x8 e8=>?_;have e78:=x8.get e7;have Y8:=Y7.ext x8;have xi8:=Y8.ins;walk_at "py";refine YS (d:=2) e78 e8 (by simp) (fun v hv=>absurd hv (by simp)) ?_;walk_at "py";refine ifF rfl ?_;walk_at "py";refine OC Y8 nw no fun g9 x9=>?_;walk_at "py";refine Z9 2 ⟨by simp,fun v hv=>?_⟩ ?_
 .simp only[qE,List.not_mem_nil,or_false,or_self]at hv;subst hv;exact⟨by simp,fun v hv=>absurd hv (by simp)⟩
 walk_at "py";refine ifF rfl ?_;have e79:=x9.get e78;walk_at "py";dsimp only;have y10:Ex [p7] g9 (upd g9 p7 (.lst (([]:List (Int×Int×Int×L)).map rdV++[ZM bs ts]))):=Ex.upd (by simp);generalize upd g9 p7 (.lst (([]:List (Int×Int×Int×L)).map rdV++[ZM bs ts]))=g10 at y10;have x10:Ext g6 g10:=JL ((x7.trans x8).trans x9) y10 hp7;have Y10:=Y6.ext x10;have xi10:=Y10.ins;refine BO Y10 ?_;rw[nw.hb,nw.ht];walk_at "py";refine Z9 3 (D6 no) ?_;walk_at "py";refine ifF rfl ?_;walk_at "py";refine U1 Y10 ?_;rw[nw.hm];walk_at "py";refine Z9 0 trivial ?_;walk_at "py";refine ifF rfl ?_;walk_at "py";refine W5 Y10 up hel fun p11 g11 hp11 x11 e11=>?_;rw[el]at e11;have x36:=(x6.trans x10).trans x11;walk_at "py";refine YS (d:=2) e11 (x36.get e23) (hlm _) (fun v hv=>by obtain⟨b,_,rfl⟩:=qZ.mp hv;exact OZ) ?_;exact k _ (x3.trans x36)
theorem MW (no:NetOk bs ts) (x:YAt h Y) (nw:YNew bs ts most Y) (k:Q (.bl true) h):wF P (n+6) "_law_shut" [.ref Y.y,ZM bs ts] h Q X:=by
 have xi:=x.ins;have h16:=no.sixteen;have htl:(ts.map trV).length=ts.length:=qA _;refine K3 ?_;walk_at "py";refine ix_tup (xs:=[.tup (bs.map .int),.tup (ts.map trV)]) (v:=.tup (ts.map trV)) rfl ?_;walk_at "py";refine⟨⟨by omega,by omega⟩,?_⟩;refine ZK (fun i e g=>g=h/\∃ v,e=[some (.ref Y.y),some (ZM bs ts),v]) ⟨rfl,_,rfl⟩ (fun _ _ _ _ _=>trivial) ?_ ?_
 .rintro i v e g hvi ⟨rfl,v1,rfl⟩ K hK;obtain⟨rfl,hi⟩:=Ym hvi;walk_at "py";refine OM x nw no (p:=i) (by omega) ?_;walk_at "py";refine Z9 1 ⟨by simp,by simp[Pl,KM,upV,rsV]⟩ ?_;walk_at "py";refine ifF rfl ?_;walk_at "py";exact hK _ _ ⟨rfl,_,rfl⟩
 .rintro e g ⟨rfl,v1,rfl⟩;walk_at "py";exact k
theorem Gm{a:Ad}{C:String}{fs:List (String×Val)}(e:h a=some (.ins C fs))(q:Q (.bl true) h):(biV h (.isc C) [.ref a]).wp h Q:=wp_val (by show Rs.ofO (isoV h C (.ref a))=_;unfold isoV;simp only[e,if_true];rfl) q
theorem J9 {a:Ad}{ns:List Int}(no:NetOk bs ts) (x:YAt h Y) (nw:YNew bs ts most Y) (ea:h a=some (.lst (ns.map .int))) (k:Q (.bl true) h):wF P (n+6) "_law_bridges_there" [.ref Y.y,ZM bs ts,.ref a] h Q X:=by
 have xi:=x.ins;refine Yp ?_;walk_at "py";refine ZK (fun i e g=>g=h/\∃ v u,e=[some (.ref Y.y),some (ZM bs ts),some (.ref a),v,u]) ⟨rfl,_,_,rfl⟩ (fun i e g _ ⟨z,_⟩=>by rw[z];exact lsE ea) ?_ ?_
 .rintro i v e g hv ⟨rfl,v1,v2,rfl⟩ K hK;obtain⟨b,hb,rfl⟩:=Y4 hv;walk_at "py";refine Mo x ?_;walk_at "py";refine ix_tup (xs:=[.tup (bs.map .int),.tup (ts.map trV)]) (v:=.tup (bs.map .int)) rfl ?_;walk_at "py";refine Dz ?_;walk_at "py";by_cases hm:b∈bs
  .obtain⟨e,he,en,lk⟩:=nw.at_ x hm;have ba:=x.brs e he;have bi:=ba.ins;have hB:=nw.br e he;rw[lk,show(Option.map rfV (some e.b)).getD Val.non=.ref e.b from rfl];refine ifF (by simp[hm]) ?_;walk_at "py";refine Gm bi ?_;walk_at "py";refine ifF rfl ?_;walk_at "py";refine Kj ba ?_;rw[hB,en];walk_at "py";refine Z9 1 ⟨by simp,by simp[Pl,KM,upV,rsV]⟩ ?_;walk_at "py";refine ifF rfl ?_;walk_at "py";refine Kq ba ?_;rw[hB];walk_at "py";refine Z9 1 ⟨by simp,by simp[Pl,KM,upV,rsV]⟩ ?_;walk_at "py";refine ifF rfl ?_;walk_at "py";exact hK _ _ ⟨rfl,_,_,rfl⟩
  .rw[nw.no_ hm,show(Option.map rfV none).getD Val.non=.non from rfl];refine ifT (by simp[hm]) ?_;walk_at "py";refine ifF rfl ?_;walk_at "py";exact hK _ _ ⟨rfl,_,_,rfl⟩
 .rintro e g ⟨rfl,v1,v2,rfl⟩;walk_at "py";exact k
end
theorem UR{α:Type}{l:List α}(h:l.length=2):∃ a b,l=[a,b]:=by
 match l,h with
 |[a,b],_=>exact⟨a,b,rfl⟩
theorem KH{i:Nat}{v:Val}(h:([.int 0,.int 2]:List Val)[i]?=some v):∃ m:Nat,v=.int m:=by
 match i,h with
 |0,h=>cases h;exact⟨0,rfl⟩
 |1,h=>cases h;exact⟨2,rfl⟩
 |i+2,h=>simp at h
theorem law_ok {ns:List Int}(h63:ns.length<=63) (k:∀ g,Q (.bl true) g):wF P (n+8) "law" [.scr ns] h Q X:=by
 refine Hg ?_;walk_at "py";refine Zn fun p0 g0 hp0 x0 e0=>?_;walk_at "py";refine⟨show 2<lim by decide,?_⟩;refine ZZ (fun i ys g=>∃ NS:List (List Int×List Tie),ys=NS.map (fun p=>ZM p.1 p.2)/\NS.length=i/\(∀ p∈NS,NetOk p.1 p.2)/\Ext g0 g) ⟨[],rfl,rfl,by simp,.refl⟩ (fun i ys g _ ⟨_,_,_,_,x⟩=>lsE (x.get e0)) ?_ ?_
 .rintro i v ys g hv ⟨NS,rfl,hl,hn,x⟩ K hK;obtain⟨m,rfl⟩:=KH hv;walk_at "py";refine ifT rfl ?_;walk_at "py";refine Xx (k:=m) fun c0=>?_;walk_at "py";refine Xx (k:=m+1) fun c1=>?_;walk_at "py";refine E1 fun bs ts g1 no x1=>hK _ _ ⟨NS++[(bs,ts)],by simp,by simp[hl],fun p hp=>?_,x.trans x1⟩;rcases q8.mp hp with hp|hp
  .exact hn p hp
  .rw[zH.mp hp];exact no
 rintro ys g1 ⟨NS,rfl,hl,hn,x1⟩;obtain⟨⟨bs0,ts0⟩,⟨bs1,ts1⟩,rfl⟩:=UR hl;have no0:NetOk bs0 ts0:=hn (bs0,ts0) (by simp);have no1:NetOk bs1 ts1:=hn (bs1,ts1) (by simp);refine Zn fun nl g2 hnl x2 enl=>?_
 replace enl:g2 nl=some (.lst [ZM bs0 ts0,ZM bs1 ts1]):=enl
 walk_at "py";refine Zn fun p3 g3 hp3 x3 e3=>?_;walk_at "py";refine⟨show 2<lim by decide,?_⟩;refine ZZ (fun i ys g=>∃ MS:List Int,ys=MS.map Val.int/\MS.length=i/\Ext g3 g) ⟨[],rfl,rfl,.refl⟩ (fun i ys g _ ⟨_,_,_,x⟩=>lsE (x.get e3)) ?_ ?_
 .rintro i v ys g hv ⟨MS,rfl,hl,x⟩ K hK;obtain⟨m,rfl⟩:=KH hv;walk_at "py";refine ifT rfl ?_;walk_at "py";refine Xx (k:=m) fun c0=>?_;walk_at "py";exact J8 fun m g1 _ _ x1=>hK _ _ ⟨MS++[m],by simp,by simp[hl],x.trans x1⟩
 rintro ys g4 ⟨MS,rfl,hl,x4⟩;obtain⟨m0,m1,rfl⟩:=UR hl;refine Zn fun al g5 hal x5 eal=>?_
 replace eal:g5 al=some (.lst [.int m0,.int m1]):=eal
 have enl5:=x5.get (x4.get (x3.get enl));walk_at "py";intro q0 hq0;refine Kb no0 hq0 fun Y0 g6 ey0 y0 n0 f0 x6=>?_;refine⟨rfl,?_⟩;have enl6:=x6.get enl5;have eal6:=x6.get eal;walk_at "py";intro q1 hq1;refine Kb no1 hq1 fun Y1 g7 ey1 y1 n1 f1 x7=>?_;refine⟨rfl,?_⟩;walk_at "py";refine Zn fun yl g8 hyl x8 eyl=>?_;rw[<-ey0,<-ey1]at eyl;walk_at "py";refine Zn fun pc g9 hpc x9 epc=>?_;rw[XM]at epc;have hcn:(cut ns (some 4) (some 24)).length<=20:=by rw[Mw (by decide) (by decide),qV];omega
 generalize cut ns (some 4) (some 24)=cs at epc hcn;walk_at "py";refine⟨qS (by rw[qA];exact hcn) (by decide),?_⟩;refine ZZ (fun i ys g=>∃ MS:List Int,ys=MS.map Val.int/\MS.length=i/\g=g9) ⟨[],rfl,rfl,rfl⟩ (fun i ys g _ ⟨_,_,_,x⟩=>by rw[x];exact lsE epc) ?_ ?_
 .rintro i v ys g hv ⟨MS,rfl,hl,rfl⟩ K hK;obtain⟨c,hc,rfl⟩:=Y4 hv;walk_at "py";refine ifT rfl ?_;walk_at "py";exact hK _ _ ⟨MS++[c % 1002],by simp,by simp[hl],rfl⟩
 rintro ys g10 ⟨so,rfl,hso,rfl⟩;rw[qA]at hso;refine Zn fun sl g11 hsl x11 esl=>?_;walk_at "py";refine Xx (k:=4) fun ct=>?_;walk_at "py";have hct:ct / 1002 % 2=0\/ct / 1002 % 2=1:=by omega
 generalize ct / 1002 % 2=tu at hct ⊢;have z11:=(x8.trans x9).trans x11;have Y0':=(y0.ext x7).ext z11;have Y1':=y1.ext z11;have enl':=z11.get (x7.get enl6);have eal':=z11.get (x7.get eal6);have eyl':=(x9.trans x11).get eyl;refine⟨by decide,?_⟩;refine ZK (fun i en g=>∃ v1 v7 v8,en=[some (.scr ns),v1,some (.ref nl),some (.ref al),some (.ref yl),some (.ref sl),some (.int tu),v7,v8]/\Ext g11 g) ⟨_,_,_,rfl,.refl⟩ (fun _ _ _ _ _=>trivial) ?_ ?_
 .rintro i v en g hv ⟨v1,v7,v8,rfl,x⟩ K hK;obtain⟨rfl,hi⟩:=Ym hv;walk_at "py";refine Zn fun p1 g1 hp1 xa ea=>?_;walk_at "py";obtain⟨kk,hkk,ekk⟩:∃ kk:Int,(kk=0\/kk=1)/\atI ([.int ((i:Int) % 2),.int (1 - (i:Int) % 2)]:List Val) tu=some (.int kk):=by
   rcases hct with rfl|rfl
   .exact⟨(i:Int) % 2,by omega,rfl⟩
   .exact⟨1 - (i:Int) % 2,by omega,rfl⟩
  refine Ze ea ekk ?_;have xa':=x.trans xa;walk_at "py";refine ix_tup (xs:=[.tup (bs0.map .int),.tup (ts0.map trV)]) (v:=.tup (bs0.map .int)) rfl ?_;walk_at "py";refine Zn fun p2 g2 hp2 xb eb=>?_;have xb':=xa'.trans xb;walk_at "py";refine ix_tup (xs:=[.tup (bs1.map .int),.tup (ts1.map trV)]) (v:=.tup (bs1.map .int)) rfl ?_;walk_at "py";refine Zn fun p3 g3 hp3 xc ec=>?_;have t0:=no0.ten;have t1:=no1.ten;walk_at "py";refine K4 (xc.get eb) ec (by simp only[qU,qA];exact zE (by omega:_<=100) (by decide)) ?_;refine Zn fun p4 g4 hp4 xd ed=>?_;have xd':=(xb'.trans xc).trans xd;walk_at "py";refine K4 ed (xd'.get esl) (by simp only[qU,qA];exact zE (by omega:_<=100) (by decide)) ?_;refine Zn fun nm g5 hnm xe ee=>?_;rw[<-qJ,<-qJ]at ee;have xe':=xd'.trans xe;obtain⟨Y,bs,ts,most,no,y,nw,a1,a2,a3⟩:∃ Y bs ts most,NetOk bs ts/\YAt g5 Y/\YNew bs ts most Y/\atI ([.ref Y0.y,.ref Y1.y]:List Val) kk=some (.ref Y.y)/\atI ([ZM bs0 ts0,ZM bs1 ts1]:List Val) kk=some (ZM bs ts)/\atI ([.int m0,.int m1]:List Val) kk=some (.int most):=by
   rcases hkk with rfl|rfl
   .exact⟨Y0,bs0,ts0,m0,no0,Y0'.ext xe',n0,rfl,rfl,rfl⟩
   .exact⟨Y1,bs1,ts1,m1,no1,Y1'.ext xe',n1,rfl,rfl,rfl⟩
  have enl5:=xe'.get enl';have eal5:=xe'.get eal';have eyl5:=xe'.get eyl';clear hv hkk ekk;rcases hct with rfl|rfl
  .walk_at "py";refine ifT rfl ?_;walk_at "py";refine Ze eyl5 a1 ?_;walk_at "py";refine Ze enl5 a2 ?_;walk_at "py";refine Ze eal5 a3 ?_;walk_at "py";refine WY no y nw fun g6 xf=>?_;have y:=y.ext xf;walk_at "py";refine ifF rfl ?_;walk_at "py";refine Ze (xf.get eyl5) a1 ?_;walk_at "py";refine Ze (xf.get enl5) a2 ?_;walk_at "py";refine MW no y nw ?_;walk_at "py";refine ifF rfl ?_;walk_at "py";refine Ze (xf.get eyl5) a1 ?_;walk_at "py";refine Ze (xf.get enl5) a2 ?_;walk_at "py";refine J9 no y nw (xf.get ee) ?_;walk_at "py";refine ifF rfl ?_;walk_at "py";refine ifF rfl ?_;walk_at "py";refine ifF rfl ?_;walk_at "py";exact hK _ _ ⟨_,_,_,rfl,xe'.trans xf⟩
  .walk_at "py";refine ifF rfl ?_;walk_at "py";refine ifF rfl ?_;walk_at "py";refine Ze eyl5 a1 ?_;walk_at "py";refine Ze enl5 a2 ?_;walk_at "py";refine MW no y nw ?_;walk_at "py";refine ifF rfl ?_;walk_at "py";refine Ze eyl5 a1 ?_;walk_at "py";refine Ze enl5 a2 ?_;walk_at "py";refine J9 no y nw ee ?_;walk_at "py";refine ifF rfl ?_;walk_at "py";refine ifT rfl ?_;walk_at "py";refine Ze eyl5 a1 ?_;walk_at "py";refine Ze enl5 a2 ?_;walk_at "py";refine Ze eal5 a3 ?_;walk_at "py";refine WY no y nw fun g6 xf=>?_;walk_at "py";refine ifF rfl ?_;walk_at "py";exact hK _ _ ⟨_,_,_,rfl,xe'.trans xf⟩
 .rintro en g ⟨v1,v7,v8,rfl,x⟩;walk_at "py";exact k g
end Own
set_option maxRecDepth 1000000
set_option maxHeartbeats 0
namespace My
open PySem L2 Snd PySem.W
noncomputable def top (i:Nat):Stmt:=PySem.Challenge.pw_shutways_k22_yards_made.main.body.getD i (.Pass ⟨0,0,0,0⟩)
noncomputable def inC:Stmt->Nat->Stmt
 |.ClassDef _ _ _ b _ _ _ _ _ _ _,j=>b.getD j (.Pass ⟨0,0,0,0⟩)
 |s,_=>s
noncomputable def x0:Ds:=⟨top 0,["k"],["k"],Own.Pk⟩
noncomputable def x1:Ds:=⟨top 2,["net","bridge","found","place","tie"],["net","bridge"],Own.Pj⟩
noncomputable def x2:Ds:=⟨top 3,["tie","bridge"],["tie","bridge"],Own.PB⟩
noncomputable def x3:Ds:=⟨top 12,["script","k"],["script","k"],Own.PP⟩
noncomputable def x4:Ds:=⟨top 13,["cell","k","number"],["cell","k"],Own.PV⟩
noncomputable def x5:Ds:=⟨top 14,["cell","many","rest","plain","found","k"],["cell","many"],Own.PQ⟩
noncomputable def x6:Ds:=⟨top 15,["sizes","many","width"],["sizes"],Own.PH⟩
noncomputable def x7:Ds:=⟨top 16,["bridges","three","k","size","one","other","cost","pair"],["bridges","three","k"],Own.Pw⟩
noncomputable def x8:Ds:=⟨top 17,["first","second","sizes","bridges","many","draws","ties"],["first","second"],Own.Pz⟩
noncomputable def x9:Ds:=⟨top 18,["first","sizes"],["first"],Own.PR⟩
noncomputable def x10:Ds:=⟨top 19,["found","due","k"],["found","due"],Own.Py⟩
noncomputable def x11:Ds:=⟨top 20,["yard","net","greatest","labels","due","stamps","road"],["yard","net","greatest"],Own.PF⟩
noncomputable def x12:Ds:=⟨top 21,["yard","net","place"],["yard","net"],Own.Px⟩
noncomputable def x13:Ds:=⟨top 22,["yard","net","some","number","found"],["yard","net","some"],Own.PL⟩
noncomputable def x14:Ds:=⟨top 23,["script","k","nets","ages","yards","some","turned","step","numbers"],["script"],Own.PD⟩
noncomputable def z0:Ds:=⟨inC (top 8) 0,["self","number","life","ties","greatest","place","neighbour","cost"],["self","number","life","ties","greatest"],Own.LJ⟩
noncomputable def z1:Ds:=⟨inC (top 8) 1,["self"],["self"],Own.LI⟩
noncomputable def z2:Ds:=⟨inC (top 8) 2,["self"],["self"],Own.LN⟩
noncomputable def z3:Ds:=⟨inC (top 8) 3,["self"],["self"],Own.LF⟩
noncomputable def z4:Ds:=⟨inC (top 8) 4,["self","place"],["self","place"],Own.LW⟩
noncomputable def z5:Ds:=⟨inC (top 8) 5,["self","place","neighbour","cost"],["self","place","neighbour","cost"],Own.LL⟩
noncomputable def z6:Ds:=⟨inC (top 8) 6,["self","place"],["self","place"],Own.LZ⟩
noncomputable def z7:Ds:=⟨inC (top 8) 7,["self","place","letter"],["self","place","letter"],Own.LX⟩
noncomputable def z8:Ds:=⟨inC (top 8) 8,["self"],["self"],Own.LH⟩
noncomputable def z9:Ds:=⟨inC (top 8) 9,["self"],["self"],Own.LO⟩
noncomputable def z10:Ds:=⟨inC (top 8) 10,["self"],["self"],Own.LE⟩
noncomputable def z11:Ds:=⟨inC (top 8) 11,["self","label"],["self","label"],Own.LG⟩
noncomputable def z12:Ds:=⟨inC (top 8) 12,["self","place"],["self","place"],Own.LU⟩
noncomputable def z13:Ds:=⟨inC (top 8) 13,["self","place","held"],["self","place"],Own.LM⟩
noncomputable def z14:Ds:=⟨inC (top 8) 14,["self","place","held"],["self","place"],Own.LK⟩
noncomputable def z15:Ds:=⟨inC (top 8) 15,["self","place"],["self","place"],Own.LY⟩
noncomputable def z16:Ds:=⟨inC (top 10) 0,["self","net","greatest","number"],["self","net","greatest"],Own.L7⟩
noncomputable def z17:Ds:=⟨inC (top 10) 1,["self"],["self"],Own.PU⟩
noncomputable def z18:Ds:=⟨inC (top 10) 2,["self"],["self"],Own.L9⟩
noncomputable def z19:Ds:=⟨inC (top 10) 3,["self"],["self"],Own.L5⟩
noncomputable def z20:Ds:=⟨inC (top 10) 4,["self"],["self"],Own.PZ⟩
noncomputable def z21:Ds:=⟨inC (top 10) 5,["self","fallen"],["self"],Own.LV⟩
noncomputable def z22:Ds:=⟨inC (top 10) 6,["self"],["self"],Own.L8⟩
noncomputable def z23:Ds:=⟨inC (top 10) 7,["self"],["self"],Own.PK⟩
noncomputable def z24:Ds:=⟨inC (top 10) 8,["self","number"],["self","number"],Own.LR⟩
noncomputable def z25:Ds:=⟨inC (top 10) 9,["self","place","one","other","cost"],["self","place"],Own.L1⟩
noncomputable def z26:Ds:=⟨inC (top 10) 10,["self","number","place"],["self","number","place"],Own.L0⟩
noncomputable def z27:Ds:=⟨inC (top 10) 11,["self","place"],["self","place"],Own.L6⟩
noncomputable def z28:Ds:=⟨inC (top 10) 12,["self","some"],["self","some"],Own.LT⟩
noncomputable def z29:Ds:=⟨inC (top 10) 13,["self","number"],["self","number"],Own.PN⟩
noncomputable def z30:Ds:=⟨inC (top 10) 14,["self","place"],["self","place"],Own.LS⟩
noncomputable def z31:Ds:=⟨inC (top 10) 15,["self","place"],["self","place"],Own.PM⟩
noncomputable def z32:Ds:=⟨inC (top 10) 16,["self","number"],["self","number"],Own.L3⟩
noncomputable def z33:Ds:=⟨inC (top 10) 17,["self","place"],["self","place"],Own.L4⟩
noncomputable def z34:Ds:=⟨inC (top 10) 18,["self","number"],["self","number"],Own.LP⟩
noncomputable def z35:Ds:=⟨inC (top 10) 19,["self","place"],["self","place"],Own.LQ⟩
noncomputable def z36:Ds:=⟨inC (top 10) 20,["self","number"],["self","number"],Own.PX⟩
noncomputable def z37:Ds:=⟨inC (top 10) 21,["self","place"],["self","place"],Own.PY⟩
noncomputable def tb:Tb where
 fs:=[("_wall",x0),("neighbours",x1),("far_end",x2),("_law_cell_at",x3),("_law_mixed",x4),("_law_draws",x5),("_law_bridges",x6),("_law_tie",x7),("_law_net",x8),("_law_greatest",x9),("_law_same",x10),("_law_begins",x11),("_law_shut",x12),("_law_bridges_there",x13),("law",x14)]
 ms:=[⟨"Bridge","__init__","Bridge.__init__",z0⟩,⟨"Bridge","twin","Bridge.twin",z1⟩,⟨"Bridge","label","Bridge.label",z2⟩,⟨"Bridge","stamp","Bridge.stamp",z3⟩,⟨"Bridge","held","Bridge.held",z4⟩,⟨"Bridge","up","Bridge.up",z5⟩,⟨"Bridge","down","Bridge.down",z6⟩,⟨"Bridge","hear","Bridge.hear",z7⟩,⟨"Bridge","tick","Bridge.tick",z8⟩,⟨"Bridge","let_grow_older","Bridge.let_grow_older",z9⟩,⟨"Bridge","reckon_label","Bridge.reckon_label",z10⟩,⟨"Bridge","take_label","Bridge.take_label",z11⟩,⟨"Bridge","letter_over","Bridge.letter_over",z12⟩,⟨"Bridge","is_rested_on","Bridge.is_rested_on",z13⟩,⟨"Bridge","is_agreed_to","Bridge.is_agreed_to",z14⟩,⟨"Bridge","end","Bridge.end",z15⟩,⟨"Yard","__init__","Yard.__init__",z16⟩,⟨"Yard","twin","Yard.twin",z17⟩,⟨"Yard","net","Yard.net",z18⟩,⟨"Yard","greatest","Yard.greatest",z19⟩,⟨"Yard","road","Yard.road",z20⟩,⟨"Yard","down","Yard.down",z21⟩,⟨"Yard","labels","Yard.labels",z22⟩,⟨"Yard","stamps","Yard.stamps",z23⟩,⟨"Yard","bridge","Yard.bridge",z24⟩,⟨"Yard","ends","Yard.ends",z25⟩,⟨"Yard","end_at","Yard.end_at",z26⟩,⟨"Yard","has_tie","Yard.has_tie",z27⟩,⟨"Yard","deed","Yard.deed",z28⟩,⟨"Yard","tick_of","Yard.tick_of",z29⟩,⟨"Yard","come","Yard.come",z30⟩,⟨"Yard","take_off","Yard.take_off",z31⟩,⟨"Yard","fall_of_bridge","Yard.fall_of_bridge",z32⟩,⟨"Yard","fall_of_tie","Yard.fall_of_tie",z33⟩,⟨"Yard","back_of_bridge","Yard.back_of_bridge",z34⟩,⟨"Yard","back_of_tie","Yard.back_of_tie",z35⟩,⟨"Yard","set_ties_of","Yard.set_ties_of",z36⟩,⟨"Yard","set_tie","Yard.set_tie",z37⟩]
 cs:=[("STAMP",(.int 1)),("RESTS",(.int 5)),("AGREES",(.int 6))]
 cl:=["Bridge","Yard"]
 fl:=["age_let_go","greatest_age","held_by_place","label_now","letters_on_road","life","lives","net_made_of","number","standing","ticks_had","ties_by_place","ties_fallen","version"]
 xs:=[]
noncomputable def pg:Own.Pg:=fun f=>(([("_wall",Own.Pk),("neighbours",Own.Pj),("far_end",Own.PB),("_law_cell_at",Own.PP),("_law_mixed",Own.PV),("_law_draws",Own.PQ),("_law_bridges",Own.PH),("_law_tie",Own.Pw),("_law_net",Own.Pz),("_law_greatest",Own.PR),("_law_same",Own.Py),("_law_begins",Own.PF),("_law_shut",Own.Px),("_law_bridges_there",Own.PL),("law",Own.PD),("Bridge.__init__",Own.LJ),("Bridge.twin",Own.LI),("Bridge.label",Own.LN),("Bridge.stamp",Own.LF),("Bridge.held",Own.LW),("Bridge.up",Own.LL),("Bridge.down",Own.LZ),("Bridge.hear",Own.LX),("Bridge.tick",Own.LH),("Bridge.let_grow_older",Own.LO),("Bridge.reckon_label",Own.LE),("Bridge.take_label",Own.LG),("Bridge.letter_over",Own.LU),("Bridge.is_rested_on",Own.LM),("Bridge.is_agreed_to",Own.LK),("Bridge.end",Own.LY),("Yard.__init__",Own.L7),("Yard.twin",Own.PU),("Yard.net",Own.L9),("Yard.greatest",Own.L5),("Yard.road",Own.PZ),("Yard.down",Own.LV),("Yard.labels",Own.L8),("Yard.stamps",Own.PK),("Yard.bridge",Own.LR),("Yard.ends",Own.L1),("Yard.end_at",Own.L0),("Yard.has_tie",Own.L6),("Yard.deed",Own.LT),("Yard.tick_of",Own.PN),("Yard.come",Own.LS),("Yard.take_off",Own.PM),("Yard.fall_of_bridge",Own.L3),("Yard.fall_of_tie",Own.L4),("Yard.back_of_bridge",Own.LP),("Yard.back_of_tie",Own.LQ),("Yard.set_ties_of",Own.PX),("Yard.set_tie",Own.PY)]:List (String×Own.Fn)).lookup f)
instance:Own.Al pg:=⟨rfl,rfl,rfl,rfl,rfl,rfl,rfl,rfl,rfl,rfl,rfl,rfl,rfl,rfl,rfl,rfl,rfl,rfl,rfl,rfl,rfl,rfl,rfl,rfl,rfl,rfl,rfl,rfl,rfl,rfl,rfl,rfl,rfl,rfl,rfl,rfl,rfl,rfl,rfl,rfl,rfl,rfl,rfl,rfl,rfl,rfl,rfl,rfl,rfl,rfl,rfl,rfl,rfl⟩
theorem ar1{α:Type}{p:List α->Prop}(h:∀ a0,p [a0])(us:List α)(e:us.length=1):p us:=match us,e with|[a0],_=>h a0
theorem ar2{α:Type}{p:List α->Prop}(h:∀ a0 a1,p [a0,a1])(us:List α)(e:us.length=2):p us:=match us,e with|[a0,a1],_=>h a0 a1
theorem ar3{α:Type}{p:List α->Prop}(h:∀ a0 a1 a2,p [a0,a1,a2])(us:List α)(e:us.length=3):p us:=match us,e with|[a0,a1,a2],_=>h a0 a1 a2
theorem ar4{α:Type}{p:List α->Prop}(h:∀ a0 a1 a2 a3,p [a0,a1,a2,a3])(us:List α)(e:us.length=4):p us:=match us,e with|[a0,a1,a2,a3],_=>h a0 a1 a2 a3
theorem ar5{α:Type}{p:List α->Prop}(h:∀ a0 a1 a2 a3 a4,p [a0,a1,a2,a3,a4])(us:List α)(e:us.length=5):p us:=match us,e with|[a0,a1,a2,a3,a4],_=>h a0 a1 a2 a3 a4
theorem mc{P:String->Ds->Prop}{f:String}{x:Ds}{l:List (String×Ds)}(h:P f x)(k:∀ g y,(g,y)∈l->P g y):∀ g y,(g,y)∈(f,x)::l->P g y:=fun g y m=>by
 rcases qE.mp m with e|m
 .cases e;exact h
 .exact k g y m
theorem mn{P:String->Ds->Prop}:∀ g y,(g,y)∈([]:List (String×Ds))->P g y:=fun _ _ m=>nomatch m
theorem tab_ok:∀ f x,(f,x)∈tb.fs->x.Ok tb:=mc ⟨by kernel_rfl,by kernel_rfl⟩ (mc ⟨by kernel_rfl,by kernel_rfl⟩ (mc ⟨by kernel_rfl,by kernel_rfl⟩ (mc ⟨by kernel_rfl,by kernel_rfl⟩ (mc ⟨by kernel_rfl,by kernel_rfl⟩ (mc ⟨by kernel_rfl,by kernel_rfl⟩ (mc ⟨by kernel_rfl,by kernel_rfl⟩ (mc ⟨by kernel_rfl,by kernel_rfl⟩ (mc ⟨by kernel_rfl,by kernel_rfl⟩ (mc ⟨by kernel_rfl,by kernel_rfl⟩ (mc ⟨by kernel_rfl,by kernel_rfl⟩ (mc ⟨by kernel_rfl,by kernel_rfl⟩ (mc ⟨by kernel_rfl,by kernel_rfl⟩ (mc ⟨by kernel_rfl,by kernel_rfl⟩ (mc ⟨by kernel_rfl,by kernel_rfl⟩ (mn)))))))))))))))
theorem tab_pg:∀ f x,(f,x)∈tb.fs->pg f=some x.d:=mc rfl (mc rfl (mc rfl (mc rfl (mc rfl (mc rfl (mc rfl (mc rfl (mc rfl (mc rfl (mc rfl (mc rfl (mc rfl (mc rfl (mc rfl (mn)))))))))))))))
theorem tab_bd:∀ f x,(f,x)∈tb.fs->Hd.Bd (Str.ofString f) (Str.ofString f) x:=mc (fun _ _ _ _ _ _=>ar1 fun _=>rfl) (mc (fun _ _ _ _ _ _=>ar2 fun _ _=>rfl) (mc (fun _ _ _ _ _ _=>ar2 fun _ _=>rfl) (mc (fun _ _ _ _ _ _=>ar2 fun _ _=>rfl) (mc (fun _ _ _ _ _ _=>ar2 fun _ _=>rfl) (mc (fun _ _ _ _ _ _=>ar2 fun _ _=>rfl) (mc (fun _ _ _ _ _ _=>ar1 fun _=>rfl) (mc (fun _ _ _ _ _ _=>ar3 fun _ _ _=>rfl) (mc (fun _ _ _ _ _ _=>ar2 fun _ _=>rfl) (mc (fun _ _ _ _ _ _=>ar1 fun _=>rfl) (mc (fun _ _ _ _ _ _=>ar2 fun _ _=>rfl) (mc (fun _ _ _ _ _ _=>ar3 fun _ _ _=>rfl) (mc (fun _ _ _ _ _ _=>ar2 fun _ _=>rfl) (mc (fun _ _ _ _ _ _=>ar3 fun _ _ _=>rfl) (mc (fun _ _ _ _ _ _=>ar1 fun _=>rfl) (mn)))))))))))))))
theorem md{α:Type}{P:α->Prop}{x:α}{l:List α}(h:P x)(k:∀ y,y∈l->P y):∀ y,y∈x::l->P y:=fun y m=>by
 rcases qE.mp m with e|m
 .cases e;exact h
 .exact k y m
theorem me{α:Type}{P:α->Prop}:∀ y,y∈([]:List α)->P y:=fun _ m=>nomatch m
theorem tab_om:∀ y,y∈tb.ms->y.x.Ok tb:=md ⟨by kernel_rfl,by kernel_rfl⟩ (md ⟨by kernel_rfl,by kernel_rfl⟩ (md ⟨by kernel_rfl,by kernel_rfl⟩ (md ⟨by kernel_rfl,by kernel_rfl⟩ (md ⟨by kernel_rfl,by kernel_rfl⟩ (md ⟨by kernel_rfl,by kernel_rfl⟩ (md ⟨by kernel_rfl,by kernel_rfl⟩ (md ⟨by kernel_rfl,by kernel_rfl⟩ (md ⟨by kernel_rfl,by kernel_rfl⟩ (md ⟨by kernel_rfl,by kernel_rfl⟩ (md ⟨by kernel_rfl,by kernel_rfl⟩ (md ⟨by kernel_rfl,by kernel_rfl⟩ (md ⟨by kernel_rfl,by kernel_rfl⟩ (md ⟨by kernel_rfl,by kernel_rfl⟩ (md ⟨by kernel_rfl,by kernel_rfl⟩ (md ⟨by kernel_rfl,by kernel_rfl⟩ (md ⟨by kernel_rfl,by kernel_rfl⟩ (md ⟨by kernel_rfl,by kernel_rfl⟩ (md ⟨by kernel_rfl,by kernel_rfl⟩ (md ⟨by kernel_rfl,by kernel_rfl⟩ (md ⟨by kernel_rfl,by kernel_rfl⟩ (md ⟨by kernel_rfl,by kernel_rfl⟩ (md ⟨by kernel_rfl,by kernel_rfl⟩ (md ⟨by kernel_rfl,by kernel_rfl⟩ (md ⟨by kernel_rfl,by kernel_rfl⟩ (md ⟨by kernel_rfl,by kernel_rfl⟩ (md ⟨by kernel_rfl,by kernel_rfl⟩ (md ⟨by kernel_rfl,by kernel_rfl⟩ (md ⟨by kernel_rfl,by kernel_rfl⟩ (md ⟨by kernel_rfl,by kernel_rfl⟩ (md ⟨by kernel_rfl,by kernel_rfl⟩ (md ⟨by kernel_rfl,by kernel_rfl⟩ (md ⟨by kernel_rfl,by kernel_rfl⟩ (md ⟨by kernel_rfl,by kernel_rfl⟩ (md ⟨by kernel_rfl,by kernel_rfl⟩ (md ⟨by kernel_rfl,by kernel_rfl⟩ (md ⟨by kernel_rfl,by kernel_rfl⟩ (md ⟨by kernel_rfl,by kernel_rfl⟩ (me))))))))))))))))))))))))))))))))))))))
theorem tab_pm:∀ y,y∈tb.ms->pg (y.C ++ "." ++ y.m)=some y.x.d:=md rfl (md rfl (md rfl (md rfl (md rfl (md rfl (md rfl (md rfl (md rfl (md rfl (md rfl (md rfl (md rfl (md rfl (md rfl (md rfl (md rfl (md rfl (md rfl (md rfl (md rfl (md rfl (md rfl (md rfl (md rfl (md rfl (md rfl (md rfl (md rfl (md rfl (md rfl (md rfl (md rfl (md rfl (md rfl (md rfl (md rfl (md rfl (me))))))))))))))))))))))))))))))))))))))
theorem tab_bm:∀ y,y∈tb.ms->Hd.Bd (Str.ofString y.m) (Str.ofString y.qual) y.x:=md (fun _ _ _ _ _ _=>ar5 fun _ _ _ _ _=>rfl) (md (fun _ _ _ _ _ _=>ar1 fun _=>rfl) (md (fun _ _ _ _ _ _=>ar1 fun _=>rfl) (md (fun _ _ _ _ _ _=>ar1 fun _=>rfl) (md (fun _ _ _ _ _ _=>ar2 fun _ _=>rfl) (md (fun _ _ _ _ _ _=>ar4 fun _ _ _ _=>rfl) (md (fun _ _ _ _ _ _=>ar2 fun _ _=>rfl) (md (fun _ _ _ _ _ _=>ar3 fun _ _ _=>rfl) (md (fun _ _ _ _ _ _=>ar1 fun _=>rfl) (md (fun _ _ _ _ _ _=>ar1 fun _=>rfl) (md (fun _ _ _ _ _ _=>ar1 fun _=>rfl) (md (fun _ _ _ _ _ _=>ar2 fun _ _=>rfl) (md (fun _ _ _ _ _ _=>ar2 fun _ _=>rfl) (md (fun _ _ _ _ _ _=>ar2 fun _ _=>rfl) (md (fun _ _ _ _ _ _=>ar2 fun _ _=>rfl) (md (fun _ _ _ _ _ _=>ar2 fun _ _=>rfl) (md (fun _ _ _ _ _ _=>ar3 fun _ _ _=>rfl) (md (fun _ _ _ _ _ _=>ar1 fun _=>rfl) (md (fun _ _ _ _ _ _=>ar1 fun _=>rfl) (md (fun _ _ _ _ _ _=>ar1 fun _=>rfl) (md (fun _ _ _ _ _ _=>ar1 fun _=>rfl) (md (fun _ _ _ _ _ _=>ar1 fun _=>rfl) (md (fun _ _ _ _ _ _=>ar1 fun _=>rfl) (md (fun _ _ _ _ _ _=>ar1 fun _=>rfl) (md (fun _ _ _ _ _ _=>ar2 fun _ _=>rfl) (md (fun _ _ _ _ _ _=>ar2 fun _ _=>rfl) (md (fun _ _ _ _ _ _=>ar3 fun _ _ _=>rfl) (md (fun _ _ _ _ _ _=>ar2 fun _ _=>rfl) (md (fun _ _ _ _ _ _=>ar2 fun _ _=>rfl) (md (fun _ _ _ _ _ _=>ar2 fun _ _=>rfl) (md (fun _ _ _ _ _ _=>ar2 fun _ _=>rfl) (md (fun _ _ _ _ _ _=>ar2 fun _ _=>rfl) (md (fun _ _ _ _ _ _=>ar2 fun _ _=>rfl) (md (fun _ _ _ _ _ _=>ar2 fun _ _=>rfl) (md (fun _ _ _ _ _ _=>ar2 fun _ _=>rfl) (md (fun _ _ _ _ _ _=>ar2 fun _ _=>rfl) (md (fun _ _ _ _ _ _=>ar2 fun _ _=>rfl) (md (fun _ _ _ _ _ _=>ar2 fun _ _=>rfl) (me))))))))))))))))))))))))))))))))))))))
theorem law_in:("law",x14)∈tb.fs:=qX (i:=14) rfl
noncomputable abbrev pr:Program:=PySem.Challenge.rw_shutways_k22_yards_made.row.prog
noncomputable abbrev vw:Program:=PySem.W.view pr [0,2,3,4,5,6,8,10,12,13,14,15,16,17,18,19,20,21,22,23]
noncomputable abbrev xt (s:Shared):Bool:=xlAt vw [] s&&recOk (RowW.records PySem.Challenge.rw_shutways_k22_yards_made.row.toRowW) s
theorem said:PySem.Challenge.rw_shutways_k22_yards_made.wellSaid=true:=by rw[Fast.te9446332074065402090];kernel_rfl
theorem left:LeftO pr vw [] xt (Hd.hook tb).obs (Hd.hook tb).val 12000:=Hd.left_of (by kernel_rfl) rfl (fun s=>by kernel_rfl) fun w os=>by kernel_rfl
end My
open PySem PySem.W PyProof.Rows
theorem PySem.Challenge.cw_shutways_k22_yards_made_holds : PySem.Challenge.rw_shutways_k22_yards_made.Holds := by
 refine holds_law My.said fun said=>?_;refine holds_open (q:=My.vw) (loose:=[]) (Xt:=My.xt) (XP:=XL My.vw []) (YP:=(Hd.hook My.tb).says) My.left (Hook.of _) (Hook.keeps _) (fun s e=>xl_of s (Bool.and_eq_true_iff.mp e).1) XL.keeps (by rfl) (by rfl) (by rfl) (fun s e=>recFacts_of (Bool.and_eq_true_iff.mp e).2) (by rfl) said (by decide +kernel) ⟨rfl,rfl,rfl,rfl,rfl,by decide +kernel⟩ ?hw ?hc
 case hw=>w_on;w_witness2
 case hc=>exact Hd.law_walk (k:=7) rfl rfl rfl ⟨rfl,by decide,by decide⟩ My.law_in rfl rfl My.tab_pg My.tab_pm My.tab_ok My.tab_om My.tab_bd My.tab_bm fun ns hl=>Own.law_ok (n:=0) hl fun _=>rfl
