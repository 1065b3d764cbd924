import PyProof.Rows.All
import Wide.All
import OpenK.AllK
import Wide.FinOn
import PyProof.EqAt
import PyProof.EqKinds
import PyProof.TupleCall
import Lean
import PySem.Challenge.RW_shutways_k19_letters_sent
set_option Elab.async false
set_option linter.all false
set_option maxRecDepth 100000
theorem bAq(a b:Bool):((a&&b)=true)=(a=true∧b=true):=Bool.and_eq_true a b
namespace L2
open PySem PySem.Spec PyProof.Rows
abbrev Key:=Sum Int Str
def WT:Key→Value→Bool
 |.inl k,v=>Value.isInt k v
 |.inr x,v=>Value.isStrOf x v
def P0 (w:World):Key→Int
 |.inl k=>hashInt k
 |.inr x=>hashStr w x
theorem Zu:∀ {k:Key}{v:Value},WT k v=true→(∃ i t,k=Sum.inl i∧v=Value.int i t)∨(∃ x t,k=Sum.inr x∧v=Value.str x t)
 |.inl i,v,h=>by obtain⟨t,e⟩:=Value.isInt_shape (k:=i) (v:=v) h;exact .inl ⟨i,t,rfl,e⟩
 |.inr x,v,h=>by obtain⟨t,e⟩:=Value.isStrOf_shape (x:=x) (v:=v) h;exact .inr ⟨x,t,rfl,e⟩
theorem OU(i:Int)(t:Tok):WT (.inl i) (.int i t)=true:=by simp[WT,Value.isInt]
theorem N4(x:Str)(t:Tok):WT (.inr x) (.str x t)=true:=by simp[WT,Value.isStrOf]
theorem FN(a b:Int):decide ((Sum.inl a:Key)=Sum.inl b)=(a==b):=by
 by_cases e:a=b
 ·subst e;simp
 ·have h:¬ (Sum.inl a:Key)=Sum.inl b:=fun q=>e (Sum.inl.inj q);rw[decide_eq_false h];exact(beq_eq_false_iff_ne.mpr e).symm
theorem Fm(a b:Str):decide ((Sum.inr a:Key)=Sum.inr b)=decide (a=b):=by
 by_cases e:a=b
 ·subst e;simp
 ·have h:¬ (Sum.inr a:Key)=Sum.inr b:=fun q=>e (Sum.inr.inj q);rw[decide_eq_false h,decide_eq_false e]
theorem Eu(a:Int)(b:Str):decide ((Sum.inl a:Key)=Sum.inr b)=false:=decide_eq_false (fun q=>nomatch q)
theorem GM(a:Str)(b:Int):decide ((Sum.inr a:Key)=Sum.inl b)=false:=decide_eq_false (fun q=>nomatch q)
def Zm (prog:Program) (w:World):PySem.KeyKind prog w Key where
 is:=WT
 hash:=P0 w
 inj:=fun v a b ha hb=>by
  rcases Zu ha with⟨i,t,rfl,rfl⟩|⟨x,t,rfl,rfl⟩
  ·rcases Zu hb with⟨j,u,rfl,e⟩|⟨y,u,rfl,e⟩
   ·injection e with e1 _;rw[e1]
   ·exact nomatch e
  ·rcases Zu hb with⟨j,u,rfl,e⟩|⟨y,u,rfl,e⟩
   ·exact nomatch e
   ·injection e with e1 _;rw[e1]
 byValue:=fun k v h=>by rcases Zu h with⟨i,t,rfl,rfl⟩|⟨x,t,rfl,rfl⟩<;>rfl
 pyHash:=fun hv h=>by
  rcases Zu hv with⟨i,t,rfl,rfl⟩|⟨x,t,rfl,rfl⟩
  ·exact wpAny_pyHash_int h
  ·exact wpAny_pyHash_str h
 eqBool:=fun hu hv h=>by
  rcases Zu hu with⟨i,t,rfl,rfl⟩|⟨x,t,rfl,rfl⟩
  ·rcases Zu hv with⟨j,u,rfl,rfl⟩|⟨y,u,rfl,rfl⟩
   ·rw[FN]at h;exact wpAny_eqBool_int h
   ·rw[Eu]at h;exact SeqAt.EqAt.int_str i t y u _ _ _ _ h
  ·rcases Zu hv with⟨j,u,rfl,rfl⟩|⟨y,u,rfl,rfl⟩
   ·rw[GM]at h;exact SeqAt.EqAt.str_int x t j u _ _ _ _ h
   ·rw[Fm]at h;exact wpAny_eqBool_str h
 «strs»:=fun k x t v h=>by
  rcases Zu h with⟨i,u,rfl,e⟩|⟨y,u,rfl,e⟩
  ·exact nomatch e
  ·injection e with e1 _;subst e1;cases v<;>rfl
theorem Mh(prog:Program)(w:World)(i:Int)(t:Tok):(Zm prog w).is (.inl i) (.int i t)=true:=OU i t
theorem KA(prog:Program)(w:World)(x:Str)(t:Tok):(Zm prog w).is (.inr x) (.str x t)=true:=N4 x t
inductive V where
 |non|bl (b:Bool)|int (i:Int)|str (x:Str)|byt (b:Array UInt8)|flt (b:UInt64)|ref (a:Addr)|ty (n:String)
 deriving DecidableEq
def RelV:V→Value→Prop
 |.non,u=>u=Value.none
 |.bl b,u=>u=Value.bool b
 |.int i,u=>∃ t,u=Value.int i t
 |.str x,u=>∃ t,u=Value.str x t
 |.byt b,u=>∃ t,u=Value.bytes b t
 |.flt b,u=>∃ t,u=Value.float b t
 |.ref a,u=>u=Value.ref a
 |.ty n,u=>u=Value.type n
abbrev Vals:List V→List Value→Prop:=Paired RelV
theorem Vals.length{xs:List V}{us:List Value}(r:Vals xs us):xs.length=us.length:=Paired.length r
theorem Vals.get:∀ {xs:List V}{us:List Value}{i:Nat}{x:V},Vals xs us→xs[i]?=some x→∃ u,us[i]?=some u∧RelV x u
 |_,_,_,_,.nil,e=>by simp at e
 |_,_,0,_,.cons r _,e=>by simp at e;subst e;exact⟨_,rfl,r⟩
 |_,_,i+1,x,.cons _ t,e=>by obtain⟨u,h1,h2⟩:=Vals.get (i:=i) (x:=x) t (by simpa using e);exact⟨u,by simpa using h1,h2⟩
theorem Vals.set{x:V}{u:Value}(r:RelV x u):∀ {xs:List V}{us:List Value}(i:Nat),Vals xs us→Vals (xs.set i x) (us.set i u)
 |_,_,_,.nil=>.nil
 |_,_,0,.cons _ t=>.cons r t
 |_,_,i+1,.cons q t=>.cons q (Vals.set r i t)
theorem Vals.append:∀ {xs ys:List V}{us ws:List Value},Vals xs us→Vals ys ws→Vals (xs++ys) (us++ws)
 |_,_,_,_,.nil,s=>s
 |_,_,_,_,.cons r t,s=>.cons r (Vals.append t s)
theorem Vals.take:∀ {xs:List V}{us:List Value}(n:Nat),Vals xs us→Vals (xs.take n) (us.take n)
 |_,_,0,_=>.nil
 |_,_,_+1,.nil=>.nil
 |_,_,n+1,.cons r t=>.cons r (Vals.take n t)
theorem Vals.drop:∀ {xs:List V}{us:List Value}(n:Nat),Vals xs us→Vals (xs.drop n) (us.drop n)
 |_,_,0,r=>r
 |_,_,_+1,.nil=>.nil
 |_,_,n+1,.cons _ t=>Vals.drop n t
theorem Vals.none_of:∀ {xs:List V}{us:List Value}{i:Nat},Vals xs us→xs[i]?=none→us[i]?=none:=fun {xs us i} r e=>by have h1:=r.length;have h2:xs.length≤i:=List.getElem?_eq_none_iff.mp e;exact List.getElem?_eq_none_iff.mpr (by omega)
def RelO:Option V→Option Value→Prop
 |some v,some u=>RelV v u
 |none,none=>True
 |_,_=>False
def KV {κ:Type}:List (κ×V)→List (κ×Value)→Prop:=Paired fun(p:κ×V) (q:κ×Value)=>p.1=q.1∧RelV p.2 q.2
def kV:Key→V
 |.inl i=>.int i
 |.inr x=>.str x
inductive HO where
 |lst (xs:List V)
 |tup (xs:List V)
 |dK (kvs:List (Key×V))|dT (kvs:List (List Key×V))
 |set (S:Int→Bool) (n:Nat)
 |ins (C dx:Addr) (fs:List (Str×V))
 |own (x:Addr)
 |xd (fs:List (Str×V))
 |met (f x:Addr)
 |rng (lo hi:Int)
 |frz (o:Obj) (u:HO)
 |tbl (ps:Array Value)
 |ext (φ:Heap→Prop)
abbrev Hp:=Addr→Option HO
def upd (H:Hp) (a:Addr) (o:HO):Hp:=fun b=>if b=a then some o else H b
theorem upd_same{H:Hp}{a:Addr}{o:HO}:upd H a o a=some o:=by unfold upd;rw[if_pos rfl]
theorem upd_ne{H:Hp}{a b:Addr}{o:HO}(h:b≠a):upd H a o b=H b:=by unfold upd;rw[if_neg h]
theorem upd_upd{H:Hp}{a:Addr}{o u:HO}:upd (upd H a o) a u=upd H a u:=by funext b;unfold upd;split<;>rfl
theorem Ay{H:Hp}{a b:Addr}{o u:HO}(h:H a=some o)(h':H b=some u)(d:o≠u):a≠b:=by intro e;subst e;rw[h]at h';exact d (Option.some.inj h')
theorem Zl{H:Hp}{a b:Addr}{o:HO}(h:H a=some o)(h':H b=none):a≠b:=by intro e;subst e;rw[h]at h';cases h'
section
variable (P:Program) (w:World)
def ObjOk (H:Hp) (h:Heap) (a:Addr):HO→Prop
 |.lst xs=>xs.length≤sizeLine∧∃ (its:List Value) (n:Nat),Vals xs its∧h.get? a=some {cls:=.type "list",data:=.seq its.toArray n}
 |.tup xs=>xs.length≤sizeLine∧∃ its:List Value,Vals xs its∧IsTup h a its.toArray
 |.dK kvs=>kvs.length≤sizeLine∧(a==sysModules)=false∧∃ vs,KV kvs vs∧h.DictOf (Zm P w) a vs
 |.dT kvs=>kvs.length≤sizeLine∧(a==sysModules)=false∧∃ xs:List (List Key×Addr×Value),
   Paired (fun(p:List Key×V) (q:List Key×Addr×Value)=>p.1=q.1∧H q.2.1=some (.tup (p.1.map kV))∧RelV p.2 q.2.2) kvs xs∧
   ∃ o es ep,h.get? a=some o∧o.ExactDict∧o.data=.dict es ep∧es.toList=xs.map (entryOfKey (tupleKind (Zm P w)))∧(xs.map (·.1)).Nodup
 |.set S n=>h.SetOf (intKind P w) a S n
 |.ins C dx fs=>H dx=some (.own a)∧fs.length≤1000∧dx≠a∧h.get? a=some (PySem.W.instObj C dx)∧
   ∃ mA,h.Ns1 dx mA∧(∀ f,RelO (fs.lookup f) (mA f))∧PySem.Within mA (fs.map (·.1))
 |.own _=>∃ o,h.get? a=some o
 |.xd fs=>∃ mA,h.Ns1 a mA∧∀ f,RelO (fs.lookup f) (mA f)
 |.rng lo hi=>∃ t u v,h.get? a=some {cls:=.type "range",data:=.fields #[.int lo t,.int hi u,.int 1 v]}
 |.frz o u=>h.get? a=some o∧ObjOk H h a u
 |.tbl ps=>h.get? a=some {cls:=.none,data:=.fields ps}
 |.met f x=>h.get? a=some (PySem.W.methodObj (.ref f) (.ref x))
 |.ext φ=>φ h∧(∃ o,h.get? a=some o)∧∀ h1 h2:Heap,φ h1→(∀ o,h1.get? a=some o→h2.get? a=some o)→φ h2
def HOk (H:Hp) (h:Heap):Prop:=∀ a o,H a=some o→ObjOk P w H h a o
end
section
variable {P:Program}{w:World}{H H':Hp}{h h':Heap}{a:Addr}{o:HO}
theorem ObjOk.lt(x:ObjOk P w H h a o):a<h.objs.size:=by
 cases o with
 |lst xs=>obtain⟨_,_,_,_,e⟩:=x;exact Heap.lt_size e
 |tup xs=>obtain⟨_,_,_,p⟩:=x;exact p.lt
 |dK kvs=>obtain⟨_,_,_,_,o,_,_,e,_⟩:=x;exact Heap.lt_size e
 |dT kvs=>obtain⟨_,_,_,_,o,_,_,e,_⟩:=x;exact Heap.lt_size e
 |set S n=>obtain⟨o,_,_,_,e,_⟩:=x;exact Heap.lt_size e
 |ins C dx fs=>obtain⟨_,_,_,e,_⟩:=x;exact Heap.lt_size e
 |own y=>obtain⟨_,e⟩:=x;exact Heap.lt_size e
 |xd fs=>obtain⟨_,⟨_,_,_,e,_⟩,_⟩:=x;exact Heap.lt_size e
 |rng lo hi=>obtain⟨_,_,_,e⟩:=x;exact Heap.lt_size e
 |frz ob u=>obtain⟨e,_⟩:=x;exact Heap.lt_size e
 |tbl ps=>exact Heap.lt_size (show h.get? a=some _ from x)
 |met f y=>exact Heap.lt_size (show h.get? a=some _ from x)
 |ext φ=>obtain⟨_,⟨_,e⟩,_⟩:=x;exact Heap.lt_size e
theorem Paired.mapP{α β:Type}{F G:α→β→Prop}:∀ {l₁:List α}{l₂:List β},Paired F l₁ l₂→(∀ a b,F a b→G a b)→Paired G l₁ l₂
 |_,_,.nil,_=>.nil
 |_,_,.cons r t,f=>.cons (f _ _ r) (Paired.mapP t f)
theorem ObjOk.stay(x:ObjOk P w H h a o)(k:∀ b u,(b=a∨H b=some (.own a))→h.get? b=some u→h'.get? b=some u)
  (ho:∀ b,H b=some (.own a)→H' b=some (.own a)) (ht:∀ b xs,H b=some (.tup xs)→H' b=some (.tup xs)):ObjOk P w H' h' a o:=by
 induction o with
 |lst xs=>obtain⟨z,its,n,r,e⟩:=x;exact⟨z,its,n,r,k _ _ (.inl rfl) e⟩
 |tup xs=>obtain⟨z,its,r,ob,e,c⟩:=x;exact⟨z,its,r,ob,k _ _ (.inl rfl) e,c⟩
 |dK kvs=>obtain⟨z,y,vs,r,ob,es,ep,e,c⟩:=x;exact⟨z,y,vs,r,ob,es,ep,k _ _ (.inl rfl) e,c⟩
 |dT kvs =>obtain⟨z,y,xs,r,ob,es,ep,e,c⟩:=x;exact⟨z,y,xs,Paired.mapP r fun p q z=>⟨z.1,ht _ _ z.2.1,z.2.2⟩,ob,es,ep,k _ _ (.inl rfl) e,c⟩
 |set S n=>obtain⟨ob,es,ep,t,e,c⟩:=x;exact⟨ob,es,ep,t,k _ _ (.inl rfl) e,c⟩
 |ins C dx fs =>obtain⟨d,z,ne,e,mA,⟨od,es,ep,e2,c⟩,r⟩:=x;exact⟨ho _ d,z,ne,k _ _ (.inl rfl) e,mA,⟨od,es,ep,k _ _ (.inr d) e2,c⟩,r⟩
 |own y=>obtain⟨ob,e⟩:=x;exact⟨ob,k _ _ (.inl rfl) e⟩
 |xd fs=>obtain⟨mA,⟨od,es,ep,e,c⟩,r⟩:=x;exact⟨mA,⟨od,es,ep,k _ _ (.inl rfl) e,c⟩,r⟩
 |rng lo hi=>obtain⟨t,u,v,e⟩:=x;exact⟨t,u,v,k _ _ (.inl rfl) e⟩
 |frz ob u ih=>obtain⟨e,q⟩:=x;exact⟨k _ _ (.inl rfl) e,ih q⟩
 |tbl ps =>have e:h.get? a=some {cls:=.none,data:=.fields ps}:=x;show h'.get? a=some {cls:=.none,data:=.fields ps};exact k a _ (.inl rfl) e
 |met f y =>have e:h.get? a=some (PySem.W.methodObj (.ref f) (.ref y)):=x;show h'.get? a=some (PySem.W.methodObj (.ref f) (.ref y));exact k a _ (.inl rfl) e
 |ext φ=>obtain⟨p,⟨o,e⟩,st⟩:=x;exact⟨st _ _ p fun o q=>k _ _ (.inl rfl) q,⟨o,k _ _ (.inl rfl) e⟩,st⟩
theorem HOk.lt(x:HOk P w H h)(e:H a=some o):a<h.objs.size:=(x a o e).lt
theorem HOk.fresh(x:HOk P w H h)(e:h.objs.size≤a):H a=none:=by
 cases q:H a with
 |none=>rfl
 |some u=>exact absurd (Nat.lt_of_lt_of_le (x.lt q) e) (Nat.lt_irrefl _)
theorem HOk.kept(x:HOk P w H h)(k:∀ b u,h.get? b=some u→h'.get? b=some u):HOk P w H h':=fun a o e =>
 (x a o e).stay (fun b u _ q=>k b u q) (fun _ q=>q) fun _ _ q=>q
theorem HOk.laid(x:HOk P w H h)(k:∀ b u,h.get? b=some u→h'.get? b=some u)(hp:h.objs.size≤a)(new:ObjOk P w (upd H a o) h' a o):HOk P w (upd H a o) h':=fun b u e=>by
 have hn:=x.fresh hp;by_cases hb:b=a
 ·subst hb;rw[upd_same]at e;cases e;exact new
 ·rw[upd_ne hb]at e;exact(x b u e).stay (fun c v _ q=>k c v q) (fun c q=>by rw[upd_ne (Zl q hn)];exact q) fun c xs q=>by rw[upd_ne (Zl q hn)];exact q
end
def Rd (H:Hp) (a:Addr) (u:HO):Prop:=H a=some u∨∃ o,H a=some (.frz o u)
theorem Rd.of{H:Hp}{a:Addr}{u:HO}(h:H a=some u):Rd H a u:=.inl h
theorem Rd.ok{P:Program}{w:World}{H:Hp}{h:Heap}{a:Addr}{u:HO}(r:Rd H a u)(x:HOk P w H h):ObjOk P w H h a u:=by
 rcases r with r|⟨o,r⟩
 ·exact x a u r
 ·obtain⟨_,q⟩:=x a _ r;exact q
def Mut:Option HO→Prop
 |some (.lst _)=>True
 |some (.dK _)=>True
 |some (.dT _)=>True
 |some (.set _ _)=>True
 |some (.ins _ _ _)=>True
 |some (.ext _)=>True
 |_=>False
section
variable {P:Program}{w:World}{H:Hp}{h h':Heap}{x e:Addr}{o':HO}
theorem HOk.write(ok:HOk P w H h)(mu:Mut (H x))(he:e=x∨H e=some (.own x))(k:∀ b u,b≠e→h.get? b=some u→h'.get? b=some u)(heo:∃ u,h'.get? e=some u)
  (new:ObjOk P w (upd H x o') h' x o'):HOk P w (upd H x o') h':=fun b u q=>by
 have nown:∀ c y,H c=some (.own y)→c≠x:=fun c y r z=>by subst z;rw[r]at mu;exact mu
 have ntup:∀ c xs,H c=some (.tup xs)→c≠x:=fun c xs r z=>by subst z;rw[r]at mu;exact mu
 by_cases hb:b=x
 ·subst hb;rw[upd_same]at q;cases q;exact new
 ·rw[upd_ne hb]at q;by_cases hbe:b=e
  ·have q':H b=some (.own x):=by
    rcases he with z|z
    ·exact absurd (hbe.trans z) hb
    ·rw[hbe];exact z
   rw[q]at q';cases q';obtain⟨v,hv⟩:=heo;exact⟨v,by rw[hbe];exact hv⟩
  ·refine(ok b u q).stay (fun c v hc r=>k c v ?_ r) (fun c r=>by rw[upd_ne (nown c b r)];exact r) fun c xs r=>by rw[upd_ne (ntup c xs r)];exact r
   rcases hc with rfl|hc
   ·exact hbe
   ·rintro rfl;rcases he with z|z
    ·exact nown c b hc z
    ·rw[hc]at z;cases z;exact hb rfl
end
structure Un (fs ex:List Addr) (H H':Hp) (h h':Heap):Prop where
 keep:∀ b o,h.get? b=some o→H b=none→b∉fs→b∉ex→h'.get? b=some o
 slot:∀ b o,h.get? b=some o→H b=none→b∈fs→b∉ex→∃ sl,h'.get? b=some {o with slots:=sl}
 free:∀ b o,h.get? b=some o→H b=none→b∉ex→H' b=none
 there:∀ b o,h.get? b=some o→b∉ex→∃ o',h'.get? b=some o'
 tups:∀ b xs,H b=some (.tup xs)→H' b=some (.tup xs)
 frzs:∀ b o u,H b=some (.frz o u)→H' b=some (.frz o u)
 tbls:∀ b ps,H b=some (.tbl ps)→∃ more,H' b=some (.tbl (ps++more))
section
variable {fs fs' ex ex':List Addr}{H H1 H2:Hp}{h h1 h2 h':Heap}{a x e:Addr}{o:HO}
theorem Un.any(u:Un fs ex H H1 h h1){b:Addr}{ob:Obj}(q:h.get? b=some ob)(n:H b=none)(hx:b∉ex):∃ sl,h1.get? b=some {ob with slots:=sl}:=by
 by_cases hb:b∈fs
 ·exact u.slot b ob q n hb hx
 ·exact⟨ob.slots,u.keep b ob q n hb hx⟩
theorem Un.trans(a:Un fs ex H H1 h h1)(b:Un fs ex H1 H2 h1 h2):Un fs ex H H2 h h2 where
 keep:=fun c ob q n hc hx=>b.keep c ob (a.keep c ob q n hc hx) (a.free c ob q n hx) hc hx
 slot:=fun c ob q n hc hx=>by obtain⟨sl,e1⟩:=a.slot c ob q n hc hx;obtain⟨sl',e2⟩:=b.slot c _ e1 (a.free c ob q n hx) hc hx;exact⟨sl',e2⟩
 free:=fun c ob q n hx=>by obtain⟨o',e1⟩:=a.there c ob q hx;exact b.free c o' e1 (a.free c ob q n hx) hx
 there:=fun c ob q hx=>by obtain⟨o',e1⟩:=a.there c ob q hx;exact b.there c o' e1 hx
 tups:=fun c xs q=>b.tups c xs (a.tups c xs q)
 frzs:=fun c ob xs q=>b.frzs c ob xs (a.frzs c ob xs q)
 tbls:=fun c ps q=>by obtain⟨m1,e1⟩:=a.tbls c ps q;obtain⟨m2,e2⟩:=b.tbls c _ e1;exact⟨m1++m2,by rw[e2,Array.append_assoc]⟩
theorem Un.kept(k:∀ b u,h.get? b=some u→h'.get? b=some u):Un fs ex H H h h' :=
 ⟨fun b ob q _ _ _=>k b ob q,fun b ob q _ _ _=>⟨ob.slots,k b ob q⟩,fun _ _ _ n _=>n,fun b ob q _=>⟨ob,k b ob q⟩,fun _ _ q=>q,fun _ _ _ q=>q,fun _ ps q=>⟨#[],by rw[q];simp⟩⟩
theorem Un.refl:Un fs ex H H h h:=Un.kept fun _ _ q=>q
theorem Un.laid(k:∀ b u,h.get? b=some u→h'.get? b=some u)(hp:h.objs.size≤a)(hn:H a=none):Un fs ex H (upd H a o) h h' where
 keep:=fun b u q _ _ _=>k b u q
 slot:=fun b u q _ _ _=>⟨u.slots,k b u q⟩
 free:=fun b u q n _=>by rw[upd_ne (Nat.ne_of_lt (Nat.lt_of_lt_of_le (Heap.lt_size q) hp))];exact n
 there:=fun b u q _=>⟨u,k b u q⟩
 tups:=fun b xs q=>by rw[upd_ne (Zl q hn)];exact q
 frzs:=fun b u xs q=>by rw[upd_ne (Zl q hn)];exact q
 tbls:=fun b ps q=>⟨#[],by rw[upd_ne (Zl q hn),q];simp⟩
theorem Un.write(mu:Mut (H x))(he:e=x∨H e=some (.own x))(k:∀ b u,b≠e→h.get? b=some u→h'.get? b=some u)(heo:∃ u,h'.get? e=some u):Un fs ex H (upd H x o) h h':=by
 have hx:∀ b,H b=none→b≠x:=fun b n z=>by subst z;rw[n]at mu;exact mu
 have hb:∀ b,H b=none→b≠e:=fun b n z=>by
  subst z;rcases he with r|r
  ·exact hx b n r
  ·rw[n]at r;cases r
 have hm:∀ b u,H b=some u→¬ Mut (some u)→b≠x:=fun b u q nm z=>by subst z;rw[q]at mu;exact nm mu
 refine⟨fun b u q n _ _=>k b u (hb b n) q,fun b u q n _ _=>⟨u.slots,k b u (hb b n) q⟩,fun b u q n _=>by rw[upd_ne (hx b n)];exact n,fun b u q _=>?_,
   fun b xs q=>by rw[upd_ne (hm b _ q fun z=>z)];exact q,fun b u xs q=>by rw[upd_ne (hm b _ q fun z=>z)];exact q,fun b ps q=>⟨#[],by rw[upd_ne (hm b _ q fun z=>z),q];simp⟩⟩
 by_cases hbe:b=e
 ·subst hbe;exact heo
 ·exact⟨u,k b u hbe q⟩
theorem Un.mono(u:Un fs ex H H1 h h1)(hs:∀ b∈fs,b∈fs')(hx:∀ b∈ex,b∈ex'):Un fs' ex' H H1 h h1 :=
 ⟨fun b ob q n hb he=>u.keep b ob q n (fun z=>hb (hs b z)) fun z=>he (hx b z),fun _ _ q n _ he=>u.any q n fun z=>he (hx _ z),fun b ob q n he=>u.free b ob q n fun z=>he (hx b z),fun b ob q he=>u.there b ob q fun z=>he (hx b z),u.tups,u.frzs,u.tbls⟩
end
def trk (h:Heap) (H:Hp):List Addr:=(List.range h.objs.size).filter fun a=>(H a).isSome
def JY (h:Heap) (H:Hp):Heap:=PySem.W.hideAll h (trk h H)
theorem Oa(h:Heap)(H:Hp):(JY h H).objs.size=h.objs.size:=PySem.W.hideAll_size _ _
theorem O8{h:Heap}{H:Hp}{b:Addr}{o:Obj}(e:h.get? b=some o)(n:H b=none):(JY h H).get? b=some o :=
 PySem.W.hideAll_get _ e fun hm=>by have q:(H b).isSome=true:=(List.mem_filter.mp hm).2;rw[n]at q;simp at q
theorem CU{h:Heap}{H:Hp}{b:Addr}{o:Obj}(e:(JY h H).get? b=some o):h.get? b=some o∧H b=none:=by
 have e':h.get? b=some o:=PySem.W.of_hideAll (trk h H) e;refine⟨e',?_⟩;cases q:H b with
 |none=>rfl
 |some x =>have hm:b∈trk h H:=List.mem_filter.mpr ⟨List.mem_range.mpr (Heap.lt_size e'),by simp[q]⟩;have z:(JY h H).get? b=none:=PySem.W.hideAll_none (trk h H) hm;rw[z]at e;cases e
def CM (g h:Heap) (L:Addr):List (Addr×Obj):=(List.range h.objs.size).filterMap fun a=>if a=L∨(g.get? a).isSome=true then none else(h.get? a).map fun o=>(a,o)
def rest (g h:Heap) (L d:Addr):List (Addr×Obj):=(CM g h L).filter fun p=>decide (p.1≠d)
structure Mod (K:PySem.W.Frag) (mg:Str→Option Value) (base:Heap):Prop where
 kin:K.In base
 glob:base.Ns mainGlobals mg
 blt:∃ mb,base.Ns builtinsNs mb∧∀ x:Str,x≠"__name__"→mb x=bootBuiltins x
 nolimit:base.NoLimit
structure Cx where
 prog:Program
 w:World
 K:PySem.W.Frag
 mg:Str→Option Value
 base:Heap
 A:Around
 N:List Str
 s₀:Shared
 H₀:Hp
 env:Env
 outer:List Env
 stack:List Env
 ex:List Addr
 fn:Str→Bool
 calm:Bool
 pn:List (Addr×Obj)
 xe:Value→Shared→Prop
def frs (l:List Env):List Addr:=l.filterMap (·.frame)
abbrev Cx.fs (X:Cx):List Addr:=frs X.outer
def Vis (sc:Scope) (x:Str):Prop:=sc.names.lookup x=some .local∨sc.names.lookup x=some .cell∨sc.names.lookup x=some .free
def Loc (sc:Scope) (x:Str):Prop:=sc.names.lookup x=some .local∨sc.names.lookup x=some .cell
def Pp (env:Env) (h:Heap) (m:Str→Option Value) (x:Str) (u:Value):Prop :=
 (env.kindOf x=some .local∧m x=some u)∨((env.kindOf x=some .cell∨env.kindOf x=some .free)∧∃ c,env.cells.lookup x=some c∧h.IsCell c (some u))
structure Cx.Ok (X:Cx):Prop where
 mod:Mod X.K X.mg X.base
 kind:X.env.scope.kind=.function
 glob:X.env.globals=mainGlobals
 blt:X.env.builtins=builtinsNs
 above:X.s₀.heap.objs.size≤X.env.locals
 inj:∀ x y c,X.env.cells.lookup x=some c→X.env.cells.lookup y=some c→x=y
 has:∀ x,(X.env.kindOf x=some .cell∨X.env.kindOf x=some .free)→∃ c,X.env.cells.lookup x=some c
 cab:∀ x c,X.fn x=true→X.env.cells.lookup x=some c→X.s₀.heap.objs.size≤c
 hd:X.calm=true→X.A.handled=none
 frames:X.A.frames=some X.stack
 stk:X.stack=X.outer∨(X.stack=X.env::X.outer∧X.env.frame=some X.env.locals)
 exf:∀ b∈X.ex,b≠X.env.locals∧∀ x c,X.env.cells.lookup x=some c→c≠b
 bs:∀ b o,X.base.get? b=some o→X.s₀.heap.get? b=some o∧X.H₀ b=none
 bsz:X.base.objs.size≤X.s₀.heap.objs.size
 noex:∀ b o,X.base.get? b=some o→b∉X.ex
 exfs:∀ b∈X.ex,b∉X.fs
 funs:X.s₀.heap.FunFrames X.base X.outer
 frf:∀ b∈X.fs,X.H₀ b=none
structure Inv (X:Cx) (pins:List (Addr×Obj)) (σ:List (Option V)) (H:Hp) (s:Shared):Prop where
 ok:X.Ok
 os:s.os=X.s₀.os
 bare:AllBare s.gens
 base:Un X.fs X.ex X.H₀ H X.s₀.heap s.heap
 loc:∃ m,s.heap.Ns X.env.locals m∧∀ (i:Nat) (x:Str) (v:V),X.N[i]?=some x→σ[i]?=some (some v)→Vis X.env.scope x→∃ u,RelV v u∧Pp X.env s.heap m x u
 cell:∀ x c,X.env.cells.lookup x=some c→∃ v,s.heap.IsCell c v
 free:H X.env.locals=none
 freeC:∀ x c,X.env.cells.lookup x=some c→H c=none
 pin:∀ p∈X.pn++pins,s.heap.get? p.1=some p.2∧H p.1=none∧p.1≠X.env.locals∧p.1∉X.fs∧∀ v,p.2.data≠.cell v
 hok:HOk X.prog X.w H s.heap
 len:σ.length=X.N.length
section
variable {X:Cx}{pins:List (Addr×Obj)}{σ:List (Option V)}{H H':Hp}{s:Shared}{h':Heap}
theorem Cx.Ok.nofr(ok:X.Ok){b:Addr}{o:Obj}(e:X.base.get? b=some o):b∉X.fs:=fun hb=>by have:=(ok.funs.mem hb).1;rw[e]at this;cases this
theorem Inv.bs(I:Inv X pins σ H s):∀ b o,X.base.get? b=some o→s.heap.get? b=some o∧H b=none:=fun b o e =>
 ⟨I.base.keep b o (I.ok.bs b o e).1 (I.ok.bs b o e).2 (I.ok.nofr e) (I.ok.noex b o e),I.base.free b o (I.ok.bs b o e).1 (I.ok.bs b o e).2 (I.ok.noex b o e)⟩
theorem Inv.bk(I:Inv X pins σ H s):∀ b o,X.base.get? b=some o→s.heap.get? b=some o:=fun b o e=>(I.bs b o e).1
theorem Inv.mod(I:Inv X pins σ H s):Mod X.K X.mg X.base:=I.ok.mod
theorem Inv.kIn(I:Inv X pins σ H s):X.K.In s.heap:=I.ok.mod.kin.keeps I.bk
theorem Inv.nolimit(I:Inv X pins σ H s):s.heap.NoLimit:=I.ok.mod.nolimit.keeps I.bk
theorem Inv.lt(I:Inv X pins σ H s):X.env.locals<s.heap.objs.size:=let ⟨_,hn,_⟩:=I.loc;hn.lt
theorem Inv.sz(I:Inv X pins σ H s):X.s₀.heap.objs.size≤s.heap.objs.size:=Nat.le_trans I.ok.above (Nat.le_of_lt I.lt)
theorem Inv.nofs(I:Inv X pins σ H s){a:Addr}(h:s.heap.objs.size≤a):a∉X.fs:=fun hb=>by obtain⟨_,o,ho,_⟩:=I.ok.funs.mem hb;exact absurd (Nat.lt_of_lt_of_le (Heap.lt_size ho) (Nat.le_trans I.sz h)) (Nat.lt_irrefl _)
theorem Inv.cne(I:Inv X pins σ H s):∀ x c,X.env.cells.lookup x=some c→c≠X.env.locals:=fun x c e z=>by obtain⟨v,o,ho,hd⟩:=I.cell x c e;obtain⟨m,⟨o',es,ep,ho',hd',_⟩,_⟩:=I.loc;rw[z,ho']at ho;cases ho;rw[hd']at hd;cases hd
theorem Inv.funs(I:Inv X pins σ H s):s.heap.FunFrames X.base X.outer:=by
 have all:∀ (l:List Env),(∀ b∈frs l,b∈X.fs)→X.s₀.heap.FunFrames X.base l→s.heap.FunFrames X.base l:=by
  intro l;induction l with
  |nil=>intro _ _;trivial
  |cons env r ih =>intro hs hl;obtain⟨hk,⟨L,o,hf,hn,ho,hd⟩,hr⟩:=hl;have hL:L∈X.fs:=hs L (by unfold frs;rw[List.filterMap_cons,hf];exact List.mem_cons_self);obtain⟨sl,e⟩:=I.base.slot L o ho (I.ok.frf L hL) hL fun z=>I.ok.exfs L z hL;exact⟨hk,⟨L,_,hf,hn,e,hd⟩,ih (fun b hb=>hs b (by unfold frs;rw[List.filterMap_cons,hf];exact List.mem_cons_of_mem _ hb)) hr⟩
 exact all X.outer (fun _ hb=>hb) I.ok.funs
theorem Inv.stack(I:Inv X pins σ H s):s.heap.FunFrames X.base X.stack:=by
 rcases I.ok.stk with e|⟨e,hf⟩
 ·rw[e];exact I.funs
 ·rw[e];obtain⟨m,hn,_⟩:=I.loc;refine .cons (by rw[I.ok.kind];decide) hf hn ?_ I.funs;exact Heap.get?_none_of_le (Nat.le_trans I.ok.bsz I.ok.above)
theorem Inv.stkSub(I:Inv X pins σ H s):∀ b∈frs X.stack,b∈X.env.locals::X.fs:=fun b hb=>by
 rcases I.ok.stk with e|⟨e,hf⟩
 ·rw[e]at hb;exact List.mem_cons_of_mem _ hb
 ·rw[e]at hb;unfold frs at hb;rw[List.filterMap_cons,hf]at hb;exact hb
theorem Inv.stkFree(I:Inv X pins σ H s):∀ b∈frs X.stack,H b=none:=fun b hb=>by
 rcases List.mem_cons.mp (I.stkSub b hb)with e|hb
 ·rw[e];exact I.free
 ·obtain⟨_,o,ho,_⟩:=I.ok.funs.mem hb;exact I.base.free b o ho (I.ok.frf b hb) fun z=>I.ok.exfs b z hb
theorem Inv.step{g':Array GenState}{t':Nat}{d':Drawn}{ch:List Addr}(I:Inv X pins σ H s)
  (hch:∀ b∈ch,(b∈X.ex∨X.s₀.heap.objs.size≤b)∧b≠X.env.locals∧(∀ x c,X.env.cells.lookup x=some c→c≠b)∧∀ p∈X.pn++pins,p.1≠b)
  (keep:∀ b o,b≠X.env.locals→b∉X.fs→b∉ch→s.heap.get? b=some o→H b=none→h'.get? b=some o)
  (slot:∀ b o,b≠X.env.locals→b∈X.fs→b∉ch→s.heap.get? b=some o→H b=none→∃ sl,h'.get? b=some {o with slots:=sl}) (free:∀ b o,b∉ch→s.heap.get? b=some o→H b=none→H' b=none)
  (there:∀ b o,b∉ch→s.heap.get? b=some o→∃ o',h'.get? b=some o')
  (tups:∀ b xs,H b=some (.tup xs)→H' b=some (.tup xs)) (frzs:∀ b o u,H b=some (.frz o u)→H' b=some (.frz o u)) (tbls:∀ b ps,H b=some (.tbl ps)→∃ more,H' b=some (.tbl (ps++more)))
  (ns:∀ m,s.heap.Ns X.env.locals m→h'.Ns X.env.locals m) (hok:HOk X.prog X.w H' h') (hg:AllBare g') :
  Inv X pins σ H' {s with heap:=h',gens:=g',drawn:=d',toks:=t'}:=by
 have neL:∀ b o,X.s₀.heap.get? b=some o→b≠X.env.locals:=fun b o e=>Nat.ne_of_lt (Nat.lt_of_lt_of_le (Heap.lt_size e) I.ok.above);have neC:∀ b o,X.s₀.heap.get? b=some o→b∉X.ex→b∉ch:=fun b o e hx hb=>by
  rcases (hch b hb).1 with z|z
  ·exact hx z
  ·exact absurd (Nat.lt_of_lt_of_le (Heap.lt_size e) z) (Nat.lt_irrefl _)
 have cellK:∀ x c,X.env.cells.lookup x=some c→∀ v,s.heap.IsCell c v→h'.IsCell c v:=fun x c e v ⟨o,ho,hd⟩=>by
  have nch:c∉ch:=fun z=>(hch c z).2.2.1 x c e rfl;by_cases hc:c∈X.fs
  ·obtain⟨sl,q⟩:=slot c o (I.cne x c e) hc nch ho (I.freeC x c e);exact⟨_,q,hd⟩
  ·exact⟨o,keep c o (I.cne x c e) hc nch ho (I.freeC x c e),hd⟩
 refine⟨I.ok,I.os,hg,⟨fun b o e n hb hx=>?_,fun b o e n hb hx=>?_,fun b o e n hx=>?_,fun b o e hx=>?_,fun b xs e=>tups b xs (I.base.tups b xs e),fun b o xs e=>frzs b o xs (I.base.frzs b o xs e),fun b ps e=>?_⟩,?_,fun x c e=>?_,?_,fun x c e=>?_,fun p hp=>?_,hok,I.len⟩
 ·exact keep b o (neL b o e) hb (neC b o e hx) (I.base.keep b o e n hb hx) (I.base.free b o e n hx)
 ·obtain⟨sl,e1⟩:=I.base.slot b o e n hb hx;obtain⟨sl',e2⟩:=slot b _ (neL b o e) hb (neC b o e hx) e1 (I.base.free b o e n hx);exact⟨sl',e2⟩
 ·obtain⟨o',e1⟩:=I.base.there b o e hx;exact free b o' (neC b o e hx) e1 (I.base.free b o e n hx)
 ·obtain⟨o',e1⟩:=I.base.there b o e hx;exact there b o' (neC b o e hx) e1
 ·obtain⟨m1,e1⟩:=I.base.tbls b ps e;obtain⟨m2,e2⟩:=tbls b _ e1;exact⟨m1++m2,by rw[e2,Array.append_assoc]⟩
 ·obtain⟨m,hn,hl⟩:=I.loc;refine⟨m,ns m hn,fun i x v e1 e2 e3=>?_⟩;obtain⟨u,r,l⟩:=hl i x v e1 e2 e3;refine⟨u,r,?_⟩;rcases l with l|⟨k,c,e,z⟩
  ·exact .inl l
  ·exact .inr ⟨k,c,e,cellK x c e _ z⟩
 ·obtain⟨v,z⟩:=I.cell x c e;exact⟨v,cellK x c e v z⟩
 ·obtain⟨m,⟨o,_,_,ho,_⟩,_⟩:=I.loc;exact free _ o (fun z=>(hch _ z).2.1 rfl) ho I.free
 ·obtain⟨v,o,ho,hd⟩:=I.cell x c e;exact free c o (fun z=>(hch c z).2.2.1 x c e rfl) ho (I.freeC x c e)
 ·obtain⟨e,n,ne,nf,d⟩:=I.pin p hp;have nch:p.1∉ch:=fun z=>(hch p.1 z).2.2.2 p hp rfl;exact⟨keep p.1 p.2 ne nf nch e n,free p.1 p.2 nch e n,ne,nf,d⟩
theorem Inv.un{t':Nat}(I:Inv X pins σ H s)(u:Un X.fs [] H H' s.heap h')(hok:HOk X.prog X.w H' h'):Inv X pins σ H' {s with heap:=h',toks:=t'}:=by
 obtain⟨m,⟨o,es,ep,ho,r⟩,_⟩:=id I.loc;obtain⟨sl,hL⟩:=u.any ho I.free (by simp);exact I.step (g':=s.gens) (d':=s.drawn) (ch:=[]) (fun _ z=>nomatch z) (fun b o _ hb _ e n=>u.keep b o e n hb (by simp)) (fun b o _ hb _ e n=>u.slot b o e n hb (by simp)) (fun b o _ e n=>u.free b o e n (by simp)) (fun b o _ e=>u.there b o e (by simp)) u.tups u.frzs u.tbls (fun m' hm=>by
   obtain⟨o',es',ep',ho',r'⟩:=hm
   rw[ho]at ho';cases ho'
   exact⟨_,es',ep',hL,r'⟩) hok I.bare
theorem Inv.call{g':Array GenState}{t':Nat}{d':Drawn}{ch:List Addr}(I:Inv X pins σ H s)(u:Un (frs X.stack) ch H H' s.heap h')(hok:HOk X.prog X.w H' h')(hg:AllBare g')
  (hch:∀ b∈ch,(b∈X.ex∨X.s₀.heap.objs.size≤b)∧b≠X.env.locals∧(∀ x c,X.env.cells.lookup x=some c→c≠b)∧∀ p∈X.pn++pins,p.1≠b) :
  Inv X pins σ H' {s with heap:=h',gens:=g',drawn:=d',toks:=t'}:=by
 obtain⟨m,⟨o,es,ep,ho,r⟩,_⟩:=id I.loc;obtain⟨sl,hL⟩:=u.any ho I.free fun z=>(hch _ z).2.1 rfl;exact I.step (ch:=ch) hch (fun b o hL hb hc e n=>u.keep b o e n (fun z=>(List.mem_cons.mp (I.stkSub b z)).elim hL hb) hc) (fun b o _ _ hc e n=>u.any e n hc) (fun b o hc e n=>u.free b o e n hc) (fun b o hc e=>u.there b o e hc) u.tups u.frzs u.tbls (fun m' hm=>by
   obtain⟨o',es',ep',ho',r'⟩:=hm
   rw[ho]at ho';cases ho'
   exact⟨_,es',ep',hL,r'⟩) hok hg
theorem Inv.turned{t':Nat}{it:Addr}(I:Inv X pins σ H s)(k:∀ b o,b≠it→s.heap.get? b=some o→h'.get? b=some o)(hn:H it=none)(hL:it≠X.env.locals)
  (h1:it∈X.ex∨X.s₀.heap.objs.size≤it) (h2:∀ x c,X.env.cells.lookup x=some c→c≠it) (h3:∀ p∈X.pn++pins,p.1≠it):Inv X pins σ H {s with heap:=h',toks:=t'}:=by
 have nit:∀ b u,H b=some u→b≠it:=fun b u e z=>by rw[z,hn]at e;cases e
 refine I.step (g':=s.gens) (d':=s.drawn) (ch:=[it]) (fun b hb=>?_) (fun b o _ _ hc e _=>k b o (fun z=>hc (by simp[z])) e) (fun b o _ _ hc e _=>⟨o.slots,k b o (fun z=>hc (by simp[z])) e⟩) (fun _ _ _ _ n=>n)
  (fun b o hc e=>⟨o,k b o (fun z=>hc (by simp[z])) e⟩) (fun _ _ e=>e) (fun _ _ _ e=>e) (fun b ps e=>⟨#[],by rw[e];simp⟩) (fun m hm=>?_) (fun b u e=>?_) I.bare
 ·have e:b=it:=by simpa using hb
  subst e;exact⟨h1,hL,h2,h3⟩
 ·obtain⟨o,es,ep,ho,r⟩:=hm;exact⟨o,es,ep,k _ o (Ne.symm hL) ho,r⟩
 ·refine(I.hok b u e).stay (fun c v hc q=>k c v ?_ q) (fun _ q=>q) fun _ _ q=>q;rcases hc with z|z
  ·rw[z];exact nit b u e
  ·exact nit c _ z
theorem Inv.tok(I:Inv X pins σ H s)(t:Nat):Inv X pins σ H {s with toks:=t}:=I.un (h':=s.heap) (t':=t) Un.refl I.hok
theorem Inv.kept{t':Nat}(I:Inv X pins σ H s)(k:∀ b u,s.heap.get? b=some u→h'.get? b=some u):Inv X pins σ H {s with heap:=h',toks:=t'}:=I.un (Un.kept k) (I.hok.kept k)
theorem Inv.laid{a:Addr}{o:HO}{t':Nat}(I:Inv X pins σ H s)(k:∀ b u,s.heap.get? b=some u→h'.get? b=some u)(hp:s.heap.objs.size≤a)(new:ObjOk X.prog X.w (upd H a o) h' a o) :
  Inv X pins σ (upd H a o) {s with heap:=h',toks:=t'}:=I.un (Un.laid k hp (I.hok.fresh hp)) (I.hok.laid k hp new)
theorem Inv.write{x e:Addr}{o:HO}{t':Nat}(I:Inv X pins σ H s)(mu:Mut (H x))(he:e=x∨H e=some (.own x))(k:∀ b u,b≠e→s.heap.get? b=some u→h'.get? b=some u)(heo:∃ u,h'.get? e=some u)
  (new:ObjOk X.prog X.w (upd H x o) h' x o):Inv X pins σ (upd H x o) {s with heap:=h',toks:=t'}:=I.un (Un.write mu he k heo) (I.hok.write mu he k heo new)
theorem Inv.weak{σ':List (Option V)}(I:Inv X pins σ H s)(hl:σ'.length=σ.length)(w:∀ (i:Nat) v,σ'[i]?=some (some v)→σ[i]?=some (some v)):Inv X pins σ' H s :=
 ⟨I.ok,I.os,I.bare,I.base,let ⟨m,hn,hl'⟩:=I.loc;⟨m,hn,fun i x v e1 e2 e3=>hl' i x v e1 (w i v e2) e3⟩,I.cell,I.free,I.freeC,I.pin,I.hok,hl.trans I.len⟩
theorem Inv.pins_of{pins':List (Addr×Obj)}(I:Inv X pins σ H s)(h:∀ p∈pins',s.heap.get? p.1=some p.2∧H p.1=none∧p.1≠X.env.locals∧p.1∉X.fs∧∀ v,p.2.data≠.cell v):Inv X pins' σ H s :=
 ⟨I.ok,I.os,I.bare,I.base,I.loc,I.cell,I.free,I.freeC,fun p hp=>(List.mem_append.mp hp).elim (fun z=>I.pin p (List.mem_append_left _ z)) (h p),I.hok,I.len⟩
theorem KO{N:List Str}(hN:N.Nodup){i j:Nat}{x:Str}(a:N[i]?=some x)(b:N[j]?=some x):i=j:=by obtain⟨h1,e1⟩:=List.getElem?_eq_some_iff.mp a;obtain⟨h2,e2⟩:=List.getElem?_eq_some_iff.mp b;exact(List.getElem_inj hN).mp (e1.trans e2.symm)
theorem Jy{M:Model}{A:Around}{E:Value→Shared→Prop}{i:Nat}{x:Str}{v:V}{u:Value}{Q:Unit→Shared→Prop}(I:Inv X pins σ H s)(hN:X.N.Nodup)(hi:X.N[i]?=some x)(hx:Loc X.env.scope x)(r:RelV v u)
  (h:∀ s',Inv X pins (σ.set i (some v)) H s'→(∃ a,Heap.SameBut a s.heap s'.heap∧(a=X.env.locals∨X.env.cells.lookup x=some a))→Q () s') (hf:X.fn x=true∨X.env.scope.names.lookup x=some .local:=by first|exact .inl rfl|exact .inr rfl|assumption):wpAny M A (storeName X.env x u) Q E s:=by
 obtain⟨m,hn,hl⟩:=id I.loc;have hcls:(X.env.scope.kind == .class||(X.env.scope.kind == .module&&X.env.locals != X.env.globals))=false:=by rw[I.ok.kind];rfl
 have hiσ:i<σ.length:=by rw[I.len];exact(List.getElem?_eq_some_iff.mp hi).1
 have cne:=I.cne;have tracked:∀ {a:Addr}{h':Heap},(∃ o,s.heap.get? a=some o∧H a=none)→Heap.SameBut a s.heap h'→HOk X.prog X.w H h':=fun {a h'} ha hs b ob e=>by
  obtain⟨_,_,hfree⟩:=ha;refine(I.hok b ob e).stay (fun c w' hc q=>(hs.2 c ?_).trans q) (fun _ q=>q) fun _ _ q=>q;rintro rfl;rcases hc with rfl|hc
  ·rw[hfree]at e;cases e
  ·rw[hfree]at hc;cases hc
 rcases hx with hk|hk
 ·refine wpAny_storeName_local hk hn (fun h' hn' hs=>?_) hcls;obtain⟨oL,_,_,hoL,_⟩:=id hn;refine h _ ⟨I.ok,I.os,I.bare,⟨fun b o e n hb hx=>?_,fun b o e n hb hx=>?_,I.base.free,fun b o e hx=>?_,I.base.tups,I.base.frzs,I.base.tbls⟩,⟨_,hn',fun j y v' e1 e2 e3=>?_⟩,fun y c e=>?_,I.free,I.freeC,fun p hp=>?_,tracked ⟨oL,hoL,I.free⟩ hs,by simpa using I.len⟩ ⟨_,hs,.inl rfl⟩
  ·exact(hs.2 b (Nat.ne_of_lt (Nat.lt_of_lt_of_le (Heap.lt_size e) I.ok.above))).trans (I.base.keep b o e n hb hx)
  ·obtain⟨sl,e1⟩:=I.base.slot b o e n hb hx;exact⟨sl,(hs.2 b (Nat.ne_of_lt (Nat.lt_of_lt_of_le (Heap.lt_size e) I.ok.above))).trans e1⟩
  ·obtain⟨o',e1⟩:=I.base.there b o e hx;exact⟨o',(hs.2 b (Nat.ne_of_lt (Nat.lt_of_lt_of_le (Heap.lt_size e) I.ok.above))).trans e1⟩
  ·by_cases hj:j=i
   ·subst hj;rw[hi]at e1;cases e1;rw[List.getElem?_set_self hiσ]at e2;cases e2;exact⟨u,r,.inl ⟨hk,by simp⟩⟩
   ·rw[List.getElem?_set_ne (Ne.symm hj)]at e2;obtain⟨u',r',q⟩:=hl j y v' e1 e2 e3;refine⟨u',r',?_⟩;rcases q with⟨k,e⟩|⟨k,c,e,z⟩
    ·refine .inl ⟨k,?_⟩;have:y≠x:=fun e=>hj (KO hN e1 (e▸hi));simp[this,e]
    ·exact .inr ⟨k,c,e,z.sameBut hs (cne y c e)⟩
  ·obtain⟨w',z⟩:=I.cell y c e;exact⟨w',z.sameBut hs (cne y c e)⟩
  ·obtain⟨e,n,ne,nf,d⟩:=I.pin p hp;exact⟨(hs.2 p.1 ne).trans e,n,ne,nf,d⟩
 ·have hfn:X.fn x=true:=by
   rcases hf with z|z
   ·exact z
   ·rw[z]at hk;cases hk
  obtain⟨c,hc⟩:=I.ok.has x (.inl hk);obtain⟨w',z⟩:=I.cell x c hc;refine wpAny_storeName_cell I.ok.kind hk hc z (fun h' hc' hs=>?_);obtain⟨oc,hoc,hocd⟩:=id z;refine h {s with heap:=h'} ⟨I.ok,I.os,I.bare,⟨fun b o e n hb hx=>?_,fun b o e n hb hx=>?_,I.base.free,fun b o e hx=>?_,I.base.tups,I.base.frzs,I.base.tbls⟩,⟨m,hn.sameBut hs (Ne.symm (cne x c hc)),fun j y v' e1 e2 e3=>?_⟩,fun y c' e=>?_,I.free,I.freeC,fun p hp=>?_,tracked ⟨oc,hoc,I.freeC x c hc⟩ hs,by simpa using I.len⟩ ⟨c,hs,.inr hc⟩
  ·exact(hs.2 b (Nat.ne_of_lt (Nat.lt_of_lt_of_le (Heap.lt_size e) (I.ok.cab x c hfn hc)))).trans (I.base.keep b o e n hb hx)
  ·obtain⟨sl,e1⟩:=I.base.slot b o e n hb hx;exact⟨sl,(hs.2 b (Nat.ne_of_lt (Nat.lt_of_lt_of_le (Heap.lt_size e) (I.ok.cab x c hfn hc)))).trans e1⟩
  ·obtain⟨o',e1⟩:=I.base.there b o e hx;exact⟨o',(hs.2 b (Nat.ne_of_lt (Nat.lt_of_lt_of_le (Heap.lt_size e) (I.ok.cab x c hfn hc)))).trans e1⟩
  ·by_cases hj:j=i
   ·subst hj;rw[hi]at e1;cases e1;rw[List.getElem?_set_self hiσ]at e2;cases e2;exact⟨u,r,.inr ⟨.inl hk,c,hc,hc'⟩⟩
   ·rw[List.getElem?_set_ne (Ne.symm hj)]at e2;obtain⟨u',r',q⟩:=hl j y v' e1 e2 e3;refine⟨u',r',?_⟩;rcases q with q|⟨k,c',e,z'⟩
    ·exact .inl q
    ·refine .inr ⟨k,c',e,z'.sameBut hs ?_⟩;rintro rfl;exact hj (KO hN e1 (I.ok.inj _ _ _ e hc▸hi))
  ·by_cases hcc:c'=c
   ·subst hcc;exact⟨_,hc'⟩
   ·obtain⟨w2,z2⟩:=I.cell y c' e;exact⟨w2,z2.sameBut hs hcc⟩
  ·obtain⟨e,n,ne,nf,d⟩:=I.pin p hp;refine⟨(hs.2 p.1 ?_).trans e,n,ne,nf,d⟩;intro q;rw[q,hoc]at e;have q':oc=p.2:=Option.some.inj e;exact d w' (by rw[←q'];exact hocd)
theorem UG{M:Model}{A:Around}{E:Value→Shared→Prop}{i:Nat}{x:Str}{v:V}{u:Value}{Q:Unit→Shared→Prop}(I:Inv X pins σ H s)(hN:X.N.Nodup)(hi:X.N[i]?=some x)(hx:Loc X.env.scope x)(r:RelV v u)
  (h:∀ s',Inv X pins (σ.set i (some v)) H s'→Q () s') (hf:X.fn x=true∨X.env.scope.names.lookup x=some .local:=by first|exact .inl rfl|exact .inr rfl|assumption):wpAny M A (storeName X.env x u) Q E s :=
 Jy I hN hi hx r (fun s' I' _=>h s' I') hf
theorem Inv.call'{s':Shared}{ch:List Addr}(I:Inv X pins σ H s)(ho:s'.os=s.os)(u:Un (frs X.stack) ch H H' s.heap s'.heap)(hok:HOk X.prog X.w H' s'.heap)(hg:AllBare s'.gens)
  (hch:∀ b∈ch,(b∈X.ex∨X.s₀.heap.objs.size≤b)∧b≠X.env.locals∧(∀ x c,X.env.cells.lookup x=some c→c≠b)∧∀ p∈X.pn++pins,p.1≠b):Inv X pins σ H' s':=by
 obtain⟨h',g',d',t',o'⟩:=s';have e:o'=s.os:=ho;subst e;exact I.call (g':=g') (t':=t') (d':=d') u hok hg hch
end
abbrev XK:=Value→Option Addr→Hp→Prop
abbrev St:=List (Option V)
abbrev VK:=V→Hp→Prop
abbrev TE:=St→Hp→VK→Prop
abbrev TT:=St→Hp→(Bool→Hp→Prop)→Prop
abbrev TA:=St→Hp→(List V→Hp→Prop)→Prop
structure Ends where
 nx:St→Hp→Prop
 rt:VK
 bk:St→Hp→Prop:=fun _ _=>False
 ct:St→Hp→Prop:=fun _ _=>False
abbrev TS:=Ends→St→Hp→Prop
def EP (X:Cx) (pins:List (Addr×Obj)) (σ:St) (Q:VK) (u:Value) (s':Shared):Prop:=∃ v H',Inv X pins σ H' s'∧RelV v u∧Q v H'
def TP (X:Cx) (pins:List (Addr×Obj)) (σ:St) (Q:Bool→Hp→Prop) (b:Bool) (s':Shared):Prop:=∃ H',Inv X pins σ H' s'∧Q b H'
def AP (X:Cx) (pins:List (Addr×Obj)) (σ:St) (Q:List V→Hp→Prop) (us:List Value) (s':Shared):Prop:=∃ vs H',Inv X pins σ H' s'∧Vals vs us∧Q vs H'
def SP (X:Cx) (pins:List (Addr×Obj)) (D:Ends) (f:Flow) (s':Shared):Prop :=
 match f with
 |.next=>∃ σ' H',Inv X pins σ' H' s'∧D.nx σ' H'
 |.brk=>∃ σ' H',Inv X pins σ' H' s'∧D.bk σ' H'
 |.cont=>∃ σ' H',Inv X pins σ' H' s'∧D.ct σ' H'
 |.ret u=>∃ v σ' H',Inv X pins σ' H' s'∧RelV v u∧D.rt v H'
def PE (X:Cx) (e:Expr) (t:TE):Prop :=
 ∀ (pins:List (Addr×Obj)) (s:Shared) (σ:St) (H:Hp) (Q:VK),Inv X pins σ H s→t σ H Q→wpAny (model X.prog X.w) X.A (eval e X.env) (EP X pins σ Q) X.xe s
def PT (X:Cx) (e:Expr) (t:TT):Prop :=
 ∀ (pins:List (Addr×Obj)) (s:Shared) (σ:St) (H:Hp) (Q:Bool→Hp→Prop),Inv X pins σ H s→t σ H Q→wpAny (model X.prog X.w) X.A (isTrue e X.env (eval e X.env)) (TP X pins σ Q) X.xe s
def PW (X:Cx) (e:Expr) (t:TT):Prop :=
 ∀ (whole:Sem Value) (pins:List (Addr×Obj)) (s:Shared) (σ:St) (H:Hp) (Q:Bool→Hp→Prop),Inv X pins σ H s→t σ H Q→wpAny (model X.prog X.w) X.A (isTrue e X.env whole) (TP X pins σ Q) X.xe s
theorem PW.pt{X:Cx}{e:Expr}{t:TT}(h:PW X e t):PT X e t:=h _
def PA (X:Cx) (es:List Expr) (t:TA):Prop :=
 ∀ (pos:Pos) (pins:List (Addr×Obj)) (s:Shared) (σ:St) (H:Hp) (Q:List V→Hp→Prop),Inv X pins σ H s→t σ H Q→wpAny (model X.prog X.w) X.A (spliced (backTo pos (starEach es X.env))) (AP X pins σ Q) X.xe s
def PS (X:Cx) (st:Stmt) (t:TS):Prop :=
 ∀ (pins:List (Addr×Obj)) (s:Shared) (σ:St) (H:Hp) (D:Ends),Inv X pins σ H s→t D σ H→wpAny (model X.prog X.w) X.A (exec st X.env) (SP X pins D) X.xe s
def PSs (X:Cx) (st:List Stmt) (t:TS):Prop :=
 ∀ (pins:List (Addr×Obj)) (s:Shared) (σ:St) (H:Hp) (D:Ends),Inv X pins σ H s→t D σ H→wpAny (model X.prog X.w) X.A (execs st X.env) (SP X pins D) X.xe s
theorem thn{α:Type}{t:Sem α}{Q Q':α→Shared→Prop}{M:Model}{A:Around}{E:Value→Shared→Prop}{s:Shared}(h:wpAny M A t Q E s)(hQ:∀ a s,Q a s→Q' a s):wpAny M A t Q' E s:=wpAny_mono h hQ fun _ _ x=>x
section
variable {X:Cx}
theorem bin{a b:Expr}{ta tb:TE}(ha:PE X a ta)(hb:PE X b tb){pins:List (Addr×Obj)}{s:Shared}{σ:St}{H:Hp}{R:V→V→Hp→Prop}(I:Inv X pins σ H s)(h:ta σ H fun x H1=>tb σ H1 fun y H2=>R x y H2)
  {α:Type}{Q:α→Shared→Prop}{f:Value→Value→Sem α}
  (hf:∀ v u s2 x y H2,Inv X pins σ H2 s2→RelV x v→RelV y u→R x y H2→wpAny (model X.prog X.w) X.A (f v u) Q X.xe s2) :
  wpAny (model X.prog X.w) X.A (eval a X.env) (fun v s₁=>wpAny (model X.prog X.w) X.A (eval b X.env) (fun u s₂=>wpAny (model X.prog X.w) X.A (f v u) Q X.xe s₂) X.xe s₁) X.xe s:=by
 refine thn (ha pins s σ H _ I h) fun v s1 ⟨x,H1,I1,r1,q1⟩=>?_;refine thn (hb pins s1 σ H1 _ I1 q1) fun u s2 ⟨y,H2,I2,r2,q2⟩=>?_;exact hf v u s2 x y H2 I2 r1 r2 q2
def P4 (i:Nat):TE:=fun σ H Q=>∃ v,σ[i]?=some (some v)∧Q v H
def tC (v:V):TE:=fun _ H Q=>Q v H
theorem Fx {i:Nat}{x:Str}{pos:Pos}(hN:X.N[i]?=some x) (hv:Vis X.env.scope x) (hd:(x==("__debug__" : Str))=false:=by decide) (hcd:(x==("__classdict__" : Str))=false:=by decide):PE X (.Name x pos) (P4 i):=by
 intro pins s σ H Q I h;obtain⟨v,e,h⟩:=h;obtain⟨m,hn,hl⟩:=I.loc;obtain⟨u,r,l⟩:=hl i x v hN e hv;have fin:EP X pins σ Q u s:=⟨v,H,I,r,h⟩
 rcases l with⟨hk,hm⟩|⟨hk,c,hc,hcell⟩
 ·exact wpAny_Name (wpAny_loadName_local I.ok.kind hk hn hm fin) hd
 ·rcases hk with hk|hk
  ·exact wpAny_Name (wpAny_loadName_cell I.ok.kind hk hc hcell fin) hd
  ·exact wpAny_Name (wpAny_loadName_free I.ok.kind hk hc hcell fin hcd) hd
theorem Bg{i j pos}:PE X (.Constant (.int i) j pos) (tC (.int i)):=fun _ _ _ H _ I h=>wpAny_Constant_int ⟨.int i,H,I.tok _,⟨_,rfl⟩,h⟩
theorem Ld{b j pos}:PE X (.Constant (.bool b) j pos) (tC (.bl b)):=fun _ _ _ H _ I h=>Constant_bool ⟨.bl b,H,I,rfl,h⟩
theorem Ut{j pos}:PE X (.Constant .none j pos) (tC .non):=fun _ _ _ H _ I h=>Constant_none ⟨.non,H,I,rfl,h⟩
theorem pe_str{x j pos}:PE X (.Constant (.str x) j pos) (tC (.str x)):=fun _ _ _ H _ I h=>Calls.Constant_str ⟨.str x,H,I.tok _,⟨_,rfl⟩,h⟩
def Gl (X:Cx) (x:Str):Prop:=X.env.kindOf x=some .globalImplicit
theorem X9{E:Value→Shared→Prop}{pins:List (Addr×Obj)}{s:Shared}{σ:St}{H:Hp}{x:Str}{u:Value}{pos:Pos}{Q:Value→Shared→Prop}(I:Inv X pins σ H s)(hg:Gl X x)(hm:X.mg x=some u)(h:Q u s)
  (hd:(x==("__debug__" : Str))=false:=by decide):wpAny (model X.prog X.w) X.A (eval (.Name x pos) X.env) Q E s :=
 Calls.Name_function_global I.ok.kind hg (Calls.loadGlobal_global (by rw[I.ok.glob];exact I.mod.glob.keeps I.bk) hm h) hd
theorem YG{E:Value→Shared→Prop}{pins:List (Addr×Obj)}{s:Shared}{σ:St}{H:Hp}{x:Str}{u:Value}{pos:Pos}{Q:Value→Shared→Prop}(I:Inv X pins σ H s)(hg:Gl X x)(hm:X.mg x=none)(hv:bootBuiltins x=some u)(h:Q u s)
  (hn:x≠"__name__":=by decide) (hd:(x==("__debug__" : Str))=false:=by decide):wpAny (model X.prog X.w) X.A (eval (.Name x pos) X.env) Q E s:=by
 obtain⟨mb,h1,h2⟩:=I.mod.blt;exact Calls.Name_function_global I.ok.kind hg (Calls.loadGlobal_builtin (by rw[I.ok.glob];exact I.mod.glob.keeps I.bk) hm (by rw[I.ok.blt];exact h1.keeps I.bk) ((h2 x hn).trans hv) h) hd
theorem Cq {x:Str}{v:V}{u:Value}{pos:Pos}(hg:Gl X x) (hm:X.mg x=some u) (r:RelV v u) (hd:(x==("__debug__" : Str))=false:=by decide):PE X (.Name x pos) (tC v) :=
 fun _ _ _ H _ I h=>X9 I hg hm ⟨v,H,I,r,h⟩ hd
theorem DA {x:Str}{v:V}{u:Value}{pos:Pos}(hg:Gl X x) (hm:X.mg x=none) (hv:bootBuiltins x=some u) (r:RelV v u) (hn:x≠"__name__":=by decide) (hd:(x==("__debug__" : Str))=false:=by decide):PE X (.Name x pos) (tC v) :=
 fun _ _ _ H _ I h=>YG I hg hm hv ⟨v,H,I,r,h⟩ hn hd
def t2I (ta tb:TE) (k:Int→Int→Hp→Prop):St→Hp→Prop:=fun σ H=>ta σ H fun x H1=>tb σ H1 fun y H2=>∃ i j,x=.int i∧y=.int j∧k i j H2
def RE (ta tb:TE):TE:=fun σ H Q=>t2I ta tb (fun i j H2=>Q (.int (i+j)) H2) σ H
def RA (ta tb:TE):TE:=fun σ H Q=>t2I ta tb (fun i j H2=>Q (.int (i - j)) H2) σ H
def RB (ta tb:TE):TE:=fun σ H Q=>t2I ta tb (fun i j H2=>(-(2 ^ 64)<i∧i<2 ^ 64)∧Q (.int (i*j)) H2) σ H
variable {a b:Expr}{ta tb:TE}{pos:Pos}
def PC (X:Cx) (op:CmpOp) (a b:Expr) (t:TE):Prop :=
 ∀ (pins:List (Addr×Obj)) (s:Shared) (σ:St) (H:Hp) (Q:VK),Inv X pins σ H s→t σ H Q→
  wpAny (model X.prog X.w) X.A (eval a X.env) (fun v s₁=>wpAny (model X.prog X.w) X.A (eval b X.env) (fun u s₂=>wpAny (model X.prog X.w) X.A (compareOp op v u) (EP X pins σ Q) X.xe s₂) X.xe s₁) X.xe s
theorem K4(b:Expr){op:CmpOp}(h:op≠.In)(h2:op≠.NotIn):behindInMarks op b=false:=by
 have e1:(op==CmpOp.In)=false:=by cases op<;>first|rfl|exact absurd rfl h
 have e2:(op==CmpOp.NotIn)=false:=by cases op<;>first|rfl|exact absurd rfl h2
 cases b<;>simp[behindInMarks,e1,e2]
def O4 (p:Int→Int→Bool) (ta tb:TE):TE:=fun σ H Q=>t2I ta tb (fun i j H2=>Q (.bl (p i j)) H2) σ H
abbrev tLt:TE→TE→TE:=O4 fun i j=>decide (i<j)
abbrev tLe:TE→TE→TE:=O4 fun i j=>decide (i≤j)
abbrev tGt:TE→TE→TE:=O4 fun i j=>decide (j<i)
abbrev tGe:TE→TE→TE:=O4 fun i j=>decide (j≤i)
abbrev RD:TE→TE→TE:=O4 fun i j=>decide (i=j)
abbrev RQ:TE→TE→TE:=O4 fun i j=>!decide (i=j)
def L3 (ta:TE):TE:=fun σ H Q=>ta σ H fun x H1=>Q (.bl (decide (x=.non))) H1
def G0 (ta:TE):TE:=fun σ H Q=>ta σ H fun x H1=>Q (.bl (!decide (x=.non))) H1
theorem RelV.none_iff{x:V}{v:Value}(r:RelV x v):(v==Value.none)=decide (x=.non):=by
 cases x with
 |non=>cases r;rfl
 |bl _=>cases r;rfl
 |int _=>obtain⟨t,rfl⟩:=r;rfl
 |str _=>obtain⟨t,rfl⟩:=r;rfl
 |byt _=>obtain⟨t,rfl⟩:=r;rfl
 |flt _=>obtain⟨t,rfl⟩:=r;rfl
 |ref _=>cases r;rfl
 |ty _=>cases r;rfl
theorem UE{j pos'}(ha:PE X a ta):PC X .Is a (.Constant .none j pos') (L3 ta):=by intro pins s σ H Q I h;refine thn (ha pins s σ H _ I h) fun v s1 ⟨x,H1,I1,r1,q1⟩=>?_;exact Constant_none (is_none_gen ⟨.bl _,H1,I1,by rw[r1.none_iff];rfl,q1⟩)
theorem NB{j pos'}(ha:PE X a ta):PC X .IsNot a (.Constant .none j pos') (G0 ta):=by intro pins s σ H Q I h;refine thn (ha pins s σ H _ I h) fun v s1 ⟨x,H1,I1,r1,q1⟩=>?_;exact Constant_none (isnot_none_gen ⟨.bl _,H1,I1,by rw[r1.none_iff];rfl,q1⟩)
def tB (t:TE):TT:=fun σ H Q=>t σ H fun x H1=>∃ c,x=.bl c∧Q c H1
theorem U5{op:CmpOp}{t:TE}(h:PC X op a b t)(h1:behindInMarks op b=false:=by first|exact K4 _ (by decide) (by decide)|rfl):PE X (.Compare a [op] [b] pos) t:=fun pins s σ H Q I hw=>wpAny_Compare1 (h pins s σ H Q I hw) h1
theorem UN{op:CmpOp}{t:TE}(h:PC X op a b t)(h1:behindInMarks op b=false:=by first|exact K4 _ (by decide) (by decide)|rfl):PT X (.Compare a [op] [b] pos) (tB t):=by intro pins s σ H Q I hw;refine wpAny_isTrue_Compare1 (thn (h pins s σ H _ I hw) fun v s1 h1=>thn h1 fun u s2 h2=>thn h2 fun c s3 ⟨x,H1,I1,r1,q1⟩=>?_) h1;obtain⟨d,rfl,q⟩:=q1;cases r1;exact wpAny_truthy_bool ⟨H1,I1,q⟩
variable {tA tB':TT}{rest:List Expr}
def PL (t u:TT):TT:=fun σ H Q=>t σ H fun c H1=>if c=true then u σ H1 Q else Q false H1
def tOr (t u:TT):TT:=fun σ H Q=>t σ H fun c H1=>if c=true then Q true H1 else u σ H1 Q
def LW (t:TT):TT:=fun σ H Q=>t σ H fun c H1=>Q (!c) H1
theorem CI(ha:PT X a tA):PW X (.BoolOp .And [a] pos) tA:=by
 intro wh pins s σ H Q I h;refine isTrue_and (thn (ha pins s σ H Q I h) fun c s1 e=>?_);cases c with
 |true=>exact isTrue_and_nil e
 |false=>exact e
theorem ED(ha:PT X a tA):PW X (.BoolOp .Or [a] pos) tA:=by
 intro wh pins s σ H Q I h;refine isTrue_or (thn (ha pins s σ H Q I h) fun c s1 e=>?_);cases c with
 |false=>exact isTrue_or_nil e
 |true=>exact e
theorem Ej(ha:PT X a tA)(hb:PW X (.BoolOp .And (b::rest) pos) tB'):PW X (.BoolOp .And (a::b::rest) pos) (PL tA tB'):=by
 intro wh pins s σ H Q I h;refine isTrue_and (thn (ha pins s σ H _ I h) fun c s1 ⟨H1,I1,q1⟩=>?_);cases c with
 |true=>exact hb wh pins s1 σ H1 Q I1 q1
 |false=>exact⟨H1,I1,q1⟩
theorem Hf(ha:PT X a tA)(hb:PW X (.BoolOp .Or (b::rest) pos) tB'):PW X (.BoolOp .Or (a::b::rest) pos) (tOr tA tB'):=by
 intro wh pins s σ H Q I h;refine isTrue_or (thn (ha pins s σ H _ I h) fun c s1 ⟨H1,I1,q1⟩=>?_);cases c with
 |true=>exact⟨H1,I1,q1⟩
 |false=>exact hb wh pins s1 σ H1 Q I1 q1
theorem Fh(ha:PT X a tA):PT X (.UnaryOp .Not a pos) (LW tA):=by intro pins s σ H Q I h;exact isTrue_not (ha pins s σ H (fun c H1=>Q (!c) H1) I h)
def Lm (ta tb:TE):TE:=fun σ H Q=>ta σ H fun x H1=>∃ c,x=.bl c∧if c=true then tb σ H1 Q else Q (.bl false) H1
def L5 (ta tb:TE):TE:=fun σ H Q=>ta σ H fun x H1=>∃ c,x=.bl c∧if c=true then Q (.bl true) H1 else tb σ H1 Q
def HW (ta:TE):TE:=fun σ H Q=>ta σ H fun x H1=>∃ c,x=.bl c∧Q (.bl (!c)) H1
theorem AU{op}{t:TE}(h:PE X a t):PE X (.BoolOp op [a] pos) t:=fun pins s σ H Q I hw=>BoolOp_one (h pins s σ H Q I hw)
theorem FF(ha:PE X a ta)(hb:PE X (.BoolOp .And (b::rest) pos) tb):PE X (.BoolOp .And (a::b::rest) pos) (Lm ta tb):=by
 intro pins s σ H Q I h;refine BoolOp_and (thn (ha pins s σ H _ I h) fun v s1 ⟨x,H1,I1,r1,q1⟩=>?_);obtain⟨c,rfl,q1⟩:=q1;cases r1;refine wpAny_truthy_bool ?_;cases c with
 |true=>exact hb pins s1 σ H1 Q I1 q1
 |false=>exact⟨.bl false,H1,I1,rfl,q1⟩
theorem IM(ha:PE X a ta)(hb:PE X (.BoolOp .Or (b::rest) pos) tb):PE X (.BoolOp .Or (a::b::rest) pos) (L5 ta tb):=by
 intro pins s σ H Q I h;refine BoolOp_or (thn (ha pins s σ H _ I h) fun v s1 ⟨x,H1,I1,r1,q1⟩=>?_);obtain⟨c,rfl,q1⟩:=q1;cases r1;refine wpAny_truthy_bool ?_;cases c with
 |false=>exact hb pins s1 σ H1 Q I1 q1
 |true=>exact⟨.bl true,H1,I1,rfl,q1⟩
theorem Ey(ha:PE X a ta):PE X (.UnaryOp .Not a pos) (HW ta):=by intro pins s σ H Q I h;refine UnaryOp_ (thn (ha pins s σ H _ I h) fun v s1 ⟨x,H1,I1,r1,q1⟩=>?_);obtain⟨c,rfl,q1⟩:=q1;cases r1;exact not_of (wpAny_truthy_bool ⟨.bl (!c),H1,I1,rfl,q1⟩)
def tIf (t:TT) (ta tb:TE):TE:=fun σ H Q=>t σ H fun c H1=>if c=true then ta σ H1 Q else tb σ H1 Q
theorem Ug{c:Expr}(hc:PT X c tA)(ha:PE X a ta)(hb:PE X b tb):PE X (.IfExp c a b pos) (tIf tA ta tb):=by
 intro pins s σ H Q I h;refine wpAny_IfExp (thn (hc pins s σ H _ I h) fun d s1 ⟨H1,I1,q1⟩=>?_);cases d with
 |true=>exact ha pins s1 σ H1 Q I1 q1
 |false=>exact hb pins s1 σ H1 Q I1 q1
end
def SqL (K:PySem.W.Frag) (H:Hp) (a:Addr) (xs:List V):Prop :=
 Rd H a (.lst xs)∨
  ∃ (o:Obj) (its:Array Value) (n:Nat),K.lookup a=some o∧o.cls=.type "list"∧o.dict=none∧o.data=.seq its n∧its.size≤sizeLine∧Vals xs its.toList
def SqT (K:PySem.W.Frag) (H:Hp) (a:Addr) (xs:List V):Prop :=
 Rd H a (.tup xs)∨
  ∃ (o:Obj) (its:Array Value) (n:Nat),K.lookup a=some o∧o.cls=.type "tuple"∧o.data=.seq its n∧its.size≤sizeLine∧Vals xs its.toList
def absV:Value→Option V
 |.none=>some .non
 |.bool b=>some (.bl b)
 |.int i _=>some (.int i)
 |.str x _=>some (.str x)
 |.bytes b _=>some (.byt b)
 |.float b _=>some (.flt b)
 |.ref a=>some (.ref a)
 |.type n=>some (.ty n)
 |_=>none
theorem RelV.abs{x:V}{u:Value}(r:RelV x u):absV u=some x:=by
 cases x with
 |non=>cases r;rfl
 |bl _=>cases r;rfl
 |int _=>obtain⟨t,rfl⟩:=r;rfl
 |str _=>obtain⟨t,rfl⟩:=r;rfl
 |byt _=>obtain⟨t,rfl⟩:=r;rfl
 |flt _=>obtain⟨t,rfl⟩:=r;rfl
 |ref _=>cases r;rfl
 |ty _=>cases r;rfl
theorem RelV.inj{x y:V}{u:Value}(r:RelV x u)(q:RelV y u):x=y:=Option.some.inj (r.abs.symm.trans q.abs)
theorem Vals.inj:∀ {xs ys:List V}{us:List Value},Vals xs us→Vals ys us→xs=ys
 |_,_,_,.nil,.nil=>rfl
 |_,_,_,.cons r t,.cons r' t'=>by rw[r.inj r',Vals.inj t t']
section
variable {X:Cx}{pins:List (Addr×Obj)}{σ:St}{H:Hp}{s:Shared}{a:Addr}{xs ys:List V}
theorem SqL.of{K:PySem.W.Frag}(h:H a=some (.lst xs)):SqL K H a xs:=.inl (.inl h)
theorem SqT.of{K:PySem.W.Frag}(h:H a=some (.tup xs)):SqT K H a xs:=.inl (.inl h)
theorem Inv.list(I:Inv X pins σ H s)(h:SqL X.K H a xs):∃ its:List Value,Vals xs its∧PlainL s.heap a its.toArray∧xs.length≤sizeLine:=by
 rcases h with h|⟨o,its,n,hk,hc,hd,hs,hz,r⟩
 ·obtain⟨z,its,n,r,e⟩:=h.ok I.hok;exact⟨its,r,⟨_,n,e,rfl,rfl,rfl⟩,z⟩
 ·refine⟨its.toList,r,⟨o,n,I.kIn a o hk,hc,hd,by simpa using hs⟩,?_⟩;have e:=r.length;simp only[Array.length_toList]at e;omega
theorem Inv.tuple(I:Inv X pins σ H s)(h:SqT X.K H a xs):∃ its:List Value,Vals xs its∧IsTup s.heap a its.toArray∧xs.length≤sizeLine:=by
 rcases h with h|⟨o,its,n,hk,hc,hs,hz,r⟩
 ·obtain⟨z,its,r,p⟩:=h.ok I.hok;exact⟨its,r,p,z⟩
 ·refine⟨its.toList,r,⟨o,I.kIn a o hk,hc,n,by simpa using hs⟩,?_⟩;have e:=r.length;simp only[Array.length_toList]at e;omega
theorem Inv.list_inj(I:Inv X pins σ H s)(h:SqL X.K H a xs)(h':SqL X.K H a ys):xs=ys:=by
 obtain⟨its,r,⟨o,n,e,_,_,d⟩,_⟩:=I.list h;obtain⟨its',r',⟨o',n',e',_,_,d'⟩,_⟩:=I.list h';rw[e]at e';cases e';rw[d]at d';injection d' with d1 _;have:its=its':=by simpa using congrArg Array.toList d1
 subst this;exact r.inj r'
theorem Inv.tuple_inj(I:Inv X pins σ H s)(h:SqT X.K H a xs)(h':SqT X.K H a ys):xs=ys:=by
 obtain⟨its,r,⟨o,e,_,n,d⟩,_⟩:=I.tuple h;obtain⟨its',r',⟨o',e',_,n',d'⟩,_⟩:=I.tuple h';rw[e]at e';cases e';rw[d]at d';injection d' with d1 _;have:its=its':=by simpa using congrArg Array.toList d1
 subst this;exact r.inj r'
end
abbrev Cx.wish (X:Cx) (E:Value→Shared→Prop):Cx:={X with xe:=E}
abbrev Cx.nox (X:Cx):Cx:=X.wish fun _ _=>False
theorem Cx.Ok.wish{X:Cx}(ok:X.Ok)(E:Value→Shared→Prop):(X.wish E).Ok :=
 ⟨ok.mod,ok.kind,ok.glob,ok.blt,ok.above,ok.inj,ok.has,ok.cab,ok.hd,ok.frames,ok.stk,ok.exf,ok.bs,ok.bsz,ok.noex,ok.exfs,ok.funs,ok.frf⟩
theorem Cx.Ok.unwish{X:Cx}{E:Value→Shared→Prop}(ok:(X.wish E).Ok):X.Ok :=
 ⟨ok.mod,ok.kind,ok.glob,ok.blt,ok.above,ok.inj,ok.has,ok.cab,ok.hd,ok.frames,ok.stk,ok.exf,ok.bs,ok.bsz,ok.noex,ok.exfs,ok.funs,ok.frf⟩
section
variable {X:Cx}{pins:List (Addr×Obj)}{σ:St}{H:Hp}{s:Shared}{E:Value→Shared→Prop}
theorem Inv.wish(I:Inv X pins σ H s)(E:Value→Shared→Prop):Inv (X.wish E) pins σ H s:=⟨I.ok.wish E,I.os,I.bare,I.base,I.loc,I.cell,I.free,I.freeC,I.pin,I.hok,I.len⟩
theorem Inv.unwish(I:Inv (X.wish E) pins σ H s):Inv X pins σ H s:=⟨I.ok.unwish,I.os,I.bare,I.base,I.loc,I.cell,I.free,I.freeC,I.pin,I.hok,I.len⟩
theorem SP.unwish{D:Ends}{f:Flow}{s':Shared}(h:SP (X.wish E) pins D f s'):SP X pins D f s':=by
 cases f with
 |next=>obtain⟨σ',H',I,q⟩:=h;exact⟨σ',H',I.unwish,q⟩
 |brk=>obtain⟨σ',H',I,q⟩:=h;exact⟨σ',H',I.unwish,q⟩
 |cont=>obtain⟨σ',H',I,q⟩:=h;exact⟨σ',H',I.unwish,q⟩
 |ret u=>obtain⟨v,σ',H',I,r,q⟩:=h;exact⟨v,σ',H',I.unwish,r,q⟩
theorem PE.nox{e:Expr}{t:TE}(h:PE X.nox e t):PE X e t:=fun pins s σ H Q I hw =>
 wpAny_mono (h pins s σ H Q (I.wish _) hw) (fun _ _ ⟨v,H',I',r,q⟩=>⟨v,H',I'.unwish,r,q⟩) fun _ _ z=>False.elim z
theorem PT.nox{e:Expr}{t:TT}(h:PT X.nox e t):PT X e t:=fun pins s σ H Q I hw =>
 wpAny_mono (h pins s σ H Q (I.wish _) hw) (fun _ _ ⟨H',I',q⟩=>⟨H',I'.unwish,q⟩) fun _ _ z=>False.elim z
theorem PSs.nox{st:List Stmt}{t:TS}(h:PSs X.nox st t):PSs X st t:=fun pins s σ H D I hw =>
 wpAny_mono (h pins s σ H D (I.wish _) hw) (fun _ _ q=>q.unwish) fun _ _ z=>False.elim z
end
section
variable {X:Cx}{st:Stmt}{rest:List Stmt}{t u:TS}{e:Expr}{te:TE}{pos:Pos}
def Ic:TS:=fun D σ H=>D.nx σ H
def PZ (t u:TS):TS:=fun D σ H=>t {D with nx:=u D} σ H
theorem pss_nil:PSs X [] Ic:=fun _ _ σ H _ I h=>wpAny_execs_nil ⟨σ,H,I,h⟩
theorem Ar(h1:PS X st t)(h2:PSs X rest u):PSs X (st::rest) (PZ t u):=by
 intro pins s σ H D I h;refine wpAny_execs_cons (thn (h1 pins s σ H {D with nx:=u D} I h) fun f s1 q=>?_);cases f with
 |next =>obtain⟨σ',H',I',q⟩:=q;exact h2 pins s1 σ' H' D I' q
 |ret v=>exact q
 |brk=>exact q
 |cont=>exact q
def Pn:TS:=fun D σ H=>D.bk σ H
def QS:TS:=fun D σ H=>D.ct σ H
theorem Inv.quiet{pins:List (Addr×Obj)}{σ:St}{H:Hp}{s:Shared}(I:Inv X pins σ H s):interactive X.env=false:=by simp[interactive,I.ok.kind]
def Le (te:TE):TS:=fun D σ H=>te σ H fun _ H1=>D.nx σ H1
theorem BR(he:PE X e te)(hs:swapsWith e none pos.line X.env=pure false:=by rfl):PS X (.Expr e pos) (Le te):=by intro pins s σ H D I h;exact wpAny_Expr_any (thn (he pins s σ H _ I h) fun v s1 ⟨x,H1,I1,r1,q1⟩=>⟨σ,H1,I1,q1⟩) I.quiet hs
def L7 (te:TE):TS:=fun D σ H=>te σ H D.rt
theorem EZ(he:PE X e te):PS X (.Return (some e) pos) (L7 te):=by intro pins s σ H D I h;exact wpAny_Return_some (thn (he pins s σ H _ I h) fun v s1 ⟨x,H1,I1,r1,q1⟩=>⟨x,σ,H1,I1,r1,q1⟩)
def IR:TS:=fun D _ H=>D.rt .non H
theorem ps_retN:PS X (.Return none pos) IR:=fun _ _ σ H _ I h=>wpAny_Return_none ⟨.non,σ,H,I,rfl,h⟩
def Qd (c:TT) (t u:TS):TS:=fun D σ H=>c σ H fun b H1=>if b=true then t D σ H1 else u D σ H1
theorem HA{c:Expr}{a b:List Stmt}{tc:TT}(hc:PT X c tc)(ha:PSs X a t)(hb:PSs X b u):PS X (.If c a b pos) (Qd tc t u):=by
 intro pins s σ H D I h;refine wpAny_If (thn (hc pins s σ H _ I h) fun d s1 ⟨H1,I1,q1⟩=>?_);cases d with
 |true=>exact ha pins s1 σ H1 D I1 q1
 |false=>exact hb pins s1 σ H1 D I1 q1
def PN:TS:=fun _ _ _=>False
end
abbrev TG:=V→St→Hp→(St→Hp→Prop)→Prop
abbrev TGs:=List V→St→Hp→(St→Hp→Prop)→Prop
def PG (X:Cx) (target:Expr) (t:TG):Prop :=
 ∀ (pins:List (Addr×Obj)) (s:Shared) (σ:St) (H:Hp) (v:V) (u:Value) (Q:St→Hp→Prop),Inv X pins σ H s→RelV v u→t v σ H Q→
  wpAny (model X.prog X.w) X.A (assign target X.env u) (fun _ s'=>∃ σ' H',Inv X pins σ' H' s'∧Q σ' H') X.xe s
def PGs (X:Cx) (ts:List Expr) (t:TGs):Prop :=
 ∀ (pins:List (Addr×Obj)) (s:Shared) (σ:St) (H:Hp) (vs:List V) (us:List Value) (Q:St→Hp→Prop),Inv X pins σ H s→Vals vs us→t vs σ H Q→
  wpAny (model X.prog X.w) X.A (assignInOrder ((assignEach ts X.env).map (·.2)) us) (fun _ s'=>∃ σ' H',Inv X pins σ' H' s'∧Q σ' H') X.xe s
abbrev CK:=V→V→V→Hp→(Hp→Prop)→Prop
def PSet (X:Cx) (t:CK):Prop :=
 ∀ (pins:List (Addr×Obj)) (s:Shared) (σ:St) (H:Hp) (o i v:V) (ov iv u:Value) (Q:Hp→Prop),Inv X pins σ H s→RelV o ov→RelV i iv→RelV v u→t o i v H Q→
  wpAny (model X.prog X.w) X.A (setItem ov iv u) (fun _ s'=>∃ H',Inv X pins σ H' s'∧Q H') X.xe s
abbrev TIp:=V→V→Hp→VK→Prop
def PIp (X:Cx) (op:Operator) (t:TIp):Prop :=
 ∀ (pins:List (Addr×Obj)) (s:Shared) (σ:St) (H:Hp) (x y:V) (v u:Value) (Q:VK),Inv X pins σ H s→RelV x v→RelV y u→t x y H Q→
  wpAny (model X.prog X.w) X.A (inplaceOp op v u) (EP X pins σ Q) X.xe s
section
variable {X:Cx}{pos:Pos}
def Bh (i:Nat):TG:=fun v σ H Q=>Q (σ.set i (some v)) H
theorem Kl{i:Nat}{x:Str}(hN:X.N.Nodup)(hi:X.N[i]?=some x)(hx:Loc X.env.scope x)(hf:X.fn x=true∨X.env.scope.names.lookup x=some .local:=by first|exact .inl rfl|exact .inr rfl|assumption):PG X (.Name x pos) (Bh i):=by intro pins s σ H v u Q I r h;exact wpAny_assign_Name (UG I hN hi hx r (fun s' I'=>⟨_,H,I',h⟩) hf)
def Pw:TGs:=fun vs σ H Q=>vs=[]∧Q σ H
def Il (t:TG) (u:TGs):TGs:=fun vs σ H Q=>∃ v r,vs=v::r∧t v σ H fun σ' H'=>u r σ' H' Q
theorem pgs_nil:PGs X [] Pw:=by intro pins s σ H vs us Q I r h;obtain⟨e,h⟩:=h;subst e;cases r;exact assignInOrder_nil ⟨σ,H,I,h⟩
theorem U2{e:Expr}{es:List Expr}{t:TG}{u:TGs}(h1:PG X e t)(h2:PGs X es u)
  (hs:(assignEach (e::es) X.env).map (·.2)=assign e X.env::(assignEach es X.env).map (·.2):=by rfl):PGs X (e::es) (Il t u):=by
 intro pins s σ H vs us Q I r h;obtain⟨v,vr,e1,h⟩:=h;subst e1;cases r with
 |cons r rr =>rw[hs];refine assignInOrder_cons (thn (h1 pins s σ H _ _ _ I r h) fun _ s1 ⟨σ1,H1,I1,q1⟩=>?_);exact h2 pins s1 σ1 H1 _ _ Q I1 rr q1
def Ph (K:PySem.W.Frag) (n:Nat) (t:TGs):TG:=fun v σ H Q=>∃ a xs,v=.ref a∧SqT K H a xs∧xs.length=n∧t xs σ H Q
theorem EE{es:List Expr}{k:Nat}{t:TGs}{n:Nat}(hc:X.calm=true)(h:PGs X es t)
  (hn:(assignEach es X.env).length=n:=by rfl) (hst:(assignEach es X.env).findIdx? (·.1)=none:=by rfl):PG X (.Tuple es k pos) (Ph X.K n t):=by
 intro pins s σ H v u Q I r hw;obtain⟨a,xs,e1,hq,hl,hw⟩:=hw;subst e1;cases r;obtain⟨its,rv,ht,hz⟩:=I.tuple hq;refine assign_Tuple_tuple (I.ok.hd hc) ht (by simp[hn,←hl,rv.length]) hst fun h' hx=>?_;have I1:Inv X pins σ H {s with heap:=h'}:=I.kept (t':=s.toks) fun b o e=>hx b o (Nat.ne_of_lt (Heap.lt_size e)) e;exact h pins _ σ H xs _ Q I1 (by simpa using rv) hw
def Lc (to ti:TE) (t:CK):TG:=fun v σ H Q=>to σ H fun o H1=>ti σ H1 fun i H2=>t o i v H2 fun H3=>Q σ H3
theorem E2{o i:Expr}{to ti:TE}{t:CK}(ho:PE X o to)(hi:PE X i ti)(hs:PSet X t)
  (ha:∀ v,assign (.Subscript o i pos) X.env v=(do
    let ov←holding [v] (eval o X.env)
    let iv←holding [v,ov] (eval i X.env)
    standAt pos
    holding [v,ov,iv] (setItem ov iv v)
    release [v,ov,iv] []):=by intro _;rfl):PG X (.Subscript o i pos) (Lc to ti t):=by
 intro pins s σ H v u Q I r h;rw[ha];refine wpAny_bind (wpAny_holding (thn (ho pins s σ H _ I h) fun ov s1 ⟨x,H1,I1,r1,q1⟩=>?_));refine wpAny_bind (wpAny_holding (thn (hi pins s1 σ H1 _ I1 q1) fun iv s2 ⟨y,H2,I2,r2,q2⟩=>?_));refine wpAny_bind (wpAny_standAt (wpAny_bind (wpAny_holding (thn (hs pins s2 σ H2 x y v ov iv u _ I2 r1 r2 r q2) fun _ s3 ⟨H3,I3,q3⟩=>?_))));exact wpAny_release ⟨σ,H3,I3,q3⟩
def HU (te:TE) (g:TG):TS:=fun D σ H=>te σ H fun x H1=>g x σ H1 D.nx
theorem U9{tg e:Expr}{te:TE}{g:TG}(he:PE X e te)(hg:PG X tg g)(hs:swapsWithSole [tg] e pos.line X.env=pure false:=by rfl)(hw:swappedStores [tg] e X.env=pure none:=by rfl)
  (h1:(assignEach [tg] X.env).map (·.2)=[assign tg X.env]:=by rfl):PS X (.Assign [tg] e pos) (HU te g):=by
 intro pins s σ H D I h;refine wpAny_Assign_stores (thn (he pins s σ H _ I h) fun v s1 ⟨x,H1,I1,r1,q1⟩=>?_) hs hw;rw[h1];exact thn (hg pins s1 σ H1 x v _ I1 r1 q1) fun _ s2 q=>q
def Rn (i j:Nat) (ta:TA):TS:=fun D σ H=>ta σ H fun vs H1=>∃ v w,vs=[v,w]∧D.nx ((σ.set i (some v)).set j (some w)) H1
def RF (i:Nat) (te:TE) (ti:TIp):TS:=fun D σ H=>∃ x,σ[i]?=some (some x)∧te σ H fun y H1=>ti x y H1 fun z H2=>D.nx (σ.set i (some z)) H2
def Q9 (to ti te:TE) (tget:V→V→Hp→VK→Prop) (tip:TIp) (tset:CK):TS:=fun D σ H=>to σ H fun o H1=>ti σ H1 fun i H2=>tget o i H2 fun x H3=>te σ H3 fun y H4=>tip x y H4 fun z H5=>tset o i z H5 fun H6=>D.nx σ H6
def PGet (X:Cx) (t:V→V→Hp→VK→Prop):Prop :=
 ∀ (pins:List (Addr×Obj)) (s:Shared) (σ:St) (H:Hp) (o i:V) (ov iv:Value) (Q:VK),Inv X pins σ H s→RelV o ov→RelV i iv→t o i H Q→
  wpAny (model X.prog X.w) X.A (getItem ov iv) (EP X pins σ Q) X.xe s
def ipI (f:Int→Int→Int):TIp:=fun x y H Q=>∃ i j,x=.int i∧y=.int j∧Q (.int (f i j)) H
end
section
variable {X:Cx}{pos:Pos}
def Qy (c:TT) (tb:TS):TS:=fun D σ H=>∃ W:Nat→St→Hp→Prop,(∃ m,W m σ H)∧∀ m σ H,W m σ H→
 c σ H fun b H1=>if b=true then ∃ N:St→Hp→Prop,(∀ σ' H',N σ' H'→∃ m',m'<m∧W m' σ' H')∧tb {D with nx:=N,ct:=N,bk:=D.nx} σ H1 else D.nx σ H1
end
structure It where
 go:Nat→Hp→Prop
 yld:Nat→Hp→V→Hp→Prop
 stop:Nat→Hp→Prop
def XB (X:Cx) (pins:List (Addr×Obj)) (H:Hp) (b:Addr):Prop :=
 H b=none∧b≠X.env.locals∧b∉X.fs∧(b∈X.ex∨X.s₀.heap.objs.size≤b)∧(∀ x c,X.env.cells.lookup x=some c→c≠b)∧∀ p∈X.pn++pins,p.1≠b
theorem Inv.fpOk{X:Cx}{pins:List (Addr×Obj)}{σ:St}{H H':Hp}{s:Shared}{b:Addr}(I:Inv X pins σ H s)(hb:s.heap.objs.size≤b)(hn:H' b=none):XB X pins H' b:=by
 refine⟨hn,Nat.ne_of_gt (Nat.lt_of_lt_of_le I.lt hb),I.nofs hb,.inr (Nat.le_trans I.sz hb),fun x c e z=>?_,fun p hp z=>?_⟩
 ·obtain⟨v,q⟩:=I.cell x c e;exact absurd (Nat.lt_of_lt_of_le q.lt (by rw[z];exact hb)) (Nat.lt_irrefl _)
 ·exact absurd (Nat.lt_of_lt_of_le (Heap.lt_size (I.pin p hp).1) (by rw[z];exact hb)) (Nat.lt_irrefl _)
structure Turn (P:Program) (w:World) (K:PySem.W.Frag) (tg:Expr) (J:It) (fp:List Addr) (it:Addr) (tn:Nat→Heap→Prop):Prop where
 mem:it∈fp
 obj:∀ i h,tn i h→∀ b∈fp,∃ o,h.get? b=some o∧∀ v,o.data≠.cell v
 keep:∀ i h h',tn i h→(∀ b∈fp,∀ o,h.get? b=some o→h'.get? b=some o)→tn i h'
 item:∀ (X:Cx),X.prog=P→X.w=w→X.K=K→X.calm=true→∀ (i:Nat) (pins:List (Addr×Obj)) (s:Shared) (σ:St) (H:Hp) (E:Value→Shared→Prop),Inv X pins σ H s→(∀ b∈fp,XB X pins H b)→tn i s.heap→J.go i H→
  wpAny (model P w) X.A (pyNext (.ref it)) (fun r s1=>∃ u,r=some u∧
    wpAny (model P w) X.A (letOwnedTupleGo tg (.ref it) u) (fun _ s2=>∃ x H',Inv X pins σ H' s2∧RelV x u∧J.yld i H x H'∧tn (i+1) s2.heap∧∀ b∈fp,H' b=none) E s1) E s
 done:∀ (X:Cx),X.prog=P→X.w=w→X.K=K→X.calm=true→∀ (i:Nat) (pins:List (Addr×Obj)) (s:Shared) (σ:St) (H:Hp) (E:Value→Shared→Prop),Inv X pins σ H s→(∀ b∈fp,XB X pins H b)→tn i s.heap→J.stop i H→
  wpAny (model P w) X.A (pyNext (.ref it)) (fun r s1=>r=none∧Inv X pins σ H s1) E s
 self:∀ (A:Around) (i:Nat) (s:Shared) (Q:Value→Shared→Prop) (E:Value→Shared→Prop),tn i s.heap→Q (.ref it) s→wpAny (model P w) A (pyIter (.ref it)) Q E s
abbrev TI:=St→Hp→(It→Hp→Prop)→Prop
def PIE (X:Cx) (pins:List (Addr×Obj)) (σ:St) (tg:Expr) (R:It→Hp→Prop) (itv:Value) (s2:Shared):Prop :=
 ∃ (it:Addr) (fp:List Addr) (tn:Nat→Heap→Prop) (J:It) (H':Hp),itv=.ref it∧Inv X pins σ H' s2∧Turn X.prog X.w X.K tg J fp it tn∧tn 0 s2.heap∧(∀ b∈fp,XB X pins H' b)∧R J H'
def PI (X:Cx) (tg iter:Expr) (wi:TI):Prop :=
 ∀ (pins:List (Addr×Obj)) (s:Shared) (σ:St) (H:Hp) (R:It→Hp→Prop),Inv X pins σ H s→wi σ H R→
  wpAny (model X.prog X.w) X.A (eval iter X.env) (fun v s1=>wpAny (model X.prog X.w) X.A (pyIter v) (PIE X pins σ tg R) X.xe s1) X.xe s
theorem go_of{M:Model}{A:Around}{E:Value→Shared→Prop}{s:Shared}{tg:Expr}{it:Addr}{u:Value}{o:Obj}{n:String}{vs:Array Value}{Q:Unit→Shared→Prop}(ho:s.heap.get? it=some o)(hc:o.cls=.type n)(hd:o.data=.fields vs)
  (hn:["enumerate","zip","dict_itemiterator","dict_reverseitemiterator","odict_iterator","itertools.zip_longest","itertools.pairwise"].contains n=false) (hQ:Q () s):wpAny M A (letOwnedTupleGo tg (.ref it) u) Q E s:=by
 unfold letOwnedTupleGo;cases tg<;>first
  |exact wpAny_pure hQ
  | (cases u<;>first
      |exact wpAny_pure hQ
      | (refine wpAny_bind (wpAny_load ho ?_)
         rw[hc,hd]
         show wpAny M A (if(["enumerate","zip","dict_itemiterator","dict_reverseitemiterator","odict_iterator","itertools.zip_longest","itertools.pairwise"].contains n&&vs[0]? == some (rawInt _))=true then _ else _) Q E s
         rw[if_neg (by intro h;rw[hn,Bool.false_and]at h;cases h)]
         exact wpAny_pure hQ))
def Itl (K:PySem.W.Frag) (a:Addr):It :=
 ⟨fun i H=>∃ xs x,SqL K H a xs∧xs[i]?=some x,fun i H x H'=>H'=H∧∀ xs,SqL K H a xs→xs[i]?=some x,fun i H=>∃ xs,SqL K H a xs∧xs.length≤i⟩
def Itt (K:PySem.W.Frag) (a:Addr):It :=
 ⟨fun i H=>∃ xs x,SqT K H a xs∧xs[i]?=some x,fun i H x H'=>H'=H∧∀ xs,SqT K H a xs→xs[i]?=some x,fun i H=>∃ xs,SqT K H a xs∧xs.length≤i⟩
def Itr (lo:Int) (n:Nat):It:=⟨fun i _=>i<n,fun i H x H'=>H'=H∧x=.int (lo+i),fun i _=>n≤i⟩
theorem OK{P:Program}{w:World}{K:PySem.W.Frag}{tg:Expr}(a it:Addr):Turn P w K tg (Itl K a) [it] it (fun i h=>h.IsListIter it a i) where
 mem:=by simp
 obj:=fun i h st b hb=>by
  have e:b=it:=by simpa using hb
  subst e;obtain⟨o,e,c,d⟩:=st;exact⟨o,e,fun v z=>by rw[d]at z;cases z⟩
 keep:=fun i h h' st k=>st.at fun o e=>k it (by simp) o e
 item:=by intro X hP hw hK hc i pins s σ H E I hf st hg;subst hP hw hK;obtain⟨xs,x,hq,hx⟩:=hg;obtain⟨its,rv,p,hz⟩:=I.list hq;obtain⟨u,hu,ru⟩:=rv.get hx;obtain⟨f0,f1,f2,f3,f4,f5⟩:=hf it (by simp);refine wpAny_pyNext_list_item st p.isList (x:=u) (by simpa using hu) fun h' st' sb=>?_;have I1:Inv X pins σ H {s with heap:=h'}:=I.turned (t':=s.toks) (fun b o hb e=>(sb.2 b hb).trans e) f0 f1 f3 f4 f5;obtain⟨o,e,c,d⟩:=id st';exact⟨u,rfl,go_of (s:={s with heap:=h'}) e c d (by decide) ⟨x,H,I1,ru,⟨rfl,fun ys hy=>by rw[I.list_inj hy hq];exact hx⟩,st',fun b hb=>(hf b hb).1⟩⟩
 done:=by intro X hP hw hK hc i pins s σ H E I hf st hg;subst hP hw hK;obtain⟨xs,hq,hx⟩:=hg;obtain⟨its,rv,p,hz⟩:=I.list hq;obtain⟨f0,f1,f2,f3,f4,f5⟩:=hf it (by simp);have hl:=rv.length;exact wpAny_pyNext_list_end (I.ok.hd hc) st p.isList (by simp;omega) fun h' eb=>⟨rfl,I.turned (t':=s.toks) (fun b o hb e=>eb b o hb e) f0 f1 f3 f4 f5⟩
 self:=fun _ _ _ _ _ st h=>wpAny_pyIter_listiter st h
theorem MK{P:Program}{w:World}{K:PySem.W.Frag}{tg:Expr}(a it:Addr):Turn P w K tg (Itt K a) [it] it (fun i h=>h.IsTupleIter it a i) where
 mem:=by simp
 obj:=fun i h st b hb=>by
  have e:b=it:=by simpa using hb
  subst e;obtain⟨o,e,c,d⟩:=st;exact⟨o,e,fun v z=>by rw[d]at z;cases z⟩
 keep:=fun i h h' st k=>st.at fun o e=>k it (by simp) o e
 item:=by intro X hP hw hK hc i pins s σ H E I hf st hg;subst hP hw hK;obtain⟨xs,x,hq,hx⟩:=hg;obtain⟨its,rv,p,hz⟩:=I.tuple hq;obtain⟨u,hu,ru⟩:=rv.get hx;obtain⟨f0,f1,f2,f3,f4,f5⟩:=hf it (by simp);refine wpAny_pyNext_tuple_item st (show s.heap.IsTuple a its.toArray from p) (x:=u) (by simpa using hu) fun h' st' sb=>?_;have I1:Inv X pins σ H {s with heap:=h'}:=I.turned (t':=s.toks) (fun b o hb e=>(sb.2 b hb).trans e) f0 f1 f3 f4 f5;obtain⟨o,e,c,d⟩:=id st';exact⟨u,rfl,go_of (s:={s with heap:=h'}) e c d (by decide) ⟨x,H,I1,ru,⟨rfl,fun ys hy=>by rw[I.tuple_inj hy hq];exact hx⟩,st',fun b hb=>(hf b hb).1⟩⟩
 done:=by intro X hP hw hK hc i pins s σ H E I hf st hg;subst hP hw hK;obtain⟨xs,hq,hx⟩:=hg;obtain⟨its,rv,p,hz⟩:=I.tuple hq;obtain⟨f0,f1,f2,f3,f4,f5⟩:=hf it (by simp);have hl:=rv.length;exact wpAny_pyNext_tuple_end (I.ok.hd hc) st (show s.heap.IsTuple a its.toArray from p) (by simp;omega) fun h' eb=>⟨rfl,I.turned (t':=s.toks) (fun b o hb e=>eb b o hb e) f0 f1 f3 f4 f5⟩
 self:=fun _ _ _ _ _ st h=>wpAny_pyIter_tupleiter st h
theorem Nd{P:Program}{w:World}{K:PySem.W.Frag}{tg:Expr}(it:Addr)(lo:Int)(n:Nat):Turn P w K tg (Itr lo n) [it] it (fun i h=>IsRangeIter h it (lo+(i:Nat)*1) ((n:Int) - (i:Nat)) 1) where
 mem:=by simp
 obj:=fun i h st b hb=>by
  have e:b=it:=by simpa using hb
  subst e;exact⟨_,st,fun v z=>by
    have z':Data.fields _=Data.cell v:=z
    cases z'⟩
 keep:=fun i h h' st k=>k it (by simp) _ st
 item:=by intro X hP hw hK hc i pins s σ H E I hf st hg;subst hP hw hK;obtain⟨f0,f1,f2,f3,f4,f5⟩:=hf it (by simp);have W:=Walks.range (prog:=X.prog) (w:=X.w) (I.ok.hd hc) it lo 1 n;refine W.item i s _ _ hg st fun v h' tk hv st' kk=>?_;obtain⟨t,rfl⟩:=hv;have I1:Inv X pins σ H {s with heap:=h',toks:=tk}:=I.turned (fun b o hb e=>kk b o (by simpa using hb) e) f0 f1 f3 f4 f5;refine⟨_,rfl,go_of (s:={s with heap:=h',toks:=tk}) (n:="range_iterator") st' rfl rfl (by decide) ⟨.int (lo+i),H,I1,⟨t,?_⟩,⟨rfl,rfl⟩,st',fun b hb=>(hf b hb).1⟩⟩;rw[Int.mul_one]
 done:=by intro X hP hw hK hc i pins s σ H E I hf st hg;subst hP hw hK;obtain⟨f0,f1,f2,f3,f4,f5⟩:=hf it (by simp);exact wpAny_pyNext_range_end (I.ok.hd hc) st (by have:n≤i:=hg;omega) fun h' eb=>⟨rfl,I.turned (t':=s.toks) (fun b o hb e=>eb b o hb e) f0 f1 f3 f4 f5⟩
 self:=fun _ _ _ _ _ st h=>wpAny_pyIter_rangeiter st h
section
variable {X:Cx}{tg:Expr}
def Q7 (K:PySem.W.Frag) (tl:TE):TI:=fun σ H R=>tl σ H fun x H1=>∃ a,x=.ref a∧(∃ xs,SqL K H1 a xs)∧R (Itl K a) H1
def RN (K:PySem.W.Frag) (tl:TE):TI:=fun σ H R=>tl σ H fun x H1=>∃ a,x=.ref a∧(∃ xs,SqT K H1 a xs)∧R (Itt K a) H1
theorem UM{pins:List (Addr×Obj)}{σ:St}{H:Hp}{s:Shared}{R:It→Hp→Prop}{E:Value→Shared→Prop}{lo hi:Int}{t u v:Tok}{tk:Nat}(I:Inv X pins σ H s)(h1:-(2 ^ 62)≤lo)(h2:lo<2 ^ 62)(h3:-(2 ^ 62)≤hi)(h4:hi<2 ^ 62)
  (q:R (Itr lo (hi - lo).toNat) H):wpAny (model X.prog X.w) X.A (pyIter (.ref s.heap.objs.size)) (PIE X pins σ tg R) E {s with heap:=s.heap.push {cls:=.type "range",data:=.fields #[.int lo t,.int hi u,.int 1 v]},toks:=tk}:=by
 refine wpAny_pyIter_range (IsRange.new ..) (small_one h1 h2 h3 h4) ?_;have I1:Inv X pins σ H { s with heap:=s.heap.push { cls:=.type "range",data:=.fields #[.int lo t,.int hi u,.int 1 v] },toks:=tk }:=I.kept fun b o e=>Heap.get?_push_of_some _ e;refine⟨(s.heap.push { cls:=.type "range",data:=.fields #[.int lo t,.int hi u,.int 1 v] }).objs.size,[(s.heap.push { cls:=.type "range",data:=.fields #[.int lo t,.int hi u,.int 1 v] }).objs.size],_,_,H,rfl,
   I1.kept (t':=tk) fun b o e=>Heap.get?_push_of_some _ e,Nd _ lo (hi - lo).toNat,?_,fun b hb=>?_,q⟩
 ·have e1:lo+((0:Nat):Int)*1=lo:=by simp
  have e2:(((hi - lo).toNat:Nat):Int) - ((0:Nat):Int)=Builtin.Range.rangeSize lo hi 1:=by rw[rangeSize_one];split<;>omega
  show IsRangeIter _ _ (lo+((0:Nat):Int)*1) ((((hi - lo).toNat:Nat):Int) - ((0:Nat):Int)) 1;rw[e1,e2];exact Heap.get?_push_size _ rfl
 ·have e:b=(s.heap.push {cls:=.type "range",data:=.fields #[.int lo t,.int hi u,.int 1 v]}).objs.size:=by simpa using hb
  subst e;exact I1.fpOk (Nat.le_refl _) (I1.hok.fresh (Nat.le_refl _))
def LC (ta:TA):TI:=fun σ H R=>ta σ H fun vs H1=>∃ j:Int,vs=[.int j]∧-(2 ^ 62)≤j∧j<2 ^ 62∧R (Itr 0 j.toNat) H1
def Rh (ta:TA):TI:=fun σ H R=>ta σ H fun vs H1=>∃ i j:Int,vs=[.int i,.int j]∧(-(2 ^ 62)≤i∧i<2 ^ 62∧-(2 ^ 62)≤j∧j<2 ^ 62)∧R (Itr i (j - i).toNat) H1
theorem Oi {a:Expr}{ta:TA}{p pos:Pos}(hg:Gl X "range") (hm:X.mg "range" = none) (ha:PA X [a] ta) (hs:starEach [a] X.env=[(false,eval a X.env)]:=by rfl):PI X tg (.Call (.Name "range" p) [a] [] pos) (LC ta):=by
 intro pins s σ H R I h;refine Call_ (YG I hg hm boot_range (PyProof.Rows.callWith_type1 (thn (ha pos pins s σ H _ I h) fun us s1 ⟨vs,H1,I1,r1,q1⟩=>?_) hs rfl));obtain⟨j,e,q1,q2,q⟩:=q1;subst e;cases r1 with
 |cons r rr =>cases rr;obtain⟨t,rfl⟩:=r;exact call_range_1 (UM I1 (by omega) (by omega) q1 q2 (by simpa using q))
def P3 (wi:TI) (g:TG) (tb:TS):TS:=fun D σ H=>wi σ H fun J H1=>∃ W:Nat→Nat→St→Hp→Prop,(∃ m,W 0 m σ H1)∧∀ i m σ H,W i m σ H→
 (J.stop i H∧D.nx σ H)∨(J.go i H∧∃ N:St→Hp→Prop,(∀ σ' H',N σ' H'→∃ m',m'<m∧W (i+1) m' σ' H')∧∀ x H',J.yld i H x H'→g x σ H' fun σ2 H2=>tb {D with nx:=N,ct:=N,bk:=D.nx} σ2 H2)
def Y0 (fp:List Addr) (h:Heap):List (Addr×Obj):=fp.filterMap fun b=>(h.get? b).map fun o=>(b,o)
theorem ZS{fp:List Addr}{h:Heap}{b:Addr}{o:Obj}(hb:b∈fp)(e:h.get? b=some o):(b,o)∈Y0 fp h:=List.mem_filterMap.mpr ⟨b,hb,by rw[e];rfl⟩
theorem Jt{fp:List Addr}{h:Heap}{p:Addr×Obj}(hp:p∈Y0 fp h):p.1∈fp∧h.get? p.1=some p.2:=by
 obtain⟨b,hb,e⟩:=List.mem_filterMap.mp hp;cases q:h.get? b with
 |none=>rw[q]at e;cases e
 |some o =>rw[q]at e;have e':(b,o)=p:=Option.some.inj e;subst e';exact⟨hb,q⟩
theorem Inv.pinned{pins:List (Addr×Obj)}{σ:St}{H:Hp}{s:Shared}{fp:List Addr}(I:Inv X pins σ H s)(hf:∀ b∈fp,XB X pins H b)(ho:∀ b∈fp,∃ o,s.heap.get? b=some o∧∀ v,o.data≠.cell v):Inv X (pins++Y0 fp s.heap) σ H s :=
 I.pins_of fun p hp=>(List.mem_append.mp hp).elim (fun z=>I.pin p (List.mem_append_right _ z)) fun z=>by obtain⟨hb,e⟩:=Jt z;obtain⟨f0,f1,f2,_⟩:=hf p.1 hb;obtain⟨o,e',d⟩:=ho p.1 hb;rw[e]at e';cases e';exact⟨e,f0,f1,f2,d⟩
theorem Inv.unpinned{pins pl:List (Addr×Obj)}{σ:St}{H:Hp}{s:Shared}(I:Inv X (pins++pl) σ H s):Inv X pins σ H s:=I.pins_of fun p hp=>I.pin p (List.mem_append_right _ (List.mem_append_left _ hp))
theorem UX{iter:Expr}{body:List Stmt}{wi:TI}{g:TG}{tb:TS}{pos:Pos}(hp:PassesOwn (model X.prog X.w) X.A X.env X.xe)(hc:X.calm=true)(hi:PI X tg iter wi)(hg:PG X tg g)(hb:PSs X body tb)
  (hs:∀ x,foldedSetIterable iter X.env x=pure x:=by intro _;rfl):PS X (.For tg iter body [] pos) (P3 wi g tb):=by
 intro pins s σ H D I h;refine wpAny_For (thn (hi pins s σ H _ I h) fun v s1 h1=>thn h1 fun itv s2 h2=>?_) hs;obtain⟨it,fp,tn,J,H2,e,I2,T,st2,f2,W,⟨m0,w0⟩,turn⟩:=h2;subst e;have stat:∀ {H':Hp},(∀ b∈fp,H' b=none)→∀ b∈fp,XB X pins H' b:=fun hn b hb=>⟨hn b hb,(f2 b hb).2⟩
 refine codeAny_forLoop_any (fun n s'=>∃ i σ' H',Inv X pins σ' H' s'∧tn i s'.heap∧(∀ b∈fp,H' b=none)∧W i n σ' H') ?_ m0 ⟨0,σ,H2,I2,st2,fun b hb=>(f2 b hb).1,w0⟩;rintro n s3 ⟨i,σ3,H3,I3,st3,fr3,w3⟩;rcases turn i n σ3 H3 w3 with⟨stop,qn⟩|⟨go,N,hN,step⟩
 ·refine wpAny_passesOwn hp (thn (T.done X rfl rfl rfl hc i pins s3 σ3 H3 X.xe I3 (stat fr3) st3 stop) fun r s4 ⟨hr,I4⟩=>?_);subst hr;exact wpAny_execs_nil ⟨σ3,H3,I4,qn⟩
 ·refine wpAny_passesOwn hp (thn (T.item X rfl rfl rfl hc i pins s3 σ3 H3 X.xe I3 (stat fr3) st3 go) fun r s4 ⟨u,hr,h4⟩=>?_);subst hr;refine wpAny_passesOwn hp (thn h4 fun _ s5 ⟨x,H5,I5,r5,y5,st5,fr5⟩=>?_);have I5':=I5.pinned (stat fr5) (T.obj _ _ st5);refine wpAny_passesOwn hp (thn (hg _ s5 σ3 H5 x u _ I5' r5 (step x H5 y5)) fun _ s6 ⟨σ6,H6,I6,q6⟩=>?_);refine wpAny_passesOwn hp (thn (hb _ s6 σ6 H6 _ I6 q6) fun f s7 q7=>?_);have again:∀ {σ7:St}{H7:Hp},Inv X (pins++Y0 fp s5.heap) σ7 H7 s7→N σ7 H7→∃ m,m<n∧∃ i σ' H',Inv X pins σ' H' s7∧tn i s7.heap∧(∀ b∈fp,H' b=none)∧W i m σ' H':=fun {σ7 H7} I7 n7=>by
   obtain⟨m',hm,w7⟩:=hN σ7 H7 n7;refine⟨m',hm,i+1,σ7,H7,I7.unpinned,T.keep _ _ _ st5 fun b hb o e=>(I7.pin (b,o) (List.mem_append_right _ (List.mem_append_right _ (ZS hb e)))).1,fun b hb=>?_,w7⟩;obtain⟨o,e,d⟩:=T.obj _ _ st5 b hb;exact(I7.pin (b,o) (List.mem_append_right _ (List.mem_append_right _ (ZS hb e)))).2.1
  cases f with
  |next=>obtain⟨σ7,H7,I7,n7⟩:=q7;exact again I7 n7
  |cont=>obtain⟨σ7,H7,I7,n7⟩:=q7;exact again I7 n7
  |brk=>obtain⟨σ7,H7,I7,q7⟩:=q7;exact⟨σ7,H7,I7.unpinned,q7⟩
  |ret v=>obtain⟨x7,σ7,H7,I7,r7,q7⟩:=q7;exact⟨x7,σ7,H7,I7.unpinned,r7,q7⟩
end
abbrev R2:=V→V→Hp→VK→Prop
def OpR (X:Cx) (f:Value→Value→Sem Value) (r:R2):Prop :=
 ∀ (pins:List (Addr×Obj)) (s:Shared) (σ:St) (H:Hp) (x y:V) (v u:Value) (Q:VK),Inv X pins σ H s→RelV x v→RelV y u→r x y H Q→
  wpAny (model X.prog X.w) X.A (f v u) (EP X pins σ Q) X.xe s
def UnR (X:Cx) (f:Value→Sem Value) (r:V→Hp→VK→Prop):Prop :=
 ∀ (pins:List (Addr×Obj)) (s:Shared) (σ:St) (H:Hp) (x:V) (v:Value) (Q:VK),Inv X pins σ H s→RelV x v→r x H Q→
  wpAny (model X.prog X.w) X.A (f v) (EP X pins σ Q) X.xe s
def CallR (X:Cx) (f:Value) (r:List V→Hp→VK→Prop):Prop :=
 ∀ (pins:List (Addr×Obj)) (s:Shared) (σ:St) (H:Hp) (xs:List V) (us:List Value) (Q:VK),Inv X pins σ H s→Vals xs us→r xs H Q→
  wpAny (model X.prog X.w) X.A (call f us) (EP X pins σ Q) X.xe s
def QR (X:Cx) (r:V→Hp→(Bool→Hp→Prop)→Prop):Prop :=
 ∀ (pins:List (Addr×Obj)) (s:Shared) (σ:St) (H:Hp) (x:V) (v:Value) (Q:Bool→Hp→Prop),Inv X pins σ H s→RelV x v→r x H Q→
  wpAny (model X.prog X.w) X.A (truthy v) (TP X pins σ Q) X.xe s
def tOp (r:R2) (ta tb:TE):TE:=fun σ H Q=>ta σ H fun x H1=>tb σ H1 fun y H2=>r x y H2 Q
def tUn (r:V→Hp→VK→Prop) (ta:TE):TE:=fun σ H Q=>ta σ H fun x H1=>r x H1 Q
def rI (C:Int→Int→Prop) (g:Int→Int→V):R2:=fun x y H Q=>∃ i j,x=.int i∧y=.int j∧C i j∧Q (g i j) H
def rI0 (g:Int→Int→V):R2:=fun x y H Q=>∃ i j,x=.int i∧y=.int j∧Q (g i j) H
def rU (g:Int→V):V→Hp→VK→Prop:=fun x H Q=>∃ i,x=.int i∧Q (g i) H
section
variable {X:Cx}{a b c:Expr}{ta tb tc:TE}{pos:Pos}
theorem E5(ha:PE X a ta)(hb:PE X b tb){pins:List (Addr×Obj)}{s:Shared}{σ:St}{H:Hp}{R:V→V→Hp→Prop}(I:Inv X pins σ H s)
  (h:ta σ H fun x H1=>tb σ H1 fun y H2=>R x y H2){Q:Value→Shared→Prop}{f:Value→Value→Sem Value}
  (hf:∀ v u s2 x y H2,Inv X pins σ H2 s2→RelV x v→RelV y u→R x y H2→wpAny (model X.prog X.w) X.A (f v u) Q X.xe s2) :
  wpAny (model X.prog X.w) X.A (eval a X.env) (fun v s₁=>wpAny (model X.prog X.w) X.A (eval b X.env) (fun u s₂=>wpAny (model X.prog X.w) X.A (f v u) Q X.xe s₂) X.xe s₁) X.xe s:=by
 refine thn (ha pins s σ H _ I h) fun v s1 ⟨x,H1,I1,r1,q1⟩=>?_;refine thn (hb pins s1 σ H1 _ I1 q1) fun u s2 ⟨y,H2,I2,r2,q2⟩=>?_;exact hf v u s2 x y H2 I2 r1 r2 q2
theorem Ia{op:Operator}{r:R2}(ho:OpR X (binaryOp op) r)(ha:PE X a ta)(hb:PE X b tb):PE X (.BinOp a op b pos) (tOp r ta tb):=by intro pins s σ H Q I h;exact wpAny_BinOp (E5 ha hb I h fun v u s2 x y H2 I2 rx ry q=>ho pins s2 σ H2 x y v u Q I2 rx ry q)
theorem Li{op:UnaryOp}{r:V→Hp→VK→Prop}(ho:UnR X (unaryOp op) r)(ha:PE X a ta):PE X (.UnaryOp op a pos) (tUn r ta):=by intro pins s σ H Q I h;exact UnaryOp_ (thn (ha pins s σ H _ I h) fun v s1 ⟨x,H1,I1,r1,q1⟩=>ho pins s1 σ H1 x v Q I1 r1 q1)
theorem opI{f:Value→Value→Sem Value}{C:Int→Int→Prop}{g:Int→Int→Int}
  (rule:∀ (i j:Int) (t u:Tok) (s:Shared) (Q:Value→Shared→Prop) (E:Value→Shared→Prop),C i j→Q (.int (g i j) s.toks) {s with toks:=s.toks+1}→wpAny (model X.prog X.w) X.A (f (.int i t) (.int j u)) Q E s) :
  OpR X f (rI C fun i j=>.int (g i j)):=by
 intro pins s σ H x y v u Q I rx ry h;obtain⟨i,j,rfl,rfl,hc,q⟩:=h;obtain⟨t,rfl⟩:=rx;obtain⟨t',rfl⟩:=ry;exact rule i j t t' s _ _ hc ⟨.int (g i j),H,I.tok _,⟨_,rfl⟩,q⟩
theorem Hz{f:Value→Value→Sem Value}{g:Int→Int→Int}
  (rule:∀ (i j:Int) (t u:Tok) (s:Shared) (Q:Value→Shared→Prop) (E:Value→Shared→Prop),Q (.int (g i j) s.toks) {s with toks:=s.toks+1}→wpAny (model X.prog X.w) X.A (f (.int i t) (.int j u)) Q E s) :
  OpR X f (rI0 fun i j=>.int (g i j)):=by
 intro pins s σ H x y v u Q I rx ry h;obtain⟨i,j,rfl,rfl,q⟩:=h;obtain⟨t,rfl⟩:=rx;obtain⟨t',rfl⟩:=ry;exact rule i j t t' s _ _ ⟨.int (g i j),H,I.tok _,⟨_,rfl⟩,q⟩
theorem B4{f:Value→Value→Sem Value}{g:Int→Int→Bool}
  (rule:∀ (i j:Int) (t u:Tok) (s:Shared) (Q:Value→Shared→Prop) (E:Value→Shared→Prop),Q (.bool (g i j)) s→wpAny (model X.prog X.w) X.A (f (.int i t) (.int j u)) Q E s) :
  OpR X f (rI0 fun i j=>.bl (g i j)):=by
 intro pins s σ H x y v u Q I rx ry h;obtain⟨i,j,rfl,rfl,q⟩:=h;obtain⟨t,rfl⟩:=rx;obtain⟨t',rfl⟩:=ry;exact rule i j t t' s _ _ ⟨.bl (g i j),H,I,rfl,q⟩
def GY (i j:Int):Prop:=0<j∧j<1073741824
def QZ (i j:Int):Prop:=j≠0∧j.natAbs<1073741824
def Hh (i j:Int):Prop:=0≤j∧j≤1000000∧i.natAbs<2 ^ 64
def CMul (i j:Int):Prop:=(-(2 ^ 64)<i∧i<2 ^ 64)∨(-(2 ^ 64)<j∧j<2 ^ 64)
theorem CMul.ok{i j:Int}(h:CMul i j):IntMulOk i j:=by
 rcases h with⟨h1,h2⟩|⟨h1,h2⟩
 ·exact .of_left (intBits_le_64 h1 h2)
 ·exact .of_right (intBits_le_64 h1 h2)
theorem op_add:OpR X (binaryOp .Add) (rI0 fun i j=>.int (i+j)):=Hz fun _ _ _ _ _ _ _ q=>add_int q
theorem Gg:OpR X (binaryOp .Sub) (rI0 fun i j=>.int (i - j)):=Hz fun _ _ _ _ _ _ _ q=>sub_int q
theorem Cw:OpR X (binaryOp .FloorDiv) (rI GY fun i j=>.int (i / j)):=opI fun i j _ _ _ _ _ hc q=>by have h1:(0:Int)<j:=hc.1;have h2:j<1073741824:=hc.2;exact floordiv_int (by omega) (by rw[Int.fdiv_eq_ediv_of_nonneg i (by omega)];exact q) (.inl (PyProof.noPylong_small (by omega)))
theorem Gq:OpR X (binaryOp .Mod) (rI (fun _ j=>0<j) fun i j=>.int (i % j)):=opI fun i j _ _ _ _ _ hc q=>by have h1:(0:Int)<j:=hc;exact mod_int' (by omega) (by rw[Int.fmod_eq_emod_of_nonneg i (by omega)];exact q)
theorem El:OpR X (binaryOp .Pow) (rI Hh fun i j=>.int (i ^ j.toNat)):=opI fun _ _ _ _ _ _ _ hc q=>pow_int_small hc.1 hc.2.1 hc.2.2 q
theorem unI{f:Value→Sem Value}{g:Int→Int}
  (rule:∀ (i:Int) (t:Tok) (s:Shared) (Q:Value→Shared→Prop) (E:Value→Shared→Prop),Q (.int (g i) s.toks) {s with toks:=s.toks+1}→wpAny (model X.prog X.w) X.A (f (.int i t)) Q E s) :
  UnR X f (rU fun i=>.int (g i)):=by
 intro pins s σ H x v Q I rx h;obtain⟨i,rfl,q⟩:=h;obtain⟨t,rfl⟩:=rx;exact rule i t s _ _ ⟨.int (g i),H,I.tok _,⟨_,rfl⟩,q⟩
theorem Gh:UnR X (unaryOp .USub) (rU fun i=>.int (-i)):=unI fun _ _ _ _ _ q=>neg_int q
end
def HD:V→V→Bool
 |.non,.non=>true|.non,.int _=>true|.int _,.non=>true|.non,.bl _=>true|.bl _,.non=>true|.non,.str _=>true|.str _,.non=>true
 |.int _,.int _=>true|.bl _,.bl _=>true|.str _,.str _=>true|.byt _,.byt _=>true
 |.int _,.str _=>true|.str _,.int _=>true|.bl _,.str _=>true|.str _,.bl _=>true
 |_,_=>false
def rEq:R2:=fun x y H Q=>HD x y=true∧Q (.bl (decide (x=y))) H
def rNe:R2:=fun x y H Q=>HD x y=true∧Q (.bl (!decide (x=y))) H
section
variable {X:Cx}{a b c:Expr}{ta tb tc:TE}{pos:Pos}
theorem Ft{pins:List (Addr×Obj)}{σ:St}{H:Hp}{s:Shared}{Q:VK}{k k':Bool}(I:Inv X pins σ H s)(q:Q (.bl k) H)(e:k=k'):EP X pins σ Q (.bool k') s:=by subst e;exact⟨.bl k,H,I,rfl,q⟩
theorem op_lt:OpR X (compareOp .Lt) (rI0 fun i j=>.bl (decide (i<j))):=B4 fun _ _ _ _ _ _ _ q=>lt_int q
theorem HP:OpR X (compareOp .LtE) (rI0 fun i j=>.bl (decide (i≤j))):=B4 fun _ _ _ _ _ _ _ q=>le_int q
theorem op_gt:OpR X (compareOp .Gt) (rI0 fun i j=>.bl (decide (j<i))):=B4 fun _ _ _ _ _ _ _ q=>gt_int q
theorem LA:OpR X (compareOp .GtE) (rI0 fun i j=>.bl (decide (j≤i))):=B4 fun _ _ _ _ _ _ _ q=>ge_int q
theorem Oh:OpR X (compareOp .In) (fun x y H Q=>∃ i j,x=.str i∧y=.str j∧Q (.bl (!(Builtin.Str.occurrences j i 0 j.length 1).isEmpty)) H):=by intro pins s σ H x y v u Q I rx ry h;obtain⟨i,j,rfl,rfl,q⟩:=h;obtain⟨t,rfl⟩:=rx;obtain⟨t',rfl⟩:=ry;exact in_str (Ft I q rfl)
def Q8:HO→Bool
 |.lst _=>true
 |.ins _ _ _=>true
 |_=>false
theorem OpR.or{f:Value→Value→Sem Value}{r r':R2}(h:OpR X f r)(h':OpR X f r'):OpR X f (fun x y H Q=>r x y H Q∨r' x y H Q):=by
 intro pins s σ H x y v u Q I rx ry q;rcases q with q|q
 ·exact h pins s σ H x y v u Q I rx ry q
 ·exact h' pins s σ H x y v u Q I rx ry q
theorem C8{op:CmpOp}{r:R2}(ho:OpR X (compareOp op) r)(ha:PE X a ta)(hb:PE X b tb)(hm:behindInMarks op b=false):PE X (.Compare a [op] [b] pos) (tOp r ta tb):=by intro pins s σ H Q I h;exact wpAny_Compare1 (E5 ha hb I h fun v u s2 x y H2 I2 rx ry q=>ho pins s2 σ H2 x y v u Q I2 rx ry q) hm
def DI (t:TE):TT:=fun σ H Q=>t σ H fun x H'=>∃ k,x=.bl k∧Q k H'
theorem C4{op:CmpOp}{r:R2}(ho:OpR X (compareOp op) r)(ha:PE X a ta)(hb:PE X b tb)(hm:behindInMarks op b=false):PT X (.Compare a [op] [b] pos) (DI (tOp r ta tb)):=by
 intro pins s σ H Q I h;refine wpAny_isTrue_Compare1 (thn (ha pins s σ H _ I h) fun v s1 ⟨x,H1,I1,r1,q1⟩=>thn (hb pins s1 σ H1 _ I1 q1) fun u s2 ⟨y,H2,I2,r2,q2⟩ =>
   thn (ho pins s2 σ H2 x y v u _ I2 r1 r2 q2) fun c s3 ⟨z,H3,I3,r3,k,e,q3⟩=>?_) hm
 subst e;cases r3;exact wpAny_truthy_bool ⟨H3,I3,q3⟩
def AY (r r':R2) (ta tb tc:TE):TE:=fun σ H Q=>ta σ H fun x H1=>tb σ H1 fun y H2=>r x y H2 fun z H3=>∃ k,z=.bl k∧
 (if k=true then tc σ H3 fun w' H4=>r' y w' H4 Q else Q (.bl false) H3)
theorem UF{op op':CmpOp}{r r':R2}(ho:OpR X (compareOp op) r)(ho':OpR X (compareOp op') r')(ha:PE X a ta)(hb:PE X b tb)(hc:PE X c tc)
  (hm:lastMarks [op,op'] [b,c]=false:=by with_unfolding_all rfl):PE X (.Compare a [op,op'] [b,c] pos) (AY r r' ta tb tc):=by
 intro pins s σ H Q I h;refine Compare_chain (thn (ha pins s σ H _ I h) fun v s1 ⟨x,H1,I1,r1,q1⟩=>chain_link (thn (hb pins s1 σ H1 _ I1 q1) fun u s2 ⟨y,H2,I2,r2,q2⟩ =>
   thn (ho pins s2 σ H2 x y v u _ I2 r1 r2 q2) fun d s3 ⟨z,H3,I3,r3,k,e,q3⟩=>?_)) hm
 subst e;cases r3;refine wpAny_truthy_bool ?_;cases k with
 |false=>exact ite_ff ⟨.bl false,H3,I3,rfl,q3⟩
 |true=>exact ite_tt (chain_last (thn (hc pins s3 σ H3 _ I3 q3) fun w' s4 ⟨z',H4,I4,r4,q4⟩=>ho' pins s4 σ H4 y z' u w' Q I4 r2 r4 q4))
theorem Ac{op op':CmpOp}{r r':R2}(ho:OpR X (compareOp op) r)(ho':OpR X (compareOp op') r')(ha:PE X a ta)(hb:PE X b tb)(hc:PE X c tc)
  (hm:lastMarks [op,op'] [b,c]=false:=by with_unfolding_all rfl):PT X (.Compare a [op,op'] [b,c] pos) (DI (AY r r' ta tb tc)):=by
 intro pins s σ H Q I h;refine isTrue_chain (thn (ha pins s σ H _ I h) fun v s1 ⟨x,H1,I1,r1,q1⟩=>test_link (thn (hb pins s1 σ H1 _ I1 q1) fun u s2 ⟨y,H2,I2,r2,q2⟩ =>
   thn (ho pins s2 σ H2 x y v u _ I2 r1 r2 q2) fun d s3 ⟨z,H3,I3,r3,k,e,q3⟩=>?_)) hm
 subst e;cases r3;refine wpAny_truthy_bool ?_;cases k with
 |false =>obtain⟨k',e',q'⟩:=q3;cases e';exact ite_ff ⟨H3,I3,q'⟩
 |true =>refine ite_tt (test_last (thn (hc pins s3 σ H3 _ I3 q3) fun w' s4 ⟨z',H4,I4,r4,q4⟩=>thn (ho' pins s4 σ H4 y z' u w' _ I4 r2 r4 q4) fun d' s5 ⟨z2,H5,I5,r5,k2,e2,q5⟩=>?_));subst e2;cases r5;exact wpAny_truthy_bool ⟨H5,I5,q5⟩
def IX (K:PySem.W.Frag) (x:V) (H:Hp) (k:Bool):Prop :=
 match x with
 |.non=>k=false
 |.bl b=>k=b
 |.int i=>k=(i != 0)
 |.str y=>y.length≤sizeLine∧k=((y.length:Int) != 0)
 |.byt y=>y.size≤sizeLine∧k=((y.size:Int) != 0)
 |.ref p=>(∃ xs,SqL K H p xs∧k=!xs.isEmpty)∨(∃ xs,SqT K H p xs∧k=!xs.isEmpty)∨∃ kvs,H p=some (.dK kvs)∧k=!kvs.isEmpty
 |_=>False
theorem MW{κ:Type}{kvs:List (κ×V)}{vs:List (κ×Value)}(r:KV kvs vs):(!vs.isEmpty)=!kvs.isEmpty:=by cases r<;>rfl
theorem Wy{xs:List V}{its:List Value}(r:Vals xs its):(!its.toArray.isEmpty)=!xs.isEmpty:=by cases r<;>simp
theorem Y7:(sizeLine:Nat)<2 ^ 63:=by rw[sizeLine_eq];decide
theorem EW:QR X (fun x H Q=>∃ k,IX X.K x H k∧Q k H):=by
 intro pins s σ H x v Q I rx h;obtain⟨k,e,q⟩:=h;have hl:=Y7;have hs:sizeLine=16777216:=sizeLine_eq;cases x with
 |non =>cases rx;have e':k=false:=e;subst e';exact truthy_none ⟨H,I,q⟩
 |bl b =>cases rx;have e':k=b:=e;subst e';exact wpAny_truthy_bool ⟨H,I,q⟩
 |int i =>obtain⟨t,rfl⟩:=rx;have e':k=(i != 0):=e;subst e';exact PySem.P.truthy_int ⟨H,I,q⟩
 |str y =>obtain⟨t,rfl⟩:=rx;obtain⟨hy,e'⟩:y.length≤sizeLine∧k=((y.length:Int) != 0):=e;subst e';exact PySem.P.truthy_str (by omega) ⟨H,I.tok _,q⟩
 |byt y =>obtain⟨t,rfl⟩:=rx;obtain⟨hy,e'⟩:y.size≤sizeLine∧k=((y.size:Int) != 0):=e;subst e';exact PySem.W.truthy_bytes (by omega) ⟨H,I.tok _,q⟩
 |ref p =>
  cases rx;have e':(∃ xs,SqL X.K H p xs∧k=!xs.isEmpty)∨(∃ xs,SqT X.K H p xs∧k=!xs.isEmpty)∨∃ kvs,H p=some (.dK kvs)∧k=!kvs.isEmpty:=e;rcases e' with⟨xs,hx,e'⟩|⟨xs,hx,e'⟩|⟨kvs,hx,e'⟩
  ·subst e';obtain⟨its,r,pl,hz⟩:=I.list hx;have hlen:=r.length;exact wpAny_truthy_list pl.isList (by simp only[List.size_toArray];omega) ⟨H,I.tok _,by rw[Wy r];exact q⟩
  ·subst e';obtain⟨its,r,pl,hz⟩:=I.tuple hx;have hlen:=r.length;exact truthy_tuple pl (by simp only[List.size_toArray];omega) ⟨H,I.tok _,by rw[Wy r];exact q⟩
  ·subst e';obtain⟨hz,hS,vs,r,m⟩:kvs.length≤sizeLine∧(p==sysModules)=false∧∃ vs,KV kvs vs∧s.heap.DictOf (Zm X.prog X.w) p vs:=I.hok p _ hx;have hlen:kvs.length=vs.length:=Paired.length r;exact wpAny_truthy_dict hS m (by omega) ⟨H,I.tok _,by rw[MW r];exact q⟩
 |_=>exact(show False from e).elim
theorem Ab(ha:PE X a ta)(he:∀ whole,isTrue a X.env whole=(do let v←whole;standAt a.pos;holding [v] (truthy v))) :
  PT X a (fun σ H Q=>ta σ H fun x H'=>∃ k,IX X.K x H' k∧Q k H'):=by
 intro pins s σ H Q I h;exact isTrue_plain (thn (ha pins s σ H _ I h) fun v s1 ⟨x,H1,I1,r1,q1⟩=>EW pins s1 σ H1 x v Q I1 r1 q1) (he _)
theorem Nf:OpR X (binaryOp .Add) (fun x y H Q=>∃ i j,x=.str i∧y=.str j∧i.length+j.length≤sizeLine∧Q (.str (i++j)) H):=by intro pins s σ H x y v u Q I rx ry h;obtain⟨i,j,rfl,rfl,hz,q⟩:=h;obtain⟨t,rfl⟩:=rx;obtain⟨t',rfl⟩:=ry;exact add_str (fun t' tk=>⟨.str (i++j),H,I.tok _,⟨_,rfl⟩,q⟩) hz
def IZ (b:Expr):Prop:=∀ o i,subscripted b false o i=operate [o,i] (getItem o i)
theorem Yd{x:V}{us:List Value}(r:Vals [x] us):∃ u,us=[u]∧RelV x u:=by
 cases r with
 |cons r1 r2=>cases r2;exact⟨_,rfl,r1⟩
theorem O5{x y:V}{us:List Value}(r:Vals [x,y] us):∃ u w',us=[u,w']∧RelV x u∧RelV y w':=by
 cases r with
 |cons r1 r2 =>
  cases r2 with
  |cons r3 r4=>cases r4;exact⟨_,_,rfl,r1,r3⟩
theorem N8 (hc:X.calm=true):CallR X (.builtin "max") (fun xs H Q=>∃ i j,xs=[.int i,.int j]∧Q (.int (if j > i then j else i)) H):=by
 intro pins s σ H xs us Q I r h;obtain⟨i,j,rfl,q⟩:=h;obtain⟨u,w',rfl,⟨t,rfl⟩,⟨t',rfl⟩⟩:=O5 r;refine max_two_ints (I.ok.hd hc) fun h' tk k=>⟨_,H,I.kept k,?_,q⟩
 by_cases hj:j > i
 ·rw[if_pos hj,if_pos hj];exact⟨_,rfl⟩
 ·rw[if_neg hj,if_neg hj];exact⟨_,rfl⟩
theorem Ot (hc:X.calm=true):CallR X (.builtin "min") (fun xs H Q=>∃ i j,xs=[.int i,.int j]∧Q (.int (if j<i then j else i)) H):=by
 intro pins s σ H xs us Q I r h;obtain⟨i,j,rfl,q⟩:=h;obtain⟨u,w',rfl,⟨t,rfl⟩,⟨t',rfl⟩⟩:=O5 r;refine min_two_ints (I.ok.hd hc) fun h' tk k=>⟨_,H,I.kept k,?_,q⟩
 by_cases hj:j<i
 ·rw[if_pos hj,if_pos hj];exact⟨_,rfl⟩
 ·rw[if_neg hj,if_neg hj];exact⟨_,rfl⟩
theorem call_int1:CallR X (.type "int") (fun xs H Q=>(∃ i,xs=[.int i]∧Q (.int i) H)∨∃ k,xs=[.bl k]∧Q (.int (if k then 1 else 0)) H):=by
 intro pins s σ H xs us Q I r h;rcases h with⟨i,rfl,q⟩|⟨k,rfl,q⟩
 ·obtain⟨u,rfl,t,rfl⟩:=Yd r;exact call_int_int ⟨.int i,H,I,⟨_,rfl⟩,q⟩
 ·obtain⟨u,rfl,r1⟩:=Yd r;cases r1;exact call_int_bool ⟨.int (if k then 1 else 0),H,I.tok _,⟨_,rfl⟩,q⟩
theorem call_str_int:CallR X (.type "str") (fun xs H Q=>∃ i,xs=[.int i]∧i.natAbs.log2<1920∧Q (.str (toString i)) H):=by intro pins s σ H xs us Q I r h;obtain⟨i,rfl,hz,q⟩:=h;obtain⟨u,rfl,t,rfl⟩:=Yd r;exact PySem.P.str_of_int hz ⟨.str _,H,I.tok _,⟨_,rfl⟩,q⟩
def Ry (K:PySem.W.Frag) (x:V) (H:Hp) (n:Nat):Prop :=
 match x with
 |.str y=>y.length≤sizeLine∧n=y.length
 |.byt y=>y.size≤sizeLine∧n=y.size
 |.ref p=>(∃ xs,SqL K H p xs∧n=xs.length)∨∃ xs,SqT K H p xs∧n=xs.length
 |_=>False
end
structure ObjM (h:Heap) (x dx C:Addr) (mA:Str→Option Value):Prop where
 obj:h.get? x=some (PySem.W.instObj C dx)
 ns:h.Ns1 dx mA
 ne:dx≠x
theorem O1{h:Heap}{dx:Addr}{mA:Str→Option Value}(n:h.Ns1 dx mA):∃ od,h.get? dx=some od∧∀ name,PySem.W.lookIn name od=some (mA name):=by
 obtain⟨o,es,ep,ho,hd,hk,_,hm⟩:=n;refine⟨o,ho,fun name=>?_⟩;have e:=hm name;unfold nsFind findBy at e;rw[←Array.find?_toList]at e;unfold PySem.W.lookIn;rw[hd];dsimp only;split
 ·rename_i y q;rw[q]at e;exact congrArg some e
 ·rename_i q;rw[q]at e;have a:es.toList.any (·.refKey)=false:=by
   rw[List.any_eq_false];intro y hy;obtain⟨z,t,hkey⟩:=hk y (Array.mem_toList_iff.mp hy);simp[DictEntry.refKey,hkey]
  have a':¬ es.toList.any (·.refKey)=true:=by rw[a];exact Bool.false_ne_true
  rw[if_neg a'];exact congrArg some e
theorem ObjM.look{h:Heap}{x dx C:Addr}{mA:Str→Option Value}(I:ObjM h x dx C mA):∃ od,PySem.W.InstAt h x (PySem.W.instObj C dx) C (some od)∧∀ name,PySem.W.lookIn name od=some (mA name) :=
 let ⟨od,ho,hl⟩:=O1 I.ns
 ⟨od,⟨I.obj,rfl,rfl,ho⟩,hl⟩
section
variable {prog:Program}{w:World}{A:Around}{E:Value→Shared→Prop}{s:Shared}{K:PySem.W.Frag}{x dx C f:Addr}{mA:Str→Option Value}{name:Str}{v:Value}
theorem Df{expr:Bool}{Q:Value→Shared→Prop}(X:K.In s.heap)(I:ObjM s.heap x dx C mA)(hg:PySem.W.plainGet K C name=true)(hh:PySem.W.hasDictIn K C=true)
  (ha:PySem.W.findIn K (.ref C) name=some none) (hv:mA name=some v) (hv':PySem.W.handedIn v=true) (h:Q v {s with toks:=s.toks+1}) :
  wpAny (model prog w) A (getAttr (.ref x) name expr) Q E s:=by
 obtain⟨od,J,hl⟩:=I.look;exact PySem.W.get_value X J (PySem.W.plainGet_of hg).1 (PySem.W.findObj_own hh ha rfl (by rw[hl,hv])) hv' h
theorem AS{pl:Sem Bool}{Q:Value×List Value→Shared→Prop}(X:K.In s.heap)(I:ObjM s.heap x dx C mA)(hg:PySem.W.plainGet K C name=true)
  (hf:PySem.W.findIn K (.ref C) name=some (some (.ref f))) (ht:PySem.W.isFn K (.ref f)=true) (hv:mA name=none) (h:Q (.ref f,[.ref x]) s) :
  wpAny (model prog w) A (getMethod (.ref x) name pl) Q E s:=by
 obtain⟨od,J,hl⟩:=I.look;exact PySem.W.method_fn X J (PySem.W.plainGet_of hg).1 (PySem.W.plainGet_of hg).2 hf (beq_iff_eq.mp ht) (by show(PySem.W.lookIn name od).map (·.isSome)=some false;rw[hl,hv];rfl) h
theorem Ca{ns:List Str}{Q:Unit→Shared→Prop}(X:K.In s.heap)(I:ObjM s.heap x dx C mA)
  (hs:PySem.W.findIn K (.ref C) "__setattr__" = some (some (.builtin "object.__setattr__"))) (hp:PySem.W.plainOver K C=true) (ht:PySem.W.takerIn K C name=some none) (hh:PySem.W.hasDictIn K C=true)
  (hw:PySem.Within mA ns) (hsz:ns.length≤sizeLine)
  (h:∀ h',ObjM h' x dx C (fun y=>if y=name then some v else mA y)→Heap.SameBut dx s.heap h'→Q () {s with heap:=h',toks:=s.toks+2}) :
  wpAny (model prog w) A (setAttr (.ref x) name v) Q E s:=by
 obtain⟨od,J,hl⟩:=I.look;refine PySem.W.set_plain X J hs (PySem.W.osa_open (s:={s with toks:=s.toks+1}) (r:=none) X J hp ht fun b=>?_);obtain⟨cd,hc,hd'⟩:=PySem.W.any_some hh;have hx:s.heap.get? x=some ⟨.ref C,some dx,.plain,#[]⟩:=I.obj;refine wpAny_bind (wpAny_pure (wpAny_bind (wpAny_bind (wpAny_loadPart hx (wpAny_bind (PySem.W.Looks.here (s:={s with toks:=s.toks+1}) (PySem.W.looks_clsIn X hc) ?_))))));rw[hd'];refine wpAny_pure (a:=some dx) (wpAny_bind (wpAny_pure (wpAny_bind ?_)));refine wpAny_nsSet1 (s:={s with toks:=s.toks+1}) I.ns fun h' hn2 hs2=>?_;obtain⟨oD,esD,epD,hoD,hdD,hcD⟩:=hn2.count (PySem.Within.cons name v hw);refine wpAny_bind (wpAny_lookBehind hoD (by rw[hdD];exact pastItsLine_dict (Nat.le_trans hcD (by rw[List.length_cons];omega))) ?_);exact wpAny_pure (h _ ⟨(hs2.2 _ (Ne.symm I.ne)).trans I.obj,hn2,I.ne⟩ hs2)
theorem O6{R:Result→Shared→Prop}{vs:List Value}{kw:List (Str×Value)}(X:K.In s.heap)(hm:PySem.W.makesIn K C=true)
  (hi:PySem.W.findIn K (.ref C) "__init__" = some (some (.ref f))) (hf:PySem.W.typeIn K (.ref f)=some (.type "function"))
  (h:codeAny (model prog w) (A.under (.builtin "type.__call__" ⟨.ref C::vs,kw⟩)) (.call (.ref f) ⟨.ref (s.heap.objs.size+1)::vs,kw⟩) (PySem.W.InitBack (s.heap.objs.size+1) R)
    { s with heap:=(s.heap.push PySem.W.emptyDict).push (PySem.W.instObj C s.heap.objs.size) }) :
  codeAny (model prog w) A (.call (.ref C) ⟨vs,kw⟩) R s:=by
 obtain⟨hh,g,d,t,os⟩:=s;exact PySem.W.make_core (PySem.W.makes_of X hm) (PySem.W.looks_findIn X hi) (fun self=>PySem.W.bind_fn X self hf) (.inl rfl) h
end
def putF (f:Str) (v:V):List (Str×V)→List (Str×V)
 |[]=>[(f,v)]
 |(g,x)::r=>if g=f then(g,v)::r else(g,x)::putF f v r
theorem XN(f g:Str)(v:V):∀ fs:List (Str×V),(putF f v fs).lookup g=if g=f then some v else fs.lookup g
 |[]=>by
  show List.lookup g [(f,v)]=_;by_cases h:g=f
  ·have hb:(g==f)=true:=beq_iff_eq.mpr h;simp only[List.lookup,hb,if_pos h]
  ·have hb:(g==f)=false:=beq_eq_false_iff_ne.mpr h;simp only[List.lookup,hb,if_neg h]
 |(k,x)::r=>by
  have ih:=XN f g v r;rw[show putF f v ((k,x)::r)=(if k=f then(k,v)::r else(k,x)::putF f v r) from rfl];by_cases hk:k=f
  ·rw[if_pos hk];by_cases h:g=k
   ·have hb:(g==k)=true:=beq_iff_eq.mpr h;simp only[List.lookup,hb,if_pos (h.trans hk)]
   ·have hb:(g==k)=false:=beq_eq_false_iff_ne.mpr h;simp only[List.lookup,hb,if_neg (fun e:g=f=>h (e.trans hk.symm))]
  ·rw[if_neg hk];by_cases h:g=k
   ·have hb:(g==k)=true:=beq_iff_eq.mpr h;simp only[List.lookup,hb,if_neg (fun e:g=f=>hk (h.symm.trans e))]
   ·have hb:(g==k)=false:=beq_eq_false_iff_ne.mpr h;simp only[List.lookup,hb];exact ih
theorem XF(f:Str)(v:V):∀ fs:List (Str×V),f∈(putF f v fs).map (·.1)∧∀ g,g∈fs.map (·.1)→g∈(putF f v fs).map (·.1)
 |[]=>⟨by simp[putF],fun g h=>by simp at h⟩
 |(k,x)::r=>by
  obtain⟨i1,i2⟩:=XF f v r;rw[show putF f v ((k,x)::r)=(if k=f then(k,v)::r else(k,x)::putF f v r) from rfl];by_cases hk:k=f
  ·rw[if_pos hk];subst hk;exact⟨by simp,fun g h=>by simpa using h⟩
  ·rw[if_neg hk];refine⟨?_,fun g h=>?_⟩
   ·rw[List.map_cons];exact List.mem_cons_of_mem _ i1
   ·rw[List.map_cons]at h ⊢;rcases List.mem_cons.mp h with e|e
    ·exact List.mem_cons.mpr (.inl e)
    ·exact List.mem_cons_of_mem _ (i2 g e)
theorem XH(f:Str)(v:V):∀ fs:List (Str×V),(putF f v fs).length≤fs.length+1
 |[]=>by simp[putF]
 |(k,x)::r=>by
  have ih:=XH f v r;rw[show putF f v ((k,x)::r)=(if k=f then(k,v)::r else(k,x)::putF f v r) from rfl];by_cases hk:k=f
  ·rw[if_pos hk,List.length_cons,List.length_cons];omega
  ·rw[if_neg hk,List.length_cons,List.length_cons];omega
theorem RelO.some_of{v:V}{o:Option Value}(r:RelO (some v) o):∃ u,o=some u∧RelV v u:=by
 cases o with
 |none=>exact(show False from r).elim
 |some u=>exact⟨u,rfl,r⟩
theorem RelO.none_of{o:Option Value}(r:RelO none o):o=none:=by
 cases o with
 |none=>rfl
 |some u=>exact(show False from r).elim
theorem Op{v:V}{u:Value}(r:RelV v u):PySem.W.handedIn u=true:=by
 cases v with
 |non=>cases (show u=Value.none from r);rfl
 |bl b=>cases (show u=Value.bool b from r);rfl
 |int i=>obtain⟨t,e⟩:=(show ∃ t,u=Value.int i t from r);cases e;rfl
 |str x=>obtain⟨t,e⟩:=(show ∃ t,u=Value.str x t from r);cases e;rfl
 |byt b=>obtain⟨t,e⟩:=(show ∃ t,u=Value.bytes b t from r);cases e;rfl
 |flt b=>obtain⟨t,e⟩:=(show ∃ t,u=Value.float b t from r);cases e;rfl
 |ref a=>cases (show u=Value.ref a from r);rfl
 |ty n=>cases (show u=Value.type n from r);rfl
section
variable {P:Program}{w:World}{H H':Hp}{h h':Heap}{a C dx:Addr}{fs fs':List (Str×V)}
theorem X8(hok:HOk P w H h)(e:H a=some (.ins C dx fs)):∃ mA,ObjM h a dx C mA∧(∀ f,RelO (fs.lookup f) (mA f))∧PySem.Within mA (fs.map (·.1))∧fs.length≤1000∧H dx=some (.own a):=by
 obtain⟨d,z,ne,ob,mA,n,r,q⟩:=(show ObjOk P w H h a (.ins C dx fs) from hok a _ e)
 exact⟨mA,⟨ob,n,ne⟩,r,q,z,d⟩
end
structure Cls (K:PySem.W.Frag) (C:Addr):Prop where
 pg:PySem.W.plainGet K C Str.empty=true
 hd:PySem.W.hasDictIn K C=true
 po:PySem.W.plainOver K C=true
 sa:PySem.W.findIn K (.ref C) "__setattr__" = some (some (.builtin "object.__setattr__"))
theorem Cls.get{K:PySem.W.Frag}{C:Addr}(c:Cls K C)(f:Str):PySem.W.plainGet K C f=true:=c.pg
def NoAttr (K:PySem.W.Frag) (C:Addr) (f:Str):Prop:=PySem.W.findIn K (.ref C) f=some none
theorem NoAttr.taker{K:PySem.W.Frag}{C:Addr}{f:Str}(n:NoAttr K C f):PySem.W.takerIn K C f=some none:=by unfold PySem.W.takerIn;rw[show PySem.W.findIn K (.ref C) f=some none from n];rfl
structure Con (K:PySem.W.Frag) (C:Addr) (f:Str) (v:V) (u:Value):Prop where
 at_:PySem.W.findIn K (.ref C) f=some (some u)
 rel:RelV v u
 get:PySem.W.specialIn K u "__get__" = some none
 cp:PySem.W.copiedNames.contains f=false
structure Meth (K:PySem.W.Frag) (C:Addr) (m:Str) (f:Addr):Prop where
 at_:PySem.W.findIn K (.ref C) m=some (some (.ref f))
 fn:PySem.W.isFn K (.ref f)=true
 kp:PySem.W.keepIn K (.ref f)=true
section
variable {X:Cx}{pins:List (Addr×Obj)}{σ:St}{H:Hp}{s:Shared}{a C dx:Addr}{fs:List (Str×V)}{f:Str}{v:V}{A:Around}{E:Value→Shared→Prop}
theorem WR{b:Bool}{Q:Value→Shared→Prop}(I:Inv X pins σ H s)(e:H a=some (.ins C dx fs))(c:Cls X.K C)(n:NoAttr X.K C f)(l:fs.lookup f=some v)
  (h:∀ u s',Inv X pins σ H s'→RelV v u→Q u s'):wpAny (model X.prog X.w) A (getAttr (.ref a) f b) Q E s:=by
 obtain⟨mA,O,r,_,_,_⟩:=X8 I.hok e;obtain⟨u,hu,ru⟩:=RelO.some_of (v:=v) (o:=mA f) (by rw[←l];exact r f);exact Df I.kIn O (c.get f) c.hd n hu (Op ru) (h u _ (I.tok _) ru)
theorem WI{m:Str}{g:Addr}{pl:Sem Bool}{Q:Value×List Value→Shared→Prop}(I:Inv X pins σ H s)(e:H a=some (.ins C dx fs))(c:Cls X.K C)(k:Meth X.K C m g)(l:fs.lookup m=none)
  (h:Q (.ref g,[.ref a]) s):wpAny (model X.prog X.w) A (getMethod (.ref a) m pl) Q E s:=by
 obtain⟨mA,O,r,_,_,_⟩:=X8 I.hok e;have hn:mA m=none:=RelO.none_of (by rw[←l];exact r m);exact AS I.kIn O (c.get m) k.at_ k.fn hn h
theorem WS{y:V}{u:Value}{Q:Unit→Shared→Prop}(I:Inv X pins σ H s)(e:H a=some (.ins C dx fs))(c:Cls X.K C)(n:NoAttr X.K C f)(hl:fs.length<1000)(ry:RelV y u)
  (h:∀ s',Inv X pins σ (upd H a (.ins C dx (putF f y fs))) s'→Q () s'):wpAny (model X.prog X.w) A (setAttr (.ref a) f u) Q E s:=by
 obtain⟨mA,O,r,wi,_,ho⟩:=X8 I.hok e;have hz:(fs.map (·.1)).length≤sizeLine:=by rw[List.length_map,sizeLine_eq];omega
 refine Ca I.kIn O c.sa c.po n.taker c.hd wi hz fun h' O' sb=>h _ ?_;have hd:∃ o,h'.get? dx=some o:=let ⟨o,_,_,e',_⟩:=O'.ns;⟨o,e'⟩;refine I.write (x:=a) (e:=dx) (by rw[e];exact True.intro) (.inr ho) (fun b q hb z=>(sb.2 b hb).trans z) hd ?_;refine⟨by rw[upd_ne O.ne];exact ho,?_,O.ne,O'.obj,_,O'.ns,fun g=>?_,fun g hg=>?_⟩
 ·have:=XH f y fs;omega
 ·show RelO ((putF f y fs).lookup g) (if g=f then some u else mA g);rw[XN];by_cases q:g=f
  ·rw[if_pos q,if_pos q];exact ry
  ·rw[if_neg q,if_neg q];exact r g
 ·by_cases q:g=f
  ·rw[q];exact(XF f y fs).1
  ·refine(XF f y fs).2 g (wi g fun z=>hg ?_);show(if g=f then some u else mA g)=none;rw[if_neg q];exact z
theorem Inv.made(I:Inv X pins σ H s):Inv X pins σ (upd (upd H s.heap.objs.size (.own (s.heap.objs.size+1))) (s.heap.objs.size+1) (.ins C s.heap.objs.size []))
  {s with heap:=(s.heap.push PySem.W.emptyDict).push (PySem.W.instObj C s.heap.objs.size)}:=by
 have e1:(s.heap.push PySem.W.emptyDict).get? s.heap.objs.size=some PySem.W.emptyDict:=Heap.get?_push_size s.heap rfl;have e2:((s.heap.push PySem.W.emptyDict).push (PySem.W.instObj C s.heap.objs.size)).get? (s.heap.objs.size+1)=some (PySem.W.instObj C s.heap.objs.size):=by
  have:=Heap.get?_push_size (s.heap.push PySem.W.emptyDict) (o:=PySem.W.instObj C s.heap.objs.size) rfl
  rwa [Heap.size_push]at this
 have e3:(s.heap.push PySem.W.emptyDict).Ns s.heap.objs.size (fun _=>none):=⟨PySem.W.emptyDict,#[],_,e1,rfl,(fun e he=>absurd he (by simp)),fun _=>rfl⟩
 have I1:=I.laid (a:=s.heap.objs.size) (o:=.own (s.heap.objs.size+1)) (h':=s.heap.push PySem.W.emptyDict) (t':=s.toks) (fun b u q=>Heap.get?_push_of_some _ q) (Nat.le_refl _) ⟨_,e1⟩;refine I1.laid (a:=s.heap.objs.size+1) (o:=.ins C s.heap.objs.size []) (t':=s.toks) (fun b u q=>Heap.get?_push_of_some _ q) (Nat.le_of_eq (Heap.size_push _ _)) ?_;have ne:s.heap.objs.size≠s.heap.objs.size+1:=Nat.ne_of_lt (Nat.lt_succ_self _);refine⟨by rw[upd_ne ne,upd_same],Nat.zero_le _,ne,e2,fun _=>none,(Heap.Ns1.of_empty e3).at fun o q=>Heap.get?_push_of_some _ q,fun _=>True.intro,fun y hy=>absurd rfl hy⟩
theorem B3{prog:Program}{w:World}{env:Env}{e:Expr}{f:Str}{pos:Pos}{s:Shared}{Q:Value→Shared→Prop}(hb:attributeBase e f env (eval e env)=eval e env)
  (h:wpAny (model prog w) A (eval e env) (fun o s₁=>wpAny (model prog w) A (getAttr o f true) Q E s₁) E s):wpAny (model prog w) A (eval (.Attribute e f pos) env) Q E s :=
 Attribute_any_ h (by rw[arm_eval_Attribute,hb])
end
def Qg (K:PySem.W.Frag) (ta:TE) (f:Str):TE:=fun σ H Q=>ta σ H fun x H1=>∃ a C dx fs v,x=.ref a∧H1 a=some (.ins C dx fs)∧Cls K C∧NoAttr K C f∧fs.lookup f=some v∧Q v H1
def RM (K:PySem.W.Frag) (ta:TE) (f:Str):TE:=fun σ H Q=>ta σ H fun x H1=>∃ a C dx fs v u,x=.ref a∧H1 a=some (.ins C dx fs)∧Cls K C∧Con K C f v u∧fs.lookup f=none∧Q v H1
def PD (K:PySem.W.Frag) (ta tv:TE) (f:Str):TS:=fun D σ H=>tv σ H fun y H1=>ta σ H1 fun x H2=>∃ a C dx fs,x=.ref a∧H2 a=some (.ins C dx fs)∧Cls K C∧NoAttr K C f∧fs.length<1000∧
 D.nx σ (upd H2 a (.ins C dx (putF f y fs)))
def A1 (X:Cx) (op:Operator) (rd:V→V→Hp→VK→Prop):Prop :=
 ∀ (pins:List (Addr×Obj)) (s:Shared) (σ:St) (H:Hp) (x y:V) (u v:Value) (Q:VK),Inv X pins σ H s→RelV x u→RelV y v→rd x y H Q→wpAny (model X.prog X.w) X.A (inplaceOp op u v) (EP X pins σ Q) X.xe s
def CN (K:PySem.W.Frag) (ta tv:TE) (rd:V→V→Hp→VK→Prop) (f:Str):TS:=fun D σ H=>ta σ H fun x H1=>∃ a C dx fs v,x=.ref a∧H1 a=some (.ins C dx fs)∧Cls K C∧NoAttr K C f∧fs.lookup f=some v∧
 tv σ H1 fun y H2=>rd v y H2 fun z H3=>∃ dx' fs',H3 a=some (.ins C dx' fs')∧fs'.length<1000∧D.nx σ (upd H3 a (.ins C dx' (putF f z fs')))
section
variable {X:Cx}{o e value:Expr}{f:Str}{pos pos' tpos:Pos}{ta tv:TE}
theorem GD(he:PE X e ta)(hb:attributeBase e f X.env (eval e X.env)=eval e X.env):PE X (.Attribute e f pos) (Qg X.K ta f):=by intro pins s σ H Q I h;refine B3 hb (thn (he pins s σ H _ I h) fun u s1 ⟨x,H1,I1,rx,a,C,dx,fs,v,ex,ea,c,n,l,q⟩=>?_);subst ex;obtain rfl:u=Value.ref a:=rx;exact WR I1 ea c n l fun u' s2 I2 ru=>⟨v,H1,I2,ru,q⟩
theorem EK(ha:PE X o ta)(hv:PE X value tv)(hs:swapsWith value (some (.Attribute o f pos')) pos.line X.env=pure false):PS X (.Assign [.Attribute o f pos'] value pos) (PD X.K ta tv f):=by intro pins s σ H D I h;refine plainObj_wpAny_Assign_Attribute (thn (hv pins s σ H _ I h) fun u s1 ⟨y,H1,I1,ry,q⟩=>thn (ha pins s1 σ H1 _ I1 q) fun ov s2 ⟨x,H2,I2,rx,a,C,dx,fs,ex,ea,c,n,l,q2⟩=>?_) hs;subst ex;obtain rfl:ov=Value.ref a:=rx;exact WS I2 ea c n l ry fun s3 I3=>⟨σ,_,I3,q2⟩
theorem N6{op:Operator}{rd:V→V→Hp→VK→Prop}(ha:PE X o ta)(hv:PE X value tv)(hop:A1 X op rd):PS X (.AugAssign (.Attribute o f tpos) op value pos) (CN X.K ta tv rd f):=by intro pins s σ H D I h;refine wpAny_AugAssign_AttributeAny (thn (ha pins s σ H _ I h) fun ov s1 ⟨x,H1,I1,rx,a,C,dx,fs,v,ex,ea,c,n,l,q⟩=>?_);subst ex;obtain rfl:ov=Value.ref a:=rx;refine WR I1 ea c n l fun u s2 I2 ru=>thn (hv pins s2 σ H1 _ I2 q) fun w3 s3 ⟨y,H2,I3,ry,q3⟩=>thn (hop pins s3 σ H2 v y u w3 _ I3 ru ry q3) fun w4 s4 ⟨z,H3,I4,rz,dx',fs',ea',l',q4⟩=>?_;exact WS I4 ea' c n l' rz fun s5 I5=>⟨σ,_,I5,q4⟩
def Pc:V→V→Hp→VK→Prop:=fun x y H Q=>∃ i j,x=.int i∧y=.int j∧Q (.int (i+j)) H
def L1:V→V→Hp→VK→Prop:=fun x y H Q=>∃ i j,x=.int i∧y=.int j∧Q (.int (i - j)) H
theorem Gj:A1 X .Add Pc:=by
 rintro pins s σ H x y u v Q I rx ry ⟨i,j,rfl,rfl,q⟩;obtain⟨t,rfl⟩:=(show ∃ t,u=Value.int i t from rx)
 obtain⟨t',rfl⟩:=(show ∃ t',v=Value.int j t' from ry)
 exact PyProof.Rows.iadd_int ⟨.int (i+j),H,I.tok _,⟨_,rfl⟩,q⟩
theorem Gw:A1 X .Sub L1:=by
 rintro pins s σ H x y u v Q I rx ry ⟨i,j,rfl,rfl,q⟩;obtain⟨t,rfl⟩:=(show ∃ t,u=Value.int i t from rx)
 obtain⟨t',rfl⟩:=(show ∃ t',v=Value.int j t' from ry)
 exact PyProof.Rows.isub_int ⟨.int (i - j),H,I.tok _,⟨_,rfl⟩,q⟩
end
section
variable {X:Cx}{pins:List (Addr×Obj)}{σ:St}{H:Hp}{s:Shared}{A:Around}{E:Value→Shared→Prop}{Q:Value→Shared→Prop}{c:Value}{b:Bool}
inductive TyOf (K:PySem.W.Frag) (H:Hp):V→Value→Prop where
 |non:TyOf K H .non (.type "NoneType")
 |bl (x:Bool):TyOf K H (.bl x) (.type "bool")
 |int (i:Int):TyOf K H (.int i) (.type "int")
 |str (x:Str):TyOf K H (.str x) (.type "str")
 |flt (x:UInt64):TyOf K H (.flt x) (.type "float")
 |lst {a:Addr}{xs:List V}(e:H a=some (.lst xs)):TyOf K H (.ref a) (.type "list")
 |frz {a:Addr}{o:Obj}{xs:List V}(e:H a=some (.frz o (.lst xs))):TyOf K H (.ref a) (.type "list")
 |tup {a:Addr}{xs:List V}(e:H a=some (.tup xs)):TyOf K H (.ref a) (.type "tuple")
 |dK {a:Addr}{kvs:List (Key×V)}(e:H a=some (.dK kvs)):TyOf K H (.ref a) (.type "dict")
 |dT {a:Addr}{kvs:List (List Key×V)}(e:H a=some (.dT kvs)):TyOf K H (.ref a) (.type "dict")
 |ins {a C dx:Addr}{fs:List (Str×V)}(e:H a=some (.ins C dx fs)) (cl:Cls K C) (ha:PySem.W.findIn K (.ref C) "__class__" = some (some (.builtin "object.__class__")))
   (hn:PySem.W.specialIn K (.builtin "object.__class__") "__get__" = some (some (.builtin "getset_descriptor.__get__"))) (htk:PySem.W.takesIn K (.builtin "object.__class__")=some true)
   (hm:PySem.W.mroIn K C (.type "object")=some true):TyOf K H (.ref a) (.ref C)
theorem OX{x:V}{u t:Value}(I:Inv X pins σ H s)(rx:RelV x u)(ty:TyOf X.K H x t)(e:PySem.W.kitOne X.K t c=some b)(h:∀ tk,Q (.bool b) {s with toks:=tk}) :
  wpAny (model X.prog X.w) A (call (.builtin "isinstance") [u,c]) Q E s:=by
 cases ty with
 |non=>cases (show u=Value.none from rx);exact PySem.W.kia_one PySem.W.kitx_none I.kIn True.intro e (fun z=>nomatch z) h
 |bl y=>cases (show u=Value.bool y from rx);exact PySem.W.kia_one PySem.W.kitx_bool I.kIn True.intro e (fun z=>nomatch z) h
 |int i=>obtain⟨t,q⟩:=(show ∃ t,u=Value.int i t from rx);cases q;exact PySem.W.kia_one PySem.W.kitx_int I.kIn True.intro e (fun z=>nomatch z) h
 |str y=>obtain⟨t,q⟩:=(show ∃ t,u=Value.str y t from rx);cases q;exact PySem.W.kia_one PySem.W.kitx_str I.kIn True.intro e (fun z=>nomatch z) h
 |flt y=>obtain⟨t,q⟩:=(show ∃ t,u=Value.float y t from rx);cases q;exact PySem.W.kia_one PySem.W.kitx_float I.kIn True.intro e (fun z=>nomatch z) h
 |@lst a xs ea =>
  cases (show u=Value.ref a from rx);obtain⟨_,_,n,_,h1⟩:=(show ObjOk X.prog X.w H s.heap a (.lst xs) from I.hok a _ ea)
  exact PySem.W.kia_one PySem.W.kitx_list I.kIn ⟨_,h1,rfl⟩ e (fun z=>nomatch z) h
 |@frz a ob xs ea =>
  cases (show u=Value.ref a from rx);obtain⟨_,_,_,n,_,h1⟩:=(show ObjOk X.prog X.w H s.heap a (.frz ob (.lst xs)) from I.hok a _ ea)
  exact PySem.W.kia_one PySem.W.kitx_list I.kIn ⟨_,h1,rfl⟩ e (fun z=>nomatch z) h
 |@tup a xs ea =>
  cases (show u=Value.ref a from rx);obtain⟨_,_,_,p⟩:=(show ObjOk X.prog X.w H s.heap a (.tup xs) from I.hok a _ ea)
  obtain⟨o,h1,h2,_⟩:=p;exact PySem.W.kia_one PySem.W.kitx_tuple I.kIn ⟨o,h1,h2⟩ e (fun z=>nomatch z) h
 |@dK a kvs ea =>
  cases (show u=Value.ref a from rx);obtain⟨_,_,vs,_,p⟩:=(show ObjOk X.prog X.w H s.heap a (.dK kvs) from I.hok a _ ea)
  obtain⟨o,es,ep,h1,h2,_⟩:=p;exact PySem.W.kia_one PySem.W.kitx_dict I.kIn ⟨o,h1,h2.1⟩ e (fun z=>nomatch z) h
 |@dT a kvs ea =>
  cases (show u=Value.ref a from rx);obtain⟨_,_,xs,_,o,es,ep,h1,h2,_⟩:=(show ObjOk X.prog X.w H s.heap a (.dT kvs) from I.hok a _ ea)
  exact PySem.W.kia_one PySem.W.kitx_dict I.kIn ⟨o,h1,h2.1⟩ e (fun z=>nomatch z) h
 |@ins a C dx fs ea cl ha hn htk hm =>cases (show u=Value.ref a from rx);obtain⟨mA,O,_⟩:=X8 I.hok ea;obtain⟨od,J,_⟩:=O.look;exact PySem.W.kia_one (PySem.W.kitx_own (cl.get _) cl.hd ha hn htk hm) I.kIn J e (fun z=>nomatch z) h
end
structure Room (k:Nat) (A:Around):Prop where
 hd:A.handled=none
 dp:A.depth+3*k+5<recursionLimit
 un:A.units+16*k+200<cLine
theorem Room.mono{j k:Nat}{A:Around}(r:Room k A)(h:j≤k):Room j A:=⟨r.hd,by have:=r.dp;omega,by have:=r.un;omega⟩
theorem Room.deeper{k:Nat}{A:Around}(r:Room (k+1) A)(env:Env):Room k (A.deeper env) :=
 ⟨r.hd,by have:=r.dp;show A.depth+1+3*k+5<_;omega,by have:=r.un;show A.units+3+16*k+200<_;omega⟩
theorem Room.in1{k:Nat}{A:Around}(r:Room (k+1) A):Room k A.in1 :=
 ⟨r.hd,by have:=r.dp;show A.depth+3*k+5<_;omega,by have:=r.un;show A.units+1+16*k+200<_;omega⟩
theorem MI {A:Around}{C:Addr}{us:List Value}{kw:List (Str×Value)}:(A.under (.builtin "type.__call__" ⟨.ref C::us,kw⟩)).depth=A.depth+1:=by
 first|rfl|simp[Around.under,Code.weight,Code.isCreation,Code.isGuard,Code.isCaller,Code.frames,Code.isFrame,guardIds]
theorem ME {A:Around}{C:Addr}{us:List Value}{kw:List (Str×Value)}:(A.under (.builtin "type.__call__" ⟨.ref C::us,kw⟩)).units=A.units+1:=by
 first|rfl|simp[Around.under,Code.cUnits,Code.frames,Code.isFrame]
theorem Room.make {k:Nat}{A:Around}(r:Room (k+1) A) (C:Addr) (us:List Value) (kw:List (Str×Value)):Room k (A.under (.builtin "type.__call__" ⟨.ref C::us,kw⟩)) :=
 ⟨r.hd,by have:=r.dp;rw[MI];omega,by have:=r.un;rw[ME];omega⟩
theorem Room.depth{k:Nat}{A:Around}(r:Room k A):A.depth<recursionLimit:=by have:=r.dp;omega
theorem Room.units{k:Nat}{A:Around}(r:Room k A):A.units+64<cLine:=by have:=r.un;omega
def B8:TA:=fun _ H Q=>Q [] H
def DV (ta:TE) (tr:TA):TA:=fun σ H Q=>ta σ H fun x H1=>tr σ H1 fun xs H2=>Q (x::xs) H2
section
variable {X:Cx}{e:Expr}{es:List Expr}{te:TE}{t:TA}{pos:Pos}
theorem pa_nil:PA X [] B8:=fun _ _ _ _ H Q I h=>Calls.spliced_nil ⟨[],H,I,.nil,h⟩
theorem Yg(ha:PE X e te)(hr:PA X es t)(hs:starEach (e::es) X.env=(false,eval e X.env)::starEach es X.env:=by rfl):PA X (e::es) (DV te t):=by intro pos pins s σ H Q I h;rw[hs];show wpAny _ _ (spliced ((false,eval e X.env)::backTo pos (starEach es X.env))) _ _ s;refine Calls.spliced_cons (thn (ha pins s σ H _ I h) fun u s1 ⟨x,H1,I1,r1,q1⟩=>?_);exact thn (hr pos pins s1 σ H1 _ I1 q1) fun us s2 ⟨xs,H2,I2,r2,q2⟩=>⟨x::xs,H2,I2,.cons r1 r2,q2⟩
def Py (t:TA):TE:=fun σ H Q=>t σ H fun xs H1=>xs.length≤sizeLine∧∀ p,H1 p=none→Q (.ref p) (upd H1 p (.tup xs))
def L4 (t:TA):TE:=fun σ H Q=>t σ H fun xs H1=>xs.length≤sizeLine∧∀ p,H1 p=none→Q (.ref p) (upd H1 p (.lst xs))
theorem EC{x1}(h:PA X es t):PE X (.Tuple es x1 pos) (Py t):=by intro pins s σ H Q I hq;refine wpAny_Tuple_spliced (thn (h pos pins s σ H _ I hq) fun us s1 ⟨xs,H1,I1,r,z,q⟩=>⟨by rw[←r.length];exact z,?_⟩);have hf:H1 s1.heap.objs.size=none:=I1.hok.fresh (Nat.le_refl _);refine⟨.ref s1.heap.objs.size,upd H1 s1.heap.objs.size (.tup xs),I1.laid (t':=s1.toks) (fun b u e=>Heap.get?_push_of_some _ e) (Nat.le_refl _) ?_,rfl,q _ hf⟩;exact⟨z,us,r,⟨_,Heap.get?_push_size _ rfl,rfl,_,rfl⟩⟩
theorem E1(h:PA X es t):PE X (.List es pos) (L4 t):=by intro pins s σ H Q I hq;refine wpAny_List_spliced (thn (h pos pins s σ H _ I hq) fun us s1 ⟨xs,H1,I1,r,z,q⟩=>⟨by rw[←r.length];exact z,?_⟩);have hf:H1 s1.heap.objs.size=none:=I1.hok.fresh (Nat.le_refl _);refine⟨.ref s1.heap.objs.size,upd H1 s1.heap.objs.size (.lst xs),I1.laid (t':=s1.toks) (fun b u e=>Heap.get?_push_of_some _ e) (Nat.le_refl _) ?_,rfl,q _ hf⟩;exact⟨z,us,0,r,Heap.get?_push_size _ rfl⟩
end
abbrev Sp:=List V→Hp→VK→XK→Prop
abbrev CXT:=List Env→Hp→Shared→XK→Value→Shared→Prop
structure Env0 (P:Program) (w:World) (K:PySem.W.Frag) (mg:Str→Option Value) (base:Heap) (A:Around) (outer:List Env) (s:Shared) (H:Hp):Prop where
 frames:A.frames=some outer
 mod:Mod K mg base
 bs:∀ b o,base.get? b=some o→s.heap.get? b=some o∧H b=none
 bsz:base.objs.size≤s.heap.objs.size
 funs:s.heap.FunFrames base outer
 frf:∀ b∈frs outer,H b=none
 hok:HOk P w H s.heap
 bare:AllBare s.gens
def CE (outer:List Env) (P:Program) (w:World) (H:Hp) (s:Shared) (Q:VK) (u:Value) (s':Shared):Prop :=
 ∃ v H',s'.os=s.os∧AllBare s'.gens∧Un (frs outer) [] H H' s.heap s'.heap∧HOk P w H' s'.heap∧RelV v u∧Q v H'
def CR (CX:CXT) (outer:List Env) (P:Program) (w:World) (H:Hp) (s:Shared) (Q:VK) (E:XK) (r:Result) (s':Shared):Prop :=
 match r with
 |.ok (.ret u)=>CE outer P w H s Q u s'
 |.ok _=>False
 |.error e=>CX outer H s E e s'
structure FnOk (P:Program) (w:World) (K:PySem.W.Frag) (mg:Str→Option Value) (base:Heap) (CX:CXT) (k:Nat) (f:Addr) (fd:FuncData) (ps:List Str) (sp:Sp):Prop where
 len:∀ vs H Q E,sp vs H Q E→vs.length=ps.length
 run:∀ (A:Around) (outer:List Env) (s:Shared) (H:Hp) (args:Args) (us:List Value) (vs:List V) (Q:VK) (E:XK),Room k A→Env0 P w K mg base A outer s H→BindsTo s fd args (ps.zip us)→Vals vs us→sp vs H Q E→
  codeAny (model P w) A (.call (.ref f) args) (CR CX outer P w H s Q E) s
theorem FnOk.mono{P:Program}{w:World}{K:PySem.W.Frag}{mg:Str→Option Value}{base:Heap}{CX:CXT}{j k:Nat}{f:Addr}{fd:FuncData}{ps:List Str}{sp:Sp}(F:FnOk P w K mg base CX j f fd ps sp)(h:j≤k) :
  FnOk P w K mg base CX k f fd ps sp:=⟨F.len,fun A outer s H args us vs Q E hr=>F.run A outer s H args us vs Q E (hr.mono h)⟩
theorem FnOk.imp{P:Program}{w:World}{K:PySem.W.Frag}{mg:Str→Option Value}{base:Heap}{CX:CXT}{k:Nat}{f:Addr}{fd:FuncData}{ps:List Str}{sp sp':Sp}(F:FnOk P w K mg base CX k f fd ps sp)
  (h:∀ vs H Q E,sp' vs H Q E→sp vs H Q E):FnOk P w K mg base CX k f fd ps sp' :=
 ⟨fun vs H Q E q=>F.len vs H Q E (h _ _ _ _ q),fun A outer s H args us vs Q E hr he hb hv hs=>F.run A outer s H args us vs Q E hr he hb hv (h _ _ _ _ hs)⟩
theorem Env0.make{P:Program}{w:World}{K:PySem.W.Frag}{mg:Str→Option Value}{base:Heap}{A:Around}{outer:List Env}{s:Shared}{H:Hp}(e:Env0 P w K mg base A outer s H)(C:Addr)(us:List Value)(kw:List (Str×Value)) :
  Env0 P w K mg base (A.under (.builtin "type.__call__" ⟨.ref C::us,kw⟩)) outer s H:=⟨by first|exact e.frames|(simpa[Around.under,Code.envs,Code.isFrame,pushEnvs]using e.frames),e.mod,e.bs,e.bsz,e.funs,e.frf,e.hok,e.bare⟩
theorem Env0.in1{P:Program}{w:World}{K:PySem.W.Frag}{mg:Str→Option Value}{base:Heap}{A:Around}{outer:List Env}{s:Shared}{H:Hp}(e:Env0 P w K mg base A outer s H) :
  Env0 P w K mg base A.in1 outer s H:=⟨e.frames,e.mod,e.bs,e.bsz,e.funs,e.frf,e.hok,e.bare⟩
section
variable {X:Cx}{pins:List (Addr×Obj)}{σ:St}{H:Hp}{s s':Shared}
theorem Inv.env0(I:Inv X pins σ H s):Env0 X.prog X.w X.K X.mg X.base X.A X.stack s H :=
 ⟨I.ok.frames,I.ok.mod,I.bs,Nat.le_trans I.ok.bsz I.sz,I.stack,I.stkFree,I.hok,I.bare⟩
theorem Inv.after{Q:VK}{u:Value}(I:Inv X pins σ H s)(h:CE X.stack X.prog X.w H s Q u s'):EP X pins σ Q u s':=by obtain⟨v,H',os,bare,un,hok,r,q⟩:=h;obtain⟨hh,g,d,t,os'⟩:=s';obtain rfl:os'=s.os:=os;exact⟨v,H',I.call (h':=hh) (g':=g) (d':=d) (t':=t) (ch:=[]) un hok bare (fun b z=>absurd z (by simp)),r,q⟩
end
def DW (sp:Sp) (dvs:List V) (E:XK) (t:TA):TE:=fun σ H Q=>t σ H fun vs H1=>sp (vs++dvs) H1 Q E
def D0 (C:Addr) (m:Str) (sp:Sp) (dvs:List V) (E:XK) (ta:TE) (t:TA):TE:=fun σ H Q=>ta σ H fun x H1=>∃ a dx fs,x=.ref a∧H1 a=some (.ins C dx fs)∧fs.lookup m=none∧
 t σ H1 fun vs H2=>sp (x::(vs++dvs)) H2 Q E
def G9 (C:Addr) (sp:Sp) (dvs:List V) (E:XK) (t:TA):TE:=fun σ H Q=>t σ H fun vs H1=>∀ x dx,H1 x=none→H1 dx=none→dx≠x→
 sp (.ref x::(vs++dvs)) (upd (upd H1 dx (.own x)) x (.ins C dx [])) (fun v H2=>v=.non∧Q (.ref x) H2) E
def Binds (K:PySem.W.Frag) (fd:FuncData) (ps:List Str) (ds:List Value):Prop :=
 ∀ (s:Shared) (us:List Value),K.In s.heap→(us++ds).length=ps.length→BindsTo s fd ⟨us,[]⟩ (ps.zip (us++ds))
theorem Binds.all{K:PySem.W.Frag}{fd:FuncData}{ps:List Str}(h:∀ us:List Value,us.length=ps.length→bindArgs fd ⟨us,[]⟩=pure (ps.zip us)):Binds K fd ps []:=fun s us _ hl=>by rw[List.append_nil]at hl ⊢;exact .of_eq (h us hl)
def YH (CX:CXT) (X:Cx) (E:XK):Prop:=∀ (pins:List (Addr×Obj)) (σ:St) (H:Hp) (s:Shared) (e:Value) (s':Shared),Inv X pins σ H s→CX X.stack H s E e s'→X.xe e s'
section
variable {X:Cx}{CX:CXT}{k:Nat}{f C:Addr}{fd:FuncData}{ps:List Str}{sp:Sp}{dvs:List V}{ds:List Value}{E:XK}{x m:Str}{p pos apos:Pos}{e o:Expr}{es:List Expr}{ta:TE}{t:TA}
theorem Km{pins:List (Addr×Obj)}{σ:St}{H:Hp}{s:Shared}{Q:VK}{us:List Value}{vs:List V}(F:FnOk X.prog X.w X.K X.mg X.base CX k f fd ps sp)(hr:Room k X.A)(hb:Binds X.K fd ps ds)(hd:Vals dvs ds)(hx:YH CX X E)
  (I:Inv X pins σ H s) (r:Vals vs us) (h:sp (vs++dvs) H Q E):wpAny (model X.prog X.w) X.A (call (.ref f) us) (EP X pins σ Q) X.xe s:=by
 have r2:Vals (vs++dvs) (us++ds):=r.append hd;have hl:(us++ds).length=ps.length:=by rw[←r2.length];exact F.len _ _ _ _ h
 refine wpAny_call (codeAny_mono (F.run X.A X.stack s H ⟨us,[]⟩ (us++ds) (vs++dvs) Q E hr I.env0 (hb s us I.kIn hl) r2 h) fun r s' hq=>?_);cases r with
 |error e=>exact hx pins σ H s e s' I hq
 |ok fl =>
  cases fl with
  |ret u=>exact I.after hq
  |next=>exact False.elim hq
  |brk=>exact False.elim hq
  |cont=>exact False.elim hq
theorem BY(F:FnOk X.prog X.w X.K X.mg X.base CX k f fd ps sp)(hr:Room k X.A)(hg:Gl X x)(hm:X.mg x=some (.ref f))(hk:PySem.W.keepIn X.K (.ref f)=true)(hb:Binds X.K fd ps ds)(hd:Vals dvs ds)(hx:YH CX X E)
  (ha:PA X (e::es) t) (hdb:(x==("__debug__" : Str))=false:=by decide) (he:starEach (e::es) X.env=(false,eval e X.env)::starEach es X.env:=by rfl) (hpl:(backTo pos (starEach es X.env)).any (·.1)=false:=by rfl) :
  PE X (.Call (.Name x p) (e::es) [] pos) (DW sp dvs E t):=by
 intro pins s σ H Q I h;refine wpAny_Call_Name_kw (X9 I hg hm ?_ hdb);refine PySem.W.callWith_K (h₀:=X.base) I.ok.mod.kin hk (thn (ha pos pins s σ H _ I h) fun us s1 ⟨vs,H1,I1,r,q⟩=>⟨I1.kIn,?_⟩) he hpl;exact Km F hr hb hd hx I1 r q
theorem Uh(F:FnOk X.prog X.w X.K X.mg X.base CX k f fd ps sp)(hr:Room k X.A)(hg:Gl X x)(hm:X.mg x=some (.ref f))(hk:PySem.W.keepIn X.K (.ref f)=true)(hb:Binds X.K fd ps ds)(hd:Vals dvs ds)(hx:YH CX X E)
  (hdb:(x==("__debug__" : Str))=false:=by decide):PE X (.Call (.Name x p) [] [] pos) (DW sp dvs E B8):=by
 intro pins s σ H Q I h;refine wpAny_Call_Name_kw (X9 I hg hm ?_ hdb);exact PySem.W.callWith_K0 I.kIn hk (Km (us:=[]) F hr hb hd hx I .nil h)
theorem Cz{pl:Sem Bool}(he:PE X o ta)(c:Cls X.K C)(hm:Meth X.K C m f)(F:FnOk X.prog X.w X.K X.mg X.base CX k f fd ps sp)(hr:Room k X.A)(hb:Binds X.K fd ps ds)(hd:Vals dvs ds)(hx:YH CX X E)(ha:PA X (e::es) t)
  (hst:starEach (e::es) X.env=(false,eval e X.env)::starEach es X.env:=by rfl) (hpl:(backTo pos (starEach es X.env)).any (·.1)=false:=by rfl)
  (ht:eval (.Call (.Attribute o m apos) (e::es) [] pos) X.env=(do
    let ov←eval o X.env
    standAt apos.atName
    let (f,first)←holding [ov] (getMethod ov m pl)
    callWith pos f first (backTo pos (starEach (e::es) X.env)) (backToKw pos (keywordEach [] X.env))):=by rfl) :
  PE X (.Call (.Attribute o m apos) (e::es) [] pos) (D0 C m sp dvs E ta t):=by
 intro pins s σ H Q I h;refine PySem.W.methodCall_KW (pl:=pl) (thn (he pins s σ H _ I h) fun u s1 ⟨x,H1,I1,rx,a,dx,fs,ex,ea,l,q⟩=>?_) ht;subst ex;obtain rfl:u=Value.ref a:=rx;refine WI I1 ea c hm l ?_;refine PySem.W.callWith_K (first:=[.ref a]) (h₀:=X.base) I.ok.mod.kin hm.kp (thn (ha pos pins s1 σ H1 _ I1 q) fun us s2 ⟨vs,H2,I2,r,q2⟩=>⟨I2.kIn,?_⟩) hst hpl;exact Km (us:=.ref a::us) (vs:=.ref a::vs) F hr hb hd hx I2 (.cons rfl r) q2
theorem Um{pl:Sem Bool}(he:PE X o ta)(c:Cls X.K C)(hm:Meth X.K C m f)(F:FnOk X.prog X.w X.K X.mg X.base CX k f fd ps sp)(hr:Room k X.A)(hb:Binds X.K fd ps ds)(hd:Vals dvs ds)(hx:YH CX X E)
  (ht:eval (.Call (.Attribute o m apos) [] [] pos) X.env=(do
    let ov←eval o X.env
    standAt apos.atName
    let (f,first)←holding [ov] (getMethod ov m pl)
    callWith pos f first (backTo pos (starEach [] X.env)) (backToKw pos (keywordEach [] X.env))):=by rfl) :
  PE X (.Call (.Attribute o m apos) [] [] pos) (D0 C m sp dvs E ta B8):=by
 intro pins s σ H Q I h;refine PySem.W.methodCall_KW (pl:=pl) (thn (he pins s σ H _ I h) fun u s1 ⟨x,H1,I1,rx,a,dx,fs,ex,ea,l,q⟩=>?_) ht;subst ex;obtain rfl:u=Value.ref a:=rx;refine WI I1 ea c hm l ?_;exact PySem.W.callWith_K0 (first:=[.ref a]) I1.kIn hm.kp (Km (us:=[.ref a]) (vs:=[.ref a]) F hr hb hd hx I1 (.cons rfl .nil) q)
structure Mk (K:PySem.W.Frag) (C f:Addr):Prop where
 makes:PySem.W.makesIn K C=true
 init:PySem.W.findIn K (.ref C) "__init__" = some (some (.ref f))
 fn:PySem.W.isFn K (.ref f)=true
 kp:PySem.W.keepIn K (.ref C)=true
theorem Bp{pins:List (Addr×Obj)}{σ:St}{H:Hp}{s:Shared}{Q:VK}{us:List Value}{vs:List V}(M:Mk X.K C f)(F:FnOk X.prog X.w X.K X.mg X.base CX k f fd ps sp)(hr:Room (k+1) X.A)(hb:Binds X.K fd ps ds)(hd:Vals dvs ds)
  (hx:YH CX X E) (I:Inv X pins σ H s) (r:Vals vs us)
  (h:∀ x dx,H x=none→H dx=none→dx≠x→sp (.ref x::(vs++dvs)) (upd (upd H dx (.own x)) x (.ins C dx [])) (fun v H2=>v=.non∧Q (.ref x) H2) E) :
  wpAny (model X.prog X.w) X.A (call (.ref C) us) (EP X pins σ Q) X.xe s:=by
 have hq:=h (s.heap.objs.size+1) s.heap.objs.size (I.hok.fresh (Nat.le_succ _)) (I.hok.fresh (Nat.le_refl _)) (Nat.ne_of_lt (Nat.lt_succ_self _));have I2:=Inv.made (C:=C) I;have r2:Vals (V.ref (s.heap.objs.size+1)::(vs++dvs)) (Value.ref (s.heap.objs.size+1)::(us++ds)):=.cons rfl (r.append hd);have hl:(Value.ref (s.heap.objs.size+1)::us++ds).length=ps.length:=by have e:=r2.length;rw[F.len _ _ _ _ hq]at e;exact e.symm
 refine wpAny_call (O6 (f:=f) I.kIn M.makes M.init (beq_iff_eq.mp M.fn) (codeAny_mono (F.run _ X.stack _ _ ⟨Value.ref (s.heap.objs.size+1)::us,[]⟩ (Value.ref (s.heap.objs.size+1)::(us++ds)) _ _ E (hr.make C us [])
   (I2.env0.make C us []) (hb _ (Value.ref (s.heap.objs.size+1)::us) I2.kIn hl) r2 hq) fun r s' hq'=>?_))
 cases r with
 |error e=>exact hx pins σ _ _ e s' I2 hq'
 |ok fl =>
  cases fl with
  |ret u =>obtain⟨v,H',I3,rv,ev,q3⟩:=I2.after hq';subst ev;exact⟨rv,⟨V.ref (s.heap.objs.size+1),H',I3,rfl,q3⟩⟩
  |next=>exact False.elim hq'
  |brk=>exact False.elim hq'
  |cont=>exact False.elim hq'
theorem Cl(M:Mk X.K C f)(F:FnOk X.prog X.w X.K X.mg X.base CX k f fd ps sp)(hr:Room (k+1) X.A)(hg:Gl X x)(hm:X.mg x=some (.ref C))(hb:Binds X.K fd ps ds)(hd:Vals dvs ds)(hx:YH CX X E)
  (ha:PA X (e::es) t) (hdb:(x==("__debug__" : Str))=false:=by decide) (he:starEach (e::es) X.env=(false,eval e X.env)::starEach es X.env:=by rfl) (hpl:(backTo pos (starEach es X.env)).any (·.1)=false:=by rfl) :
  PE X (.Call (.Name x p) (e::es) [] pos) (G9 C sp dvs E t):=by
 intro pins s σ H Q I h;refine wpAny_Call_Name_kw (X9 I hg hm ?_ hdb);refine PySem.W.callWith_K (h₀:=X.base) I.ok.mod.kin M.kp (thn (ha pos pins s σ H _ I h) fun us s1 ⟨vs,H1,I1,r,q⟩=>⟨I1.kIn,?_⟩) he hpl;exact Bp M F hr hb hd hx I1 r q
end
def PK (X:Cx) (kws:List Keyword) (t:TA):Prop :=
 ∀ (pos:Pos) (pins:List (Addr×Obj)) (s:Shared) (σ:St) (H:Hp) (Q:List V→Hp→Prop),Inv X pins σ H s→t σ H Q→wpAny (model X.prog X.w) X.A (evalAll ((backToKw pos (keywordEach kws X.env)).map (·.2))) (AP X pins σ Q) X.xe s
section
variable {X:Cx}{CX:CXT}{k:Nat}{f C:Addr}{fd:FuncData}{ps ks:List Str}{sp:Sp}{E:XK}{x m:Str}{p pos apos kpos:Pos}{e o:Expr}{es:List Expr}{kws:List Keyword}{te ta:TE}{t tk:TA}{nm:Option Str}
structure KBinds (K:PySem.W.Frag) (fd:FuncData) (ps ks:List Str) (g:List Value→List Value→List Value) (gV:List V→List V→List V):Prop where
 to:∀ (s:Shared) (us ws:List Value),K.In s.heap→(g us ws).length=ps.length→BindsTo s fd ⟨us,ks.zip ws⟩ (ps.zip (g us ws))
 rel:∀ {vs:List V}{us:List Value}{zs:List V}{ws:List Value},Vals vs us→Vals zs ws→Vals (gV vs zs) (g us ws)
def Pj (sp:Sp) (gV:List V→List V→List V) (E:XK) (t tk:TA):TE:=fun σ H Q=>t σ H fun vs H1=>tk σ H1 fun zs H2=>sp (gV vs zs) H2 Q E
variable {g:List Value→List Value→List Value}{gV:List V→List V→List V}
end
structure FnScope (N P:List Str) (sc:Scope):Prop where
 kind:sc.kind=.function
 co:sc.isCoroutine=false
 gen:sc.isGenerator=false
 nd:N.Nodup
 pre:N.take P.length=P
 par:∀ x∈P,sc.names.lookup x=some .local∨sc.names.lookup x=some .cell
 nofree:∀ y∈sc.names,y.2≠.free
theorem JK{kindOf:Str→Option NameKind}{x:Str}:∀ {binds:List (Str×Value)}{m:Str→Option Value},(∀ v,(x,v)∉binds)→bindL kindOf binds m x=m x
 |[],_,_=>rfl
 |(n,v)::r,m,h=>by
  unfold bindL;rw[JK fun w hw=>h w (List.mem_cons_of_mem _ hw)];split
  ·have:x≠n:=by rintro rfl;exact h v List.mem_cons_self
   simp[this]
  ·rfl
theorem Jv{kindOf:Str→Option NameKind}{x:Str}:∀ {binds:List (Str×Value)}{m:Str→Option Value},(∀ v,(x,v)∉binds)→bindC kindOf binds m x=m x
 |[],_,_=>rfl
 |(n,v)::r,m,h=>by
  unfold bindC;rw[Jv fun w hw=>h w (List.mem_cons_of_mem _ hw)];split
  ·rfl
  ·have:x≠n:=by rintro rfl;exact h v List.mem_cons_self
   simp[this]
theorem JG{kindOf:Str→Option NameKind}{x:Str}{v:Value}:∀ {P:List Str}{vs:List Value}{i:Nat}{m:Str→Option Value},P.Nodup→P[i]?=some x→vs[i]?=some v→kindOf x=some .local→
  bindL kindOf (P.zip vs) m x=some v
 |[],_,_,_,_,h,_,_=>by simp at h
 |_::_,[],_,_,_,_,h,_=>by simp at h
 |p::P,w::vs,0,m,nd,h1,h2,hk=>by simp at h1 h2;subst h1;subst h2;show bindL kindOf ((p,w)::P.zip vs) m p=_;unfold bindL;rw[JK fun v hv=>(List.nodup_cons.mp nd).1 (List.of_mem_zip hv).1,if_pos hk];simp
 |p::P,w::vs,i+1,m,nd,h1,h2,hk=>by show bindL kindOf ((p,w)::P.zip vs) m x=_;unfold bindL;exact JG (i:=i) (List.nodup_cons.mp nd).2 (by simpa using h1) (by simpa using h2) hk
theorem JQ{kindOf:Str→Option NameKind}{x:Str}{v:Value}:∀ {P:List Str}{vs:List Value}{i:Nat}{m:Str→Option Value},P.Nodup→P[i]?=some x→vs[i]?=some v→kindOf x≠some .local→
  bindC kindOf (P.zip vs) m x=some v
 |[],_,_,_,_,h,_,_=>by simp at h
 |_::_,[],_,_,_,_,h,_=>by simp at h
 |p::P,w::vs,0,m,nd,h1,h2,hk=>by simp at h1 h2;subst h1;subst h2;show bindC kindOf ((p,w)::P.zip vs) m p=_;unfold bindC;rw[Jv fun v hv=>(List.nodup_cons.mp nd).1 (List.of_mem_zip hv).1,if_neg hk];simp
 |p::P,w::vs,i+1,m,nd,h1,h2,hk=>by show bindC kindOf ((p,w)::P.zip vs) m x=_;unfold bindC;exact JQ (i:=i) (List.nodup_cons.mp nd).2 (by simpa using h1) (by simpa using h2) hk
def start (N:List Str) (vs:List V):St:=vs.map some++List.replicate (N.length - vs.length) none
def Jf (CX:CXT) (P:Program) (w:World) (K:PySem.W.Frag) (mg:Str→Option Value) (base:Heap) (N:List Str) (qual:Str) (scope:Scope) (f:Addr) (cd:Value) (A:Around) (outer:List Env) (s:Shared) (H:Hp) (E:XK):Cx where
 prog:=P
 w:=w
 K:=K
 mg:=mg
 base:=base
 A:=A.deeper (envOfC qual scope s.heap.objs.size f cd)
 N:=N
 s₀:=s
 H₀:=H
 env:=envOfC qual scope s.heap.objs.size f cd
 outer:=outer
 stack:=envOfC qual scope s.heap.objs.size f cd::outer
 ex:=[]
 calm:=true
 fn:=fun _=>true
 pn:=[]
 xe:=fun e s'=>wpAny (model P w) (A.deeper (envOfC qual scope s.heap.objs.size f cd)) (leaving (envOfC qual scope s.heap.objs.size f cd) e) (fun _ s''=>CX outer H s E e s'') (fun e' s''=>CX outer H s E e' s'') s'
theorem KI{sc:Scope}{n:Nat}{x:Str}(h:sc.names.lookup x=some .cell):∃ c,(cellsFrom n sc.names []).lookup x=some c:=by have q:=PySem.W.cellsFrom_some sc.names n [] (.inl h);exact Option.isSome_iff_exists.mp q
theorem OI{CX:CXT}{P:Program}{w:World}{K:PySem.W.Frag}{mg:Str→Option Value}{base:Heap}{N ps:List Str}{qual:Str}{scope:Scope}{f:Addr}{cd:Value}{A:Around}{outer:List Env}{s s1:Shared}{H:Hp}{E:XK}{us:List Value}{vs:List V}
  (S:FnScope N ps scope) (hd:A.handled=none) (e0:Env0 P w K mg base A outer s H) (hl:vs.length=ps.length) (r:Vals vs us)
  (x:InCallC s s.heap.objs.size (bindL (envOfC qual scope s.heap.objs.size f cd).kindOf (ps.zip us) fun _=>none) (cellsFrom (s.heap.objs.size+1) scope.names []) (bindC (envOfC qual scope s.heap.objs.size f cd).kindOf (ps.zip us) fun _=>none) s1) :
  Inv (Jf CX P w K mg base N qual scope f cd A outer s H E) [] (start N vs) H s1:=by
 have hpl:ps.length≤N.length:=by have:=congrArg List.length S.pre;rw[List.length_take]at this;omega
 obtain⟨h1,tk,rfl,hk⟩:=x.done;have noA:∀ b:Addr,b∉(Jf CX P w K mg base N qual scope f cd A outer s H E).ex:=fun b z=>absurd (show b∈([]:List Addr) from z) (by simp);refine⟨⟨e0.mod,S.kind,rfl,rfl,Nat.le_refl _,fun y z c h1 h2=>?_,fun y hy=>?_,fun y c _ h=>?_,fun _=>hd,Around.frames_deeper e0.frames,.inr ⟨rfl,rfl⟩,fun b z=>absurd z (noA b),e0.bs,e0.bsz,fun b _ _=>noA b,fun b z=>absurd z (noA b),e0.funs,e0.frf⟩,
   rfl,e0.bare,Un.kept hk,⟨_,x.toInCall.ns,fun i y v h1 h2 h3=>?_⟩,fun y c h=>⟨_,x.cell y c h⟩,e0.hok.fresh (Nat.le_refl _),fun y c h=>?_,fun p hp=>absurd (show p∈([]:List (Addr×Obj)) from hp) (by simp),e0.hok.kept hk,?_⟩
 ·exact name_of_addr x.apart (PySem.mem_of_lookup h1) (PySem.mem_of_lookup h2)
 ·have hy:scope.names.lookup y=some .cell∨scope.names.lookup y=some .free:=hy;rcases hy with hy|hy
  ·exact KI hy
  ·exact absurd rfl (S.nofree _ (PySem.mem_of_lookup hy))
 ·exact Nat.le_of_lt (x.above y c (PySem.mem_of_lookup h))
 ·have hi:i<vs.length:=by
   unfold start at h2;by_cases hi:i<vs.length
   ·exact hi
   ·rw[List.getElem?_append_right (by simpa using hi)]at h2;rw[List.getElem?_replicate]at h2;split at h2<;>cases h2
  have ha:vs[i]?=some v:=by
   unfold start at h2;rw[List.getElem?_append_left (by simpa using hi),List.getElem?_map]at h2;cases e:vs[i]? with
   |none=>rw[e]at h2;cases h2
   |some a=>rw[e]at h2;cases h2;rfl
  obtain⟨u,hu,rv⟩:=r.get ha;have hp:ps[i]?=some y:=by rw[←S.pre,List.getElem?_take_of_lt (by omega)];exact h1
  have ndP:ps.Nodup:=by rw[←S.pre];exact S.nd.sublist (List.take_sublist _ _)
  refine⟨u,rv,?_⟩;rcases S.par y (List.mem_of_getElem? hp)with k|k
  ·exact .inl ⟨k,JG ndP hp hu k⟩
  ·obtain⟨c,e⟩:=KI (n:=s.heap.objs.size+1) k;refine .inr ⟨.inl k,c,e,?_⟩;have q:=x.cell y c e;rw[JQ ndP hp hu (by show scope.names.lookup y≠_;rw[k];decide)]at q;exact q
 ·exact e0.hok.fresh (Nat.le_of_lt (x.above y c (PySem.mem_of_lookup h)))
 ·unfold start;show _=N.length;rw[List.length_append,List.length_map,List.length_replicate];omega
theorem Ec{CX:CXT}{P:Program}{w:World}{K:PySem.W.Frag}{mg:Str→Option Value}{base:Heap}{k:Nat}{f:Addr}{name qual:Str}{params:Arguments}{body:List Stmt}{scope:Scope}{dV kV doc pm cdv ct oc:Value}{an od:Option Addr}
  {osl:Array (Option Value)}{N ps:List Str}{sp:Sp}(lk:K.lookup f=some ⟨oc,od,.func (PySem.W.fnOf name qual params body scope dV kV doc pm an cdv ct),osl⟩) (hcd:PySem.W.codeIn K cdv qual=true) (S:FnScope N ps scope)
  (len:∀ vs H Q E,sp vs H Q E→vs.length=ps.length)
  (hbody:∀ (A:Around) (outer:List Env) (s:Shared) (H:Hp) (vs:List V) (Q:VK) (E:XK),Room k (A.deeper (envOfC qual scope s.heap.objs.size f cdv))→sp vs H Q E→
    ∃ t,PSs (Jf CX P w K mg base N qual scope f cdv A outer s H E) body t∧t { nx:=fun _ H'=>Q .non H',rt:=Q } (start N vs) H) :
  FnOk P w K mg base CX (k+1) f (PySem.W.fnOf name qual params body scope dV kV doc pm an cdv ct) ps sp:=by
 refine⟨len,fun A outer s H args us vs Q E hr e0 hb r hsp=>?_⟩;have hl:=len _ _ _ _ hsp;have KX:K.In s.heap:=e0.mod.kin.keeps fun b o e=>(e0.bs b o e).1;have lim:s.heap.NoLimit:=e0.mod.nolimit.keeps fun b o e=>(e0.bs b o e).1;have hkind:∀ y∈ps.zip us,scope.names.lookup y.1=some .local∨(scope.names.lookup y.1=some .cell∧((cellsFrom (s.heap.objs.size+1) scope.names []).lookup y.1).isSome=true):=fun⟨n,v⟩ hy=>by
  rcases S.par n (List.of_mem_zip hy).1 with q|q
  ·exact .inl q
  ·exact .inr ⟨q,PySem.W.cellsFrom_some _ _ _ (.inl q)⟩
 refine codeAny_call_function hr.depth (KX _ _ lk) rfl S.co S.gen rfl (PySem.W.codeRec_of KX hcd) (hb _ _ _ _ ?_);refine wpAny_newFunctionEnv_cells S.kind hkind fun env he s1 x=>?_;subst he;refine⟨lim.keeps x.toInCall.keep,codeAny_func ?_⟩;obtain⟨t,ht,hq⟩:=hbody A outer s H vs Q E (hr.deeper _) hsp;have I:Inv (Jf CX P w K mg base N qual scope f cdv A outer s H E) [] (start N vs) H s1:=OI S hr.hd e0 hl r x;refine wpAny_mono (ht [] s1 (start N vs) H _ I hq) (fun fl s' hs=>?_) fun e s' hs=>hs;have fin:∀ {σ':St}{H':Hp}{v:V}{u:Value},Inv (Jf CX P w K mg base N qual scope f cdv A outer s H E) [] σ' H' s'→RelV v u→Q v H'→CE outer P w H s Q u s' :=
  fun {σ' H' v u} J rv q=>⟨v,H',J.os,J.bare,J.base,J.hok,rv,q⟩
 cases fl with
 |ret u =>obtain⟨v,σ',H',J,rv,q⟩:=hs;exact fin J rv q
 |next =>obtain⟨σ',H',J,q⟩:=hs;exact fin (v:=V.non) (u:=Value.none) J rfl q
 |brk =>obtain⟨_,_,_,q⟩:=hs;exact False.elim q
 |cont =>obtain⟨_,_,_,q⟩:=hs;exact False.elim q
section
variable {X:Cx}{x:Str}{p pos:Pos}{e:Expr}{es:List Expr}{t:TA}{id T:String}{r:List V→Hp→VK→Prop}
def tCB (r:List V→Hp→VK→Prop) (t:TA):TE:=fun σ H Q=>t σ H fun vs H1=>r vs H1 Q
theorem Yn (hc:CallR X (.builtin id) r) (hg:Gl X x) (hm:X.mg x=none) (hv:bootBuiltins x=some (.builtin id)) (ha:PA X (e::es) t) (hn:x≠"__name__":=by decide) (hdb:(x==("__debug__" : Str))=false:=by decide)
  (he:starEach (e::es) X.env=(false,eval e X.env)::starEach es X.env:=by rfl) (hpl:(backTo pos (starEach es X.env)).any (·.1)=false:=by rfl):PE X (.Call (.Name x p) (e::es) [] pos) (tCB r t):=by
 intro pins s σ H Q I h;refine wpAny_Call_Name_kw (YG I hg hm hv ?_ hn hdb);exact PyProof.Rows.callWith_builtin1 (thn (ha pos pins s σ H _ I h) fun us s1 ⟨vs,H1,I1,r1,q1⟩=>hc pins s1 σ H1 vs us Q I1 r1 q1) he hpl
theorem JP (hc:CallR X (.type T) r) (hg:Gl X x) (hm:X.mg x=none) (hv:bootBuiltins x=some (.type T)) (ha:PA X (e::es) t) (hn:x≠"__name__":=by decide) (hdb:(x==("__debug__" : Str))=false:=by decide)
  (he:starEach (e::es) X.env=(false,eval e X.env)::starEach es X.env:=by rfl) (hpl:(backTo pos (starEach es X.env)).any (·.1)=false:=by rfl):PE X (.Call (.Name x p) (e::es) [] pos) (tCB r t):=by
 intro pins s σ H Q I h;refine wpAny_Call_Name_kw (YG I hg hm hv ?_ hn hdb);exact PyProof.Rows.callWith_type1 (thn (ha pos pins s σ H _ I h) fun us s1 ⟨vs,H1,I1,r1,q1⟩=>hc pins s1 σ H1 vs us Q I1 r1 q1) he hpl
end
end L2
namespace HT
open PySem PyProof.Rows
def lexLt:List Int→List Int→Bool
 |[],[]=>false
 |[],_::_=>true
 |_::_,[]=>false
 |x::xs,y::ys=>if x=y then lexLt xs ys else decide (x<y)
theorem lexLt_cons(x y:Int)(xs ys:List Int):lexLt (x::xs) (y::ys)=if x=y then lexLt xs ys else decide (x<y):=rfl
theorem Jc:lexLt [] []=false:=rfl
theorem Wo(y:Int)(ys:List Int):lexLt [] (y::ys)=true:=rfl
theorem Wh(x:Int)(xs:List Int):lexLt (x::xs) []=false:=rfl
theorem eqAt_int(A:Around)(s:Shared)(a:Int)(t:Tok)(c:Int)(u:Tok):∃ e,SeqAt.EqAt A s (.int a t) (.int c u) e∧(e=true↔a=c) :=
 ⟨(a==c),SeqAt.EqAt.int_int a t c u,by simp⟩
theorem UI(A:Around)(s:Shared)(a:Int)(t:Tok)(c:Int)(u:Tok)(prog:Program)(w:World)(E:Value→Shared→Prop)(Q:Value→Shared→Prop)(h:Q (.bool (decide (a<c))) s) :
  wpAny (model prog w) A (richCompare .Lt (.int a t) (.int c u)) Q E s :=
 (PyProof.Rows.lt_int h:wpAny (model prog w) A (compareOp .Lt (.int a t) (.int c u)) Q E s)
section
open PySem.SeqAt
open PySem.AutoSeq1 (wpAny_loadPart')
open PySem.MeetsSeq PySem.MeetsSeq2 PySem.MeetsSeq3
theorem Jh(l b:Addr)(items items2:Array Value)(n n2:Nat)(dd dd2:Option Addr)(sl sl2:Array (Option Value))(ns ms:List Int)(hi:IntsAre items.toList ns)(hj:IntsAre items2.toList ms) :
  Meets (Builtin.«tuple.__lt__» ⟨[.ref l,.ref b],[]⟩)
   (fun _ R s=>s.heap.get? l=some { cls:=.type "tuple",dict:=dd,data:=.seq items n,slots:=sl }∧s.heap.get? b=some { cls:=.type "tuple",dict:=dd2,data:=.seq items2 n2,slots:=sl2 }∧
     R (.ok (.ret (.bool (lexLt ns ms)))) s) :=
 .of_wp fun prog w A R s h=>by
  obtain⟨hp,g,d,tk,os⟩:=s;obtain⟨hl,hb,h⟩:=h;have f2:=AutoSeq1.sub_tuple_tuple;have z1:items.size=ns.length:=by rw[←hi.length];simp
  have z2:items2.size=ms.length:=by rw[←hj.length];simp
  wp_walk using wpAny_loadPart' hl,wpAny_loadPart' hb,wpAny_forIn_list _ (fun rest b s'=>b.1=none∧s'=⟨hp,g,d,tk,os⟩∧∃ (vs ws:List Value) (ns' ms':List Int),rest=vs.zip ws∧
    IntsAre vs ns'∧IntsAre ws ms'∧ns'.length+items2.size=ms'.length+items.size∧R (.ok (.ret (.bool (lexLt ns' ms')))) ⟨hp,g,d,tk,os⟩) _
  case turn =>
   rintro⟨y,x⟩ rest b s' ⟨hb',rfl,vs,ws,ns',ms',hz,hvi,hwi,hlen,hR⟩;cases hvi with
   |nil=>rw[List.zip_nil_left]at hz;cases hz
   |cons a t hvi' =>
    cases hwi with
    |nil=>rw[List.zip_nil_right]at hz;cases hz
    |cons c u hwi' =>
     rw[List.zip_cons_cons]at hz;injection hz with hyx hrest;injection hyx with hy hx;subst hy hx;rw[lexLt_cons]at hR;simp only[List.length_cons]at hlen;obtain⟨e,he,hiff⟩:=eqAt_int A.in1 ⟨hp,g,d,tk,os⟩ a t c u;refine wpAny_bind (he prog w _ _ ?_);cases e with
     |true =>
      rw[if_pos (hiff.mp rfl)]at hR
      wp_walk
      exact⟨rfl,rfl,_,_,_,_,hrest,hvi',hwi',by omega,hR⟩
     |false =>
      rw[if_neg (fun q=>absurd (hiff.mpr q) Bool.false_ne_true)]at hR;have hri:=UI A.in1 ⟨hp,g,d,tk,os⟩ a t c u prog w
      wp_walk using hri
      exact⟨_,rfl,by simpa using hR⟩
  case fin =>
   rintro⟨b1,b2⟩ s' ⟨hb',rfl,vs,ws,ns',ms',hz,hvi,hwi,hlen,hR⟩;simp only at hb';subst hb';have hv:lexLt ns' ms'=decide (items.size<items2.size):=by
    cases hvi with
    |nil =>
     cases hwi with
     |nil =>simp only[List.length_nil]at hlen;rw[Jc];exact(decide_eq_false (by omega)).symm
     |cons c u hw =>simp only[List.length_nil,List.length_cons]at hlen;rw[Wo];exact(decide_eq_true (by omega)).symm
    |cons a t hv =>
     cases hwi with
     |nil =>simp only[List.length_nil,List.length_cons]at hlen;rw[Wh];exact(decide_eq_false (by omega)).symm
     |cons c u hw =>rw[List.zip_cons_cons]at hz;cases hz
   rw[hv]at hR
   wp_walk
   exact⟨_,rfl,by simpa[Builtin.Tuple.tupleCompareSizes]using hR⟩
  case h =>exact⟨rfl,rfl,items.toList,items2.toList,ns,ms,rfl,hi,hj,by omega,h⟩
end
section
variable {prog:Program}{w:World}{A:Around}{E:Value→Shared→Prop}{s:Shared}
theorem lt_tupInts{l b:Addr}{items items2:Array Value}{ns ms:List Int}{Q:Value→Shared→Prop}(hl:IsTup s.heap l items)(hb:IsTup s.heap b items2)(hi:IntsAre items.toList ns)(hj:IntsAre items2.toList ms)
  (hu:A.units<cLine) (h:Q (.bool (lexLt ns ms)) s):wpAny (model prog w) A (compareOp .Lt (.ref l) (.ref b)) Q E s:=by
 obtain⟨⟨cls,dd,data,sl⟩,ho,hc,n,hd⟩:=id hl;obtain⟨⟨cls2,dd2,data2,sl2⟩,ho2,hc2,n2,hd2⟩:=id hb;simp only at hc hd hc2 hd2;subst hc hd hc2 hd2;exact richCompare_meets_room (op:=.Lt) ⟨_,ho,rfl⟩ ⟨_,ho2,rfl⟩ PySem.F.slot_tuple_lt PySem.F.entry_tuple_lt (PySem.F.args_tuple_lt_2 _ _) (Jh l b items items2 n n2 dd dd2 sl sl2 ns ms hi hj)
  ⟨ho,ho2,show Value.bool (lexLt ns ms)≠Value.notImplemented∧Q (.bool (lexLt ns ms)) s from ⟨(fun x=>nomatch x),h⟩⟩ hu
theorem cat_tup{t b:Addr}{vs ws:List Value}{Q:Value→Shared→Prop}(ht:IsTup s.heap t vs.toArray)(hb:IsTup s.heap b ws.toArray)(hv:vs≠[])
  (h1:ws=[]→Q (.ref t) s) (h2:ws≠[]→Q (.ref s.heap.objs.size) {s with heap:=s.heap.push {cls:=.type "tuple",data:=.seq (vs++ws).toArray}})
  (hsz:vs.length+ws.length≤sizeLine):wpAny (model prog w) A (binaryOp .Add (.ref t) (.ref b)) Q E s:=by
 obtain⟨⟨cls,dd,data,sl⟩,ho,hc,n,hd⟩:=id ht;obtain⟨⟨cls2,dd2,data2,sl2⟩,ho2,hc2,n2,hd2⟩:=id hb;simp only at hc hd hc2 hd2;subst hc hd hc2 hd2;have e:vs.toArray++ws.toArray=(vs++ws).toArray:=by simp
 by_cases hw:ws=[]
 ·exact concat_meets ⟨_,ho,rfl⟩ ⟨_,ho2,rfl⟩ noFill_tuple_add seq_tuple_add PySem.F.slot_tuple_add PySem.F.entry_tuple_add (PySem.F.args_tuple_add_2 _ _)
   (tuple_addW1 t b vs.toArray ws.toArray n n2 dd dd2 sl sl2 (by simpa using hv) (by simp[hw])) ⟨ho,ho2,h1 hw⟩
 ·refine concat_meets ⟨_,ho,rfl⟩ ⟨_,ho2,rfl⟩ noFill_tuple_add seq_tuple_add PySem.F.slot_tuple_add PySem.F.entry_tuple_add (PySem.F.args_tuple_add_2 _ _)
   (tuple_addW2 t b vs.toArray ws.toArray n n2 dd dd2 sl sl2 (by simpa using hv) (by simpa using hw) (by rw[List.size_toArray,List.size_toArray];exact hsz)) ⟨ho,ho2,?_⟩
  rw[e];exact h2 hw
def sIx (n d:Nat):Option Int→Nat
 |none=>d
 |some v=>if v<0 then(v+(n:Int)).toNat else min v.toNat n
theorem Gz(n d:Nat)(hd:d≤n)(o:Option Int):sIx n d o≤n:=by
 cases o with
 |none=>exact hd
 |some v =>
  show(if v<0 then(v+(n:Int)).toNat else min v.toNat n)≤n;by_cases hv:v<0
  ·rw[if_pos hv];omega
  ·rw[if_neg hv];exact Nat.min_le_right _ _
theorem clip_eq(v:Int)(n d:Nat):(if v<0 then max (v+(n:Int)) 0 else min v (n:Int))=((sIx n d (some v):Nat):Int):=by
 show(if v<0 then max (v+(n:Int)) 0 else min v (n:Int))=(((if v<0 then(v+(n:Int)).toNat else min v.toNat n):Nat):Int)
 by_cases hv:v<0
 ·simp only[if_pos hv];omega
 ·simp only[if_neg hv];omega
theorem MP(lo hi:Option Int)(n:Nat):Builtin.Slice.sliceAdjust lo hi 1 (n:Int)=(((sIx n 0 lo:Nat):Int),((sIx n n hi:Nat):Int)):=by
 have h1:¬ ((1:Int)<0):=by omega
 unfold Builtin.Slice.sliceAdjust;simp only[h1,if_false];refine Prod.ext ?_ ?_
 ·cases lo with
  |none=>rfl
  |some v=>exact clip_eq v n 0
 ·cases hi with
  |none=>rfl
  |some v=>exact clip_eq v n n
theorem M3(i j:Nat):Builtin.Slice.slicePlaces (i:Int) (j:Int) 1=j - i:=by
 unfold Builtin.Slice.slicePlaces;have h1:(1:Int) > 0:=by omega
 simp only[h1,if_true,Int.ediv_one];split<;>omega
theorem Wq{v:Value}{o:Option Int}{Q:Option Int→Shared→Prop}(p:IsPart v o)(h:Q o s):wpAny (model prog w) A (Builtin.Slice.slicePartIndex v) Q E s:=by
 cases p with
 |none=>exact slicePart_none h
 |int i t=>exact slicePart_int h
theorem XD{sl:Addr}{vl vu:Value}{lo hi:Option Int}{n:Nat}{Q:Int×Int×Nat→Shared→Prop}(hs:s.heap.IsSliceOf sl vl vu .none)(pl:IsPart vl lo)(pu:IsPart vu hi)
  (h:Q (((sIx n 0 lo:Nat):Int),1,sIx n n hi - sIx n 0 lo) s):wpAny (model prog w) A (Builtin.Slice.sliceApplied (.ref sl) (pure (n:Int))) Q E s:=by
 obtain⟨os,hos,hcs,hds⟩:=id hs;unfold Builtin.Slice.sliceApplied Builtin.Slice.sliceFields;refine wpAny_bind (wpAny_bind (wpAny_field hos hds (x:=vl) rfl (wpAny_bind (wpAny_field hos hds (x:=vu) rfl (wpAny_bind (wpAny_field hos hds (x:=.none) rfl (wpAny_pure ?_)))))));refine wpAny_bind (slicePart_none ?_);show wpAny _ _ (if((1:Int)==0)=true then _ else _) _ _ s;rw[if_neg (by decide)];refine wpAny_bind (Wq pl (wpAny_bind (Wq pu (wpAny_bind (wpAny_pure ?_)))));show wpAny _ _ (match Builtin.Slice.sliceAdjust lo hi 1 (n:Int)with|(lo,hi)=>pure (lo,(1:Int),Builtin.Slice.slicePlaces lo hi 1)) _ _ s;rw[MP lo hi n];show wpAny _ _ (pure (((sIx n 0 lo:Nat):Int),(1:Int),Builtin.Slice.slicePlaces ((sIx n 0 lo:Nat):Int) ((sIx n n hi:Nat):Int) 1)) _ _ s;rw[M3];exact wpAny_pure h
theorem O7(xs:Array Value)(i k:Nat):((List.range k).filterMap fun(m:Nat)=>xs[((i:Int)+(m:Int)*1).toNat]?).toArray=((xs.toList.drop i).take k).toArray:=by
 have e:(fun(m:Nat)=>xs[((i:Int)+(m:Int)*1).toNat]?)=fun m=>xs[i+m]?:=by
  funext m;have:((i:Int)+(m:Int)*1).toNat=i+m:=by omega
  rw[this]
 rw[e];have:=pick_run xs i k;rw[List.filterMap_map]at this;have e2:((fun x=>xs[x]?) ∘ fun x=>i+x)=fun m=>xs[i+m]?:=rfl;rw[e2]at this;rw[this]
theorem getItem_tuple_cut{t sl:Addr}{items:Array Value}{vl vu:Value}{lo hi:Option Int}{Q:Value→Shared→Prop}(ht:IsTup s.heap t items)(hs:s.heap.IsSliceOf sl vl vu .none)(pl:IsPart vl lo)(pu:IsPart vu hi)
  (hw:¬ (sIx items.size 0 lo=0∧sIx items.size items.size hi=items.size))
  (h:Q (.ref s.heap.objs.size) {s with heap:=s.heap.push {cls:=.type "tuple",data:=.seq ((items.toList.drop (sIx items.size 0 lo)).take (sIx items.size items.size hi - sIx items.size 0 lo)).toArray}})
  (hsz:items.size≤sizeLine):wpAny (model prog w) A (getItem (.ref t) (.ref sl)) Q E s:=by
 have htake:sizeOk (.seq ((items.toList.drop (sIx items.size 0 lo)).take (sIx items.size items.size hi - sIx items.size 0 lo)).toArray):=by show((items.toList.drop (sIx items.size 0 lo)).take (sIx items.size items.size hi - sIx items.size 0 lo)).toArray.size≤sizeLine;rw[List.size_toArray,List.length_take,List.length_drop,Array.length_toList];omega
 have hj:sIx items.size items.size hi≤items.size:=Gz _ _ (Nat.le_refl _) hi;obtain⟨os,hos,hcs,hds⟩:=id hs;have hTs:s.TypeIs (.ref sl) "slice":=⟨os,hos,hcs⟩
 unfold getItem
 try with_reducible refine wpAny_holding ?_
 first|refine wpAny_bind (wpAny_pure ?_)|skip
 refine wpAny_bind (wpAny_sequenceKey ht.typeIs (by decide) ?_);refine wpAny_bind (wpAny_callSpecial?_slot (name:=Str.ofString "__getitem__") ht.typeIs PyProof.Rows.slot_tuple_getitem
   (wpAny_call_entry PyProof.Rows.slot_tuple_getitem ht.typeIs entry_tuple_getitem ?_ (args_tuple_getitem _ _)))
 show wpAny _ _ (Builtin.Tuple.tupleItemsOf (.ref t) >>= _) _ _ s;refine wpAny_bind (tupleItemsOf_ ht ?_);refine wpAny_bind (wpAny_typeOf hTs ?_);rw[if_pos (by decide)];refine wpAny_bind (XD hs pl pu ?_);have hno:¬ ((((sIx items.size 0 lo:Nat):Int)==0&&(1:Int)==1&&(sIx items.size items.size hi - sIx items.size 0 lo)==items.size)=true):=by intro q;rw[bAq,bAq]at q;have q1:((sIx items.size 0 lo:Nat):Int)=0:=eq_of_beq q.1.1;have q2:sIx items.size items.size hi - sIx items.size 0 lo=items.size:=eq_of_beq q.2;exact hw ⟨by omega,by omega⟩
 show wpAny _ _ (if(((sIx items.size 0 lo:Nat):Int)==0&&(1:Int)==1&&(sIx items.size items.size hi - sIx items.size 0 lo)==items.size)=true then _ else _) _ _ s;rw[if_neg hno,O7]
 first
  |exact wpAny_bind (m:=Builtin.Tuple.tupleExact _) (wpAny_newObj_type (wpAny_pure ⟨_,rfl,wpAny_pure h⟩) htake)
  |exact wpAny_bind (m:=Builtin.Tuple.tupleExact _) (wpAny_newObj_type (wpAny_bind (wpAny_pure (wpAny_pure ⟨_,rfl,wpAny_pure h⟩))) htake)
  |exact wpAny_bind (wpAny_bind (m:=Builtin.Tuple.tupleExact _) (wpAny_newObj_type (wpAny_pure (wpAny_pure ⟨_,rfl,wpAny_pure h⟩)) htake))
  |exact wpAny_bind (wpAny_bind (m:=Builtin.Tuple.tupleExact _) (wpAny_newObj_type (wpAny_pure ⟨_,rfl,wpAny_pure h⟩) htake))
end
end HT
namespace L2
open PySem PySem.Spec PyProof.Rows
abbrev TO:=St→Hp→(Option Int→Hp→Prop)→Prop
def PO (X:Cx) (e:Option Expr) (t:TO):Prop :=
 ∀ (pins:List (Addr×Obj)) (s:Shared) (σ:St) (H:Hp) (Q:Option Int→Hp→Prop),Inv X pins σ H s→t σ H Q→
  wpAny (model X.prog X.w) X.A (evalPart e X.env) (fun u s'=>∃ o H',Inv X pins σ H' s'∧IsPart u o∧Q o H') X.xe s
def CD:TO:=fun _ H Q=>Q none H
def He (t:TE):TO:=fun σ H Q=>t σ H fun x H1=>∃ i,x=.int i∧Q (some i) H1
theorem ZL{ns:List Int}:∀ {us:List Value},Vals (ns.map V.int) us→IntsAre us ns:=by
 induction ns with
 |nil=>intro us r;rw[List.map_nil]at r;cases r;exact .nil
 |cons n ns ih =>
  intro us r;rw[List.map_cons]at r;cases r with
  |cons r1 r2 =>obtain⟨t,e⟩:=r1;subst e;exact .cons n t (ih r2)
section
variable {X:Cx}{e:Expr}{te:TE}{lo hi:Option Expr}{tl th:TO}{pos p2:Pos}
theorem po_none:PO X none CD:=by intro pins s σ H Q I h;rw[evalPart_none];exact wpAny_pure ⟨none,H,I,.none,h⟩
theorem CA(h:PE X e te):PO X (some e) (He te):=by intro pins s σ H Q I hw;rw[evalPart_some];refine thn (h pins s σ H _ I hw) fun u s1 ⟨x,H1,I1,r1,q1⟩=>?_;obtain⟨i,rfl,q⟩:=q1;obtain⟨t,rfl⟩:=r1;exact⟨some i,H1,I1,.int i t,q⟩
def SlR (X:Cx) (r:V→Option Int→Option Int→Hp→VK→Prop):Prop :=
 ∀ (pins:List (Addr×Obj)) (s:Shared) (σ:St) (H:Hp) (x:V) (v vl vu:Value) (lo hi:Option Int) (sl:Addr) (Q:VK),Inv X pins σ H s→RelV x v→s.heap.IsSliceOf sl vl vu .none→IsPart vl lo→IsPart vu hi→r x lo hi H Q→
  ∃ T id,typeLookup (.type T) "__getitem__" = pure (some (.builtin id))∧s.TypeIs v T∧wpAny (model X.prog X.w) X.A (getItem v (.ref sl)) (EP X pins σ Q) X.xe s
theorem SlR.or{r r':V→Option Int→Option Int→Hp→VK→Prop}(h:SlR X r)(h':SlR X r'):SlR X (fun x lo hi H Q=>r x lo hi H Q∨r' x lo hi H Q):=by
 intro pins s σ H x v vl vu lo hi sl Q I rx hs pl pu q;rcases q with q|q
 ·exact h pins s σ H x v vl vu lo hi sl Q I rx hs pl pu q
 ·exact h' pins s σ H x v vl vu lo hi sl Q I rx hs pl pu q
def tSl (r:V→Option Int→Option Int→Hp→VK→Prop) (te:TE) (tl th:TO):TE:=fun σ H Q=>te σ H fun x H1=>tl σ H1 fun l H2=>th σ H2 fun u H3=>r x l u H3 Q
theorem AM {r:V→Option Int→Option Int→Hp→VK→Prop}(hr:SlR X r) (he:PE X e te) (hl:PO X lo tl) (hu:PO X hi th):PE X (.Subscript e (.Slice lo hi none p2) pos) (tSl r te tl th):=by intro pins s σ H Q I h;refine Subscript_ (thn (he pins s σ H _ I h) fun v s1 ⟨x,H1,I1,r1,q1⟩=>?_);refine wpAny_Slice (thn (hl pins s1 σ H1 _ I1 q1) fun vl s2 ⟨l,H2,I2,pl,q2⟩=>thn (hu pins s2 σ H2 _ I2 q2) fun vu s3 ⟨u,H3,I3,pu,q3⟩=>?_);rw[evalPart_none];refine wpAny_pure ?_;have I4:Inv X pins σ H3 {s3 with heap:=s3.heap.push {cls:=.type "slice",data:=.fields #[vl,vu,.none]}}:=I3.kept (t':=s3.toks) fun b ob q=>Heap.get?_push_of_some _ q;obtain⟨T,id,hT,ht,hg⟩:=hr pins {s3 with heap:=s3.heap.push {cls:=.type "slice",data:=.fields #[vl,vu,.none]}} σ H3 x v vl vu l u s3.heap.objs.size Q I4 r1 (Heap.IsSliceOf.new ..) pl pu q3;show wpAny (model X.prog X.w) X.A (subscriptTail e (.Slice lo hi none p2) v (.ref s3.heap.objs.size)) (EP X pins σ Q) X.xe {s3 with heap:=s3.heap.push {cls:=.type "slice",data:=.fields #[vl,vu,.none]}};exact tail_any (ops:=[.ref s3.heap.objs.size,v]) ht hT hg (by with_unfolding_all rfl)
def Kb (xs:List V) (lo hi:Option Int):List V:=(xs.drop (HT.sIx xs.length 0 lo)).take (HT.sIx xs.length xs.length hi - HT.sIx xs.length 0 lo)
theorem XJ(xs:List V)(lo hi:Option Int):(Kb xs lo hi).length≤xs.length:=by unfold Kb;rw[List.length_take,List.length_drop];omega
def Lz (K:PySem.W.Frag):V→Option Int→Option Int→Hp→VK→Prop:=fun x lo hi H Q=>∃ a xs,x=.ref a∧SqT K H a xs∧
 ¬ (HT.sIx xs.length 0 lo=0∧HT.sIx xs.length xs.length hi=xs.length)∧∀ p,H p=none→Q (.ref p) (upd H p (.tup (Kb xs lo hi)))
theorem sl_tup:SlR X (Lz X.K):=by
 intro pins s σ H x v vl vu lo hi sl Q I rx hs pl pu h;obtain⟨a,xs,rfl,hx,hw,q⟩:=h;cases rx;obtain⟨its,r,ht,hz⟩:=I.tuple hx;have hlen:its.toArray.size=xs.length:=by rw[List.size_toArray];exact r.length.symm
 refine⟨"tuple",_,PyProof.Rows.slot_tuple_getitem.lookup,ht.typeIs,?_⟩;refine HT.getItem_tuple_cut ht hs pl pu (by rw[hlen];exact hw) ?_ (by rw[hlen];exact hz);rw[hlen];refine⟨.ref s.heap.objs.size,_,I.laid (t':=s.toks) (o:=.tup (Kb xs lo hi)) (fun b ob q=>Heap.get?_push_of_some _ q) (Nat.le_refl _) ?_,rfl,q _ (I.hok.fresh (Nat.le_refl _))⟩;exact⟨Nat.le_trans (XJ xs lo hi) hz,_,(r.drop (HT.sIx xs.length 0 lo)).take (HT.sIx xs.length xs.length hi - HT.sIx xs.length 0 lo),IsTup.new _ _⟩
def Iz (K:PySem.W.Frag):R2:=fun x y H Q=>∃ a b ns ms,x=.ref a∧y=.ref b∧SqT K H a (ns.map V.int)∧SqT K H b (ms.map V.int)∧Q (.bl (HT.lexLt ns ms)) H
theorem Fj(hu:X.A.units<cLine):OpR X (compareOp .Lt) (Iz X.K):=by intro pins s σ H x y v u Q I rx ry h;obtain⟨a,b,ns,ms,rfl,rfl,ha,hb,q⟩:=h;cases rx;cases ry;obtain⟨its,r1,p1,_⟩:=I.tuple ha;obtain⟨its2,r2,p2,_⟩:=I.tuple hb;have i1:IntsAre its.toArray.toList ns:=ZL r1;have i2:IntsAre its2.toArray.toList ms:=ZL r2;exact HT.lt_tupInts p1 p2 i1 i2 hu ⟨.bl (HT.lexLt ns ms),H,I,rfl,q⟩
def D7 (K:PySem.W.Frag):R2:=fun x y H Q=>∃ a b xs ys,x=.ref a∧y=.ref b∧SqT K H a xs∧SqT K H b ys∧xs≠[]∧xs.length+ys.length≤sizeLine∧
 (ys=[]→Q (.ref a) H)∧(ys≠[]→∀ p,H p=none→Q (.ref p) (upd H p (.tup (xs++ys))))
theorem Vals.nil_iff{xs:List V}{us:List Value}(r:Vals xs us):us=[]↔xs=[]:=by
 cases r with
 |nil=>simp
 |cons _ _=>simp
theorem op_catT:OpR X (binaryOp .Add) (D7 X.K):=by intro pins s σ H x y v u Q I rx ry h;obtain⟨a,b,xs,ys,rfl,rfl,ha,hb,hx,hz,q1,q2⟩:=h;cases rx;cases ry;obtain⟨its,r1,p1,_⟩:=I.tuple ha;obtain⟨its2,r2,p2,_⟩:=I.tuple hb;refine HT.cat_tup p1 p2 (fun z=>hx (r1.nil_iff.mp z)) (fun z=>⟨.ref a,H,I,rfl,q1 (r2.nil_iff.mp z)⟩) (fun z=>?_) (by rw[←r1.length,←r2.length];exact hz);refine⟨.ref s.heap.objs.size,_,I.laid (t':=s.toks) (o:=.tup (xs++ys)) (fun b ob q=>Heap.get?_push_of_some _ q) (Nat.le_refl _) ?_,rfl,q2 (fun w=>z (r2.nil_iff.mpr w)) _ (I.hok.fresh (Nat.le_refl _))⟩;exact⟨by rw[List.length_append];exact hz,_,r1.append r2,IsTup.new _ _⟩
end
def ixN (n:Nat) (i:Int):Option Nat:=if 0≤i then(if i<n then some i.toNat else none)else if -(n:Int)≤i then some (i+n).toNat else none
def atI {α:Type}(xs:List α) (i:Int):Option α:=(ixN xs.length i).bind fun j=>xs[j]?
theorem Kg{n:Nat}{i:Int}{j:Nat}(h:ixN n i=some j):seqIndex? i n=some j∧j<n∧-(n:Int)≤i∧i<n:=by
 unfold ixN at h;by_cases h0:0≤i
 ·rw[if_pos h0]at h;by_cases h1:i<n
  ·rw[if_pos h1]at h;have e:i.toNat=j:=Option.some.inj h;exact⟨by rw[seqIndex_of h0 h1,e],by omega,by omega,h1⟩
  ·rw[if_neg h1]at h;cases h
 ·rw[if_neg h0]at h;by_cases h1:-(n:Int)≤i
  ·rw[if_pos h1]at h;have e:(i+n).toNat=j:=Option.some.inj h;exact⟨by rw[seqIndex_neg (by omega) h1,e],by omega,h1,by omega⟩
  ·rw[if_neg h1]at h;cases h
theorem J5{α:Type}{xs:List α}{i:Int}{v:α}(h:atI xs i=some v):∃ j,seqIndex? i xs.length=some j∧xs[j]?=some v∧j<xs.length∧-(xs.length:Int)≤i∧i<xs.length:=by
 unfold atI at h;cases e:ixN xs.length i with
 |none=>rw[e]at h;cases h
 |some j =>rw[e]at h;obtain⟨h1,h2,h3,h4⟩:=Kg e;exact⟨j,h1,h,h2,h3,h4⟩
def Kv (b:Expr):Prop:=∀ o i,subscripted b false o i=operate [o,i] (getItem o i)
def IxR (X:Cx) (r:R2):Prop :=
 ∀ (value slice:Expr) (pins:List (Addr×Obj)) (s:Shared) (σ:St) (H:Hp) (x y:V) (v u:Value) (Q:VK),Inv X pins σ H s→RelV x v→RelV y u→r x y H Q→
  subscripted slice false v u=operate [v,u] (getItem v u)→wpAny (model X.prog X.w) X.A (subscriptTail value slice v u) (EP X pins σ Q) X.xe s
def MtR (X:Cx) (id:String) (r:V→List V→Hp→VK→Prop):Prop :=
 ∀ (pins:List (Addr×Obj)) (s:Shared) (σ:St) (H:Hp) (x:V) (xs:List V) (v:Value) (us:List Value) (Q:VK),Inv X pins σ H s→RelV x v→Vals xs us→r x xs H Q→
  wpAny (model X.prog X.w) X.A (call (.builtin id) (v::us)) (EP X pins σ Q) X.xe s
section
variable {X:Cx}{a b:Expr}{ta tb:TE}{pos:Pos}
theorem IxR.or{r r':R2}(h:IxR X r)(h':IxR X r'):IxR X (fun x y H Q=>r x y H Q∨r' x y H Q):=by
 intro value slice pins s σ H x y v u Q I rx ry q hs;rcases q with q|q
 ·exact h value slice pins s σ H x y v u Q I rx ry q hs
 ·exact h' value slice pins s σ H x y v u Q I rx ry q hs
theorem MtR.or{id:String}{r r':V→List V→Hp→VK→Prop}(h:MtR X id r)(h':MtR X id r'):MtR X id (fun x xs H Q=>r x xs H Q∨r' x xs H Q):=by
 intro pins s σ H x xs v us Q I rx rs q;rcases q with q|q
 ·exact h pins s σ H x xs v us Q I rx rs q
 ·exact h' pins s σ H x xs v us Q I rx rs q
theorem Iv{r:R2}(hr:IxR X r)(ha:PE X a ta)(hb:PE X b tb)(hs:Kv b):PE X (.Subscript a b pos) (tOp r ta tb):=by intro pins s σ H Q I h;exact Subscript_ (E5 ha hb I h fun v u s2 x y H2 I2 rx ry q=>hr a b pins s2 σ H2 x y v u Q I2 rx ry q (hs _ _))
def Hr (K:PySem.W.Frag):R2:=fun x y H Q=>∃ p xs i v,x=.ref p∧y=.int i∧SqL K H p xs∧atI xs i=some v∧Q v H
def La (K:PySem.W.Frag):R2:=fun x y H Q=>∃ p xs i v,x=.ref p∧y=.int i∧SqT K H p xs∧atI xs i=some v∧Q v H
def Ln:R2:=fun x y H Q=>∃ z i c,x=.str z∧y=.int i∧z.length≤sizeLine∧atI z.cps.toList i=some c∧Q (.str ⟨#[c]⟩) H
theorem ix_list:IxR X (Hr X.K):=by
 intro value slice pins s σ H x y v u Q I rx ry h hs;obtain⟨p,xs,i,z,rfl,rfl,hq,he,q⟩:=h;cases rx;obtain⟨t,rfl⟩:=ry;obtain⟨its,r,pl,hz⟩:=I.list hq;obtain⟨j,h1,h2,h3,h4,h5⟩:=J5 he;obtain⟨w,ew,rw'⟩:=r.get h2;have hl:=r.length;have hn:=Y7;have fin:EP X pins σ Q w s:=⟨z,H,I,rw',q⟩
 by_cases h0:0≤i
 ·have hj:i.toNat=j:=by
   rw[seqIndex_of h0 h5]at h1;exact Option.some.inj h1
  exact item_listR pl.isList h0 (by omega) (by rw[hj];simpa using ew) fin hs
 ·have hj:(i+(its.toArray.size:Int)).toNat=j:=by
   rw[seqIndex_neg (by omega) h4]at h1;rw[List.size_toArray,←hl];exact Option.some.inj h1
  exact subscriptTail_builtinR (x:=w) pl.isList.typeIs slot_list_getitem.lookup
   (wpAny_getItem_list_neg (Q:=fun r s'=>r=w∧EP X pins σ Q r s') pl.isList (by omega) (by rw[List.size_toArray]<;>omega) (by omega) (by rw[hj];simpa using ew) ⟨rfl,fin⟩) hs
theorem ix_tup:IxR X (La X.K):=by
 intro value slice pins s σ H x y v u Q I rx ry h hs;obtain⟨p,xs,i,z,rfl,rfl,hq,he,q⟩:=h;cases rx;obtain⟨t,rfl⟩:=ry;obtain⟨its,r,pl,hz⟩:=I.tuple hq;obtain⟨j,h1,h2,h3,h4,h5⟩:=J5 he;obtain⟨w,ew,rw'⟩:=r.get h2;have hl:=r.length;have hn:=Y7;have fin:EP X pins σ Q w s:=⟨z,H,I,rw',q⟩
 exact subscriptTail_builtinR (x:=w) pl.typeIs slot_tuple_getitem.lookup
  (getItem_tuple (j:=j) (Q:=fun r s'=>r=w∧EP X pins σ Q r s') pl (by omega) (by omega) (by rw[List.size_toArray,←hl];exact h1) (by simpa using ew) ⟨rfl,fin⟩) hs
theorem Gc:IxR X Ln:=by
 intro value slice pins s σ H x y v u Q I rx ry h hs;obtain⟨z,i,c,rfl,rfl,hz,he,q⟩:=h;obtain⟨t,rfl⟩:=rx;obtain⟨t',rfl⟩:=ry;obtain⟨j,h1,h2,h3,h4,h5⟩:=J5 he;have hl:z.cps.toList.length=z.length:=by simp[Str.length]
 rw[hl]at h1 h4 h5;have hn:=Y7;exact tail_any (typeIs_str s z t) slot_str_getitem.lookup (getItem_str (c:=c) (by
   have e1:decide (i < -(2 ^ 63:Int))=false:=decide_eq_false (by omega)
   have e2:decide (i≥2 ^ 63)=false:=decide_eq_false (by omega)
   rw[e1,e2,Bool.or_false]) (by rw[h1];simpa using h2) ⟨.str ⟨#[c]⟩,H,I.tok _,⟨_,rfl⟩,q⟩) hs
def rIx (K:PySem.W.Frag):R2:=fun x y H Q=>Hr K x y H Q∨La K x y H Q∨Ln x y H Q
theorem ix_seq:IxR X (rIx X.K):=ix_list.or (ix_tup.or Gc)
theorem Mq (its:List Value) (n j:Nat) (u:Value):Obj.mapSeq (·.setIfInBounds j u) {cls:=.type "list",data:=.seq its.toArray n}={cls:=.type "list",data:=.seq (its.set j u).toArray n}:=by simp[Obj.mapSeq]
theorem Inv.lst{pins:List (Addr×Obj)}{σ:St}{H:Hp}{s:Shared}{p:Addr}{xs:List V}(I:Inv X pins σ H s)(h:H p=some (.lst xs)) :
  ∃ (its:List Value) (n:Nat),Vals xs its∧s.heap.get? p=some {cls:=.type "list",data:=.seq its.toArray n}∧xs.length≤sizeLine:=by
 obtain⟨z,its,n,r,e⟩:=I.hok p _ h;exact⟨its,n,r,e,z⟩
theorem Inv.lstUpd{pins:List (Addr×Obj)}{σ:St}{H:Hp}{s:Shared}{p:Addr}{xs ys:List V}{its its':List Value}{n n':Nat}{f:Obj→Obj}(I:Inv X pins σ H s)(h:H p=some (.lst xs))
  (ho:s.heap.get? p=some {cls:=.type "list",data:=.seq its.toArray n}) (hf:f {cls:=.type "list",data:=.seq its.toArray n}={cls:=.type "list",data:=.seq its'.toArray n'}) (r:Vals ys its') (hz:ys.length≤sizeLine) (t:Nat) :
  Inv X pins σ (upd H p (.lst ys)) {s with heap:=s.heap.update p f,toks:=t}:=by
 have e:(s.heap.update p f).get? p=some {cls:=.type "list",data:=.seq its'.toArray n'}:=by rw[Heap.get?_update_self f ho (by rw[hf]<;>rfl),hf]
 refine I.write (x:=p) (e:=p) (by rw[h];trivial) (.inl rfl) (fun b u hb q=>(Heap.get?_update_other _ _ (Ne.symm hb)).trans q) ⟨_,e⟩ ?_;exact⟨hz,its',n',r,e⟩
def DN:V→V→V→Hp→(Hp→Prop)→Prop:=fun o i v H Q=>∃ p xs k j,o=.ref p∧i=.int k∧H p=some (.lst xs)∧ixN xs.length k=some j∧Q (upd H p (.lst (xs.set j v)))
theorem UJ:PSet X DN:=by
 intro pins s σ H o i v ov iv u Q I ro ri rv h;obtain⟨p,xs,k,j,rfl,rfl,hp,hj,q⟩:=h;cases ro;obtain⟨t,rfl⟩:=ri;obtain⟨its,n,r,ho,hz⟩:=I.lst hp;obtain⟨h1,h2,h3,h4⟩:=Kg hj;have hl:=r.length;have hn:=Y7;have I':Inv X pins σ (upd H p (.lst (xs.set j v))) {s with heap:=s.heap.update p (Obj.mapSeq (·.setIfInBounds j u))} :=
  I.lstUpd hp ho (Mq its n j u) (r.set rv j) (by rw[List.length_set];exact hz) s.toks
 by_cases h0:0≤k
 ·have hk:k.toNat=j:=by
   rw[seqIndex_of h0 h4]at h1;exact Option.some.inj h1
  exact PySem.W.ki_setAt ho h0 (by omega) (by rw[List.size_toArray,←hl];exact h4) (by rw[hk];exact⟨_,I',q⟩)
 ·have hk:(k+(its.toArray.size:Int)).toNat=j:=by
   rw[seqIndex_neg (by omega) h3]at h1;rw[List.size_toArray,←hl];exact Option.some.inj h1
  exact PySem.W.ki_setBack ho (by omega) (by rw[List.size_toArray,←hl];exact h3) (by omega) (by rw[hk];exact⟨_,I',q⟩)
theorem JX(lo hi:Option Int)(n:Nat):(sliceBounds lo hi none n).1=((HT.sIx n 0 lo:Nat):Int)∧(sliceBounds lo hi none n).2.1=((HT.sIx n n hi:Nat):Int)∧(sliceBounds lo hi none n).2.2=1:=by
 refine⟨?_,?_,rfl⟩
 ·cases lo with
  |none=>simp[sliceBounds,HT.sIx]
  |some i =>
   simp only[sliceBounds,HT.sIx,Option.getD_none,show(1:Int) > 0 by decide,if_true];by_cases h:i<0
   ·simp only[h,if_true]<;>omega
   ·simp only[h,if_false]<;>omega
 ·cases hi with
  |none=>simp[sliceBounds,HT.sIx]
  |some i =>
   simp only[sliceBounds,HT.sIx,Option.getD_none,show(1:Int) > 0 by decide,if_true];by_cases h:i<0
   ·simp only[h,if_true]<;>omega
   ·simp only[h,if_false]<;>omega
theorem Jg(its:List Value)(lo hi:Option Int):slicePick its.toArray lo hi none=((its.drop (HT.sIx its.length 0 lo)).take (HT.sIx its.length its.length hi - HT.sIx its.length 0 lo)).toArray:=by obtain⟨h1,h2,h3⟩:=JX lo hi its.toArray.size;unfold slicePick;rw[h1,h2,h3];simp only[sliceRange_one,pick_run,List.size_toArray]<;>rfl
def Iy (K:PySem.W.Frag):V→Option Int→Option Int→Hp→VK→Prop:=fun x lo hi H Q=>∃ a xs,x=.ref a∧SqL K H a xs∧∀ p,H p=none→Q (.ref p) (upd H p (.lst (Kb xs lo hi)))
theorem sl_list:SlR X (Iy X.K):=by intro pins s σ H x v vl vu lo hi sl Q I rx hs pl pu h;obtain⟨a,xs,rfl,hx,q⟩:=h;cases rx;obtain⟨its,r,ht,hz⟩:=I.list hx;have hlen:=r.length;refine⟨"list",_,slot_list_getitem.lookup,ht.isList.typeIs,?_⟩;refine wpAny_getItem_list_slice ht.isList hs pl pu .none (by simp) ?_ (by rw[List.size_toArray]<;>omega);rw[Jg,←hlen];refine⟨.ref s.heap.objs.size,_,I.laid (t':=s.toks) (o:=.lst (Kb xs lo hi)) (fun b ob q=>Heap.get?_push_of_some _ q) (Nat.le_refl _) ?_,rfl,q _ (I.hok.fresh (Nat.le_refl _))⟩;exact⟨Nat.le_trans (XJ xs lo hi) hz,_,0,(r.drop (HT.sIx xs.length 0 lo)).take (HT.sIx xs.length xs.length hi - HT.sIx xs.length 0 lo),Heap.get?_push_size _ rfl⟩
def DG:V→Bool
 |.non=>true
 |.bl _=>true
 |.int _=>true
 |.str _=>true
 |_=>false
def eqV:V→V→Bool
 |.non,.non=>true
 |.bl a,.bl b=>a==b
 |.bl a,.int b=>(if a then 1 else 0)==b
 |.int a,.bl b=>a==(if b then 1 else 0)
 |.int a,.int b=>a==b
 |.str a,.str b=>a==b
 |_,_=>false
def eqU (x:V) (u:Value):Bool:=match u with
 |.none=>eqV .non x
 |.bool b=>eqV (.bl b) x
 |.int i _=>eqV (.int i) x
 |.str z _=>eqV (.str z) x
 |_=>false
def inV (x:V) (xs:List V):Bool:=xs.any fun y=>eqV y x
def rIn (K:PySem.W.Frag) (neg:Bool):R2:=fun x y H Q=>∃ p xs,y=.ref p∧(SqL K H p xs∨SqT K H p xs)∧DG x=true∧xs.all DG=true∧Q (.bl (if neg then !inV x xs else inV x xs)) H
theorem JT:OpR X (compareOp .NotIn) (fun x y H Q=>∃ i j,x=.str i∧y=.str j∧Q (.bl (!(!(Builtin.Str.occurrences j i 0 j.length 1).isEmpty))) H):=by intro pins s σ H x y v u Q I rx ry h;obtain⟨i,j,rfl,rfl,q⟩:=h;obtain⟨t,rfl⟩:=rx;obtain⟨t',rfl⟩:=ry;exact notIn_str ⟨.bl _,H,I,rfl,q⟩
theorem call_len_seq:CallR X (.builtin "len") (fun xs H Q=>∃ p ys,xs=[.ref p]∧(SqL X.K H p ys∨SqT X.K H p ys)∧Q (.int ys.length) H):=by
 intro pins s σ H xs us Q I r h;obtain⟨p,ys,rfl,hq,q⟩:=h;obtain⟨u,rfl,rx⟩:=Yd r;cases rx;have hn:=Y7;rcases hq with hq|hq
 ·obtain⟨its,r',pl,hz⟩:=I.list hq;have hlen:=r'.length;exact Calls.call_len_list pl.isList (by simp only[List.size_toArray]<;>omega) ⟨.int ys.length,H,I.tok _,⟨s.toks+1,by rw[List.size_toArray,hlen]⟩,q⟩
 ·obtain⟨its,r',pl,hz⟩:=I.tuple hq;have hlen:=r'.length;exact len_tuple pl (by simp only[List.size_toArray]<;>omega) ⟨.int ys.length,H,I.tok _,⟨s.toks+1,by rw[List.size_toArray,hlen]⟩,q⟩
theorem Kd:CallR X (.builtin "len") (fun xs H Q=>∃ z,xs=[.str z]∧z.length≤sizeLine∧Q (.int z.length) H):=by intro pins s σ H xs us Q I r h;obtain⟨z,rfl,hz,q⟩:=h;obtain⟨u,rfl,t,rfl⟩:=Yd r;have hn:=Y7;exact len_str (by omega) ⟨.int z.length,H,I.tok _,⟨_,rfl⟩,q⟩
theorem CallR.or{f:Value}{r r':List V→Hp→VK→Prop}(h:CallR X f r)(h':CallR X f r'):CallR X f (fun xs H Q=>r xs H Q∨r' xs H Q):=by
 intro pins s σ H xs us Q I rs q;rcases q with q|q
 ·exact h pins s σ H xs us Q I rs q
 ·exact h' pins s σ H xs us Q I rs q
def tyV (K:PySem.W.Frag) (T:String) (x:V) (H:Hp):Prop:=match x with
 |.str _=>T = "str"
 |.int _=>T = "int"
 |.ref p=>(T = "list"∧∃ xs,SqL K H p xs)∨(T = "tuple"∧∃ o,K.lookup p=some o∧o.cls=.type "tuple"∧o.dict=none)∨
   (T = "dict"∧((∃ kvs,H p=some (.dK kvs))∨∃ kvs,H p=some (.dT kvs)))∨(T = "set"∧∃ S n,H p=some (.set S n))
 |_=>False
theorem Fk{pins:List (Addr×Obj)}{σ:St}{H:Hp}{s:Shared}{T:String}{x:V}{v:Value}(I:Inv X pins σ H s)(r:RelV x v)(ty:tyV X.K T x H) :
  s.TypeIs v T∧∀ a,v=.ref a→∃ ob,s.heap.get? a=some ob∧ob.dict=none:=by
 cases x with
 |str z =>obtain⟨t,rfl⟩:=r;cases (show T = "str" from ty);exact⟨typeIs_str s z t,fun _ e=>nomatch e⟩
 |int i =>obtain⟨t,rfl⟩:=r;cases (show T = "int" from ty);exact⟨typeIs_int s i t,fun _ e=>nomatch e⟩
 |ref p =>
  cases r;rcases ty with⟨rfl,xs,hq⟩|⟨rfl,o,hk,hc,hd⟩|⟨rfl,hk⟩|⟨rfl,S,n,hk⟩
  ·obtain⟨its,_,pl,_⟩:=I.list hq;refine⟨pl.isList.typeIs,fun a e=>?_⟩;cases e;obtain⟨o,n,e,c,hd,_⟩:=pl;exact⟨o,e,hd⟩
  ·refine⟨⟨o,I.kIn p o hk,hc⟩,fun a e=>?_⟩;cases e;exact⟨o,I.kIn _ o hk,hd⟩
  ·have z:∃ o,s.heap.get? p=some o∧o.ExactDict:=by
    rcases hk with⟨kvs,hk⟩|⟨kvs,hk⟩
    ·obtain⟨_,_,_,_,o,_,_,e,ex,_⟩:=I.hok p _ hk;exact⟨o,e,ex⟩
    ·obtain⟨_,_,_,_,o,_,_,e,ex,_⟩:=I.hok p _ hk;exact⟨o,e,ex⟩
   obtain⟨o,e,ex⟩:=z;refine⟨⟨o,e,ex.1⟩,fun a e2=>?_⟩;cases e2;exact⟨o,e,ex.2.1⟩
  ·obtain⟨o,_,_,_,e,ex,_⟩:=I.hok p _ hk;refine⟨⟨o,e,ex.1⟩,fun a e2=>?_⟩;cases e2;exact⟨o,e,ex.2.1⟩
 |_=>exact False.elim ty
def Ro (K:PySem.W.Frag) (T:String) (r:V→List V→Hp→VK→Prop) (to:TE):TE:=fun σ H Q=>to σ H fun x H1=>tyV K T x H1∧r x [] H1 Q
def tBM (K:PySem.W.Frag) (T:String) (r:V→List V→Hp→VK→Prop) (to:TE) (t:TA):TE:=fun σ H Q=>to σ H fun x H1=>tyV K T x H1∧t σ H1 fun xs H2=>r x xs H2 Q
variable {o e:Expr}{es:List Expr}{to:TE}{t:TA}{name:Str}{apos cpos:Pos}{T id:String}{r:V→List V→Hp→VK→Prop}
theorem GV (pa:PlainAttrs T) (slot:Slot T name id) (hty:typeOf (.builtin id)=pure (.type "method_descriptor")) (hm:MtR X id r) (ho:PE X o to) (ha:PA X (e::es) t)
  (hbase:attributeBase o name X.env (eval o X.env)=eval o X.env:=by rfl)
  (hfew:((backTo cpos (starEach (e::es) X.env)).all (fun x=>!x.1)&&(backToKw cpos (keywordEach [] X.env)).all (fun x=>x.1.isSome)
    && decide ((e::es).length+([]:List Keyword).length+(if([]:List Keyword).isEmpty then 0 else 1)<30))=true:=by rfl)
  (hline:(apos.endLine==cpos.line)=true:=by rfl) (hs:starEach (e::es) X.env=(false,eval e X.env)::starEach es X.env:=by rfl) (hplain:(backTo cpos (starEach es X.env)).any (·.1)=false:=by rfl) :
  PE X (.Call (.Attribute o name apos) (e::es) [] cpos) (tBM X.K T r to t):=by
 intro pins s σ H Q I h;refine wpAny_Call_method_late hbase hfew hline rfl (thn (ho pins s σ H _ I h) fun v s1 ⟨x,H1,I1,r1,ty,q1⟩=>?_);obtain⟨h1,h2⟩:=Fk I1 r1 ty;refine⟨T,id,pa,slot,hty,h1,h2,?_⟩;have hA:=ha cpos pins s1 σ H1 _ I1 q1;rw[hs]at hA ⊢;refine Calls.callWith_builtin (by show(false||(backTo cpos (starEach es X.env)).any (·.1))=false;rw[hplain]<;>rfl) (Calls.evalArgs_plain ?_);exact thn hA fun us s2 ⟨vs,H2,I2,r2,q2⟩=>hm pins s2 σ H2 x vs v us Q I2 r1 r2 q2
/- xs.append(e),list.index on a module's tuple .. are MtR facts of 06m -/
end
def MtM (X:Cx) (id:String) (r:V→List V→Hp→VK→Prop):Prop :=
 ∀ (pins:List (Addr×Obj)) (s:Shared) (σ:St) (H:Hp) (x:V) (xs:List V) (v:Value) (us:List Value) (Q:VK),Inv X pins σ H s→RelV x v→Vals xs us→r x xs H Q→
  wpAny (model X.prog X.w) X.A (call (.builtin id) (v::us)) (EP X pins σ Q) X.xe s
theorem Vals.one:∀ {x:V}{us:List Value},Vals [x] us→∃ u,us=[u]∧RelV x u
 |_,_,.cons r .nil=>⟨_,rfl,r⟩
theorem Vals.two:∀ {x y:V}{us:List Value},Vals [x,y] us→∃ u v,us=[u,v]∧RelV x u∧RelV y v
 |_,_,_,.cons r (.cons q .nil)=>⟨_,_,rfl,r,q⟩
theorem Vals.zero:∀ {us:List Value},Vals [] us→us=[]
 |_,.nil=>rfl
theorem Vals.dropLast{xs:List V}{us:List Value}(h:Vals xs us):Vals xs.dropLast us.dropLast:=by
 induction h with
 |nil=>exact .nil
 |cons r t ih =>
  cases t with
  |nil=>exact .nil
  |cons q t'=>exact .cons r ih
theorem Vals.eraseIdx:∀ {xs:List V}{us:List Value}(i:Nat),Vals xs us→Vals (xs.eraseIdx i) (us.eraseIdx i)
 |_,_,_,.nil=>.nil
 |_,_,0,.cons _ t=>t
 |_,_,i+1,.cons r t=>.cons r (Vals.eraseIdx i t)
theorem Vals.reverse{xs:List V}{us:List Value}(h:Vals xs us):Vals xs.reverse us.reverse:=by
 induction h with
 |nil=>exact .nil
 |cons r t ih=>rw[List.reverse_cons,List.reverse_cons];exact Vals.append ih (.cons r .nil)
theorem Vals.rep{xs:List V}{us:List Value}(h:Vals xs us):∀ k:Nat,Vals (List.replicate k xs).flatten (List.replicate k us).flatten
 |0=>.nil
 |k+1=>by rw[List.replicate_succ,List.replicate_succ,List.flatten_cons,List.flatten_cons];exact Vals.append h (Vals.rep h k)
theorem JN{α:Type}:∀ (l:List α) (i:Nat),(l.eraseIdx i).length≤l.length
 |[],_=>Nat.le_refl _
 |_::_,0=>Nat.le_succ _
 |_::r,i+1=>Nat.succ_le_succ (JN r i)
theorem Jr(its:List Value):∀ (k:Nat) (acc:List Value),
  List.foldl (fun x1 x2=>x1++x2) acc.toArray (List.replicate k its.toArray)=(acc++(List.replicate k its).flatten).toArray
 |0,acc=>by simp
 |k+1,acc=>by
  have e:acc.toArray++its.toArray=(acc++its).toArray:=by simp
  have e2:(acc++its)++(List.replicate k its).flatten=acc++(List.replicate (k+1) its).flatten:=by rw[List.replicate_succ,List.flatten_cons,List.append_assoc]
  rw[←e2,←Jr its k (acc++its),←e,List.replicate_succ,List.foldl_cons]
section
variable {X:Cx}{pins:List (Addr×Obj)}{σ:St}{H:Hp}{s:Shared}{l b:Addr}{xs ys zs:List V}
theorem Inv.lset{its its':List Value}{n:Nat}{f:Array Value→Array Value}{t':Nat}(I:Inv X pins σ H s)(hH:H l=some (.lst xs))
  (e:s.heap.get? l=some {cls:=.type "list",data:=.seq its.toArray n}) (hf:f its.toArray=its'.toArray) (hv:Vals ys its') (hz:ys.length≤sizeLine) :
  Inv X pins σ (upd H l (.lst ys)) {s with heap:=s.heap.update l (Obj.mapSeq f),toks:=t'}:=by
 have q:=PySem.IsL.update e f;rw[hf]at q;refine I.write (x:=l) (e:=l) (by rw[hH];exact trivial) (.inl rfl) (fun b' u hb hu=>(Heap.get?_update_other s.heap (Obj.mapSeq f) (Ne.symm hb)).trans hu) ⟨_,q⟩ ?_;exact⟨hz,its',_,hv,q⟩
theorem Inv.lnew{its:List Value}{t':Nat}(I:Inv X pins σ H s)(hv:Vals ys its)(hz:ys.length≤sizeLine) :
  Inv X pins σ (upd H s.heap.objs.size (.lst ys)) {s with heap:=s.heap.push {cls:=.type "list",data:=.seq its.toArray},toks:=t'} :=
 I.laid (fun _ _ q=>Heap.get?_push_of_some _ q) (Nat.le_refl _) ⟨hz,its,0,hv,Heap.get?_push_size _ rfl⟩
theorem Inv.fresh(I:Inv X pins σ H s):H s.heap.objs.size=none:=I.hok.fresh (Nat.le_refl _)
theorem Inv.lstM (I:Inv X pins σ H s) (hH:H l=some (.lst xs)):xs.length≤sizeLine∧∃ (its:List Value) (n:Nat),Vals xs its∧xs.length=its.length∧s.heap.get? l=some {cls:=.type "list",data:=.seq its.toArray n}:=by obtain⟨z,its,n,r,e⟩:=I.hok l _ hH;exact⟨z,its,n,r,r.length,e⟩
theorem Uw{n:Nat}(h:n≤sizeLine):Builtin.List.listTooLong n=false:=by unfold Builtin.List.listTooLong;exact decide_eq_false (by omega)
end
section
variable {X:Cx}
def Nn:V→List V→Hp→VK→Prop:=fun x vs H Q=>∃ l xs y,x=.ref l∧vs=[y]∧H l=some (.lst xs)∧xs.length<sizeLine∧Q .non (upd H l (.lst (xs++[y])))
theorem ON:MtM X "list.append" Nn:=by intro pins s σ H x vs v us Q I rx rv h;obtain⟨l,xs,y,rfl,rfl,hH,hz,q⟩:=h;cases rx;obtain⟨u,rfl,ru⟩:=rv.one;obtain⟨z,its,n,r,hl,e⟩:=I.lstM hH;refine call_meets F.slot_list_append ⟨_,e,rfl⟩ F.entry_list_append (F.args_list_append_2 _ _) (PySem.list_append l its.toArray n u (by rw[List.size_toArray];omega)) ⟨e,?_⟩;refine⟨.non,_,I.lset (its':=its++[u]) hH e (by simp) (r.append (.cons ru .nil)) ?_,rfl,q⟩;rw[List.length_append,List.length_singleton];omega
def LP:V→List V→Hp→VK→Prop:=fun x vs H Q=>∃ l b xs zs,x=.ref l∧vs=[.ref b]∧H l=some (.lst xs)∧H b=some (.lst zs)∧xs.length+zs.length≤sizeLine∧Q .non (upd H l (.lst (xs++zs)))
def Rt:V→List V→Hp→VK→Prop:=fun x vs H Q=>∃ l xs y,x=.ref l∧vs=[]∧H l=some (.lst xs)∧xs[xs.length - 1]?=some y∧Q y (upd H l (.lst xs.dropLast))
def Ae:V→List V→Hp→VK→Prop:=fun x vs H Q=>∃ l xs i k y,x=.ref l∧vs=[.int i]∧H l=some (.lst xs)∧-(2 ^ 63)≤i∧i<2 ^ 63∧seqIndex? i xs.length=some k∧xs[k]?=some y∧Q y (upd H l (.lst (xs.eraseIdx k)))
theorem U4:MtM X "list.pop" Ae:=by
 intro pins s σ H x vs v us Q I rx rv h;obtain⟨l,xs,i,k,y,rfl,rfl,hH,h1,h2,hk,hy,q⟩:=h;cases rx;obtain⟨u,rfl,ru⟩:=rv.one;obtain⟨t,rfl⟩:=ru;obtain⟨z,its,n,r,hl,e⟩:=I.lstM hH;obtain⟨w,hw,rw'⟩:=r.get hy;refine call_meets F.slot_list_pop ⟨_,e,rfl⟩ F.entry_list_pop (F.args_list_pop_2 _ _)
  (MeetsSeq.list_pop_at l its.toArray n i t k w (fitsIndex_both h1 h2) (by rw[List.size_toArray,←hl];exact hk) (by rw[←Array.getElem?_toList];exact hw) (by rw[List.size_toArray];omega)) ⟨e,?_⟩
 refine⟨y,_,I.lset (its':=its.eraseIdx k) hH e ?_ (r.eraseIdx k) ?_,rw',q⟩
 ·show its.toArray.eraseIdxIfInBounds k=(its.eraseIdx k).toArray;rw[List.eraseIdxIfInBounds_toArray]
 ·have:=JN xs k;omega
def HH:V→List V→Hp→VK→Prop:=fun x vs H Q=>∃ l xs,x=.ref l∧vs=[]∧H l=some (.lst xs)∧Q .non (upd H l (.lst xs.reverse))
def Qp:V→List V→Hp→VK→Prop:=fun x vs H Q=>∃ l xs,x=.ref l∧vs=[]∧H l=some (.lst xs)∧Q .non (upd H l (.lst []))
def Lq:R2:=fun x y H Q=>∃ l b xs zs,x=.ref l∧y=.ref b∧H l=some (.lst xs)∧H b=some (.lst zs)∧xs.length+zs.length≤sizeLine∧∀ p,H p=none→Q (.ref p) (upd H p (.lst (xs++zs)))
theorem GJ:OpR X (binaryOp .Add) Lq:=by
 intro pins s σ H x y v u Q I rx ry h;obtain⟨l,b,xs,zs,rfl,rfl,hH,hB,hz,q⟩:=h;cases rx;cases ry;obtain⟨z,its,n,r,hl,e⟩:=I.lstM hH;obtain⟨z2,its2,n2,r2,hl2,e2⟩:=I.lstM hB;refine PySem.P.add_list e e2 ?_ (by rw[List.size_toArray,List.size_toArray];omega);have ea:its.toArray++its2.toArray=(its++its2).toArray:=by simp
 rw[ea];exact⟨.ref _,_,I.lnew (t':=s.toks) (r.append r2) (by rw[List.length_append];omega),rfl,q _ I.fresh⟩
def IK:R2:=fun x y H Q=>∃ l k xs,x=.ref l∧y=.int k∧H l=some (.lst xs)∧-(2 ^ 63)≤k∧k<2 ^ 63∧xs.length*k.toNat≤sizeLine∧
 ∀ p,H p=none→Q (.ref p) (upd H p (.lst (List.replicate k.toNat xs).flatten))
theorem BM{α:Type}(xs:List α)(k:Nat):(List.replicate k xs).flatten.length=k*xs.length:=by
 induction k with
 |zero=>simp
 |succ k ih=>rw[List.replicate_succ,List.flatten_cons,List.length_append,ih,Nat.succ_mul,Nat.add_comm]
theorem FG:OpR X (binaryOp .Mult) IK:=by
 intro pins s σ H x y v u Q I rx ry h;obtain⟨l,k,xs,rfl,rfl,hH,h1,h2,hz,q⟩:=h;cases rx;obtain⟨t,rfl⟩:=ry;obtain⟨z,its,n,r,hl,e⟩:=I.lstM hH;have hlen:its.toArray.size*k.toNat≤sizeLine:=by rw[List.size_toArray,←hl];exact hz
 have hcap:¬ its.toArray.size*k.toNat > (2 ^ 63 - 1) / 8:=by
  have:(sizeLine:Nat)≤(2 ^ 63 - 1) / 8:=by decide
  omega
 have hfit:¬ (!Builtin.List.listFitsIndex k)=true:=by rw[fitsIndex_both h1 h2];exact Bool.false_ne_true
 have hlong:¬ Builtin.List.listTooLong (its.toArray.size*k.toNat)=true:=by rw[Uw hlen];exact Bool.false_ne_true
 have hnew:List.foldl (fun x1 x2=>x1++x2) #[] (List.replicate (if its.toArray.isEmpty=true then 0 else k.toNat) its.toArray)=(List.replicate k.toNat its).flatten.toArray:=by
  have f0:∀ m:Nat,List.foldl (fun x1 x2=>x1++x2) #[] (List.replicate m its.toArray)=(List.replicate m its).flatten.toArray:=fun m=>by have:=Jr its m [];rw[List.nil_append]at this;exact this
  rw[f0];cases its with
  |nil=>simp
  |cons a r'=>rw[if_neg (by simp)]
 refine wpAny_binaryOp_repeat_ref (T:="list") (U:="int") (by decide) ⟨_,e,rfl⟩ (fun s'=>typeIs_int s' k t) noFill_list_mul F.fills_int_mul F.slot_int_rmul repeat_list F.slot_int_index.lookup
  (call_meets F.slot_int_rmul (typeIs_int s k t) F.entry_int_rmul (F.args_int_rmul_2 _ _) (int___rmul___int_list k t l its.toArray n)
    ⟨e,rfl,⟨_,e,rfl⟩,call_meets F.slot_list_mul ⟨_,e,rfl⟩ F.entry_list_mul (F.args_list_mul_2 _ _) (AutoListH.list___mul___list_int_3 l its.toArray n k t hfit hcap hlong) ⟨e,?_⟩⟩)
 rw[hnew];exact⟨.ref _,_,I.lnew (t':=s.toks) (r.rep k.toNat) (by rw[BM,Nat.mul_comm];exact hz),rfl,q _ I.fresh⟩
end
end L2
namespace Att
open PySem PySem.W PySem.Calls PyProof.Rows
theorem XS{P:Params}{h:Heap}:∀ (ns:List Int) (vs:List Value),WellAll P h vs (ns.map WData.int)→IntsAre vs ns:=by
 intro ns;induction ns with
 |nil =>intro vs w;rw[List.map_nil]at w;cases w;exact .nil
 |cons n ns ih =>
  intro vs w;rw[List.map_cons]at w;cases w with
  |cons a b =>cases a;exact .cons _ _ (ih _ b)
theorem Ou{l:OpenLaw}{n:Nat}(hn:l.most=some n){P:Params}{h:Heap}{args:List WData}{vals:List Value}
  (hpre:l.row.toRowW.claim.pre args=true) (hwl:WellAll P h vals args) :
  ∃ a vs ns,vals=[Value.ref a]∧args=[WData.list (ns.map WData.int)]∧h.get? a=some {cls:=.type "list",data:=.seq vs.toArray}∧IntsAre vs ns∧ns.length≤n:=by
 have hsh:WShape.hasAll [] args [.list .int]=true:=(pre_splitW hpre).1;have hc:l.pre.holds [] {args:=args}=true:=(pre_splitW hpre).2;obtain⟨d,r,rfl,h1,h2⟩:=hasAllW_cons hsh;obtain rfl:=hasAllW_nil h2;obtain⟨xs,rfl,h3⟩:=hasW_list h1;obtain⟨ns,rfl⟩:=items_int h3;have hlen:ns.length≤n:=by
  unfold OpenLaw.pre at hc;have h4:(WTm.not (.lt (.lit (.int (n:Int))) (.len (.arg 0)))).holds [] {args:=[.list (ns.map .int)]}=true:=by have h4:=(holds_andW hc).1;rw[hn]at h4;exact h4
  have h5:=condW_of h4 (w_not (w_lt w_lit (w_len_list (w_arg rfl))));rw[List.length_map]at h5;refine Nat.le_of_not_lt fun q=>?_;have q':(n:Int)<((ns.length:Nat):Int):=by omega
  first
   |(rw[decide_eq_true q']at h5;exact absurd h5 (by decide))
   |(simp at h5;omega)
 cases hwl with
 |cons w1 w2 =>
  cases w2;cases w1 with
  |list ho hall=>exact⟨_,_,ns,rfl,rfl,ho,XS ns _ hall,hlen⟩
theorem On(l:OpenLaw)(args:List WData):l.row.toRowW.claim.post args (.bool true) args=true :=
 postW_of (r:=l.row.toRowW) (X:=(true==true))
  (show WShape.has [] (.bool true) .bool=true by first|rfl|decide|simp[WShape.has,WShape.arms,WShape.armsAll])
  (show(WTm.eq .res (.lit (.bool true))).value [] {args:=args,res:=some (.bool true),after:=args}=some (.bool (true==true)) from w_eq_bool (w_res rfl) w_lit) rfl
theorem attach_call{l:OpenLaw}{n:Nat}{q:Program}{loose:List Str}{XP:(Str→Option Value)→Heap→Prop}{YP:World→Heap→Prop}{d:DefRec}
  (hn:l.most=some n) (hdf:d.params.defaults=[])
  (call:∀ (w:World) (s₀ s₁:Shared) (mg mb:Str→Option Value) (fa:Addr) (o:Obj) (pm cd doc:Value) (a:Addr) (vs:List Value) (ns:List Int),
    Ground q loose [] XP w s₀ mg mb s₁.heap→YP w s₁.heap→
    s₁.heap.get? fa=some o→o.data=.func (docDef d.name d.params d.body d.scope pm cd doc)→s₁.heap.CodeRec cd d.name→mg d.name=some (.ref fa)→
    s₁.heap.get? a=some {cls:=.type "list",data:=.seq vs.toArray}→IntsAre vs ns→ns.length≤n→s₁.gens=#[]→
    codeAny (model l.prog w) callerA (.call (.ref fa) ⟨[.ref a],[]⟩) (fun r s'=>r=.ok (.ret (.bool true))∧OldK s₁.heap s'.heap∧s'.os=s₁.os∧AllBare s'.gens) s₁) :
  WalkO q loose XP YP l.row.toRowW d [] (fun f vs=>PySem.call f vs):=by
 intro w s₀ s₁ mg mb G Y fa o pm cd doc dV kV ho hd hcd hD hmg hg args vals as hpre hlay hrd hwl hlo;obtain rfl:dV=.none:=Dflts.none hD hdf;obtain rfl:kV=.none:=Dflts.noKw hD;obtain⟨a,vs,ns,rfl,rfl,hobj,hints,hlen⟩:=Ou hn hpre hwl;refine enter_call (codeAny_mono (call w s₀ s₁ mg mb fa o pm cd doc a vs ns G Y ho (fd_plain hd) hcd hmg hobj hints hlen hg) fun r s' hq=>?_);obtain⟨rfl,h2,h3,h4⟩:=hq;exact⟨.inl ⟨.bool true,.bool true,[],rfl,fun _=>rfl,.bool true,On l _,fun _=>⟨List.Pairwise.nil,fun _ hm=>(nomatch hm)⟩⟩,h2,h3,h4⟩
section
variable {prog:Program}{w:World}{A:Around}{E:Value→Shared→Prop}{s:Shared}{K:Frag}
def LX (h:Heap):Heap:={h with objs:=#[]}
def PM (h:Heap) (L d:Addr):List (Addr×Obj):=(List.range h.objs.size).filterMap fun a=>if a=L∨a=d then none else(h.get? a).map fun o=>(a,o)
end
end Att
namespace L2
open PySem PySem.Spec PyProof.Rows
theorem XC:∀ {vs:List Value}{ns:List Int},IntsAre vs ns→Vals (ns.map V.int) vs
 |_,_,.nil=>.nil
 |_,_,.cons n t h=>.cons ⟨t,rfl⟩ (XC h)
def En (H:Hp):Prop:=∀ b,H b=none∨∃ o xs,H b=some (.frz o (.lst xs))
theorem BA{P:Program}{w:World}{K:PySem.W.Frag}{mg mb:Str→Option Value}{CX:CXT}{k:Nat}{fa a:Addr}{fd:FuncData}{x:Str}{sp:Sp}{s₁:Shared}{vs:List Value}{ns:List Int}
  (KX:K.In s₁.heap) (hns:s₁.heap.Ns mainGlobals mg) (hb:s₁.heap.Ns builtinsNs mb) (hbb:∀ x:Str,x≠"__name__"→mb x=bootBuiltins x) (hlim:s₁.heap.NoLimit) (hg:s₁.gens=#[])
  (ha:s₁.heap.get? a=some {cls:=.type "list",data:=.seq vs.toArray}) (hi:IntsAre vs ns) (hl:ns.length≤sizeLine) (hr:Room k callerA)
  (F:∀ base:Heap,K.In base→base.Ns mainGlobals mg→FnOk P w K mg base CX k fa fd [x] sp) (hbind:∀ (s:Shared) (u:Value),BindsTo s fd ⟨[u],[]⟩ [(x,u)])
  (hsp:∀ H:Hp,En H→SqL K H a (ns.map V.int)→sp [.ref a] H (fun v _=>v=.bl true) fun _ _ _=>False)
  (hCX:∀ H e s',CX [] H s₁ (fun _ _ _=>False) e s'→False) :
  codeAny (model P w) callerA (.call (.ref fa) ⟨[.ref a],[]⟩) (fun r s'=>r=.ok (.ret (.bool true))∧OldK s₁.heap s'.heap∧s'.os=s₁.os∧AllBare s'.gens) s₁:=by
 have rv:=XC hi;have lenV:=hi.length;have core:∀ H:Hp,En H→SqL K H a (ns.map V.int)→HOk P w H s₁.heap→(∀ b,H b≠none→b=a)→(H a≠none→K.lookup a=none)→
   codeAny (model P w) callerA (.call (.ref fa) ⟨[.ref a],[]⟩) (fun r s'=>r=.ok (.ret (.bool true))∧OldK s₁.heap s'.heap∧s'.os=s₁.os∧AllBare s'.gens) s₁:=by
  intro H hO hS hok hA hK;have base_of:∀ {b:Addr}{o:Obj},s₁.heap.get? b=some o→H b=none→(JY s₁.heap H).get? b=some o:=fun e n=>O8 e n;have noA:∀ {b:Addr}{o:Obj}{es:Array DictEntry}{ep:Nat},s₁.heap.get? b=some o→o.data=.dict es ep→H b=none:=fun {b o es ep} e d=>by
   cases q:H b with
   |none=>rfl
   |some u =>have e':b=a:=hA b (by rw[q];simp);subst e';rw[ha]at e;cases e;have d':Data.seq vs.toArray _=Data.dict es ep:=d;cases d'
  have nsK:∀ {b:Addr}{m:Str→Option Value},s₁.heap.Ns b m→(JY s₁.heap H).Ns b m:=fun {b m} ⟨o,es,ep,e,d,r⟩=>⟨o,es,ep,base_of e (noA e d),d,r⟩
  have hKb:K.In (JY s₁.heap H):=fun b o e=>base_of (KX b o e) (by
    cases q:H b with
    |none=>rfl
    |some u =>
      have e':b=a:=hA b (by rw[q];simp)
      subst e'
      rw[hK (by rw[q];simp)]at e;cases e)
  have hM:Mod K mg (JY s₁.heap H):=⟨hKb,nsK hns,⟨mb,nsK hb,hbb⟩,let ⟨mc,h1,h2⟩:=hlim;⟨mc,nsK h1,h2⟩⟩
  have e0:Env0 P w K mg (JY s₁.heap H) callerA [] s₁ H:=⟨rfl,hM,fun b o e=>CU e,Nat.le_of_eq (Oa _ _),trivial,fun b hb=>absurd (show b∈([]:List Addr) from hb) (by simp),hok,.of_eq hg⟩
  refine codeAny_mono ((F _ hKb (nsK hns)).run callerA [] s₁ H ⟨[.ref a],[]⟩ [.ref a] [.ref a] _ _ hr e0 (hbind s₁ (.ref a)) (.cons rfl .nil) (hsp H hO hS)) fun r s' h=>?_;cases r with
  |error e=>exact(hCX H e s' h).elim
  |ok fl =>
   cases fl with
   |next=>exact False.elim h
   |brk=>exact False.elim h
   |cont=>exact False.elim h
   |ret u =>
    obtain⟨v,H',os,bare,un,hok',r',q⟩:=h;have q':v=.bl true:=q;subst q';obtain rfl:u=Value.bool true:=r';refine⟨rfl,OldK.of_keep fun b o e=>?_,os,bare⟩;cases q:H b with
    |none=>exact un.keep b o e q (by intro z;exact absurd (show b∈([]:List Addr) from z) (by simp)) (by simp)
    |some u =>
     rcases hO b with z|⟨ob,xs,z⟩
     ·rw[q]at z;cases z
     ·have z2:=un.frzs b ob _ z;obtain⟨e1,_⟩:=hok b _ z;obtain⟨e2,_⟩:=hok' b _ z2;rw[e]at e1;cases e1;exact e2
 cases hk:K.lookup a with
 |some o =>have e:=KX a o hk;rw[ha]at e;cases e;refine core (fun _=>none) (fun _=>.inl rfl) (.inr ⟨_,vs.toArray,_,hk,rfl,rfl,rfl,by rw[List.size_toArray,lenV];exact hl,by simpa using rv⟩) (fun b u z=>by have z':(none:Option HO)=some u:=z;cases z') (fun b z=>absurd rfl z) fun z=>absurd rfl z
 |none =>
  refine core (fun b=>if b=a then some (.frz {cls:=.type "list",data:=.seq vs.toArray} (.lst (ns.map V.int)))else none) (fun b=>?_) (.inl (.inr ⟨{cls:=.type "list",data:=.seq vs.toArray},if_pos rfl⟩)) (fun b u z=>?_) (fun b z=>?_) fun _=>hk
  ·by_cases hb:b=a
   ·exact .inr ⟨_,_,if_pos hb⟩
   ·exact .inl (if_neg hb)
  ·by_cases hb:b=a
   ·have z':=(if_pos hb).symm.trans z;cases z';subst hb;exact⟨ha,by rw[List.length_map];exact hl,vs,_,rv,ha⟩
   ·have z':=(if_neg hb).symm.trans z;cases z'
  ·by_cases hb:b=a
   ·exact hb
   ·exact absurd (if_neg hb) z
abbrev KOf {K:PySem.W.Frag}{h:Heap}(_:K.In h):PySem.W.Frag:=K
def LI (s:Stmt) (j:Nat):Stmt:=match s with
 |.ClassDef _ _ _ body _ _ _ _ _ _ _=>body.getD j (.Pass ⟨0,0,0,0⟩)
 |_=>.Pass ⟨0,0,0,0⟩
def Yv (s:Stmt):Arguments:=match s with
 |.FunctionDef _ a _ _ _ _ _ _ _ _=>a
 |_=>{posonlyargs:=[],args:=[],vararg:=none,kwonlyargs:=[],kw_defaults:=[],kwarg:=none,defaults:=[]}
def ZK (s:Stmt):List Stmt:=match s with
 |.FunctionDef _ _ b _ _ _ _ _ _ _=>b
 |_=>[]
def Zq (s:Stmt):Scope:=match s with
 |.FunctionDef _ _ _ _ _ _ sc _ _ _=>sc
 |_=>{kind:=.function,names:=[],isGenerator:=false,isCoroutine:=false}
abbrev CX0:CXT:=fun _ _ _ _ _ _=>False
abbrev E0:XK:=fun _ _ _=>False
structure Fun (K:PySem.W.Frag) (x qual:Str) (st:Stmt) (f:Addr) (fd:FuncData):Prop where
 ex:∃ (oc:Value) (od:Option Addr) (kV doc pm:Value) (an:Option Addr) (cdv ct:Value) (osl:Array (Option Value)),
  fd=PySem.W.fnOf x qual (Yv st) (ZK st) (Zq st) .none kV doc pm an cdv ct∧K.lookup f=some ⟨oc,od,.func fd,osl⟩∧PySem.W.codeIn K cdv qual=true
 kp:PySem.W.keepIn K (.ref f)=true
section
variable {P:Program}{w:World}{K:PySem.W.Frag}{mg:Str→Option Value}{base:Heap}
theorem Fun.ok{x qual:Str}{st:Stmt}{f:Addr}{fd:FuncData}{N ps:List Str}{k:Nat}{sp:Sp}(F:Fun K x qual st f fd)(S:FnScope N ps (Zq st))(len:∀ vs H Q E,sp vs H Q E→vs.length=ps.length)
  (hbody:∀ (cdv:Value) (A:Around) (outer:List Env) (s:Shared) (H:Hp) (vs:List V) (Q:VK) (E:XK),Room k (A.deeper (envOfC qual (Zq st) s.heap.objs.size f cdv))→sp vs H Q E→
    ∃ t,PSs (Jf CX0 P w K mg base N qual (Zq st) f cdv A outer s H E).nox (ZK st) t∧t { nx:=fun _ H'=>Q .non H',rt:=Q } (start N vs) H):FnOk P w K mg base CX0 (k+1) f fd ps sp:=by
 obtain⟨oc,od,kV,doc,pm,an,cdv,ct,osl,rfl,lk,hcd⟩:=F.ex;refine Ec lk hcd S len fun A outer s H vs Q E hr hsp=>?_;obtain⟨t,h,q⟩:=hbody cdv A outer s H vs Q E hr hsp;exact⟨t,h.nox,q⟩
theorem Fun.binds{x qual:Str}{st:Stmt}{f:Addr}{fd:FuncData}{ps:List Str}(F:Fun K x qual st f fd)
  (h:∀ (kV doc pm:Value) (an:Option Addr) (cdv ct:Value) (us:List Value),us.length=ps.length→bindArgs (PySem.W.fnOf x qual (Yv st) (ZK st) (Zq st) .none kV doc pm an cdv ct) ⟨us,[]⟩=pure (ps.zip us)):Binds K fd ps []:=by
 obtain⟨oc,od,kV,doc,pm,an,cdv,ct,osl,rfl,lk,hcd⟩:=F.ex;exact .all (h kV doc pm an cdv ct)
theorem A0{x qual:Str}{st:Stmt}{f:Addr}{oc:Value}{od an:Option Addr}{osl:Array (Option Value)}{kV doc pm cdv ct:Value}(l:K.lookup f=some ⟨oc,od,.func (PySem.W.fnOf x qual (Yv st) (ZK st) (Zq st) .none kV doc pm an cdv ct),osl⟩)
  (c:PySem.W.codeIn K cdv qual=true) (k:PySem.W.keepIn K (.ref f)=true):Fun K x qual st f (PySem.W.fnOf x qual (Yv st) (ZK st) (Zq st) .none kV doc pm an cdv ct):=⟨⟨oc,od,kV,doc,pm,an,cdv,ct,osl,rfl,l,c⟩,k⟩
end
def Same (H H':Hp):Prop:=∀ b o,H b=some o→H' b=some o
theorem Same.refl(H:Hp):Same H H:=fun _ _ h=>h
theorem Same.trans{H H1 H2:Hp}(a:Same H H1)(b:Same H1 H2):Same H H2:=fun c o h=>b c o (a c o h)
theorem Same.free{H H':Hp}(e:Same H H'){l:Addr}(h:H' l=Option.none):H l=Option.none:=by
 cases q:H l with
 |none=>rfl
 |some o =>rw[e l o q]at h;cases h
theorem Same.seq{K:PySem.W.Frag}{H H':Hp}{a:Addr}{xs:List V}(e:Same H H')(h:SqL K H a xs):SqL K H' a xs:=by
 rcases h with(h|⟨o,h⟩)|h
 ·exact .inl (.inl (e _ _ h))
 ·exact .inl (.inr ⟨o,e _ _ h⟩)
 ·exact .inr h
end L2
set_option maxHeartbeats 4000000
namespace L2
open PySem PySem.Spec PyProof.Rows
theorem HOk.track{P:Program}{w:World}{H:Hp}{h:Heap}{a:Addr}{o:HO}(x:HOk P w H h)(hn:H a=none)(new:ObjOk P w (upd H a o) h a o):HOk P w (upd H a o) h:=fun b u e=>by
 by_cases hb:b=a
 ·subst hb;rw[upd_same]at e;cases e;exact new
 ·rw[upd_ne hb]at e;exact(x b u e).stay (fun c v _ q=>q) (fun c q=>by rw[upd_ne (Zl q hn)];exact q) fun c xs q=>by rw[upd_ne (Zl q hn)];exact q
theorem HOk.same{P:Program}{w:World}{H:Hp}{h h':Heap}{C:Addr}(x:HOk P w H h)(hn:H C=none)(hs:Heap.SameBut C h h'):HOk P w H h':=fun b u e=>by
 refine(x b u e).stay (fun c v hc q=>hs.extBut c v ?_ q) (fun _ q=>q) fun _ _ q=>q;rcases hc with z|z
 ·rw[z];exact Zl e hn
 ·exact Zl z hn
def ZQ (X:Cx) (scope:Scope) (N':List Str) (cl:List (Str×Addr)) (C:Addr) (s:Shared) (H:Hp) (ex:List Addr):Cx where
 prog:=X.prog
 w:=X.w
 K:=X.K
 mg:=X.mg
 base:=X.base
 A:=X.A
 N:=N'
 s₀:=s
 H₀:=H
 env:=compEnvC scope cl C X.env
 outer:=X.stack
 stack:=X.stack
 ex:=ex
 fn:=fun _=>false
 calm:=X.calm
 pn:=[]
 xe:=fun _ _=>False
def Yz (X:Cx) (x:Str) (caps:List Nat):List Str:=x::caps.map fun j=>X.N.getD j Str.empty
def XO (σ:St) (caps:List Nat):St:=caps.map fun j=>(σ[j]?).getD none
structure BlkOk (X:Cx) (scope:Scope) (x:Str) (caps:List Nat):Prop where
 kind:scope.kind=.function
 nocell:∀ y∈scope.names,y.2≠.cell
 locs:∀ y∈scope.names,y.2=.local→scope.names.lookup y.1=some .local
 own:scope.names.lookup x=some .local
 frees:∀ y∈scope.names,y.2=.free→X.env.kindOf y.1=some .cell
 cap:∀ j∈caps,(X.N[j]?).isSome=true∧X.env.kindOf (X.N.getD j Str.empty)=some .cell∧scope.names.lookup (X.N.getD j Str.empty)=some .free
 nd:(Yz X x caps).Nodup
theorem Yx{env:Env}:∀ (names:List (Str×NameKind)) (acc:List (Str×Addr)),(∀ y∈names,y.2=.free→∃ c,env.cells.lookup y.1=some c)→(∀ x c,acc.lookup x=some c→env.cells.lookup x=some c)→
  ∃ cl,(forIn names acc fun(p:Str×NameKind) (r:List (Str×Addr))=>(do
    if(p.2 == NameKind.free)=true then do let a←cellOf env p.1;pure (ForInStep.yield ((p.1,a)::r))else pure (ForInStep.yield r):Sem _))=pure cl∧
   (∀ x c,cl.lookup x=some c→env.cells.lookup x=some c)∧(∀ x c,acc.lookup x=some c→∃ c',cl.lookup x=some c')∧∀ x,(x,NameKind.free)∈names→∃ c,cl.lookup x=some c
 |[],acc,_,ha=>⟨acc,rfl,ha,fun x c h=>⟨c,h⟩,fun x h=>nomatch h⟩
 |(n,k)::r,acc,hn,ha=>by
  by_cases hk:k=.free
  ·subst hk;obtain⟨c,hc⟩:=hn (n,.free) List.mem_cons_self rfl;have ha':∀ x d,(((n,c)::acc:List (Str×Addr))).lookup x=some d→env.cells.lookup x=some d:=fun x d h=>by
    rw[List.lookup_cons]at h;cases e:x==n with
    |true =>
     rw[e]at h;have:x=n:=by simpa using e
     subst this;cases h;exact hc
    |false=>rw[e]at h;exact ha x d h
   obtain⟨cl,h1,h2,h3,h4⟩:=Yx r ((n,c)::acc) (fun y hy=>hn y (List.mem_cons_of_mem _ hy)) ha';refine⟨cl,?_,h2,fun x d h=>?_,fun x hx=>?_⟩
   ·rw[List.forIn_cons];have e:cellOf env n=pure c:=by unfold cellOf;rw[hc]
    simp only[beq_self_eq_true,if_true,e];exact h1
   ·by_cases hx:x=n
    ·subst hx;exact h3 x c (by rw[List.lookup_cons];simp)
    ·exact h3 x d (by rw[List.lookup_cons,beq_false_of_ne hx];exact h)
   ·rcases List.mem_cons.mp hx with e|hx
    ·cases e;exact h3 _ c (by rw[List.lookup_cons];simp)
    ·exact h4 x hx
  ·have hb:(k==NameKind.free)=false:=by simpa using hk
   obtain⟨cl,h1,h2,h3,h4⟩:=Yx r acc (fun y hy=>hn y (List.mem_cons_of_mem _ hy)) ha;refine⟨cl,?_,h2,h3,fun x hx=>?_⟩
   ·rw[List.forIn_cons];simp only[hb,Bool.false_eq_true,if_false];exact h1
   ·rcases List.mem_cons.mp hx with e|hx
    ·cases e;exact absurd rfl hk
    ·exact h4 x hx
theorem ZV{env:Env}:∀ {names:List (Str×NameKind)}{x:Str}{k:NameKind},(names.map fun(n,k)=>if(k==NameKind.free&&env.scope.kind == .function&&env.kindOf n==some .cell)then(n,NameKind.cell)else(n,k)).lookup x=some k→
  (∃ k0,(x,k0)∈names∧names.lookup x=some k0∧(k0=k∨(k0=.free∧k=.cell)))
 |[],_,_,h=>by simp at h
 |(n,k0)::r,x,k,h=>by
  rw[List.map_cons,List.lookup_cons]at h;cases hx:x==n with
  |true =>
   have e:x=n:=by simpa using hx
   subst e;refine⟨k0,List.mem_cons_self,by rw[List.lookup_cons];simp,?_⟩;by_cases hc:(k0==NameKind.free&&env.scope.kind == .function&&env.kindOf x==some .cell)=true
   ·rw[if_pos hc]at h;simp at h;have:k0=.free:=by
     simp only[bAq]at hc;simpa using hc.1.1
    exact .inr ⟨this,h.symm⟩
   ·rw[if_neg hc]at h;simp at h;exact .inl h
  |false =>
   have h':(r.map fun(n,k)=>if(k==NameKind.free&&env.scope.kind == .function&&env.kindOf n==some .cell)then(n,NameKind.cell)else(n,k)).lookup x=some k:=by
    by_cases hc:(k0==NameKind.free&&env.scope.kind == .function&&env.kindOf n==some .cell)=true
    ·rw[if_pos hc]at h;simpa[hx]using h
    ·rw[if_neg hc]at h;simpa[hx]using h
   obtain⟨k1,a,b,c⟩:=ZV h';exact⟨k1,List.mem_cons_of_mem _ a,by rw[List.lookup_cons,hx];exact b,c⟩
def PIfs (X:Cx) (ifs:List Expr) (t:TT):Prop :=
 ∀ (pins:List (Addr×Obj)) (s:Shared) (σ:St) (H:Hp) (Q:Bool→Hp→Prop),Inv X pins σ H s→t σ H Q→
  wpAny (model X.prog X.w) X.A (forIn ifs true fun c r=>if r=true then do let ok←isTrue c X.env (eval c X.env);pure (ForInStep.yield ok)else pure (ForInStep.yield r)) (TP X pins σ Q) X.xe s
def Po:TT:=fun _ H Q=>Q true H
theorem pifs_nil{X:Cx}:PIfs X [] Po:=fun _ _ _ H _ I h=>wpAny_tests_nil ⟨H,I,h⟩
theorem Xl{X:Cx}{c:Expr}{t:TT}(h:PT X c t):PIfs X [c] t:=fun pins s σ H Q I hq=>wpAny_tests_one (h pins s σ H Q I hq)
def Ea (J:It) (cap:St) (tc:TT) (te:TE) (Fin:List V→Hp→Prop) (W:Nat→Nat→List V→Hp→Prop):Prop :=
 ∀ i m ys H,W i m ys H→ys.length<sizeLine∧((J.stop i H∧Fin ys H)∨(J.go i H∧∃ N:List V→Hp→Prop,(∀ ys' H',N ys' H'→∃ m',m'<m∧W (i+1) m' ys' H')∧∀ x H',J.yld i H x H'→
   tc (some x::cap) H' fun b H2=>if b=true then te (some x::cap) H2 fun y H3=>N (ys++[y]) H3 else N ys H2))
def Ud (wi:TI) (caps:List Nat) (tc:TT) (te:TE):TE:=fun σ H Q=>wi σ H fun J H1=>∃ W:Nat→Nat→List V→Hp→Prop,(∃ m,W 0 m [] H1)∧
 Ea J (XO σ caps) tc te (fun ys H=>∀ p,H p=none→Q (.ref p) (upd H p (.lst ys))) W
section
variable {X:Cx}{pins:List (Addr×Obj)}{σ:St}{H2:Hp}{s2:Shared}
theorem OA{scope:Scope}{x:Str}{caps:List Nat}{cl:List (Str×Addr)}{fp:List Addr}{s3:Shared}{D:Addr}{h1:Heap}{tk:Nat}{m:Str→Option Value}(B:BlkOk X scope x caps)(I2:Inv X pins σ H2 s2)(f2:∀ b∈fp,XB X pins H2 b)
  (c1:∀ x c,cl.lookup x=some c→X.env.cells.lookup x=some c) (c2:∀ x,(x,NameKind.free)∈scope.names→∃ c,cl.lookup x=some c)
  (I3:Inv X pins σ H2 s3) (hD:D=s2.heap.objs.size) (h3:s3.heap.objs.size=D+1) (old:∀ b o,s3.heap.get? b=some o→h1.get? b=some o) (hfp:∀ b∈fp,b<s2.heap.objs.size)
  (hn:h1.Ns s3.heap.objs.size m) :
  Inv (ZQ X scope (Yz X x caps) cl s3.heap.objs.size s3 H2 (D::fp)) [] (none::XO σ caps) H2 {s3 with heap:=h1,toks:=tk}:=by
 have neD:∀ b o,s2.heap.get? b=some o→b≠D:=fun b o e=>by rw[hD];exact Nat.ne_of_lt (Heap.lt_size e)
 have exlt:∀ b∈D::fp,b<s3.heap.objs.size:=fun b hb=>by
  rw[h3];rcases List.mem_cons.mp hb with e|hb
  ·rw[e];exact Nat.lt_succ_self _
  ·exact Nat.lt_succ_of_lt (by rw[hD];exact hfp b hb)
 have keeps:=I3.hok.kept (h':=h1) old;refine⟨⟨I2.mod,B.kind,I2.ok.glob,I2.ok.blt,Nat.le_refl _,fun y z c e1 e2=>?_,fun y hy=>?_,fun y c e _=>(by cases e),fun hc=>I2.ok.hd hc,I2.ok.frames,.inl rfl,fun b hb=>?_,fun b o e=>?_,?_,fun b o e hb=>?_,fun b hb hf=>?_,I3.stack,fun b hb=>I2.stkFree b hb⟩,
   rfl,I3.bare,Un.kept old,⟨m,hn,fun i y v e1 e2 e3=>?_⟩,fun y c e=>?_,I3.hok.fresh (Nat.le_refl _),fun y c e=>I3.freeC y c (c1 y c e),fun p hp=>(nomatch hp),keeps,?_⟩
 ·exact I2.ok.inj y z c (c1 y c e1) (c1 z c e2)
 ·have hy:(relabel scope X.env).names.lookup y=some .cell∨(relabel scope X.env).names.lookup y=some .free:=hy;rcases hy with hy|hy
  ·obtain⟨k0,a,b,c⟩:=ZV hy;rcases c with c|⟨c,_⟩
   ·subst c;exact absurd rfl (B.nocell _ a)
   ·subst c;exact c2 y a
  ·obtain⟨k0,a,b,c⟩:=ZV hy;rcases c with c|⟨_,c⟩
   ·subst c;exact c2 y a
   ·cases c
 ·refine⟨Nat.ne_of_lt (exlt b hb),fun y c e z=>?_⟩;have e':=c1 y c e;rcases List.mem_cons.mp hb with q|q
  ·obtain⟨v,o,ho,_⟩:=I2.cell y c e';exact neD c o ho (z.trans q)
  ·exact(f2 b q).2.2.2.2.1 y c e' z
 ·exact I3.bs b o e
 ·exact Nat.le_trans I2.ok.bsz (Nat.le_trans I2.sz (show s2.heap.objs.size≤s3.heap.objs.size by rw[h3,hD];exact Nat.le_succ _))
 ·rcases List.mem_cons.mp hb with q|q
  ·exact neD b o (I2.bk b o e) q
  ·rcases (f2 b q).2.2.2.1 with z|z
   ·exact I2.ok.noex b o e z
   ·exact absurd (Nat.lt_of_lt_of_le (Heap.lt_size (I2.ok.bs b o e).1) z) (Nat.lt_irrefl _)
 ·have hf:b∈frs X.stack:=hf;rcases List.mem_cons.mp (I2.stkSub b hf)with z|z
  ·rcases List.mem_cons.mp hb with q|q
   ·exact absurd I2.lt (by rw[←z,q,hD];exact Nat.lt_irrefl _)
   ·exact(f2 b q).2.1 z
  ·rcases List.mem_cons.mp hb with q|q
   ·exact I2.nofs (a:=b) (by rw[q,hD];exact Nat.le_refl _) z
   ·exact(f2 b q).2.2.1 z
 ·cases i with
  |zero=>cases e2
  |succ j =>
   have e1:(caps.map fun j=>X.N.getD j Str.empty)[j]?=some y:=e1;have e2:(caps.map fun j=>(σ[j]?).getD none)[j]?=some (some v):=e2;rw[List.getElem?_map]at e1 e2;cases hj:caps[j]? with
   |none=>rw[hj]at e1;cases e1
   |some q =>
    rw[hj]at e1 e2;have e1':X.N.getD q Str.empty=y:=Option.some.inj e1;have e2':(σ[q]?).getD none=some v:=Option.some.inj e2;obtain⟨hs,hk,hsc⟩:=B.cap q (List.mem_of_getElem? hj);obtain⟨y',hy'⟩:=Option.isSome_iff_exists.mp hs;have ey:y'=y:=by rw[←e1',List.getD_eq_getElem?_getD,hy'];rfl
    subst ey;have es:σ[q]?=some (some v):=by
     cases hq:σ[q]? with
     |none=>rw[hq]at e2';cases e2'
     |some o=>rw[hq]at e2';exact congrArg some e2'
    rw[e1']at hk hsc;obtain⟨m2,_,hl⟩:=I3.loc;have hk':X.env.scope.names.lookup y'=some .cell:=hk;obtain⟨u,r,l⟩:=hl q y' v hy' es (.inr (.inl hk'));refine⟨u,r,.inr ⟨?_,?_⟩⟩
    ·rcases e3 with e3|e3|e3
     ·obtain⟨k0,a,b,c⟩:=ZV (show(relabel scope X.env).names.lookup y'=some .local from e3);rw[hsc]at b;cases b;rcases c with c|⟨_,c⟩<;>cases c
     ·exact .inl e3
     ·exact .inr e3
    ·rcases l with⟨l,_⟩|⟨_,c,hc,z⟩
     ·rw[hk]at l;cases l
     ·obtain⟨c',hc'⟩:=c2 y' (PySem.mem_of_lookup hsc);have ec:c'=c:=Option.some.inj ((c1 y' c' hc').symm.trans hc);subst ec;obtain⟨o,ho,hd⟩:=z;exact⟨c',hc',o,old c' o ho,hd⟩
 ·obtain⟨v,o,ho,hd⟩:=I3.cell y c (c1 y c e);exact⟨v,o,old c o ho,hd⟩
 ·show _=(Yz X x caps).length;unfold Yz XO;rw[List.length_cons,List.length_cons,List.length_map,List.length_map]
theorem YZ{scope:Scope}{env:Env}(h:∀ y∈scope.names,y.2=.free→∃ c,env.cells.lookup y.1=some c) :
  ∃ cl,closureFor scope env=pure cl∧(∀ x c,cl.lookup x=some c→env.cells.lookup x=some c)∧∀ x,(x,NameKind.free)∈scope.names→∃ c,cl.lookup x=some c:=by
 obtain⟨cl,h1,h2,_,h4⟩:=Yx (env:=env) scope.names [] h (fun x c e=>nomatch e);refine⟨cl,?_,h2,h4⟩;simp only[closureFor];have e:(forIn scope.names ([]:List (Str×Addr)) fun x r =>
     (match x with
     | (name,kind)=>if(kind == NameKind.free)=true then do let a←cellOf env name;pure (ForInStep.yield ((name,a)::r))else pure (ForInStep.yield r):Sem (ForInStep (List (Str×Addr)))))=pure cl:=h1
 first
  |(rw[e];rfl)
  |(refine Eq.trans (congrArg (· >>= pure) ?_) (rfl:(pure cl >>= pure:Sem _)=pure cl);exact e)
theorem KE{prog:Program}{w:World}{A:Around}{R:Result→Shared→Prop}{s:Shared}{elt target iter:Expr}{ifs:List Expr}{scope:Scope}{pos:Pos}{it acc:Value}{env:Env}(I:Nat→Shared→Prop)
  (turn:∀ n s,I n s→wpAny (model prog w) A (pyNext it) (fun r s₁=>match r with
    |none=>R (.ok .next) s₁
    | some v=>wpAny (model prog w) A (letOwnedTupleGo target it v) (fun _ s₁=>wpAny (model prog w) A (assign target env v) (fun _ s₂ =>
        wpAny (model prog w) A (forIn ifs true fun c r=>if r=true then do let ok←isTrue c env (eval c env);pure (ForInStep.yield ok)else pure (ForInStep.yield r)) (fun ok s₃ =>
          if ok=true then wpAny (model prog w) A (eval elt env) (fun x s₄ =>
            wpAny (model prog w) A (call (.builtin "list.append") [acc,x]) (fun _ s₅=>∃ m,m<n∧I m s₅) (fun _ _=>False) s₄) (fun _ _=>False) s₃
          else ∃ m,m<n∧I m s₃) (fun _ _=>False) s₂) (fun _ _=>False) s₁) (fun _ _=>False) s₁) (fun _ _=>False) s)
  (n:Nat) (h:I n s) :
  codeAny (model prog w) A (.compLoop (.ListComp elt [⟨target,iter,ifs,0⟩] scope pos) 0 it acc env) R s:=by
 refine codeAny_loop rfl I (fun n s hI=>?_) n h;show wpAny _ A ((compTurn (.ListComp elt [⟨target,iter,ifs,0⟩] scope pos) 0 it acc env).onRaise (fun x=>do noteFrame x env;theTreesLotGoes x)) _ _ s;refine wpAny_noted ?_;rw[compTurn_list];refine wpAny_bind (wpAny_standAt (wpAny_bind (wpAny_mono (turn n s hI) (fun r s₁ h₁=>?_) fun _ _ h'=>h'.elim)));cases r with
 |none=>exact wpAny_pure h₁
 |some v =>
  refine wpAny_bind (wpAny_mono h₁ (fun _ s₁ h₁=>?_) fun _ _ h'=>h'.elim);refine wpAny_bind (wpAny_mono h₁ (fun _ s₂ h₂=>wpAny_bind (wpAny_mono h₂ (fun ok s₃ h₃=>?_) fun _ _ h'=>h'.elim)) fun _ _ h'=>h'.elim);cases ok with
  |false=>exact wpAny_pure ⟨rfl,h₃⟩
  |true =>exact wpAny_bind (wpAny_bind (wpAny_mono h₃ (fun x s₄ h₄=>wpAny_bind (wpAny_mono h₄ (fun _ s₅ h₅=>wpAny_pure (wpAny_pure ⟨rfl,h₅⟩)) fun _ _ h'=>h'.elim)) fun _ _ h'=>h'.elim))
theorem JE{scope:Scope}{x:Str}{px:Pos}{caps:List Nat}{elt iter:Expr}{ifs:List Expr}{pos:Pos}{cl:List (Str×Addr)}{fp:List Addr}{it:Addr}{tn:Nat→Heap→Prop}{J:It}{tc:TT}{te:TE}{Fin:List V→Hp→Prop}{W:Nat→Nat→List V→Hp→Prop}{E:Value→Shared→Prop}
  {RR:Value→Addr→Result→Shared→Prop}{m0:Nat}(hc:X.calm=true) (B:BlkOk X scope x caps) (I2:Inv X pins σ H2 s2) (T:Turn X.prog X.w X.K (.Name x px) J fp it tn) (st2:tn 0 s2.heap) (f2:∀ b∈fp,XB X pins H2 b)
  (c1:∀ x c,cl.lookup x=some c→X.env.cells.lookup x=some c) (c2:∀ x,(x,NameKind.free)∈scope.names→∃ c,cl.lookup x=some c)
  (hI:∀ cl C s H ex,PIfs (ZQ X scope (Yz X x caps) cl C s H ex) ifs tc) (hE:∀ cl C s H ex,PE (ZQ X scope (Yz X x caps) cl C s H ex) elt te)
  (w0:W 0 m0 [] H2) (cw:Ea J (XO σ caps) tc te Fin W)
  (hRR:∀ D C s' H' ys m,H' D=none→s'.heap.Ns C m→XB X pins (upd H' D (.lst ys)) C→Inv X pins σ (upd H' D (.lst ys)) s'→Fin ys H'→RR (.ref D) C (.ok .next) s') :
  wpAny (model X.prog X.w) X.A (newList []) (fun acc s₃=>wpAny (model X.prog X.w) X.A (newFunctionEnv scope X.env.globals cl [] X.env.qual none .none (some X.env)) (fun cenv s₄ =>
    codeAny (model X.prog X.w) X.A (.compStart (.ListComp elt [⟨.Name x px,iter,ifs,0⟩] scope pos) 0 (.ref it) acc { cenv with scope:=relabel scope X.env }) (RR acc cenv.locals) s₄) E s₃) E s2:=by
 refine wpAny_newObj_type (wpAny_newFunctionEnv B.nocell (by intro y hy;simp at hy) (fun h₁ hns₁ hsb₁=>?_) B.kind);dsimp only at hns₁ hsb₁ ⊢;have hfp:∀ b∈fp,b<s2.heap.objs.size:=fun b hb=>by obtain⟨o,e,_⟩:=T.obj _ _ st2 b hb;exact Heap.lt_size e
 have I3:Inv X pins σ H2 {s2 with heap:=s2.heap.push {cls:=.type "list",dict:=none,data:=.seq ([]:List Value).toArray}}:=I2.kept (t':=s2.toks) fun b o e=>Heap.get?_push_of_some _ e;have h3:(s2.heap.push {cls:=.type "list",dict:=none,data:=.seq ([]:List Value).toArray}).objs.size=s2.heap.objs.size+1:=Heap.size_push ..;have hobj:(s2.heap.push {cls:=.type "list",dict:=none,data:=.seq ([]:List Value).toArray}).get? s2.heap.objs.size=some {cls:=.type "list",dict:=none,data:=.seq ([]:List Value).toArray}:=Heap.get?_push_size _ rfl;have old3:∀ b o,s2.heap.get? b=some o→(s2.heap.push {cls:=.type "list",dict:=none,data:=.seq ([]:List Value).toArray}).get? b=some o:=fun b o e=>Heap.get?_push_of_some _ e;generalize hH3:s2.heap.push {cls:=.type "list",dict:=none,data:=.seq ([]:List Value).toArray}=h3' at hns₁ hsb₁ I3 h3 hobj old3 ⊢;have old:∀ b o,h3'.get? b=some o→h₁.get? b=some o:=fun b o e=>hsb₁.extBut b o (Nat.ne_of_lt (Heap.lt_size e)) (Heap.get?_push_of_some _ e);have hDC:s2.heap.objs.size≠h3'.objs.size:=by rw[h3];exact Nat.ne_of_lt (Nat.lt_succ_self _)
 have IB:=OA (cl:=cl) (fp:=fp) (s3:={s2 with heap:=h3'}) (D:=s2.heap.objs.size) (h1:=h₁) (tk:=s2.toks+([]:List (Str×Value)).length) B I2 f2 c1 c2 I3 rfl h3 old hfp hns₁;generalize hY:ZQ X scope (Yz X x caps) cl h3'.objs.size {s2 with heap:=h3'} H2 (s2.heap.objs.size::fp)=Y at IB;have yP:Y.prog=X.prog:=by rw[←hY];rfl
 have yw:Y.w=X.w:=by rw[←hY];rfl
 have yK:Y.K=X.K:=by rw[←hY];rfl
 have yA:Y.A=X.A:=by rw[←hY];rfl
 have yc:Y.calm=true:=by rw[←hY];exact hc
 have yenv:Y.env=compEnvC scope cl h3'.objs.size X.env:=by rw[←hY];rfl
 have hIY:PIfs Y ifs tc:=by rw[←hY];exact hI _ _ _ _ _
 have hEY:PE Y elt te:=by rw[←hY];exact hE _ _ _ _ _
 have yxe:Y.xe=fun _ _=>False:=by rw[←hY];rfl
 have ypn:Y.pn=[]:=by rw[←hY];rfl
 have hgN:PG Y (.Name x px) (Bh 0):=by rw[←hY];exact Kl B.nd rfl (.inl (lookup_relabel_local B.own)) (.inr (lookup_relabel_local B.own))
 have fD:∀ {H':Hp},H' s2.heap.objs.size=none→XB Y [] H' s2.heap.objs.size:=fun {H'} hn=>by
  refine⟨hn,?_,?_,?_,?_,fun p hp=>?_⟩
  ·rw[yenv];exact hDC
  ·exact IB.ok.exfs _ (by rw[←hY];exact List.mem_cons_self)
  ·exact .inl (by rw[←hY];exact List.mem_cons_self)
  ·exact fun y c e=>(IB.ok.exf _ (by rw[←hY];exact List.mem_cons_self)).2 y c e
  ·rw[ypn]at hp;exact nomatch hp
 have fF:∀ {H':Hp},(∀ b∈fp,H' b=none)→∀ b∈fp,XB Y [] H' b:=fun {H'} hn b hb=>by
  have hm:b∈Y.ex:=by rw[←hY];exact List.mem_cons_of_mem _ hb
  refine⟨hn b hb,?_,IB.ok.exfs b hm,.inl hm,fun y c e=>(IB.ok.exf b hm).2 y c e,fun p hp=>?_⟩
  ·exact(IB.ok.exf b hm).1
  ·rw[ypn]at hp;exact nomatch hp
 have acc0:h₁.PlainList s2.heap.objs.size ([]:List Value).toArray:=⟨0,by exact old _ _ hobj⟩
 have loop:∀ s₃:Shared,s₃={s2 with heap:=h₁,toks:=s2.toks+([]:List (Str×Value)).length}→
   codeAny (model X.prog X.w) X.A (.compLoop (.ListComp elt [⟨.Name x px,iter,ifs,0⟩] scope pos) 0 (.ref it) (.ref s2.heap.objs.size) (compEnvC scope cl h3'.objs.size X.env)) (RR (.ref s2.heap.objs.size) h3'.objs.size) s₃:=by
  rintro s₃ rfl;refine KE (fun n s'=>∃ i ys its H',Inv Y [] (none::XO σ caps) H' s'∧tn i s'.heap∧(∀ b∈fp,H' b=none)∧H' s2.heap.objs.size=none∧Vals ys its∧s'.heap.PlainList s2.heap.objs.size its.toArray∧W i n ys H') ?_ m0
   ⟨0,[],[],H2,IB,T.keep _ _ _ st2 (fun b hb o e=>old _ _ (old3 _ _ e)),fun b hb=>(f2 b hb).1,I2.fresh,.nil,acc0,w0⟩
  rintro n s3 ⟨i,ys,its,H3,I3',st3,fr3,frD,rv,pl,w3⟩;have cv:∀ {α:Type}{f:Sem α}{Q Q':α→Shared→Prop}{s:Shared},wpAny (model Y.prog Y.w) Y.A f Q Y.xe s→(∀ a s',Q a s'→Q' a s')→wpAny (model X.prog X.w) X.A f Q' (fun _ _=>False) s:=fun {α f Q Q' s} h hq=>by rw[yP,yw,yA,yxe]at h;exact wpAny_mono h hq fun _ _ e=>e
  have cvX:∀ {α:Type}{f:Sem α}{Q Q':α→Shared→Prop}{s:Shared},wpAny (model X.prog X.w) Y.A f Q (fun _ _=>False) s→(∀ a s',Q a s'→Q' a s')→wpAny (model X.prog X.w) X.A f Q' (fun _ _=>False) s:=fun {α f Q Q' s} h hq=>by rw[yA]at h;exact wpAny_mono h hq fun _ _ e=>e
  obtain⟨nD,hD3⟩:=id pl;have plD:∀ b∈[s2.heap.objs.size],∃ o,s3.heap.get? b=some o∧∀ v,o.data≠.cell v:=fun b hb=>by
   have e:b=s2.heap.objs.size:=by simpa using hb
   subst e;exact⟨_,hD3,fun v z=>by cases z⟩
  have IP:=I3'.pinned (fp:=[s2.heap.objs.size]) (fun b hb=>by
    have e:b=s2.heap.objs.size:=by simpa using hb
    subst e
    exact fD frD) plD
  have memD:=ZS (fp:=[s2.heap.objs.size]) (List.mem_singleton.mpr rfl) hD3;have fF':∀ b∈fp,XB Y ([]++Y0 [s2.heap.objs.size] s3.heap) H3 b:=fun b hb=>by
   obtain⟨q1,q2,q3,q4,q5,q6⟩:=fF fr3 b hb;refine⟨q1,q2,q3,q4,q5,fun p hp=>?_⟩;rw[ypn]at hp;obtain⟨hp1,_⟩:=Jt (show p∈Y0 [s2.heap.objs.size] s3.heap by simpa using hp);have e:p.1=s2.heap.objs.size:=by simpa using hp1
   rw[e];exact(Nat.ne_of_lt (hfp b hb)).symm
  obtain⟨hys,h|⟨go,N,hN,step⟩⟩:=cw i n ys H3 w3
  ·obtain⟨stop,fin⟩:=h;refine cvX (T.done Y yP yw yK yc i _ s3 _ H3 _ IP fF' st3 stop) fun r s4 ⟨hr,I4⟩=>?_;subst hr;obtain⟨m4,hm4,_⟩:=I4.loc;rw[yenv]at hm4;have base4:Un (frs X.stack) (s2.heap.objs.size::fp) H2 H3 h3' s4.heap:=by
    have:=I4.base;rw[←hY]at this;exact this
   have hok4:HOk X.prog X.w H3 s4.heap:=by have:=I4.hok;rw[yP,yw]at this;exact this
   have pl4:=(I4.pin _ (List.mem_append_right _ (List.mem_append_right _ memD))).1;have nC:H3 h3'.objs.size=none:=by have:=I4.free;rw[yenv]at this;exact this
   have hlen:ys.length≤sizeLine:=Nat.le_of_lt hys;have osEq:s4.os=s2.os:=by have:=I4.os;rw[←hY]at this;exact this
   have neD:∀ b o,s2.heap.get? b=some o→b≠s2.heap.objs.size:=fun b o e=>Nat.ne_of_lt (Heap.lt_size e);have nin:∀ b o,s2.heap.get? b=some o→b∉fp→b∉s2.heap.objs.size::fp:=fun b o e hb z=>(List.mem_cons.mp z).elim (neD b o e) hb;have hokN:HOk X.prog X.w (upd H3 s2.heap.objs.size (.lst ys)) s4.heap:=hok4.track frD ⟨hlen,its,nD,rv,pl4⟩;have U:Un (frs X.stack) fp H2 (upd H3 s2.heap.objs.size (.lst ys)) s2.heap s4.heap:=by
    refine⟨fun b o e hn hf hx=>base4.keep b o (old3 b o e) hn hf (nin b o e hx),fun b o e hn hf hx=>base4.slot b o (old3 b o e) hn hf (nin b o e hx),fun b o e hn hx=>?_,fun b o e hx=>base4.there b o (old3 b o e) (nin b o e hx),fun b xs e=>?_,fun b o xs e=>?_,fun b ps e=>?_⟩
    ·rw[upd_ne (neD b o e)];exact base4.free b o (old3 b o e) hn (nin b o e hx)
    ·have q:=base4.tups b xs e;rw[upd_ne (Zl q frD)];exact q
    ·have q:=base4.frzs b o xs e;rw[upd_ne (Zl q frD)];exact q
    ·obtain⟨more,q⟩:=base4.tbls b ps e;exact⟨more,by rw[upd_ne (Zl q frD)];exact q⟩
   have I5:Inv X pins σ (upd H3 s2.heap.objs.size (.lst ys)) s4:=I2.call' (ch:=fp) osEq U hokN I4.bare fun b hb=>by obtain⟨_,q2,_,q4,q5,q6⟩:=f2 b hb;exact⟨q4,q2,q5,q6⟩
   exact hRR _ _ _ _ _ m4 frD hm4 (I2.fpOk (Nat.le_of_lt (by rw[h3];exact Nat.lt_succ_self _)) (by rw[upd_ne hDC.symm];exact nC)) I5 fin
  ·refine cvX (T.item Y yP yw yK yc i _ s3 _ H3 _ IP fF' st3 go) fun r s4 ⟨u,hr,h4⟩=>?_;subst hr;refine cvX h4 fun _ s5 ⟨y,H5,I5,r5,y5,st5,fr5⟩=>?_;have frD5:H5 s2.heap.objs.size=none:=(I5.pin _ (List.mem_append_right _ (List.mem_append_right _ memD))).2.1;have hD5:=(I5.pin _ (List.mem_append_right _ (List.mem_append_right _ memD))).1;have I5p:=I5.unpinned.pinned (fp:=s2.heap.objs.size::fp) (fun b hb=>by
     rcases List.mem_cons.mp hb with e|hb
     · subst e;exact fD frD5
     · exact fF fr5 b hb) (fun b hb=>by
     rcases List.mem_cons.mp hb with e|hb
     · subst e;exact⟨_,hD5,fun v z=>by cases z⟩
     · exact T.obj _ _ st5 b hb)
   have memD5:=ZS (fp:=s2.heap.objs.size::fp) List.mem_cons_self hD5;rw[←yenv];refine cv (hgN _ s5 _ H5 y u (fun σ' H'=>σ'=some y::XO σ caps∧H'=H5) I5p r5 ⟨rfl,rfl⟩) fun _ s6 ⟨σ6,H6,I6,e6,e6'⟩=>?_;rw[e6,e6']at I6;have back:∀ {m':Nat}{σ7:St}{H7:Hp}{s7:Shared}{ys':List V}{its':List Value},Inv Y [] σ7 H7 s7→σ7=some y::XO σ caps→tn (i+1) s7.heap→(∀ b∈fp,H7 b=none)→H7 s2.heap.objs.size=none→Vals ys' its'→s7.heap.PlainList s2.heap.objs.size its'.toArray→m'<n∧W (i+1) m' ys' H7→
     ∃ m,m<n∧∃ i ys its H',Inv Y [] (none::XO σ caps) H' s7∧tn i s7.heap∧(∀ b∈fp,H' b=none)∧H' s2.heap.objs.size=none∧Vals ys its∧s7.heap.PlainList s2.heap.objs.size its.toArray∧W i m ys H':=by
    intro m' σ7 H7 s7 ys' its' J1 e1 st7 fr7 fd7 rv7 pl7 wm;subst e1;refine⟨m',wm.1,i+1,ys',its',H7,J1.weak (by simp) (fun j v hj=>?_),st7,fr7,fd7,rv7,pl7,wm.2⟩;cases j with
    |zero=>cases hj
    |succ j=>exact hj
   have stay:∀ {σ7:St}{H7:Hp}{s7:Shared},Inv Y ([]++Y0 (s2.heap.objs.size::fp) s5.heap) σ7 H7 s7→tn (i+1) s7.heap∧(∀ b∈fp,H7 b=none)∧H7 s2.heap.objs.size=none∧s7.heap.get? s2.heap.objs.size=some {cls:=.type "list",data:=.seq its.toArray nD}:=by intro σ7 H7 s7 J1;refine⟨T.keep _ _ _ st5 fun b hb o e=>(J1.pin (b,o) (List.mem_append_right _ (List.mem_append_right _ (ZS (List.mem_cons_of_mem _ hb) e)))).1,fun b hb=>?_,(J1.pin _ (List.mem_append_right _ (List.mem_append_right _ memD5))).2.1,(J1.pin _ (List.mem_append_right _ (List.mem_append_right _ memD5))).1⟩;obtain⟨o,e,d⟩:=T.obj _ _ st5 b hb;exact(J1.pin (b,o) (List.mem_append_right _ (List.mem_append_right _ (ZS (List.mem_cons_of_mem _ hb) e)))).2.1
   refine cv (hIY _ s6 _ H5 _ I6 (step y H5 y5)) fun ok s7 ⟨H7,I7,q7⟩=>?_;cases ok with
   |false =>rw[if_neg (by decide)]at q7;rw[if_neg (by decide)];obtain⟨m',wm⟩:=hN _ _ q7;obtain⟨a1,a2,a3,a4⟩:=stay I7;exact back I7.unpinned rfl a1 a2 a3 rv ⟨nD,a4⟩ wm
   |true =>
    rw[if_pos rfl]at q7;rw[if_pos rfl];refine cv (hEY _ s7 _ H7 _ I7 q7) fun z s8 ⟨vz,H8,I8,rz,wm⟩=>?_;obtain⟨m',wm⟩:=hN _ _ wm;obtain⟨a1,a2,a3,a4⟩:=stay I8;have hlen:=rv.length;refine wpAny_list_append_plain (hsz:=by rw[List.size_toArray];omega) (⟨nD,a4⟩:s8.heap.PlainList _ its.toArray) fun h9 hl9 hs9=>?_;obtain⟨q1,q2,q3,q4,q5,q6⟩:=fD a3;have I9:Inv Y [] _ H8 {s8 with heap:=h9}:=I8.unpinned.turned (t':=s8.toks) (fun b o hb e=>hs9.extBut b o hb e) q1 q2 q4 q5 q6;refine back I9 rfl (T.keep _ _ _ a1 fun b hb o e=>hs9.extBut b o (Nat.ne_of_lt (hfp b hb)) e) a2 a3 (its':=its++[z]) (rv.append (.cons rz .nil)) ?_ wm;have e:its.toArray.push z=(its++[z]).toArray:=by simp
    rw[e]at hl9;exact hl9
 exact codeAny_compStart_list (loop _ rfl) (T.self _ 0 _ _ _ (T.keep _ _ _ st2 (fun b hb o e=>old _ _ (old3 _ _ e))) (loop _ rfl))
theorem Us{scope:Scope}{x:Str}{px:Pos}{caps:List Nat}{elt iter:Expr}{ifs:List Expr}{pos:Pos}{wi:TI}{tc:TT}{te:TE}(hc:X.calm=true)(B:BlkOk X scope x caps)(hi:PI X (.Name x px) iter wi)
  (hI:∀ cl C s H ex,PIfs (ZQ X scope (Yz X x caps) cl C s H ex) ifs tc) (hE:∀ cl C s H ex,PE (ZQ X scope (Yz X x caps) cl C s H ex) elt te)
  (hs:∀ x,foldedSetIterable iter X.env x=pure x:=by intro _;rfl):PE X (.ListComp elt [⟨.Name x px,iter,ifs,0⟩] scope pos) (Ud wi caps tc te):=by
 intro pins s σ H Q I h;obtain⟨cl,hcl,c1,c2⟩:=YZ (scope:=scope) (env:=X.env) fun y hy e=>I.ok.has y.1 (.inl (B.frees y hy e));rw[eval_ListComp];refine wpAny_comprehension_free (use:=none) rfl hs hcl B.kind B.locs (thn (hi pins s σ H _ I h) fun v s1 h1=>thn h1 fun itv s2 h2=>?_);obtain⟨it,fp,tn,J,H2,e,I2,T,st2,f2,W,⟨m0,w0⟩,cw⟩:=h2;subst e;refine JE (RR:=fun acc C=>compPost (model X.prog X.w) X.A X.xe none (EP X pins σ Q) acc C) hc B I2 T st2 f2 c1 c2 hI hE w0 cw ?_;intro D C s' H' ys m hD hn fC I' fin;obtain⟨q1,q2,q3,q4,q5,q6⟩:=fC;exact⟨m,hn,fun h' hs'=>⟨.ref D,_,I'.turned (t':=s'.toks) (fun b o hb e=>hs'.extBut b o hb e) q1 q2 q4 q5 q6,rfl,fin D hD⟩⟩
theorem UQ{scope:Scope}{x y:Str}{px py:Pos}{i:Nat}{caps:List Nat}{elt iter:Expr}{ifs:List Expr}{pos spos:Pos}{wi:TI}{tc:TT}{te:TE}(hN:X.N.Nodup)(hi':X.N[i]?=some y)(hy:Loc X.env.scope y)(hc:X.calm=true)(B:BlkOk X scope x caps)(hi:PI X (.Name x px) iter wi)
  (hI:∀ cl C s H ex,PIfs (ZQ X scope (Yz X x caps) cl C s H ex) ifs tc) (hE:∀ cl C s H ex,PE (ZQ X scope (Yz X x caps) cl C s H ex) elt te)
  (hs:∀ x,foldedSetIterable iter X.env x=pure x:=by intro _;rfl)
  (hsw:swapsWith (.ListComp elt [⟨.Name x px,iter,ifs,0⟩] scope pos) (some (.Name y py)) spos.line X.env=pure true:=by rfl)
  (hf:X.fn y=true∨X.env.scope.names.lookup y=some .local:=by first|exact .inl rfl|exact .inr rfl|assumption) :
  PS X (.Assign [.Name y py] (.ListComp elt [⟨.Name x px,iter,ifs,0⟩] scope pos) spos) (HU (Ud wi caps tc te) (Bh i)):=by
 intro pins s σ H D I h;obtain⟨cl,hcl,c1,c2⟩:=YZ (scope:=scope) (env:=X.env) fun y hy e=>I.ok.has y.1 (.inl (B.frees y hy e));rw[exec_Assign_Name_used _ _ _ _ hsw];refine wpAny_bind (wpAny_standAt (wpAny_bind ?_));show wpAny _ X.A (do let _←comprehension (.ListComp elt [⟨.Name x px,iter,ifs,0⟩] scope pos) scope X.env _ (newList []) false (eval iter X.env) (some (assign (.Name y py) X.env))) _ _ s;refine wpAny_bind (wpAny_mono (wpAny_comprehension_free (use:=some (assign (.Name y py) X.env)) (Q:=fun _ s'=>SP X pins D .next s') rfl hs hcl B.kind B.locs
   (thn (hi pins s σ H _ I h) fun v s1 h1=>thn h1 fun itv s2 h2=>?_)) (fun _ s' hq=>wpAny_pure (wpAny_pure hq)) fun _ _ e=>e)
 obtain⟨it,fp,tn,J,H2,e,I2,T,st2,f2,W,⟨m0,w0⟩,cw⟩:=h2;subst e;refine JE (RR:=fun acc C=>compPost (model X.prog X.w) X.A X.xe (some (assign (.Name y py) X.env)) (fun _ s'=>SP X pins D .next s') acc C) hc B I2 T st2 f2 c1 c2 hI hE w0 cw ?_;intro Dd C s' H' ys m hD hn fC I' fin;obtain⟨q1,q2,q3,q4,q5,q6⟩:=fC;show wpAny _ _ (assign (.Name y py) X.env (.ref Dd)) _ _ _;refine wpAny_assign_Name (Jy I' hN hi' hy (v:=.ref Dd) rfl (fun s2 I2 ⟨a,hs2,ha⟩=>?_) hf);have ne:C≠a:=by
  rcases ha with z|z
  ·rw[z];exact q2
  ·exact(q5 y a z).symm
 refine⟨m,hn.sameBut hs2 ne,fun h' hs'=>?_⟩;exact⟨_,_,I2.turned (t':=s2.toks) (fun b o hb e=>hs'.extBut b o hb e) q1 q2 q4 q5 q6,fin Dd hD⟩
end
mutual
inductive IsD (K:PySem.W.Frag) (H:Hp):V→PyData→Prop
 |non:IsD K H .non .none
 |bl (b:Bool):IsD K H (.bl b) (.bool b)
 |int (i:Int):IsD K H (.int i) (.int i)
 |str (x:Str):IsD K H (.str x) (.str x)
 |lst {a:Addr}{xs:List V}{ds:List PyData}:SqL K H a xs→IsDs K H xs ds→IsD K H (.ref a) (.list ds)
 |tup {a:Addr}{xs:List V}{ds:List PyData}:SqT K H a xs→IsDs K H xs ds→IsD K H (.ref a) (.tuple ds)
inductive IsDs (K:PySem.W.Frag) (H:Hp):List V→List PyData→Prop
 |nil:IsDs K H [] []
 |cons {x:V}{xs:List V}{d:PyData}{ds:List PyData}:IsD K H x d→IsDs K H xs ds→IsDs K H (x::xs) (d::ds)
end
section
variable {X:Cx}{pins:List (Addr×Obj)}{σ:St}{H:Hp}{s:Shared}
mutual
theorem IsD.reads(I:Inv X pins σ H s):∀ {v:V}{d:PyData}{u:Value},IsD X.K H v d→RelV v u→∃ as,Reads s.heap u d as
 |_,_,_,.non,r=>by cases r;exact⟨_,.none⟩
 |_,_,_,.bl b,r=>by cases r;exact⟨_,.bool b⟩
 |_,_,_,.int i,r=>by obtain⟨t,rfl⟩:=r;exact⟨_,.int i t⟩
 |_,_,_,.str x,r=>by obtain⟨t,rfl⟩:=r;exact⟨_,.str x t⟩
 |_,_,_,.lst q qs,r=>by cases r;obtain⟨its,rv,⟨o,n,e,c,_,d⟩,_⟩:=I.list q;obtain⟨as,ra⟩:=IsDs.reads I qs rv;exact⟨_,.list e c d (by simpa using ra)⟩
 |_,_,_,.tup q qs,r=>by cases r;obtain⟨its,rv,⟨o,e,c,n,d⟩,_⟩:=I.tuple q;obtain⟨as,ra⟩:=IsDs.reads I qs rv;exact⟨_,.tuple e c d (by simpa using ra)⟩
theorem IsDs.reads(I:Inv X pins σ H s):∀ {vs:List V}{ds:List PyData}{us:List Value},IsDs X.K H vs ds→Vals vs us→∃ as,ReadsAll s.heap us ds as
 |_,_,_,.nil,.nil=>⟨_,.nil⟩
 |_,_,_,.cons q qs,.cons r rs=>by obtain⟨as,ra⟩:=IsD.reads I q r;obtain⟨bs,rb⟩:=IsDs.reads I qs rs;exact⟨_,.cons ra rb⟩
end
end
theorem Same.sqT{K:PySem.W.Frag}{H H':Hp}{a:Addr}{xs:List V}(e:Same H H')(h:SqT K H a xs):SqT K H' a xs:=by
 rcases h with(h|⟨o,h⟩)|h
 ·exact .inl (.inl (e _ _ h))
 ·exact .inl (.inr ⟨o,e _ _ h⟩)
 ·exact .inr h
mutual
theorem IsD.same{K:PySem.W.Frag}{H H':Hp}(e:Same H H'):∀ {v:V}{d:PyData},IsD K H v d→IsD K H' v d
 |_,_,.non=>.non
 |_,_,.bl b=>.bl b
 |_,_,.int i=>.int i
 |_,_,.str x=>.str x
 |_,_,.lst q qs=>.lst (e.seq q) (IsDs.same e qs)
 |_,_,.tup q qs=>.tup (e.sqT q) (IsDs.same e qs)
theorem IsDs.same{K:PySem.W.Frag}{H H':Hp}(e:Same H H'):∀ {vs:List V}{ds:List PyData},IsDs K H vs ds→IsDs K H' vs ds
 |_,_,.nil=>.nil
 |_,_,.cons q qs=>.cons (IsD.same e q) (IsDs.same e qs)
end
theorem IsDs.ints{K:PySem.W.Frag}{H:Hp}:∀ ns:List Int,IsDs K H (ns.map V.int) (ns.map PyData.int)
 |[]=>.nil
 |n::ns=>.cons (.int n) (IsDs.ints ns)
theorem IsDs.length{K:PySem.W.Frag}{H:Hp}:∀ {vs:List V}{ds:List PyData},IsDs K H vs ds→vs.length=ds.length
 |_,_,.nil=>rfl
 |_,_,.cons _ t=>by rw[List.length_cons,List.length_cons,IsDs.length t]
theorem IsDs.get{K:PySem.W.Frag}{H:Hp}:∀ {vs:List V}{ds:List PyData}{i:Nat}{v:V},IsDs K H vs ds→vs[i]?=some v→∃ d,ds[i]?=some d∧IsD K H v d
 |_,_,_,_,.nil,e=>by simp at e
 |_,_,0,_,.cons q _,e=>by simp at e;subst e;exact⟨_,rfl,q⟩
 |_,_,i+1,v,.cons _ t,e=>by obtain⟨d,h1,h2⟩:=IsDs.get (i:=i) (v:=v) t (by simpa using e);exact⟨d,by simpa using h1,h2⟩
theorem IsDs.append{K:PySem.W.Frag}{H:Hp}:∀ {xs ys:List V}{ds es:List PyData},IsDs K H xs ds→IsDs K H ys es→IsDs K H (xs++ys) (ds++es)
 |_,_,_,_,.nil,h=>h
 |_,_,_,_,.cons q t,h=>.cons q (IsDs.append t h)
section
variable {X:Cx}
def Ix (K:PySem.W.Frag):R2:=fun x y H Q=>∃ d e,IsD K H x d∧IsD K H y e∧SeqAt.shaped d=true∧SeqAt.shaped e=true∧Q (.bl (PyData.eqv d e)) H
def GU (K:PySem.W.Frag):R2:=fun x y H Q=>∃ d e,IsD K H x d∧IsD K H y e∧SeqAt.shaped d=true∧SeqAt.shaped e=true∧Q (.bl (!PyData.eqv d e)) H
theorem Fr(hu:X.A.units+64<cLine):OpR X (compareOp .Eq) (Ix X.K):=by intro pins s σ H x y v u Q I rx ry h;obtain⟨d,e,hd,he,sd,se,q⟩:=h;obtain⟨as,ra⟩:=hd.reads I rx;obtain⟨bs,rb⟩:=he.reads I ry;exact SeqAt.compareEq_shaped ra rb sd se hu ⟨.bl _,H,I,rfl,q⟩
theorem Gn(hu:X.A.units+64<cLine):OpR X (compareOp .NotEq) (GU X.K):=by intro pins s σ H x y v u Q I rx ry h;obtain⟨d,e,hd,he,sd,se,q⟩:=h;obtain⟨as,ra⟩:=hd.reads I rx;obtain⟨bs,rb⟩:=he.reads I ry;exact SeqAt.compareNe_shaped ra rb sd se hu ⟨.bl _,H,I,rfl,q⟩
inductive TyV (K:PySem.W.Frag) (H:Hp):V→Value→Prop
 |of {x:V}{t:Value}:TyOf K H x t→TyV K H x t
 |tup {a:Addr}{xs:List V}:SqT K H a xs→TyV K H (.ref a) (.type "tuple")
 |lst {a:Addr}{xs:List V}:SqL K H a xs→TyV K H (.ref a) (.type "list")
theorem TyV.int {K:PySem.W.Frag}{H:Hp}(i:Int):TyV K H (.int i) (.type "int"):=.of (.int i)
theorem UV:CallR X (.builtin "isinstance") (fun xs H Q=>∃ x T t b,xs=[x,.ty T]∧TyV X.K H x t∧PySem.W.kitOne X.K t (.type T)=some b∧Q (.bl b) H):=by
 intro pins s σ H xs us Q I r h;obtain⟨x,T,t,b,rfl,ty,e,q⟩:=h;obtain⟨u,v,rfl,ru,rv⟩:=O5 r;cases rv;cases ty with
 |of ty=>exact OX I ru ty e fun tk=>⟨.bl b,H,I.tok tk,rfl,q⟩
 |tup hq =>cases ru;obtain⟨its,_,⟨o,h1,h2,_⟩,_⟩:=I.tuple hq;exact PySem.W.kia_one PySem.W.kitx_tuple I.kIn ⟨o,h1,h2⟩ e (fun z=>nomatch z) fun tk=>⟨.bl b,H,I.tok tk,rfl,q⟩
 |lst hq =>cases ru;obtain⟨its,_,⟨o,n,h1,h2,_⟩,_⟩:=I.list hq;exact PySem.W.kia_one PySem.W.kitx_list I.kIn ⟨o,h1,h2⟩ e (fun z=>nomatch z) fun tk=>⟨.bl b,H,I.tok tk,rfl,q⟩
theorem Bs (hc:X.calm=true):CallR X (.builtin "all") (fun xs H Q=>∃ p,∃ bs:List Bool,xs=[.ref p]∧SqL X.K H p (bs.map V.bl)∧Q (.bl (bs.all id)) H):=by
 intro pins s σ H xs us Q I r h;obtain⟨p,bs,rfl,hq,q⟩:=h;obtain⟨u,rfl,rx⟩:=Yd r;cases rx;obtain⟨its,rv,pl,hz⟩:=I.list hq;have hlen:=rv.length;rw[List.length_map]at hlen;have hlt:p<s.heap.objs.size:=by obtain⟨o,n,e,_⟩:=pl;exact Heap.lt_size e
 refine call_all_walk (wpAny_pyIter_list pl.isList ?_);refine⟨s.heap.objs.size,_,_,its.toArray.size,_,_,fun i=>bs.getD i true,rfl,Walks.list (A:=X.A.in1) (I.ok.hd hc) s.heap.objs.size p (Nat.ne_of_lt hlt) its.toArray,⟨⟨_,Heap.get?_push_size _ rfl,rfl,rfl⟩,pl.isList.push _⟩,?_,fun h' tk hk=>?_⟩
 ·intro i v s' Q' E' hP hQ;have hP:its[i]?=some v:=by simpa using hP
  have hb:(bs.map V.bl)[i]?=some (.bl (bs.getD i true)):=by
   have hi:i<bs.length:=by have:=(List.getElem?_eq_some_iff.mp hP).1;omega
   rw[List.getElem?_map,List.getD_eq_getElem?_getD];simp[hi]
  obtain⟨u,hu,ru⟩:=rv.get hb;rw[hP]at hu;cases hu;cases ru;exact wpAny_truthy_bool hQ
 ·have e:(List.range its.toArray.size).all (fun i=>bs.getD i true)=bs.all id:=by
   rw[List.size_toArray,←hlen,Bool.eq_iff_iff,List.all_eq_true,List.all_eq_true];constructor
   ·intro h b hb;obtain⟨i,hi,rfl⟩:=List.mem_iff_getElem.mp hb;have:=h i (List.mem_range.mpr hi);rw[List.getD_eq_getElem?_getD,List.getElem?_eq_getElem hi]at this;exact this
   ·intro h i hi;have hi:=List.mem_range.mp hi;rw[List.getD_eq_getElem?_getD,List.getElem?_eq_getElem hi];exact h _ (List.getElem_mem hi)
  rw[e];refine⟨.bl _,H,I.kept (t':=tk) (fun b o e=>hk b o (fun hm=>?_) (Heap.get?_push_of_some _ e)),rfl,q⟩;have:b=s.heap.objs.size:=by simpa using hm
  exact absurd (this▸Heap.lt_size e) (Nat.lt_irrefl _)
def sortI (ns:List Int):List Int:=ns.mergeSort fun a b=>decide (a≤b)
theorem WO(ns:List Int):(sortI ns).Perm ns:=List.mergeSort_perm ns _
theorem AR(ns:List Int):(sortI ns).Pairwise (·≤·):=by have h:=List.pairwise_mergeSort (le:=fun a b:Int=>decide (a≤b)) (fun a b c h1 h2=>by simp at *;omega) (fun a b=>by simp;omega) ns;exact h.imp fun h=>by simpa using h
theorem WH{ns ms:List Int}(hp:ms.Perm ns)(hs:ms.Pairwise (·≤·)):ms=sortI ns:=PySem.W.ksm_same (hp.trans (WO ns).symm) hs (AR ns)
theorem Xr(ns:List Int):(sortI ns).length=ns.length:=(WO ns).length_eq
theorem Xh:∀ {vs:List Value}{ns:List Int},IntsAre vs ns→Vals (ns.map V.int) vs:=XC
theorem call_sorted:CallR X (.builtin "sorted") (fun xs H Q=>∃ p,∃ ns:List Int,xs=[.ref p]∧SqL X.K H p (ns.map V.int)∧ns.length<64∧∀ l,H l=none→Q (.ref l) (upd H l (.lst ((sortI ns).map V.int)))):=by intro pins s σ H xs us Q I r h;obtain⟨p,ns,rfl,hq,h64,q⟩:=h;obtain⟨u,rfl,rx⟩:=Yd r;cases rx;obtain⟨its,rv,pl,hz⟩:=I.list hq;have hlen:=rv.length;rw[List.length_map]at hlen;refine sorted_ints pl.isList (ZL rv) (by omega) fun out ns' a1 a2 a3=>?_;have e:=WH a2 a3;subst e;obtain⟨n,he⟩:=sortedAll_at s.heap its out;refine⟨.ref (s.heap.objs.size+1),_,I.laid (a:=s.heap.objs.size+1) (o:=.lst ((sortI ns).map V.int)) (t':=s.toks) (fun b o e=>sortedAll_old e) (Nat.le_succ _) ?_,rfl,q _ (I.hok.fresh (Nat.le_succ _))⟩;exact⟨by rw[List.length_map,Xr];rw[List.length_map]at hz;exact hz,out.toList,n,Xh a1,by simpa[seqObj]using he⟩
def Rv (K:PySem.W.Frag) (te:TE):TE:=fun σ H Q=>te σ H fun x H1=>∃ a xs,x=.ref a∧SqL K H1 a xs∧∀ p,H1 p=none→Q (.ref p) (upd H1 p (.lst xs.reverse))
end
structure Bl (mg:Str→Option Value):Prop where
 len:mg "len" = none
 isinstance:mg "isinstance" = none
 int:mg "int" = none
 bool:mg "bool" = none
 list:mg "list" = none
 tuple:mg "tuple" = none
 set:mg "set" = none
 all:mg "all" = none
 sorted:mg "sorted" = none
 min:mg "min" = none
 max:mg "max" = none
 range:mg "range" = none
 enumerate:mg "enumerate" = none
 sum:mg "sum" = none
 str:mg "str" = none
 dict:mg "dict" = none
def Cst (mg:Str→Option Value) (x:Str) (v:V):Prop:=∃ u,mg x=some u∧RelV v u
def Dfn (P:Program) (w:World) (K:PySem.W.Frag) (mg:Str→Option Value) (base:Heap) (k:Nat) (x:Str) (ps:List Str) (sp:Sp):Prop :=
 ∃ f fd,FnOk P w K mg base CX0 k f fd ps sp∧mg x=some (.ref f)∧PySem.W.keepIn K (.ref f)=true∧Binds K fd ps []
section
variable {X:Cx}{x:Str}{p pos:Pos}{e:Expr}{es:List Expr}{t:TA}
theorem LE {T:String}(hg:Gl X x) (hm:X.mg x=none) (hv:bootBuiltins x=some (.type T)) (hn:x≠"__name__":=by decide) (hd:(x==("__debug__" : Str))=false:=by decide):PE X (.Name x pos) (tC (.ty T)):=DA hg hm hv rfl hn hd
end
def Yw (scope sc:Scope) (N:List Str) (x:Str) (caps:List Nat):Bool :=
 scope.names.all (fun y=>y.2 != .cell)&&scope.names.all (fun y=>y.2 != .local||scope.names.lookup y.1==some .local)&&scope.names.lookup x==some .local &&
 scope.names.all (fun y=>y.2 != .free||sc.names.lookup y.1==some .cell) &&
 caps.all (fun j=>decide (j<N.length)&&sc.names.lookup (N.getD j Str.empty)==some .cell&&scope.names.lookup (N.getD j Str.empty)==some .free)&&decide (x::caps.map fun j=>N.getD j Str.empty).Nodup
theorem Uz{X:Cx}{scope sc:Scope}{x:Str}{caps:List Nat}{N:List Str}(hsc:X.env.scope=sc)(hN:X.N=N)(hk:scope.kind=.function)(h:Yw scope sc N x caps=true):BlkOk X scope x caps:=by
 unfold Yw at h;simp only[bAq]at h;obtain⟨⟨⟨⟨⟨h1,h2⟩,h3⟩,h4⟩,h5⟩,h6⟩:=h;rw[List.all_eq_true]at h1 h2 h4 h5;refine⟨hk,fun y hy=>by simpa using h1 y hy,fun y hy e=>?_,by simpa using h3,fun y hy e=>?_,fun j hj=>?_,?_⟩
 ·have:=h2 y hy;rw[e]at this;simpa using this
 ·have:=h4 y hy;rw[e]at this;show X.env.scope.names.lookup y.1=_;rw[hsc];simpa using this
 ·have:=h5 j hj;simp only[bAq,decide_eq_true_eq,beq_iff_eq]at this;obtain⟨⟨a,b⟩,c⟩:=this;refine⟨?_,?_,?_⟩
  ·rw[hN,List.getElem?_eq_getElem a];rfl
  ·show X.env.scope.names.lookup _=_;rw[hsc,hN];exact b
  ·rw[hN];exact c
 ·unfold Yz;rw[hN];exact of_decide_eq_true h6
def Keep (r:Addr) (H H':Hp):Prop:=∀ b o,H b=some o→b≠r→H' b=some o
theorem Same.keep{H H':Hp}(e:Same H H')(r:Addr):Keep r H H':=fun b o h _=>e b o h
theorem Keep.refl(r:Addr)(H:Hp):Keep r H H:=fun _ _ h _=>h
theorem Keep.trans{r:Addr}{H H1 H2:Hp}(a:Keep r H H1)(b:Keep r H1 H2):Keep r H H2:=fun c o h n=>b c o (a c o h n) n
theorem Keep.upd{r:Addr}{H:Hp}{o:HO}:Keep r H (L2.upd H r o):=fun b u h n=>by rw[upd_ne n];exact h
theorem Keep.free{r:Addr}{H H':Hp}(e:Keep r H H'){l:Addr}(hr:∃ o,H' r=some o)(h:H' l=Option.none):H l=Option.none:=by
 cases q:H l with
 |none=>rfl
 |some o =>
  by_cases hl:l=r
  ·subst hl;obtain⟨o',z⟩:=hr;rw[h]at z;cases z
  ·rw[e l o q hl]at h;cases h
mutual
def MM:PyData→Bool
 |.list _=>false
 |.tuple xs=>noLists xs
 |.dict _=>false
 |_=>true
def noLists:List PyData→Bool
 |[]=>true
 |x::xs=>MM x&&noLists xs
end
theorem SqT.keep{K:PySem.W.Frag}{r a:Addr}{H H':Hp}{zs xs:List V}(k:Keep r H H')(hr:H r=some (.lst zs))(h:SqT K H a xs):SqT K H' a xs:=by
 rcases h with(h|⟨o,h⟩)|h
 ·exact .inl (.inl (k _ _ h (Ay h hr (by intro z;cases z))))
 ·exact .inl (.inr ⟨o,k _ _ h (Ay h hr (by intro z;cases z))⟩)
 ·exact .inr h
theorem SqL.keep{K:PySem.W.Frag}{r a:Addr}{H H':Hp}{xs:List V}(k:Keep r H H')(hr:a≠r)(h:SqL K H a xs):SqL K H' a xs:=by
 rcases h with(h|⟨o,h⟩)|h
 ·exact .inl (.inl (k _ _ h hr))
 ·exact .inl (.inr ⟨o,k _ _ h hr⟩)
 ·exact .inr h
mutual
theorem IsD.keep{K:PySem.W.Frag}{r:Addr}{H H':Hp}{zs:List V}(k:Keep r H H')(hr:H r=some (.lst zs)):∀ {v:V}{d:PyData},IsD K H v d→MM d=true→IsD K H' v d
 |_,_,.non,_=>.non
 |_,_,.bl b,_=>.bl b
 |_,_,.int i,_=>.int i
 |_,_,.str x,_=>.str x
 |_,_,.lst q qs,h=>by cases h
 |_,_,.tup q qs,h=>.tup (q.keep k hr) (IsDs.keep k hr qs h)
theorem IsDs.keep{K:PySem.W.Frag}{r:Addr}{H H':Hp}{zs:List V}(k:Keep r H H')(hr:H r=some (.lst zs)):∀ {vs:List V}{ds:List PyData},IsDs K H vs ds→noLists ds=true→IsDs K H' vs ds
 |_,_,.nil,_=>.nil
 |_,_,.cons q qs,h=>by have h':=Bool.and_eq_true_iff.mp (show(MM _&&noLists _)=true from h);exact .cons (IsD.keep k hr q h'.1) (IsDs.keep k hr qs h'.2)
end
abbrev Tie:=Int×Int×Int
def Fe (t:Tie):PyData:=.tuple [.int t.1,.int t.2.1,.int t.2.2]
theorem IsD.tie{K:PySem.W.Frag}{H:Hp}{a:Addr}{x y c:Int}(h:SqT K H a [.int x,.int y,.int c]):IsD K H (.ref a) (Fe (x,y,c)):=.tup h (.cons (.int x) (.cons (.int y) (.cons (.int c) .nil)))
theorem ifT{c:Bool}{A B:Prop}(e:c=true)(h:A):if c=true then A else B:=by rw[if_pos e];exact h
theorem ifF{c:Bool}{A B:Prop}(e:c=false)(h:B):if c=true then A else B:=by rw[e,if_neg Bool.false_ne_true];exact h
structure BrOk (ns:List Int):Prop where
 one:1≤ns.length
 ten:ns.length≤10
 rng:∀ n∈ns,0≤n∧n≤999
 nd:ns.Nodup
structure TieOk (ns:List Int) (t:Tie):Prop where
 a:t.1∈ns
 b:t.2.1∈ns
 ne:t.1≠t.2.1
 lo:1≤t.2.2
 hi:t.2.2≤1000
structure TsOk (ns:List Int) (ts:List Tie):Prop where
 few:ts.length≤16
 each:∀ t∈ts,TieOk ns t
def mn (x y:Int):Int:=if y<x then y else x
def mx (x y:Int):Int:=if y > x then y else x
def loT (t:Tie):Tie:=(mn t.1 t.2.1,mx t.1 t.2.1,t.2.2)
def Rr (bs:List Int) (ts:List Tie):PyData:=.tuple [.tuple (bs.map .int),.tuple (ts.map Fe)]
def Rm (ns:List Int) (ts:List Tie):PyData:=.tuple [.tuple ((sortI ns).map .int),.tuple ((ts.map loT).map Fe)]
theorem BrOk.perm{ns ms:List Int}(h:BrOk ns)(p:ms.Perm ns):BrOk ms:=⟨by rw[p.length_eq];exact h.one,by rw[p.length_eq];exact h.ten,fun n hn=>h.rng n (p.mem_iff.mp hn),p.nodup_iff.mpr h.nd⟩
theorem TsOk.perm{ns ms:List Int}{ts:List Tie}(h:TsOk ns ts)(p:ms.Perm ns):TsOk ms ts:=⟨h.few,fun t ht=>let ⟨a,b,c,d,e⟩:=h.each t ht;⟨p.mem_iff.mpr a,p.mem_iff.mpr b,c,d,e⟩⟩
section
variable {X:Cx}(K:PySem.W.Frag) (h:X.K=K)
include h
end
section
variable {prog:Program}{w:World}{A:Around}{E:Value→Shared→Prop}{s:Shared}
theorem Xd{it t:Addr}{i:Nat}{items:Array Value}{x:Value}{Q:Value→Shared→Prop}(hit:s.heap.IsTupleIter it t i)(ht:s.heap.IsTuple t items)(hx:items[i]?=some x)
  (hQ:∀ h',h'.IsTupleIter it t (i+1)→Heap.SameBut it s.heap h'→Q x {s with heap:=h'}):wpAny (model prog w) A (Builtin.SmallTypes.nextOf (.ref it)) Q E s:=by
 obtain⟨o,ho,hc,hd⟩:=id hit;obtain⟨ot,hot,_,nt,hdt⟩:=ht;unfold Builtin.SmallTypes.nextOf;refine wpAny_bind (wpAny_callSpecial?_slot (name:=Str.ofString "__next__") hit.typeIs F.slot_tuple_iterator_next (wpAny_call_entry F.slot_tuple_iterator_next hit.typeIs F.entry_tuple_iterator_next ?_ (F.args_tuple_iterator_next_1 _)));show wpAny _ _ (field (.ref it) 0 >>= _) _ _ s;refine wpAny_bind (wpAny_field ho hd (x:=.ref t) rfl ?_);show wpAny _ _ (if(Value.ref t==Value.none)=true then _ else _) _ _ s;rw[if_neg (show ¬ ((Value.ref t==Value.none)=true) from Bool.false_ne_true)];show wpAny _ _ (field (.ref it) 1 >>= _) _ _ s;refine wpAny_bind (wpAny_field ho hd (x:=.int i 0) rfl ?_);show wpAny _ _ (seqItems? (.ref t) >>= _) _ _ s;refine wpAny_bind (wpAny_seqItems hot hdt ?_);simp only[Int.toNat_natCast,hx];refine wpAny_bind (wpAny_setField ho hd (by simp) (wpAny_pure ⟨x,rfl,wpAny_pure (hQ _ ⟨_,Heap.get?_update_self _ ho (Obj.isFreed_of_fields (Obj.data_mapFields hd _)),(Obj.cls_mapFields ..).trans hc,?_⟩ (Heap.SameBut.update ..))⟩));rw[Obj.data_mapFields hd];simp[rawInt]
theorem JJ{it t:Addr}{i:Nat}{items:Array Value}{Q:Value→Shared→Prop}(hh:A.handled=none)(hit:s.heap.IsTupleIter it t i)(ht:s.heap.IsTuple t items)(hx:items[i]?=none)
  (hE:∀ h' e,Heap.ExtBut it s.heap h'→(∃ o,h'.get? e=some o∧o.cls=.type "StopIteration")→E (.ref e) {s with heap:=h'}):wpAny (model prog w) A (Builtin.SmallTypes.nextOf (.ref it)) Q E s:=by
 obtain⟨o,ho,hc,hd⟩:=id hit;obtain⟨ot,hot,_,nt,hdt⟩:=ht;unfold Builtin.SmallTypes.nextOf;refine wpAny_bind (wpAny_callSpecial?_slot (name:=Str.ofString "__next__") hit.typeIs F.slot_tuple_iterator_next (wpAny_call_entry F.slot_tuple_iterator_next hit.typeIs F.entry_tuple_iterator_next ?_ (F.args_tuple_iterator_next_1 _)));show wpAny _ _ (field (.ref it) 0 >>= _) _ _ s;refine wpAny_bind (wpAny_field ho hd (x:=.ref t) rfl ?_);show wpAny _ _ (if(Value.ref t==Value.none)=true then _ else _) _ _ s;rw[if_neg (show ¬ ((Value.ref t==Value.none)=true) from Bool.false_ne_true)];show wpAny _ _ (field (.ref it) 1 >>= _) _ _ s;refine wpAny_bind (wpAny_field ho hd (x:=.int i 0) rfl ?_);show wpAny _ _ (seqItems? (.ref t) >>= _) _ _ s;refine wpAny_bind (wpAny_seqItems hot hdt ?_);simp only[Int.toNat_natCast,hx];refine wpAny_bind (wpAny_rule (wpAny_bind (wpAny_setField ho hd (by simp) ?_)));show wpAny _ _ (newExc (.type "StopIteration") [] >>= _) _ _ _;refine wpAny_bind ?_;simp only[newExc,newTuple];refine wpAny_bind (wpAny_newObj_type (wpAny_bind (m:=firstArgMember _ _) (wpAny_of_eq (a:=Value.none) (by first|rfl|(simp only[firstArgMember];rfl)) (wpAny_newObj_type ?_ (by size_fits)))) (by size_fits));simp only[raiseNew];refine wpAny_bind (wpAny_handled ?_)
 first
 |rw[show A.in1.handled=none from hh]
 |rw[hh]
 exact wpAny_bind (wpAny_pure (wpAny_throw (hE _ _ (((Heap.SameBut.update ..).extBut.push _).push _) ⟨_,Heap.get?_push_size _ rfl,rfl⟩)))
end
open AutoSeq1 (wpAny_loadPart') in
section
variable {X:Cx}{pins:List (Addr×Obj)}{σ:St}{H:Hp}{s:Shared}{h':Heap}
theorem Inv.turnedL{t':Nat}{ch:List Addr}(I:Inv X pins σ H s)(k:∀ b o,b∉ch→s.heap.get? b=some o→h'.get? b=some o)(hc:∀ b∈ch,XB X pins H b):Inv X pins σ H {s with heap:=h',toks:=t'}:=by
 have nit:∀ b u,H b=some u→b∉ch:=fun b u e z=>by rw[(hc b z).1]at e;cases e
 refine I.step (g':=s.gens) (d':=s.drawn) (ch:=ch) (fun b hb=>?_) (fun b o _ _ hcb e _=>k b o hcb e) (fun b o _ _ hcb e _=>⟨o.slots,k b o hcb e⟩) (fun _ _ _ _ n=>n)
  (fun b o hcb e=>⟨o,k b o hcb e⟩) (fun _ _ e=>e) (fun _ _ _ e=>e) (fun b ps e=>⟨#[],by rw[e];simp⟩) (fun m hm=>?_) (fun b u e=>?_) I.bare
 ·obtain⟨_,q2,_,q4,q5,q6⟩:=hc b hb;exact⟨q4,q2,q5,q6⟩
 ·obtain⟨o,es,ep,ho,r⟩:=hm;exact⟨o,es,ep,k _ o (fun z=>(hc _ z).2.1 rfl) ho,r⟩
 ·refine(I.hok b u e).stay (fun c v hcc q=>k c v ?_ q) (fun _ q=>q) fun _ _ q=>q;rcases hcc with z|z
  ·rw[z];exact nit b u e
  ·exact nit c _ z
theorem Inv.track{T:Addr}{o:HO}(I:Inv X pins σ H s)(hT:H T=none)(h0:X.s₀.heap.objs.size≤T)(hL:T≠X.env.locals)(hcl:∀ x c,X.env.cells.lookup x=some c→c≠T)(hp:∀ p∈X.pn++pins,p.1≠T)
  (new:ObjOk X.prog X.w (upd H T o) s.heap T o):Inv X pins σ (upd H T o) s:=by
 have neT:∀ b ob,X.s₀.heap.get? b=some ob→b≠T:=fun b ob e=>Nat.ne_of_lt (Nat.lt_of_lt_of_le (Heap.lt_size e) h0);refine⟨I.ok,I.os,I.bare,⟨I.base.keep,I.base.slot,fun b ob e n hx=>?_,I.base.there,fun b xs e=>?_,fun b ob xs e=>?_,fun b ps e=>?_⟩,I.loc,I.cell,?_,fun x c e=>?_,fun p hpp=>?_,I.hok.track hT new,I.len⟩
 ·rw[upd_ne (neT b ob e)];exact I.base.free b ob e n hx
 ·have q:=I.base.tups b xs e;rw[upd_ne (Zl q hT)];exact q
 ·have q:=I.base.frzs b ob xs e;rw[upd_ne (Zl q hT)];exact q
 ·obtain⟨m,q⟩:=I.base.tbls b ps e;exact⟨m,by rw[upd_ne (Zl q hT)];exact q⟩
 ·rw[upd_ne hL.symm];exact I.free
 ·rw[upd_ne (hcl x c e)];exact I.freeC x c e
 ·obtain⟨a,b,c,d,e⟩:=I.pin p hpp;exact⟨a,by rw[upd_ne (hp p hpp)];exact b,c,d,e⟩
end
def Ite (K:PySem.W.Frag) (a:Addr):It :=
 ⟨fun i H=>∃ xs x,SqT K H a xs∧xs[i]?=some x,fun i H v H'=>∃ p,v=.ref p∧H p=none∧∀ xs x,SqT K H a xs→xs[i]?=some x→H'=upd H p (.tup [.int i,x]),fun i H=>∃ xs,SqT K H a xs∧xs.length≤i⟩
section
variable {X:Cx}
def P9 (K:PySem.W.Frag) (ta:TA):TI:=fun σ H R=>ta σ H fun vs H1=>∃ a,vs=[.ref a]∧(∃ xs,SqT K H1 a xs)∧R (Ite K a) H1
end
end L2
namespace L2
open PySem PySem.Spec PyProof.Rows
open PySem.Builtin PySem.Builtin.Str
abbrev TJ:=St→Hp→Str→(Str→Hp→Prop)→Prop
def PJ (X:Cx) (vs:List Expr) (t:TJ):Prop :=
 ∀ (pins:List (Addr×Obj)) (s:Shared) (σ:St) (H:Hp) (acc:Str) (Q:Str→Hp→Prop),Inv X pins σ H s→t σ H acc Q→
  Joins (model X.prog X.w) X.A X.xe (evalEach vs X.env) acc (fun out s1=>∃ H1,Inv X pins σ H1 s1∧out.length≤sizeLine∧Q out H1) s
def Pz:TJ:=fun _ H acc Q=>acc.length≤sizeLine∧Q acc H
def HF (te:TE) (tr:TJ):TJ:=fun σ H acc Q=>te σ H fun x H1=>∃ y,x=.str y∧(acc++y).length≤sizeLine∧tr σ H1 (acc++y) Q
def Rw (te:TE):TE:=fun σ H Q=>te σ H fun x H1=>∃ i,x=.int i∧i.natAbs.log2<1920∧Q (.str (toString i)) H1
def LJ (t:TJ):TE:=fun σ H Q=>t σ H Str.empty fun out H1=>Q (.str out) H1
section
variable {X:Cx}{e:Expr}{es:List Expr}{te:TE}{tr:TJ}{pos:Pos}
theorem pj_nil:PJ X [] Pz:=fun pins s σ H acc Q I h=>⟨H,I,h.1,h.2⟩
theorem CZ(he:PE X e te)(hr:PJ X es tr)(hs:evalEach (e::es) X.env=eval e X.env::evalEach es X.env:=by rfl):PJ X (e::es) (HF te tr):=by intro pins s σ H acc Q I h;rw[hs];show wpAny _ _ _ _ _ _;refine thn (he pins s σ H _ I h) fun v s1 ⟨x,H1,I1,r1,y,e1,hz,q1⟩=>?_;subst e1;obtain⟨t,rfl⟩:=r1;exact⟨y,t,rfl,hz,hr pins s1 σ H1 (acc++y) Q I1 q1⟩
theorem Joins.imp{M:Model}{A:Around}{E:Value→Shared→Prop}:∀ {ps:List (Sem Value)}{acc:Str}{Q Q':Str→Shared→Prop}{s:Shared},(∀ o s,Q o s→Q' o s)→Joins M A E ps acc Q s→Joins M A E ps acc Q' s
 |[],_,_,_,_,f,h=>f _ _ h
 |_::_,_,_,_,_,f,h=>thn h fun v s1 ⟨y,t,e,hz,hr⟩=>⟨y,t,e,hz,Joins.imp f hr⟩
end
section
variable {X:Cx}
def Rb (K:PySem.W.Frag):V→List V→Hp→VK→Prop:=fun x vs H Q=>∃ sep p,∃ ys:List Str,x=.str sep∧vs=[.ref p]∧SqL K H p (ys.map V.str)∧(ys.map (·.length)).sum+ys.length*sep.length≤16777216∧Q (.str (Txt.join sep ys)) H
def PR:V→List V→Hp→VK→Prop:=fun x vs H Q=>∃ z c,x=.str z∧vs=[.str ⟨#[c]⟩]∧z.length+2≤sizeLine∧∀ p,H p=none→Q (.ref p) (upd H p (.lst ((Txt.split z ⟨#[c]⟩).map V.str)))
end
def Its (z:Str):It:=⟨fun i _=>i<z.length,fun i H x H'=>H'=H∧∃ c,z.cps.toList[i]?=some c∧x=.str ⟨#[c]⟩,fun i _=>z.length≤i⟩
section
variable {X:Cx}
def RG (tl:TE):TI:=fun σ H R=>tl σ H fun x H1=>∃ z,x=.str z∧R (Its z) H1
end
def XM (x:Str):List Nat:=x.cps.toList
def jl (c:Nat):List (List Nat)→List Nat
 |[]=>[]
 |[x]=>x
 |x::y::r=>x++c::jl c (y::r)
def dg (n:Int):Str:=Str.ofString (toString n)
def Oy (m:Nat):List Nat:=(Nat.toDigits 10 m).map Char.toNat
theorem Aj(m:Nat):XM (dg (m:Int))=Oy m:=PySem.W.KIN.signs_num m
def DS (m:Nat):Bool:=decide (1≤(Oy m).length)&&decide ((Oy m).length≤4)&&(Oy m).all (fun c=>decide (48≤c)&&decide (c≤57))&&(if m=0 then Oy m==[48]else(Oy m).head? != some 48)
theorem Db:(List.range 1001).all DS=true:=by decide +kernel
structure FigOk (n:Int):Prop where
 one:1≤(XM (dg n)).length
 four:(XM (dg n)).length≤4
 fig:∀ c∈XM (dg n),48≤c∧c≤57
 nought:n=0→XM (dg n)=[48]
 first:n≠0→(XM (dg n)).head?≠some 48
theorem GF{n:Int}(h0:0≤n)(h1:n≤1000):FigOk n:=by
 obtain⟨m,rfl⟩:∃ m:Nat,n=(m:Int):=⟨n.toNat,by omega⟩
 have h:=List.all_eq_true.mp Db m (List.mem_range.mpr (by omega));unfold DS at h;simp only[bAq,decide_eq_true_eq]at h;obtain⟨⟨⟨a,b⟩,c⟩,d⟩:=h;rw[←Aj]at a b c d;refine⟨a,b,fun k hk=>?_,fun e=>?_,fun e=>?_⟩
 ·have:=List.all_eq_true.mp c k hk;simpa using this
 ·have e:m=0:=by omega
  rw[if_pos e]at d;simpa using d
 ·have e:¬ m=0:=by omega
  rw[if_neg e]at d;simpa using d
def wB:Str:="bridge"
def wT:Str:="tie"
def nl:Str:="\n"
def sp1:Str:=" "
def bW (n:Int):Str:=("bridge " : Str)++dg n
def tW (t:Tie):Str:=("tie " : Str)++dg t.1++(" " : Str)++dg t.2.1++(" " : Str)++dg t.2.2
def lns (bs:List Int) (ts:List Tie):List Str:=bs.map bW++ts.map tW
def fl (ls:List Str):List Nat:=(ls.map fun l=>XM l++[10]).flatten
def txt (bs:List Int) (ts:List Tie):Str:=⟨(fl (lns bs ts)).toArray⟩
structure NetOk (bs:List Int) (ts:List Tie):Prop where
 br:BrOk bs
 ti:TsOk bs ts
 so:sortI bs=bs
 lo:ts.map loT=ts
theorem BrOk.fig{bs:List Int}(h:BrOk bs){n:Int}(hn:n∈bs):FigOk n:=GF (h.rng n hn).1 (by have:=(h.rng n hn).2;omega)
structure TFig (t:Tie):Prop where
 a:FigOk t.1
 b:FigOk t.2.1
 c:FigOk t.2.2
theorem FigOk.no{n:Int}(h:FigOk n){c:Nat}(hc:c<48):c∉XM (dg n):=fun m=>by have:=(h.fig c m).1;omega
def bL (n:Int):Str:=Str.empty++("bridge " : Str)++dg n++("\n" : Str)
def tL (t:Tie):Str:=Str.empty++("tie " : Str)++dg t.1++(" " : Str)++dg t.2.1++(" " : Str)++dg t.2.2++("\n" : Str)
end L2
namespace L2
open PySem PySem.Spec PyProof.Rows
theorem ObjOk.obj{P:Program}{w:World}{H:Hp}{h:Heap}{a:Addr}{o:HO}(x:ObjOk P w H h a o):∃ u,h.get? a=some u:=by
 cases o with
 |lst xs=>obtain⟨_,_,_,_,e⟩:=x;exact⟨_,e⟩
 |tup xs=>obtain⟨_,_,_,ob,e,_⟩:=x;exact⟨_,e⟩
 |dK kvs=>obtain⟨_,_,_,_,o,_,_,e,_⟩:=x;exact⟨_,e⟩
 |dT kvs=>obtain⟨_,_,_,_,o,_,_,e,_⟩:=x;exact⟨_,e⟩
 |set S n=>obtain⟨o,_,_,_,e,_⟩:=x;exact⟨_,e⟩
 |ins C dx fs=>obtain⟨_,_,_,e,_⟩:=x;exact⟨_,e⟩
 |own y=>exact x
 |xd fs=>obtain⟨_,⟨_,_,_,e,_⟩,_⟩:=x;exact⟨_,e⟩
 |rng lo hi=>obtain⟨_,_,_,e⟩:=x;exact⟨_,e⟩
 |frz ob u=>exact⟨_,x.1⟩
 |tbl ps=>exact⟨_,(show h.get? a=some _ from x)⟩
 |met f y=>exact⟨_,(show h.get? a=some _ from x)⟩
 |ext φ=>exact x.2.1
theorem HOk.none_of{P:Program}{w:World}{H:Hp}{h:Heap}{a:Addr}(x:HOk P w H h)(e:h.get? a=none):H a=none:=by
 cases q:H a with
 |none=>rfl
 |some u =>obtain⟨ob,z⟩:=(x a u q).obj;rw[e]at z;cases z
def HV (h:Heap) (a:Addr) (cls:Value) (T:Option Addr):Prop :=
 ∃ oe vs a0,h.get? a=some oe∧oe.cls=cls∧oe.data=.fields vs∧vs[0]?=some a0∧
  match T with
  |none=>vs[1]?=some .none
  |some T=>vs[1]?=some (.ref T)∧T≠a∧∃ oT ts,h.get? T=some oT∧oT.data=.fields ts∧ts[3]?=some .none
structure Fl (P:Program) (w:World) (l:List Env) (H:Hp) (s:Shared) (H':Hp) (a:Addr) (cls:Value) (s':Shared):Prop where
 os:s'.os=s.os
 bare:AllBare s'.gens
 un:Un (frs l) [] H H' s.heap s'.heap
 hok:HOk P w H' s'.heap
 na:s.heap.get? a=none
 ha:H' a=none
 ex:∃ T,HV s'.heap a cls T∧∀ t,T=some t→s.heap.get? t=none∧H' t=none
def CX1 (P:Program) (w:World):CXT:=fun l H s E e s'=>∃ a cls H',e=.ref a∧Fl P w l H s H' a cls s'∧E cls none H'
def XW (X:Cx) (E:XK):Prop:=∀ (pins:List (Addr×Obj)) (σ:St) (H:Hp) (s:Shared) (H':Hp) (a:Addr) (cls:Value) (s':Shared),
 Inv X pins σ H s→Fl X.prog X.w X.stack H s H' a cls s'→E cls none H'→X.xe (.ref a) s'
theorem XW.passes{X:Cx}{E:XK}(h:XW X E):YH (CX1 X.prog X.w) X E:=fun pins σ H s e s' I ⟨a,cls,H',z,f,q⟩=>by subst z;exact h pins σ H s H' a cls s' I f q
section
variable {M:Model}{A:Around}{E:Value→Shared→Prop}{s:Shared}{B:Heap}{env:Env}{outer:List Env}{L a:Addr}{cls:Value}{T:Option Addr}{Q:Unit→Shared→Prop}
def Wf (h:Heap) (l:List Env) (a:Addr) (T:Option Addr):Heap:=PySem.W.hideAll h (a::(T.toList++frs l))
theorem XG(h:Heap)(l:List Env)(a:Addr)(T:Option Addr):(Wf h l a T).StaysIn h:=fun b o e=>PySem.W.of_hideAll _ e
theorem K5{h:Heap}{l:List Env}(a:Addr)(T:Option Addr)(hl:h.FunFrames B l):h.FunFrames (Wf h l a T) l :=
 PySem.W.funFrames_hide hl fun e he b hb=>List.mem_cons_of_mem _ (List.mem_append_right _ (List.mem_filterMap.mpr ⟨e,he,hb⟩))
theorem Nz(h:Heap)(l:List Env)(a:Addr)(T:Option Addr):(Wf h l a T).get? a=none:=PySem.W.hideAll_none _ List.mem_cons_self
theorem BN(h:Heap)(l:List Env)(a t:Addr):(Wf h l a (some t)).get? t=none:=PySem.W.hideAll_none _ (List.mem_cons_of_mem _ (List.mem_append_left _ (by simp)))
theorem MH(hfr:A.frames=some (env::outer))(hf:env.frame=some L)(hl:s.heap.FunFrames B (env::outer))(hx:HV s.heap a cls T)
  (h:∀ h' a0,Heap.LeftW (Wf s.heap (env::outer) a T) (env::outer) a cls a0 s.heap h'→Q () {s with heap:=h'}):wpAny M A (leaving env (.ref a)) Q E s:=by
 obtain⟨oe,vs,a0,he,hc,hd,h0,ht⟩:=hx;cases T with
 |none =>subst hc;exact wpAny_leaving_firstW hfr (K5 a none hl) hf he (XG _ _ _ _) (Nz _ _ _ _) hd ht h0 fun h' z=>h h' a0 z
 |some t =>obtain⟨h1,hne,oT,ts,e1,e2,e3⟩:=ht;exact wpAny_leaving_nextW hfr (K5 a (some t) hl) hf ⟨oe,vs,t,oT,ts,he,⟨hc,h0⟩,hd,h1,BN _ _ _ _,hne,e1,e2,e3⟩ (XG _ _ _ _) (Nz _ _ _ _) fun h' z=>h h' a0 z
end
theorem Fl.left{P:Program}{w:World}{l:List Env}{H H':Hp}{s s':Shared}{a:Addr}{cls a0:Value}{h' B:Heap}(f:Fl P w l H s H' a cls s'){T:Option Addr}(hT:∀ t,T=some t→s.heap.get? t=none∧H' t=none)
  (hl:s'.heap.FunFrames B l) (hfr:∀ b∈frs l,H' b=none) (z:Heap.LeftW (Wf s'.heap l a T) l a cls a0 s'.heap h'):Fl P w l H s H' a cls {s' with heap:=h'}:=by
 obtain⟨k1,k2,k3,k4⟩:=z;have inb:∀ b o,s'.heap.get? b=some o→b≠a→(∀ t,T=some t→b≠t)→b∉frs l→h'.get? b=some o:=fun b o e na nt nf=>k1 b o (PySem.W.hideAll_get _ e (by
   intro m
   rcases List.mem_cons.mp m with m|m
   · exact na m
   · rcases List.mem_append.mp m with m|m
     · cases T with
       |none=>cases m
       |some t=>exact nt t rfl (by simpa using m)
     · exact nf m))
 have slot:∀ b o,s'.heap.get? b=some o→b∈frs l→∃ sl,h'.get? b=some {o with slots:=sl}:=fun b o e hb=>by obtain⟨_,o2,e2,nf⟩:=hl.mem hb;rw[e]at e2;cases e2;exact k4 b o e nf
 have old:∀ b o,s.heap.get? b=some o→b≠a∧∀ t,T=some t→b≠t:=fun b o e=>⟨(fun z=>by rw[z,f.na]at e;cases e),(fun t ht z=>by rw[z,(hT t ht).1]at e;cases e)⟩
 refine⟨f.os,f.bare,⟨fun b o e n nf _=>?_,fun b o e n hb _=>?_,f.un.free,fun b o e _=>?_,f.un.tups,f.un.frzs,f.un.tbls⟩,?_,f.na,f.ha,?_⟩
 ·exact inb b o (f.un.keep b o e n nf (by simp)) (old b o e).1 (old b o e).2 nf
 ·obtain⟨sl,e1⟩:=f.un.slot b o e n hb (by simp);obtain⟨sl',e2⟩:=slot b _ e1 hb;exact⟨sl',e2⟩
 ·obtain⟨o1,e1⟩:=f.un.there b o e (by simp);by_cases hb:b∈frs l
  ·obtain⟨sl,e2⟩:=slot b _ e1 hb;exact⟨_,e2⟩
  ·exact⟨o1,inb b o1 e1 (old b o e).1 (old b o e).2 hb⟩
 ·intro b u e;have good:∀ c v,H' c=some v→∀ ob,s'.heap.get? c=some ob→h'.get? c=some ob:=fun c v ec ob eo =>
   inb c ob eo (fun z=>by rw[z,f.ha]at ec;cases ec) (fun t ht z=>by rw[z,(hT t ht).2]at ec;cases ec) fun m=>by rw[hfr c m]at ec;cases ec
  refine(f.hok b u e).stay (fun c v hc q=>?_) (fun _ q=>q) fun _ _ q=>q;rcases hc with z|z
  ·rw[z]at q ⊢;exact good b u e v q
  ·exact good c _ z v q
 ·obtain⟨oe,vs,t',oT,ts,e1,⟨e2,e3⟩,e4,e5,e6,e7,e8,e9,e10⟩:=k3;refine⟨some t',⟨oe,vs,a0,e1,e2,e4,e3,e5,e7,oT,ts,e8,e9,e10⟩,fun t ht=>?_⟩;cases ht;have hid:∀ o,s'.heap.get? t'=some o→T=some t':=fun o e=>by
   have nin:¬ (t'∉(a::(T.toList++frs l))):=fun m=>by have q:(Wf s'.heap l a T).get? t'=some o:=PySem.W.hideAll_get _ e m;rw[e6]at q;cases q
   have m:=Classical.not_not.mp nin;rcases List.mem_cons.mp m with m|m
   ·exact absurd m e7
   ·rcases List.mem_append.mp m with m|m
    ·cases T with
     |none=>cases m
     |some t=>rw[show t'=t by simpa using m]
    ·obtain⟨_,o2,q,nf⟩:=k2.mem m;rw[e8]at q;cases q;exact absurd e9 (nf ts)
  constructor
  ·cases q:s.heap.get? t' with
   |none=>rfl
   |some o =>obtain⟨o1,q1⟩:=f.un.there t' o q (by simp);have:=(hT t' (hid o1 q1)).1;rw[q]at this;cases this
  ·cases q:H' t' with
   |none=>rfl
   |some u =>obtain⟨o1,q1⟩:=(f.hok t' u q).obj;have:=(hT t' (hid o1 q1)).2;rw[q]at this;cases this
section
variable {P:Program}{w:World}{K:PySem.W.Frag}{mg:Str→Option Value}{base:Heap}
theorem Inv.raised{X:Cx}{pins:List (Addr×Obj)}{σ:St}{H H':Hp}{s s':Shared}{a:Addr}{cls:Value}(I:Inv X pins σ H s)(f:Fl X.prog X.w X.stack H s H' a cls s'):Inv X pins σ H' s' :=
 I.call' (ch:=[]) f.os f.un f.hok f.bare (fun b z=>absurd z (by simp))
theorem ML{X:Cx}(ok:X.Ok)(h:X.stack=X.env::X.outer):X.env.frame=some X.env.locals:=by
 rcases ok.stk with e|e
 ·rw[h]at e;exact absurd (congrArg List.length e) (by simp)
 ·exact e.2
theorem F4{N:List Str}{qual:Str}{scope:Scope}{f:Addr}{cd:Value}{A:Around}{outer:List Env}{s:Shared}{H:Hp}{E:XK}:XW (Jf (CX1 P w) P w K mg base N qual scope f cd A outer s H E) E:=by
 intro pins σ H2 s2 H' a cls s' I f q;have J:=I.raised f;obtain⟨T,hx,hT⟩:=f.ex;show wpAny _ _ (leaving _ _) _ _ _;refine MH (outer:=outer) J.ok.frames (ML J.ok rfl) J.stack hx fun h' a0 z=>?_;have f2:=f.left hT J.stack J.stkFree z;have J2:=I.raised f2;have back:∀ b,s2.heap.get? b=none→s.heap.get? b=none:=fun b e=>by
  cases z:s.heap.get? b with
  |none=>rfl
  |some o =>obtain⟨o',e'⟩:=I.base.there b o z (by intro m;cases m);rw[e]at e';cases e'
 obtain⟨T2,hx2,hT2⟩:=f2.ex;exact⟨a,cls,H',rfl,⟨J2.os,J2.bare,J2.base,J2.hok,back a f2.na,f2.ha,T2,hx2,fun t ht=>⟨back t (hT2 t ht).1,(hT2 t ht).2⟩⟩,q⟩
theorem Fun.ok1{x qual:Str}{st:Stmt}{f:Addr}{fd:FuncData}{N ps:List Str}{k:Nat}{sp:Sp}(F:Fun K x qual st f fd)(S:FnScope N ps (Zq st))(len:∀ vs H Q E,sp vs H Q E→vs.length=ps.length)
  (hbody:∀ (cdv:Value) (A:Around) (outer:List Env) (s:Shared) (H:Hp) (vs:List V) (Q:VK) (E:XK),Room k (A.deeper (envOfC qual (Zq st) s.heap.objs.size f cdv))→sp vs H Q E→
    XW (Jf (CX1 P w) P w K mg base N qual (Zq st) f cdv A outer s H E) E→
    ∃ t,PSs (Jf (CX1 P w) P w K mg base N qual (Zq st) f cdv A outer s H E) (ZK st) t∧t { nx:=fun _ H'=>Q .non H',rt:=Q } (start N vs) H):FnOk P w K mg base (CX1 P w) (k+1) f fd ps sp:=by
 obtain⟨oc,od,kV,doc,pm,an,cdv,ct,osl,rfl,lk,hcd⟩:=F.ex;exact Ec lk hcd S len fun A outer s H vs Q E hr hsp=>hbody cdv A outer s H vs Q E hr hsp F4
def RJ (P:Program) (w:World) (K:PySem.W.Frag) (mg:Str→Option Value) (base:Heap) (k:Nat) (x:Str) (ps:List Str) (sp:Sp):Prop :=
 ∃ f fd,FnOk P w K mg base (CX1 P w) k f fd ps sp∧mg x=some (.ref f)∧PySem.W.keepIn K (.ref f)=true∧Binds K fd ps []
end
section
variable {X:Cx}{x:Str}{p pos np cpos:Pos}{e:Expr}{es:List Expr}{t:TA}{E:XK}{C:Addr}{bm:List Value}
def QG (C:Addr) (t:TA) (E:XK):TS:=fun _ σ H=>t σ H fun vs H1=>vs.length≤sizeLine∧E (.ref C) none H1
end
def XP (X:Cx) (pins:List (Addr×Obj)) (σ:St) (E:XK) (v:Value) (s':Shared):Prop :=
 ∃ a cls H1 H' s1,v=.ref a∧Inv X pins σ H1 s1∧Fl X.prog X.w X.stack H1 s1 H' a cls s'∧E cls none H'
def PCx (X:Cx) (e:Expr) (t:St→Hp→VK→XK→Prop):Prop :=
 ∀ (pins:List (Addr×Obj)) (s:Shared) (σ:St) (H:Hp) (Q:VK) (E:XK),Inv X pins σ H s→t σ H Q E→wpAny (model X.prog X.w) X.A (eval e X.env) (EP X pins σ Q) (XP X pins σ E) s
def PB (X:Cx) (body:List Stmt) (t:Ends→XK→St→Hp→Prop):Prop :=
 ∀ (pins:List (Addr×Obj)) (s:Shared) (σ:St) (H:Hp) (D:Ends) (E:XK),Inv X pins σ H s→t D E σ H→wpAny (model X.prog X.w) X.A (execs body X.env) (SP X pins D) (XP X pins σ E) s
section
variable {X:Cx}{x:Str}{p pos:Pos}{e c:Expr}{es:List Expr}{t:TA}
def tC1 (sp:Sp) (t:TA):St→Hp→VK→XK→Prop:=fun σ H Q E=>t σ H fun vs H1=>sp vs H1 Q E
variable {tc:St→Hp→VK→XK→Prop}
end
def xcO (a:Addr) (cls:Value):HO:=.ext fun h=>∃ o vs,h.get? a=some o∧o.cls=cls∧o.data=.fields vs
abbrev Cx.caught (X:Cx) (a:Addr):Cx:={X with A:=X.A.mark (some (.ref a)),calm:=false,xe:=fun _ _=>False}
section
variable {X:Cx}{pins:List (Addr×Obj)}{σ:St}{H H':Hp}{s s':Shared}{a:Addr}{cls:Value}
theorem Inv.caught(I:Inv X pins σ H s)(a:Addr):Inv (X.caught a) pins σ H s :=
 ⟨⟨I.ok.mod,I.ok.kind,I.ok.glob,I.ok.blt,I.ok.above,I.ok.inj,I.ok.has,I.ok.cab,fun z=>Bool.noConfusion z,I.ok.frames,I.ok.stk,I.ok.exf,I.ok.bs,I.ok.bsz,I.ok.noex,I.ok.exfs,I.ok.funs,I.ok.frf⟩,I.os,I.bare,I.base,I.loc,I.cell,I.free,I.freeC,I.pin,I.hok,I.len⟩
end
def Gy (i:Nat) (D:Ends):Ends:={nx:=fun σ H=>D.nx (σ.set i none) H,rt:=D.rt,bk:=fun σ H=>D.bk (σ.set i none) H,ct:=fun σ H=>D.ct (σ.set i none) H}
def RK (K:PySem.W.Frag) (C:Value) (i:Nat) (tb:Ends→XK→St→Hp→Prop) (ts:TS):TS:=fun D σ H =>
 tb D (fun cls _ H'=>PySem.W.exmOne K cls C=some true∧∀ a,H' a=none→ts (Gy i D) (σ.set i (some (.ref a))) (upd H' a (xcO a cls))) σ H
end L2
namespace L2
open PySem PySem.Spec PySem.W PySem.Calls PyProof.Rows PySem.Builtin PySem.Builtin.ObjectAttr PySem.Builtin.Getset_descriptor
section
variable {prog:Program}{w:World}{A:Around}{E:Value→Shared→Prop}{K:Frag}{h:Heap}{g:Array GenState}{d:Drawn}{t:Nat}{os:OsState}{a C:Addr}{o:Obj}
structure XCls (K:Frag) (C:Addr):Prop where
 ga:findIn K (.ref C) "__getattribute__" = some (some (.builtin "BaseException.__getattribute__"))
 gr:findIn K (.ref C) "__getattr__" = some none
 cl:findIn K (.ref C) "__class__" = some (some (.builtin "object.__class__"))
 mo:mroIn K C (.type "object")=some true
 mb:mroIn K C (.type "BaseException")=some true
 ci:(clsIn K C).isSome=true
end
end L2
namespace L2
open PySem PySem.Spec PyProof.Rows
section
variable {X:Cx}
theorem Jj:CallR X (.type "int") (fun xs H Q=>∃ z n,xs=[.str z]∧PySem.intText? z=some n∧z.length≤640∧Q (.int n) H):=by intro pins s σ H xs us Q I r h;obtain⟨z,n,rfl,e,hl,q⟩:=h;obtain⟨u,rfl,t,rfl⟩:=Yd r;exact PySem.W.KIN.call_text e hl ⟨.int n,H,I.tok _,⟨_,rfl⟩,q⟩
end
def Rk (K:PySem.W.Frag) (C:Value) (tb:Ends→XK→St→Hp→Prop) (ts:TS):TS:=fun D σ H =>
 tb D (fun cls _ H'=>PySem.W.exmOne K cls C=some true∧∀ a,H' a=none→ts D σ (upd H' a (xcO a cls))) σ H
end L2
namespace L2
open PySem PySem.Spec PyProof.Rows
open PySem.Builtin PySem.Builtin.Str
def O3 (z:Str) (lo hi:Option Int):Str:=if(strSliceIndices lo hi 1 z.length).length=z.length then z else⟨((strSliceIndices lo hi 1 z.length).filterMap (z.cps[·]?)).toArray⟩
theorem UT(z:Str)(lo hi:Option Int):(O3 z lo hi).length≤z.length:=by
 unfold O3;split
 ·exact Nat.le_refl _
 ·show((strSliceIndices lo hi 1 z.length).filterMap (z.cps[·]?)).toArray.size≤_;rw[List.size_toArray];exact Nat.le_trans (List.length_filterMap_le _ _) (indices_len_le lo hi z.length)
section
variable {X:Cx}
def ID:V→Option Int→Option Int→Hp→VK→Prop:=fun x lo hi H Q=>∃ z,x=.str z∧z.length≤sizeLine∧Q (.str (O3 z lo hi)) H
theorem Nk{v:Value}{lo:Option Int}(h:IsPart v lo):∃ l:Option (Int×Tok),v=partValue l∧l.map (·.1)=lo:=by
 cases h with
 |none=>exact⟨none,rfl,rfl⟩
 |int i t=>exact⟨some (i,t),rfl,rfl⟩
theorem sl_str:SlR X ID:=by
 intro pins s σ H x v vl vu lo hi sl Q I rx hs pl pu h;obtain⟨z,rfl,hz,q⟩:=h;obtain⟨t,rfl⟩:=rx;refine⟨"str",_,slot_str_getitem.lookup,typeIs_str s z t,?_⟩;obtain⟨l,rfl,el⟩:=Nk pl;obtain⟨u,rfl,eu⟩:=Nk pu;have hs':s.heap.IsSlice sl l u none:=hs;refine wpAny_getItem_str_slice hs' rfl ?_;have e:sliceMade z t l u none=if(strSliceIndices lo hi 1 z.length).length=z.length then .val (.str z t)else .str ⟨((strSliceIndices lo hi 1 z.length).filterMap (z.cps[·]?)).toArray⟩:=by unfold sliceMade slicePicked;rw[el,eu];simp
 rw[e];have cl:=UT z lo hi;unfold O3 at q cl;split
 ·rename_i hh;rw[if_pos hh]at q;exact⟨.str z,H,I,⟨t,rfl⟩,q⟩
 ·rename_i hh;rw[if_neg hh]at q cl;exact⟨Nat.le_trans cl hz,.str _,H,I.tok _,⟨_,rfl⟩,q⟩
end
section
variable {X:Cx}
def Rl:R2:=fun x y H Q=>∃ z k,x=.str z∧y=.int k∧2≤k∧k≤1000000∧1≤z.length∧z.length*k.toNat≤1000000∧∀ u:Str,u.length=z.length*k.toNat→Q (.str u) H
def LM:V→List V→Hp→VK→Prop:=fun x vs H Q=>∃ l xs i y,x=.ref l∧vs=[.int i,y]∧H l=some (.lst xs)∧0≤i∧i≤xs.length∧xs.length<sizeLine∧Q .non (upd H l (.lst (xs.take i.toNat++y::xs.drop i.toNat)))
theorem Vals.ins{xs:List V}{us:List Value}{y:V}{u:Value}(r:Vals xs us)(ry:RelV y u)(k:Nat):Vals (xs.take k++y::xs.drop k) (us.take k++u::us.drop k):=(r.take k).append (.cons ry (r.drop k))
end
section
variable {X:Cx}{a:Expr}{ta:TE}{y z:Str}{k1 k2 k3:Nat}{p1 p2 p3 p4 apos cpos:Pos}
def QU (K:PySem.W.Frag) (y z:Str) (ta:TE):TE:=fun σ H Q=>ta σ H fun x H1=>∃ p xs w,x=.ref p∧SqL K H1 p xs∧xs[0]?=some (.str w)∧w.length≤1000000∧z.length≤8∧(y==z)=false∧
 ∀ u:Str,u.length≤w.length+(w.length+1)*z.length→Q (.str u) H1
end
end L2
namespace L2
open PySem PySem.Spec PyProof.Rows
section
variable {X:Cx}
def RI (K:PySem.W.Frag):R2:=fun x y H Q=>∃ p q xs,x=.ref p∧y=.ref q∧SqL K H p xs∧SqL K H q []∧Q (.bl (decide (xs.length=0))) H
def Rx (K:PySem.W.Frag):R2:=fun x y H Q=>∃ p q xs,x=.ref p∧y=.ref q∧SqL K H p xs∧SqL K H q []∧Q (.bl (!decide (xs.length=0))) H
end
section
variable {X:Cx}(K:PySem.W.Frag) (h:X.K=K)
include h
end
def Itz (K:PySem.W.Frag) (a b:Addr):It :=
 ⟨fun i H=>∃ xs ys x y,SqL K H a xs∧SqL K H b ys∧xs[i]?=some x∧ys[i]?=some y,
  fun i H v H'=>∃ p,v=.ref p∧H p=none∧∀ xs ys x y,SqL K H a xs→SqL K H b ys→xs[i]?=some x→ys[i]?=some y→H'=upd H p (.tup [x,y]),
  fun i H=>∃ xs ys,SqL K H a xs∧SqL K H b ys∧(xs.length≤i∨ys.length≤i)⟩
def ZSt (z TI TO i1 i2 a b:Addr) (i:Nat) (h:Heap):Prop:=IsZip h z TI TO .none∧IsPair h TI (.ref i1) (.ref i2)∧(∃ u v,IsPair h TO u v)∧h.IsListIter i1 a i∧h.IsListIter i2 b i
theorem ZSt.keep{z TI TO i1 i2 a b:Addr}{i:Nat}{h h':Heap}(st:ZSt z TI TO i1 i2 a b i h)(k:∀ c∈[z,TI,TO,i1,i2],∀ o,h.get? c=some o→h'.get? c=some o):ZSt z TI TO i1 i2 a b i h':=by obtain⟨h1,h2,⟨u,v,h3⟩,h4,h5⟩:=st;exact⟨k z (by simp) _ h1,k TI (by simp) _ h2,⟨u,v,k TO (by simp) _ h3⟩,h4.at fun o q=>k i1 (by simp) o q,h5.at fun o q=>k i2 (by simp) o q⟩
theorem ZSt.obj {z TI TO i1 i2 a b:Addr}{i:Nat}{h:Heap}(st:ZSt z TI TO i1 i2 a b i h):∀ c∈[z,TI,TO,i1,i2],∃ o,h.get? c=some o∧(∀ v,o.data≠.cell v)∧o.cls≠.type "list":=by
 obtain⟨h1,h2,⟨u,v,h3⟩,⟨o4,e4,c4,d4⟩,⟨o5,e5,c5,d5⟩⟩:=st;intro c hc;simp only[List.mem_cons,List.not_mem_nil,or_false]at hc;rcases hc with rfl|rfl|rfl|rfl|rfl
 ·exact⟨_,h1,(fun v z=>(by cases z)),(show Value.type "zip"≠.type "list" by decide)⟩
 ·exact⟨_,h2,(fun v z=>(by cases z)),(show Value.type "tuple"≠.type "list" by decide)⟩
 ·exact⟨_,h3,(fun v z=>(by cases z)),(show Value.type "tuple"≠.type "list" by decide)⟩
 ·exact⟨_,e4,(fun v z=>(by rw[d4]at z;cases z)),(by rw[c4];decide)⟩
 ·exact⟨_,e5,(fun v z=>(by rw[d5]at z;cases z)),(by rw[c5];decide)⟩
theorem A8{P:Program}{w:World}{K:PySem.W.Frag}{es:List Expr}{kk:Nat}{tp:Pos}(a b z TI TO i1 i2:Addr)(hnd:[z,TI,TO,i1,i2].Nodup) :
  Turn P w K (.Tuple es kk tp) (Itz K a b) [z,TI,TO,i1,i2] z (fun i h=>ZSt z TI TO i1 i2 a b i h) where
 mem:=by simp
 obj:=fun i h st c hc=>let ⟨o,e,d,_⟩:=ZSt.obj st c hc;⟨o,e,d⟩
 keep:=fun i h h' st k=>ZSt.keep st k
 item:=by
  intro X hP hw hK hc i pins s σ H E I hf st hg;subst hP hw hK;obtain⟨xs,ys,x,y,hq1,hq2,hx,hy⟩:=hg;obtain⟨its1,rv1,pl1,hz1⟩:=I.list hq1;obtain⟨its2,rv2,pl2,hz2⟩:=I.list hq2;obtain⟨u1,hu1,ru1⟩:=rv1.get hx;obtain⟨u2,hu2,ru2⟩:=rv2.get hy;have hap:∀ c∈[z,TI,TO,i1,i2],a≠c∧b≠c:=fun c hcc=>by
   obtain⟨o,e,_,nl⟩:=ZSt.obj st c hcc;refine⟨fun q=>?_,fun q=>?_⟩
   ·subst q;obtain⟨o',e',c',_⟩:=pl1.isList;rw[e]at e';cases e';exact nl c'
   ·subst q;obtain⟨o',e',c',_⟩:=pl2.isList;rw[e]at e';cases e';exact nl c'
  simp only[List.nodup_cons,List.mem_cons,List.not_mem_nil,or_false,not_or]at hnd;obtain⟨⟨n1,n2,n3,n4⟩,⟨n5,n6,n7⟩,⟨n8,n9⟩,n10,_⟩:=hnd;have D:ZipApart z TI TO i1 i2 a b:=by constructor<;>first|exact Ne.symm (by assumption)|assumption|exact(hap _ (by simp)).1|exact(hap _ (by simp)).2
  obtain⟨h1,h2,⟨o1,o2,h3⟩,h4,h5⟩:=st;refine wpAny_pyNext_zip_item D h1 h2 h3 h4 h5 pl1.isList pl2.isList (x:=u1) (y:=u2) (by simpa using hu1) (by simpa using hu2) fun h' a1 a2 a3 a4 a5 a6 a7=>?_;have hfr:=I.fpOk (H':=H) (Nat.le_refl s.heap.objs.size) I.fresh;refine⟨.ref s.heap.objs.size,rfl,wpAny_letOwnedTupleGo_zip a1 fun h'' b1 b2=>?_⟩;have nT:∀ c∈[z,TI,TO,i1,i2],s.heap.objs.size≠c:=fun c hcc q=>by obtain⟨o,e,_⟩:=ZSt.obj ⟨h1,h2,⟨o1,o2,h3⟩,h4,h5⟩ c hcc;exact absurd (Heap.lt_size e) (by rw[←q];exact Nat.lt_irrefl _)
  have I4:Inv X pins σ H {s with heap:=h'',toks:=s.toks}:=I.turnedL (t':=s.toks) (ch:=[z,TI,TO,i1,i2]) (fun c o hcc q=>b2.extBut c o (fun e=>hcc (by simp[e])) (a7 c o (fun e=>hcc (by simp[e])) (fun e=>hcc (by simp[e])) (fun e=>hcc (by simp[e])) (fun e=>hcc (by simp[e])) q)) hf;have hT4:IsPair h'' s.heap.objs.size u1 u2:=b2.extBut _ _ (nT z (by simp)) a5;obtain⟨f0,f1,f2,f3,f4,f5⟩:=hfr;have I5:Inv X pins σ (upd H s.heap.objs.size (.tup [x,y])) {s with heap:=h'',toks:=s.toks}:=I4.track f0 I.sz f1 f4 f5 ⟨by show 2≤sizeLine;decide,[u1,u2],.cons ru1 (.cons ru2 .nil),_,hT4,rfl,_,rfl⟩;refine⟨.ref s.heap.objs.size,_,I5,rfl,⟨s.heap.objs.size,rfl,f0,fun xs' ys' x' y' q1 q2 q3 q4=>?_⟩,⟨b1,b2.extBut _ _ D.TIz (a7 TI _ D.TIz D.TITO D.TIi1 D.TIi2 h2),⟨u1,u2,b2.extBut _ _ D.TOz a2⟩,a3.at fun o q=>b2.extBut i1 o D.i1z q,a4.at fun o q=>b2.extBut i2 o D.i2z q⟩,fun c hcc=>?_⟩
  ·have e1:xs'=xs:=I.list_inj q1 hq1;have e2:ys'=ys:=I.list_inj q2 hq2;subst e1 e2;rw[hx]at q3;rw[hy]at q4;cases q3;cases q4;rfl
  ·rw[upd_ne (nT c hcc).symm];exact(hf c hcc).1
 done:=by
  intro X hP hw hK hc i pins s σ H E I hf st hg;subst hP hw hK;obtain⟨xs,ys,hq1,hq2,hend⟩:=hg;obtain⟨its1,rv1,pl1,hz1⟩:=I.list hq1;obtain⟨its2,rv2,pl2,hz2⟩:=I.list hq2;have hl1:=rv1.length;have hl2:=rv2.length;have hap:∀ c∈[z,TI,TO,i1,i2],a≠c∧b≠c:=fun c hcc=>by
   obtain⟨o,e,_,nl⟩:=ZSt.obj st c hcc;refine⟨fun q=>?_,fun q=>?_⟩
   ·subst q;obtain⟨o',e',c',_⟩:=pl1.isList;rw[e]at e';cases e';exact nl c'
   ·subst q;obtain⟨o',e',c',_⟩:=pl2.isList;rw[e]at e';cases e';exact nl c'
  simp only[List.nodup_cons,List.mem_cons,List.not_mem_nil,or_false,not_or]at hnd;obtain⟨⟨n1,n2,n3,n4⟩,⟨n5,n6,n7⟩,⟨n8,n9⟩,n10,_⟩:=hnd;have D:ZipApart z TI TO i1 i2 a b:=by constructor<;>first|exact Ne.symm (by assumption)|assumption|exact(hap _ (by simp)).1|exact(hap _ (by simp)).2
  obtain⟨h1,h2,⟨o1,o2,h3⟩,h4,h5⟩:=st;refine wpAny_pyNext_zip_end (I.ok.hd hc) D h1 h2 h3 h4 h5 pl1.isList pl2.isList ?_ fun h' hk=>?_
  ·rcases hend with e|e
   ·left;simp;omega
   ·right;simp;omega
  ·exact⟨rfl,I.turnedL (t':=s.toks) (ch:=[z,TI,TO,i1,i2]) (fun c o hcc q=>hk c o (fun e=>hcc (by simp[e])) (fun e=>hcc (by simp[e])) (fun e=>hcc (by simp[e])) (fun e=>hcc (by simp[e])) q) hf⟩
 self:=fun A i s Q E st h=>wpAny_pyIter_zip st.1 h
section
variable {X:Cx}
def Rp (K:PySem.W.Frag) (ta:TA):TI:=fun σ H R=>ta σ H fun vs H1=>∃ a b,vs=[.ref a,.ref b]∧(∃ xs,SqL K H1 a xs)∧(∃ ys,SqL K H1 b ys)∧R (Itz K a b) H1
theorem Kc:CallR X (.type "str") (fun xs H Q=>∃ z,xs=[.str z]∧Q (.str z) H):=by intro pins s σ H xs us Q I r h;obtain⟨z,rfl,q⟩:=h;obtain⟨u,rfl,t,rfl⟩:=Yd r;exact PySem.P.str_of_str ⟨.str _,H,I,⟨_,rfl⟩,q⟩
def GS (te:TE):TE:=fun σ H Q=>te σ H fun x H1=>(∃ i,x=.int i∧i.natAbs.log2<1920∧Q (.str (toString i)) H1)∨∃ z,x=.str z∧z.length≤sizeLine∧Q (.str z) H1
theorem Dy{e:Expr}{te:TE}{pos:Pos}(he:PE X e te):PE X (.FormattedValue e (-1) none pos) (GS te):=by
 intro pins s σ H Q I h;refine wpAny_FormattedValue_plain (thn (he pins s σ H _ I h) fun v s1 ⟨x,H1,I1,r1,q1⟩=>?_);rcases q1 with⟨i,e1,hd,q1⟩|⟨z,e1,hz,q1⟩
 ·subst e1;obtain⟨t,rfl⟩:=r1;exact wpAny_formatField_int hd ⟨.str _,H1,I1.tok _,⟨_,rfl⟩,q1⟩
 ·subst e1;obtain⟨t,rfl⟩:=r1;exact wpAny_formatField_str ⟨.str _,H1,I1,⟨_,rfl⟩,q1⟩ ⟨.str _,H1,I1.tok _,⟨_,rfl⟩,q1⟩ hz
def B1 (K:PySem.W.Frag) (neg:Bool):R2:=fun x y H Q=>∃ ds d,(IsD K H y (.tuple ds)∨IsD K H y (.list ds))∧IsD K H x d∧PyData.canLayAll0 ds=true∧d.canLay0=true∧d.depth≤64∧Q (.bl (if neg then !ds.any (fun e=>PyData.eqv e d)else ds.any fun e=>PyData.eqv e d)) H
theorem E6(hu:X.A.units+65<cLine):OpR X (compareOp .In) (B1 X.K false):=by
 intro pins s σ H x y v u Q I rx ry h;obtain⟨ds,d,hd,he,sd,se,hdp,q⟩:=h;obtain⟨bs,rb⟩:=he.reads I rx;have hr:X.A.units+1+min (PyData.depthAll ds) d.depth<cLine:=by have:min (PyData.depthAll ds) d.depth≤d.depth:=Nat.min_le_right _ _;omega
 rcases hd with hd|hd
 ·obtain⟨as,ra⟩:=hd.reads I ry;exact SeqAt.in_tuple_reads ra rb sd se hr ⟨.bl _,H,I,rfl,q⟩
 ·obtain⟨as,ra⟩:=hd.reads I ry;exact SeqAt.in_list_reads ra rb sd se hr ⟨.bl _,H,I,rfl,q⟩
theorem Oo(hu:X.A.units+65<cLine):OpR X (compareOp .NotIn) (B1 X.K true):=by
 intro pins s σ H x y v u Q I rx ry h;obtain⟨ds,d,hd,he,sd,se,hdp,q⟩:=h;obtain⟨bs,rb⟩:=he.reads I rx;have hr:X.A.units+1+min (PyData.depthAll ds) d.depth<cLine:=by have:min (PyData.depthAll ds) d.depth≤d.depth:=Nat.min_le_right _ _;omega
 rcases hd with hd|hd
 ·obtain⟨as,ra⟩:=hd.reads I ry;exact SeqAt.notIn_tuple_reads ra rb sd se hr ⟨.bl _,H,I,rfl,q⟩
 ·obtain⟨as,ra⟩:=hd.reads I ry;exact SeqAt.notIn_list_reads ra rb sd se hr ⟨.bl _,H,I,rfl,q⟩
end
section
variable {prog:Program}{w:World}{A:Around}{E:Value→Shared→Prop}{s:Shared}
theorem NP{z TI TO:Addr}{Q:Bool→Shared→Prop}(q1:IsZip s.heap z TI TO .none)(q:Q true s):wpAny (model prog w) A (Builtin.SmallTypes.ownedTupleIsFree (.ref z)) Q E s:=by unfold Builtin.SmallTypes.ownedTupleIsFree;exact wpAny_bind (wpAny_field q1 rfl (x:=.none) rfl (wpAny_pure q))
theorem OG{z TI TO i1 i2 t1 t2:Addr}{k:Nat}{xs ys:Array Value}{x y u v:Value}{Q:Value→Shared→Prop}(D:ZipApart z TI TO i1 i2 t1 t2)
  (q1:IsZip s.heap z TI TO .none) (q2:IsPair s.heap TI (.ref i1) (.ref i2)) (q3:IsPair s.heap TO u v) (p1:s.heap.IsTupleIter i1 t1 k) (p2:s.heap.IsTupleIter i2 t2 k) (r1:s.heap.IsTuple t1 xs) (r2:s.heap.IsTuple t2 ys) (hx:xs[k]?=some x) (hy:ys[k]?=some y)
  (q:∀ g,IsZip g z TI TO (rawInt s.heap.objs.size)→IsPair g TO x y→g.IsTupleIter i1 t1 (k+1)→g.IsTupleIter i2 t2 (k+1)→IsPair g s.heap.objs.size x y→
    (∀ c o,c≠z→c≠TO→c≠i1→c≠i2→s.heap.get? c=some o→g.get? c=some o)→Q (.ref s.heap.objs.size) { s with heap:=g }) :
  wpAny (model prog w) A (Builtin.«zip.__next__» ⟨[.ref z],[]⟩) (fun fin s'=>∃ a,fin=.done (.ret a)∧Q a s') E s:=by
 show wpAny _ _ (field (.ref z) 2 >>= _) _ _ s;refine wpAny_bind (wpAny_field q1 rfl (x:=.bool false) rfl ?_);show wpAny _ _ (field (.ref z) 3 >>= _) _ _ s;refine wpAny_bind (wpAny_field q1 rfl (x:=.ref TI) rfl (wpAny_bind (wpAny_seqItems q2 rfl ?_)));show wpAny _ _ (Builtin.SmallTypes.ownedTupleIsFree (.ref z) >>= _) _ _ s;refine wpAny_bind (NP q1 ?_);simp only[if_true];refine wpAny_bind (wpAny_rule (wpAny_bind (wpAny_field q1 rfl (x:=.ref TO) rfl (wpAny_bind (wpAny_setField_rec q1 (by simp) fun g1 y1 m1=>?_)))))
 replace y1:IsZip g1 z TI TO .ellipsis:=y1
 simp only[List.zipIdx_cons,List.zipIdx_nil,List.forIn_cons,List.forIn_nil];refine wpAny_bind (wpAny_bind (wpAny_bind (wpAny_onRaise ?_)));show wpAny _ _ (Builtin.SmallTypes.nextOf (.ref i1) >>= _) _ _ _;refine wpAny_bind (Xd (p1.extBut m1.extBut D.i1z) (r1.extBut m1.extBut D.l1z) hx fun g2 y2 m2=>wpAny_pure ?_);have o2:IsPair g2 TO u v:=m2.extBut _ _ D.TOi1 (m1.extBut _ _ D.TOz q3);refine wpAny_bind (wpAny_seqItems o2 rfl (wpAny_bind (wpAny_updateSeq_pair o2 fun g3 o3 m3=>wpAny_bind (wpAny_letGo (wpAny_pure ?_)))))
 replace o3:IsPair g3 TO x v:=o3
 refine wpAny_bind (wpAny_bind (wpAny_onRaise ?_));show wpAny _ _ (Builtin.SmallTypes.nextOf (.ref i2) >>= _) _ _ _;have n2:=((p2.extBut m1.extBut D.i2z).extBut m2.extBut D.i12.symm).extBut m3.extBut D.TOi2.symm;have w2:=((r2.extBut m1.extBut D.l2z).extBut m2.extBut D.l2i1).extBut m3.extBut D.l2TO;refine wpAny_bind (Xd n2 w2 hy fun g4 y4 m4=>wpAny_pure ?_);have o4:IsPair g4 TO x v:=m4.extBut _ _ D.TOi2 o3;refine wpAny_bind (wpAny_seqItems o4 rfl (wpAny_bind (wpAny_updateSeq_pair o4 fun g5 o5 m5=>wpAny_bind (wpAny_letGo (wpAny_pure (wpAny_pure ?_))))))
 replace o5:IsPair g5 TO x y:=o5
 refine wpAny_bind (wpAny_seqItems o5 rfl (wpAny_bind (wpAny_newTuple ?_)));have sz:g5.objs.size=s.heap.objs.size:=by rw[m5.1,m4.1,m3.1,m2.1,m1.1]
 have y5:IsZip g5 z TI TO .ellipsis:=m5.extBut _ _ D.TOz.symm (m4.extBut _ _ D.i2z.symm (m3.extBut _ _ D.TOz.symm (m2.extBut _ _ D.i1z.symm y1)));have kp:∀ c o,c≠z→c≠TO→c≠i1→c≠i2→s.heap.get? c=some o→g5.get? c=some o:=fun c o a1 a2 a3 a4 e=>m5.extBut _ _ a2 (m4.extBut _ _ a4 (m3.extBut _ _ a2 (m2.extBut _ _ a3 (m1.extBut _ _ a1 e))));have j1:g5.IsTupleIter i1 t1 (k+1):=((y2.extBut m3.extBut D.TOi1.symm).extBut m4.extBut D.i12).extBut m5.extBut D.TOi1.symm;have j2:g5.IsTupleIter i2 t2 (k+1):=y4.extBut m5.extBut D.TOi2.symm;have zl:z<g5.objs.size:=Heap.lt_size y5;show wpAny _ _ (Builtin.SmallTypes.ownedTupleHandOut (.ref z) (.ref g5.objs.size) >>= _) _ _ _;refine wpAny_bind ?_;unfold Builtin.SmallTypes.ownedTupleHandOut;have y6:IsZip (g5.push {cls:=.type "tuple",data:=.seq #[x,y]}) z TI TO .ellipsis:=Heap.get?_push_of_some _ y5;refine wpAny_bind (wpAny_setField_rec y6 (by simp) fun g7 y7 m7=>?_)
 replace y7:IsZip g7 z TI TO (rawInt g5.objs.size):=y7
 refine wpAny_setField_rec y7 (by simp) fun g8 y8 m8=>?_
 replace y8:IsZip g8 z TI TO (rawInt g5.objs.size):=y8
 have up:∀ c o,c≠z→g5.get? c=some o→g8.get? c=some o:=fun c o a1 e=>m8.extBut _ _ a1 (m7.extBut _ _ a1 (Heap.get?_push_of_some _ e));have o8:IsPair g8 g5.objs.size x y:=m8.extBut _ _ (Nat.ne_of_gt zl) (m7.extBut _ _ (Nat.ne_of_gt zl) (Heap.get?_push_size _ rfl));rw[sz]at y8 o8;refine wpAny_pure ⟨_,rfl,?_⟩;show Q (.ref g5.objs.size) _;rw[sz];exact q g8 y8 (up _ _ D.TOz o5) (j1.at fun o e=>up _ o D.i1z e) (j2.at fun o e=>up _ o D.i2z e) o8 fun c o a1 a2 a3 a4 e=>up c o a1 (kp c o a1 a2 a3 a4 e)
theorem A2{z TI TO i1 i2 t1 t2:Addr}{k:Nat}{xs ys:Array Value}{u v:Value}{Q:Fin→Shared→Prop}(hh:A.handled=none)(D:ZipApart z TI TO i1 i2 t1 t2)
  (q1:IsZip s.heap z TI TO .none) (q2:IsPair s.heap TI (.ref i1) (.ref i2)) (q3:IsPair s.heap TO u v) (p1:s.heap.IsTupleIter i1 t1 k) (p2:s.heap.IsTupleIter i2 t2 k) (r1:s.heap.IsTuple t1 xs) (r2:s.heap.IsTuple t2 ys) (hend:xs[k]?=none∨ys[k]?=none)
  (q:∀ g e,(∀ c o,c≠z→c≠TO→c≠i1→c≠i2→s.heap.get? c=some o→g.get? c=some o)→(∃ o,g.get? e=some o∧o.cls=.type "StopIteration")→E (.ref e) {s with heap:=g}) :
  wpAny (model prog w) A (Builtin.«zip.__next__» ⟨[.ref z],[]⟩) Q E s:=by
 show wpAny _ _ (field (.ref z) 2 >>= _) _ _ s;refine wpAny_bind (wpAny_field q1 rfl (x:=.bool false) rfl ?_);show wpAny _ _ (field (.ref z) 3 >>= _) _ _ s;refine wpAny_bind (wpAny_field q1 rfl (x:=.ref TI) rfl (wpAny_bind (wpAny_seqItems q2 rfl ?_)));show wpAny _ _ (Builtin.SmallTypes.ownedTupleIsFree (.ref z) >>= _) _ _ s;refine wpAny_bind (NP q1 ?_);simp only[if_true];refine wpAny_bind (wpAny_rule (wpAny_bind (wpAny_field q1 rfl (x:=.ref TO) rfl (wpAny_bind (wpAny_setField_rec q1 (by simp) fun g1 y1 m1=>?_)))))
 replace y1:IsZip g1 z TI TO .ellipsis:=y1
 simp only[List.zipIdx_cons,List.zipIdx_nil,List.forIn_cons,List.forIn_nil];refine wpAny_bind (wpAny_bind (wpAny_bind (wpAny_onRaise ?_)));show wpAny _ _ (Builtin.SmallTypes.nextOf (.ref i1) >>= _) _ _ _;cases hx:xs[k]? with
 |none =>
  refine wpAny_bind (JJ hh (p1.extBut m1.extBut D.i1z) (r1.extBut m1.extBut D.l1z) hx fun g2 e m2 he=>?_);obtain⟨oe,e1,e2⟩:=he;have y2:IsZip g2 z TI TO .ellipsis:=m2 _ _ D.i1z.symm y1;have ne:e≠z:=fun a=>by subst a;rw[y2]at e1;cases e1;simp at e2
  exact wpAny_setField_rec y2 (by simp) fun g3 _ m3=>q g3 e (fun c o a1 _ a3 _ b=>m3.extBut _ _ a1 (m2 _ _ a3 (m1.extBut _ _ a1 b))) ⟨oe,m3.extBut _ _ ne e1,e2⟩
 |some x =>
  have hy:ys[k]?=none:=hend.elim (fun h=>by rw[hx]at h;cases h) id;refine wpAny_bind (Xd (p1.extBut m1.extBut D.i1z) (r1.extBut m1.extBut D.l1z) hx fun g2 y2 m2=>wpAny_pure ?_);have o2:IsPair g2 TO u v:=m2.extBut _ _ D.TOi1 (m1.extBut _ _ D.TOz q3);refine wpAny_bind (wpAny_seqItems o2 rfl (wpAny_bind (wpAny_updateSeq_pair o2 fun g3 o3 m3=>wpAny_bind (wpAny_letGo (wpAny_pure ?_)))));refine wpAny_bind (wpAny_bind (wpAny_onRaise ?_));show wpAny _ _ (Builtin.SmallTypes.nextOf (.ref i2) >>= _) _ _ _;have n2:=((p2.extBut m1.extBut D.i2z).extBut m2.extBut D.i12.symm).extBut m3.extBut D.TOi2.symm;have w2:=((r2.extBut m1.extBut D.l2z).extBut m2.extBut D.l2i1).extBut m3.extBut D.l2TO;refine wpAny_bind (JJ hh n2 w2 hy fun g4 e m4 he=>?_);obtain⟨oe,e1,e2⟩:=he;have y4:IsZip g4 z TI TO .ellipsis:=m4 _ _ D.i2z.symm (m3.extBut _ _ D.TOz.symm (m2.extBut _ _ D.i1z.symm y1));have ne:e≠z:=fun a=>by subst a;rw[y4]at e1;cases e1;simp at e2
  exact wpAny_setField_rec y4 (by simp) fun g5 _ m5=>q g5 e (fun c o a1 a2 a3 a4 b=>m5.extBut _ _ a1 (m4 _ _ a4 (m3.extBut _ _ a2 (m2.extBut _ _ a3 (m1.extBut _ _ a1 b))))) ⟨oe,m5.extBut _ _ ne e1,e2⟩
end
abbrev zh1 (h:Heap) (l:Addr):Heap:=h.push {cls:=.type "tuple_iterator",data:=.fields #[.ref l,.int 0 0]}
abbrev zh2 (h:Heap) (l m:Addr):Heap:=(zh1 h l).push {cls:=.type "tuple_iterator",data:=.fields #[.ref m,.int 0 0]}
abbrev zh3 (h:Heap) (l m:Addr):Heap:=(zh2 h l m).push {cls:=.type "tuple",data:=.seq #[.ref h.objs.size,.ref (zh1 h l).objs.size]}
abbrev zh4 (h:Heap) (l m:Addr):Heap:=(zh3 h l m).push {cls:=.type "tuple",data:=.seq #[.none,.none]}
abbrev zh5 (h:Heap) (l m:Addr):Heap:=(zh4 h l m).push {cls:=.type "zip",data:=.fields #[.none,.bool false,.bool false,.ref (zh2 h l m).objs.size,.ref (zh3 h l m).objs.size]}
theorem IsTuple.push'{h:Heap}{l:Addr}{xs:Array Value}(r:h.IsTuple l xs)(o:Obj):(h.push o).IsTuple l xs:=by obtain⟨ob,e,q⟩:=r;exact⟨ob,Heap.get?_push_of_some _ e,q⟩
theorem Mp (l m:Addr) (xs ys:Array Value):Meets (Builtin.«zip.__new__» ⟨[.type "zip",.ref l,.ref m],[]⟩) (fun _ R s=>s.heap.IsTuple l xs∧s.heap.IsTuple m ys∧R (.ok (.ret (.ref (zh4 s.heap l m).objs.size))) {s with heap:=zh5 s.heap l m}) :=
 .of_wp fun prog w A R s h=>by
  obtain⟨hp,g,d,tk,os⟩:=s;obtain⟨r1,r2,q⟩:=h;have hsub:=sub_zip;have c1:Heap.IsTuple (Shared.heap ⟨hp,g,d,tk,os⟩) l xs:=r1;have c2:Heap.IsTuple (Shared.heap ⟨hp.push {cls:=.type "tuple_iterator",data:=.fields #[.ref l,.int 0 0]},g,d,tk,os⟩) m ys:=IsTuple.push' r2 _
  wp_walk using wpAny_pyIter_tuple c1,wpAny_pyIter_tuple c2
  exact⟨_,rfl,q⟩
theorem N9{prog:Program}{w:World}{A:Around}{E:Value→Shared→Prop}{s:Shared}{l m:Addr}{xs ys:Array Value}{Q:Value→Shared→Prop}(r1:s.heap.IsTuple l xs)(r2:s.heap.IsTuple m ys)
  (q:∀ g,IsZip g (s.heap.objs.size+4) (s.heap.objs.size+2) (s.heap.objs.size+3) .none→IsPair g (s.heap.objs.size+2) (.ref s.heap.objs.size) (.ref (s.heap.objs.size+1))→IsPair g (s.heap.objs.size+3) .none .none→
    g.IsTupleIter s.heap.objs.size l 0→g.IsTupleIter (s.heap.objs.size+1) m 0→(∀ c o,s.heap.get? c=some o→g.get? c=some o)→Q (.ref (s.heap.objs.size+4)) { s with heap:=g }):wpAny (model prog w) A (call (.type "zip") [.ref l,.ref m]) Q E s:=by
 refine callType_new F.called_zip (by decide) (F.typeCall_zip_2 _ _) (F.newCall_zip_2 _ _) (fun obj=>F.args_object_init_3 obj _ _) F.entry_zip_new (Mp l m xs ys) ⟨r1,r2,?_⟩;have s1:(zh1 s.heap l).objs.size=s.heap.objs.size+1:=Heap.size_push ..;have s2:(zh2 s.heap l m).objs.size=s.heap.objs.size+2:=by rw[Heap.size_push,s1]
 have s3:(zh3 s.heap l m).objs.size=s.heap.objs.size+3:=by rw[Heap.size_push,s2]
 have s4:(zh4 s.heap l m).objs.size=s.heap.objs.size+4:=by rw[Heap.size_push,s3]
 have f5:(zh5 s.heap l m).get? (zh4 s.heap l m).objs.size=some _:=Heap.get?_push_size _ rfl;have f4:(zh5 s.heap l m).get? (zh3 s.heap l m).objs.size=some _:=Heap.get?_push_of_some _ (Heap.get?_push_size _ rfl);have f3:(zh5 s.heap l m).get? (zh2 s.heap l m).objs.size=some _:=Heap.get?_push_of_some _ (Heap.get?_push_of_some _ (Heap.get?_push_size _ rfl));have f2:(zh5 s.heap l m).get? (zh1 s.heap l).objs.size=some _:=Heap.get?_push_of_some _ (Heap.get?_push_of_some _ (Heap.get?_push_of_some _ (Heap.get?_push_size _ rfl)));have f1:(zh5 s.heap l m).get? s.heap.objs.size=some _:=Heap.get?_push_of_some _ (Heap.get?_push_of_some _ (Heap.get?_push_of_some _ (Heap.get?_push_of_some _ (Heap.get?_push_size _ rfl))));show _∧_;rw[s2,s3,s4]at f5;rw[s1,s2]at f3;rw[s3]at f4;rw[s1]at f2;rw[s4];exact⟨⟨_,f5,rfl⟩,q _ f5 f3 f4 ⟨_,f1,rfl,rfl⟩ ⟨_,f2,rfl,rfl⟩ fun c o b=>Heap.get?_push_of_some _ (Heap.get?_push_of_some _ (Heap.get?_push_of_some _ (Heap.get?_push_of_some _ (Heap.get?_push_of_some _ b))))⟩
def Ity (K:PySem.W.Frag) (a b:Addr):It :=
 ⟨fun i H=>∃ xs ys x y,SqT K H a xs∧SqT K H b ys∧xs[i]?=some x∧ys[i]?=some y,
  fun i H v H'=>∃ p,v=.ref p∧H p=none∧∀ xs ys x y,SqT K H a xs→SqT K H b ys→xs[i]?=some x→ys[i]?=some y→H'=upd H p (.tup [x,y]),
  fun i H=>∃ xs ys,SqT K H a xs∧SqT K H b ys∧(xs.length≤i∨ys.length≤i)⟩
def ZSy (z TI TO i1 i2 a b:Addr) (i:Nat) (h:Heap):Prop:=IsZip h z TI TO .none∧IsPair h TI (.ref i1) (.ref i2)∧(∃ u v,IsPair h TO u v)∧h.IsTupleIter i1 a i∧h.IsTupleIter i2 b i
theorem ZSy.keep{z TI TO i1 i2 a b:Addr}{i:Nat}{h h':Heap}(st:ZSy z TI TO i1 i2 a b i h)(k:∀ c∈[z,TI,TO,i1,i2],∀ o,h.get? c=some o→h'.get? c=some o):ZSy z TI TO i1 i2 a b i h':=by obtain⟨h1,h2,⟨u,v,h3⟩,h4,h5⟩:=st;exact⟨k z (by simp) _ h1,k TI (by simp) _ h2,⟨u,v,k TO (by simp) _ h3⟩,h4.at fun o q=>k i1 (by simp) o q,h5.at fun o q=>k i2 (by simp) o q⟩
theorem ZSy.obj{z TI TO i1 i2 a b:Addr}{i:Nat}{h:Heap}(st:ZSy z TI TO i1 i2 a b i h):∀ c∈[z,TI,TO,i1,i2],∃ o,h.get? c=some o∧∀ v,o.data≠.cell v:=by
 obtain⟨h1,h2,⟨u,v,h3⟩,⟨o4,e4,c4,d4⟩,⟨o5,e5,c5,d5⟩⟩:=st;intro c hc;simp only[List.mem_cons,List.not_mem_nil,or_false]at hc;rcases hc with rfl|rfl|rfl|rfl|rfl
 ·exact⟨_,h1,fun v z=>by cases z⟩
 ·exact⟨_,h2,fun v z=>by cases z⟩
 ·exact⟨_,h3,fun v z=>by cases z⟩
 ·exact⟨_,e4,fun v z=>by rw[d4]at z;cases z⟩
 ·exact⟨_,e5,fun v z=>by rw[d5]at z;cases z⟩
theorem OQ{P:Program}{w:World}{K:PySem.W.Frag}{es:List Expr}{kk:Nat}{tp:Pos}(a b z TI TO i1 i2:Addr)(hnd:[z,TI,TO,i1,i2].Nodup) :
  Turn P w K (.Tuple es kk tp) (Ity K a b) [z,TI,TO,i1,i2] z (fun i h=>ZSy z TI TO i1 i2 a b i h∧(∀ c∈[z,TI,TO,i1,i2],a≠c∧b≠c)) where
 mem:=by simp
 obj:=fun i h st c hc=>ZSy.obj st.1 c hc
 keep:=fun i h h' st k=>⟨ZSy.keep st.1 k,st.2⟩
 item:=by
  intro X hP hw hK hc i pins s σ H E I hf st hg;subst hP hw hK;obtain⟨st,hap⟩:=st;obtain⟨xs,ys,x,y,hq1,hq2,hx,hy⟩:=hg;obtain⟨its1,rv1,pl1,hz1⟩:=I.tuple hq1;obtain⟨its2,rv2,pl2,hz2⟩:=I.tuple hq2;obtain⟨u1,hu1,ru1⟩:=rv1.get hx;obtain⟨u2,hu2,ru2⟩:=rv2.get hy;have hnd':=hnd;simp only[List.nodup_cons,List.mem_cons,List.not_mem_nil,or_false,not_or]at hnd';obtain⟨⟨n1,n2,n3,n4⟩,⟨n5,n6,n7⟩,⟨n8,n9⟩,n10,_⟩:=hnd';have D:ZipApart z TI TO i1 i2 a b:=by constructor<;>first|exact Ne.symm (by assumption)|assumption|exact(hap _ (by simp)).1|exact(hap _ (by simp)).2
  have nT:∀ c∈[z,TI,TO,i1,i2],s.heap.objs.size≠c:=fun c hcc q=>by obtain⟨o,e,_⟩:=ZSy.obj st c hcc;exact absurd (Heap.lt_size e) (by rw[←q];exact Nat.lt_irrefl _)
  obtain⟨h1,h2,⟨o1,o2,h3⟩,h4,h5⟩:=st;have hT:s.TypeIs (.ref z) "zip":=⟨_,h1,rfl⟩
  have hfr:=I.fpOk (H':=H) (Nat.le_refl s.heap.objs.size) I.fresh;unfold pyNext;refine wpAny_bind (wpAny_attempt (wpAny_callSpecial?_slot (name:=Str.ofString "__next__") hT F.slot_zip_next (wpAny_call_entry F.slot_zip_next hT F.entry_zip_next (OG D h1 h2 h3 h4 h5 (show s.heap.IsTuple a its1.toArray from pl1) (show s.heap.IsTuple b its2.toArray from pl2) (x:=u1) (y:=u2) (by simpa using hu1) (by simpa using hu2) fun h' a1 a2 a3 a4 a5 a7=>wpAny_pure ?_) (F.args_zip_next_1 _))));refine⟨.ref s.heap.objs.size,rfl,wpAny_letOwnedTupleGo_zip a1 fun h'' b1 b2=>?_⟩;have I4:Inv X pins σ H {s with heap:=h'',toks:=s.toks}:=I.turnedL (t':=s.toks) (ch:=[z,TI,TO,i1,i2]) (fun c o hcc q=>b2.extBut c o (fun e=>hcc (by simp[e])) (a7 c o (fun e=>hcc (by simp[e])) (fun e=>hcc (by simp[e])) (fun e=>hcc (by simp[e])) (fun e=>hcc (by simp[e])) q)) hf;have hT4:IsPair h'' s.heap.objs.size u1 u2:=b2.extBut _ _ (nT z (by simp)) a5;obtain⟨f0,f1,f2,f3,f4,f5⟩:=hfr;have I5:Inv X pins σ (upd H s.heap.objs.size (.tup [x,y])) {s with heap:=h'',toks:=s.toks}:=I4.track f0 I.sz f1 f4 f5 ⟨by show 2≤sizeLine;decide,[u1,u2],.cons ru1 (.cons ru2 .nil),_,hT4,rfl,_,rfl⟩;refine⟨.ref s.heap.objs.size,_,I5,rfl,⟨s.heap.objs.size,rfl,f0,fun xs' ys' x' y' q1 q2 q3 q4=>?_⟩,⟨⟨b1,b2.extBut _ _ D.TIz (a7 TI _ D.TIz D.TITO D.TIi1 D.TIi2 h2),⟨u1,u2,b2.extBut _ _ D.TOz a2⟩,a3.at fun o q=>b2.extBut i1 o D.i1z q,a4.at fun o q=>b2.extBut i2 o D.i2z q⟩,hap⟩,fun c hcc=>?_⟩
  ·have e1:xs'=xs:=I.tuple_inj q1 hq1;have e2:ys'=ys:=I.tuple_inj q2 hq2;subst e1 e2;rw[hx]at q3;rw[hy]at q4;cases q3;cases q4;rfl
  ·rw[upd_ne (nT c hcc).symm];exact(hf c hcc).1
 done:=by
  intro X hP hw hK hc i pins s σ H E I hf st hg;subst hP hw hK;obtain⟨st,hap⟩:=st;obtain⟨xs,ys,hq1,hq2,hend⟩:=hg;obtain⟨its1,rv1,pl1,hz1⟩:=I.tuple hq1;obtain⟨its2,rv2,pl2,hz2⟩:=I.tuple hq2;have hl1:=rv1.length;have hl2:=rv2.length;have hnd':=hnd;simp only[List.nodup_cons,List.mem_cons,List.not_mem_nil,or_false,not_or]at hnd';obtain⟨⟨n1,n2,n3,n4⟩,⟨n5,n6,n7⟩,⟨n8,n9⟩,n10,_⟩:=hnd';have D:ZipApart z TI TO i1 i2 a b:=by constructor<;>first|exact Ne.symm (by assumption)|assumption|exact(hap _ (by simp)).1|exact(hap _ (by simp)).2
  obtain⟨h1,h2,⟨o1,o2,h3⟩,h4,h5⟩:=st;have hT:s.TypeIs (.ref z) "zip":=⟨_,h1,rfl⟩
  unfold pyNext;refine wpAny_bind (wpAny_attempt (wpAny_callSpecial?_slot (name:=Str.ofString "__next__") hT F.slot_zip_next (wpAny_call_entry F.slot_zip_next hT F.entry_zip_next (A2 (A:=X.A.in1) (I.ok.hd hc) D h1 h2 h3 h4 h5 (show s.heap.IsTuple a its1.toArray from pl1) (show s.heap.IsTuple b its2.toArray from pl2) ?_ fun h' e hk he=>?_) (F.args_zip_next_1 _))))
  ·rcases hend with e|e
   ·left;simp;omega
   ·right;simp;omega
  ·obtain⟨o,ho,hcl⟩:=he;exact wpAny_bind (wpAny_isInstance (T:="StopIteration") (b:=true) ⟨o,ho,hcl⟩ isSubtype_stop (wpAny_pure ⟨rfl,I.turnedL (t':=s.toks) (ch:=[z,TI,TO,i1,i2]) (fun c o hcc q=>hk c o (fun e=>hcc (by simp[e])) (fun e=>hcc (by simp[e])) (fun e=>hcc (by simp[e])) (fun e=>hcc (by simp[e])) q) hf⟩))
 self:=fun A i s Q E st h=>wpAny_pyIter_zip st.1.1 h
section
variable {X:Cx}
def IY (K:PySem.W.Frag) (ta:TA):TI:=fun σ H R=>ta σ H fun vs H1=>∃ a b,vs=[.ref a,.ref b]∧(((∃ xs,SqL K H1 a xs)∧(∃ ys,SqL K H1 b ys)∧R (Itz K a b) H1)∨((∃ xs,SqT K H1 a xs)∧(∃ ys,SqT K H1 b ys)∧R (Ity K a b) H1))
theorem BL {es:List Expr}{kk:Nat}{tp p pos:Pos}{e e2:Expr}{ta:TA}(hg:Gl X "zip") (hm:X.mg "zip" = none) (ha:PA X [e,e2] ta) (hs:starEach [e,e2] X.env=(false,eval e X.env)::starEach [e2] X.env) (hpl:(backTo pos (starEach [e2] X.env)).any (·.1)=false) :
  PI X (.Tuple es kk tp) (.Call (.Name "zip" p) [e,e2] [] pos) (IY X.K ta):=by
 intro pins s σ H R I h;refine Call_ (YG (u:=.type "zip") I hg hm (by kernel_rfl) (PyProof.Rows.callWith_type1 (T:="zip") (thn (ha pos pins s σ H _ I h) fun us s1 ⟨vs,H1,I1,r1,q1⟩=>?_) hs hpl));obtain⟨a,b,e1,q1⟩:=q1;subst e1;cases r1 with
 |cons ra rt =>
 cases rt with
 |cons rb rt =>
 cases rt;cases ra;cases rb;have far:∀ c∈[s1.heap.objs.size+4,s1.heap.objs.size+2,s1.heap.objs.size+3,s1.heap.objs.size,s1.heap.objs.size+1],s1.heap.objs.size≤c:=fun c hc=>by
  simp only[List.mem_cons,List.not_mem_nil,or_false]at hc;rcases hc with rfl|rfl|rfl|rfl|rfl
  ·exact Nat.le_add_right _ _
  ·exact Nat.le_add_right _ _
  ·exact Nat.le_add_right _ _
  ·exact Nat.le_refl _
  ·exact Nat.le_add_right _ _
 rcases q1 with⟨⟨xs,hq1⟩,⟨ys,hq2⟩,q⟩|⟨⟨xs,hq1⟩,⟨ys,hq2⟩,q⟩
 ·obtain⟨its1,rv1,pl1,hz1⟩:=I1.list hq1;obtain⟨its2,rv2,pl2,hz2⟩:=I1.list hq2;refine call_zip_2 pl1.isList pl2.isList fun h2 a1 a2 a3 a4 a5 a6 a7=>?_;have I2:Inv X pins σ H1 {s1 with heap:=h2}:=I1.kept (t':=s1.toks) a7;exact wpAny_pyIter_zip a1 ⟨s1.heap.objs.size+4,[s1.heap.objs.size+4,s1.heap.objs.size+2,s1.heap.objs.size+3,s1.heap.objs.size,s1.heap.objs.size+1],_,_,H1,rfl,I2,A8 a b _ _ _ _ _ (by simp),⟨a1,a2,⟨_,_,a3⟩,a4,a5⟩,fun c hc=>I1.fpOk (far c hc) (I1.hok.fresh (far c hc)),q⟩
 ·obtain⟨its1,rv1,pl1,hz1⟩:=I1.tuple hq1;obtain⟨its2,rv2,pl2,hz2⟩:=I1.tuple hq2;have lt1:a<s1.heap.objs.size:=by obtain⟨o,e,_⟩:=pl1;exact Heap.lt_size e
  have lt2:b<s1.heap.objs.size:=by obtain⟨o,e,_⟩:=pl2;exact Heap.lt_size e
  refine N9 (show s1.heap.IsTuple a its1.toArray from pl1) (show s1.heap.IsTuple b its2.toArray from pl2) fun h2 a1 a2 a3 a4 a5 a7=>?_;have I2:Inv X pins σ H1 {s1 with heap:=h2}:=I1.kept (t':=s1.toks) a7;exact wpAny_pyIter_zip a1 ⟨s1.heap.objs.size+4,[s1.heap.objs.size+4,s1.heap.objs.size+2,s1.heap.objs.size+3,s1.heap.objs.size,s1.heap.objs.size+1],_,_,H1,rfl,I2,OQ a b _ _ _ _ _ (by simp),⟨⟨a1,a2,⟨_,_,a3⟩,a4,a5⟩,fun c hc=>⟨Nat.ne_of_lt (Nat.lt_of_lt_of_le lt1 (far c hc)),Nat.ne_of_lt (Nat.lt_of_lt_of_le lt2 (far c hc))⟩⟩,fun c hc=>I1.fpOk (far c hc) (I1.hok.fresh (far c hc)),q⟩
end
section
variable {κ:Type} [DecidableEq κ]
def Yb (kvs:List (κ×V)) (k:κ):Option V:=(kvs.find? fun kv=>decide (kv.1=k)).map (·.2)
def putK (kvs:List (κ×V)) (k:κ) (v:V):List (κ×V) :=
 if(kvs.any fun kv=>decide (kv.1=k))=true then kvs.map (fun kv=>if kv.1=k then(kv.1,v)else kv)else kvs++[(k,v)]
def dropK (kvs:List (κ×V)) (k:κ):List (κ×V):=kvs.filter fun kv=>decide (kv.1≠k)
theorem Xk{p:κ×V}{r:List (κ×V)}{k:κ}(e:p.1=k):Yb (p::r) k=some p.2:=by simp[Yb,List.find?_cons,e]
theorem Xo{p:κ×V}{r:List (κ×V)}{k:κ}(e:¬ p.1=k):Yb (p::r) k=Yb r k:=by simp[Yb,List.find?_cons,e]
theorem Wp(k:κ):∀ kvs:List (κ×V),(kvs.any fun kv=>decide (kv.1=k))=(Yb kvs k).isSome
 |[]=>rfl
 |p::r=>by
  rw[List.any_cons];by_cases e:p.1=k
  ·simp only[Xk e,decide_eq_true e,Bool.true_or,Option.isSome_some]
  ·rw[Xo e,decide_eq_false e,Bool.false_or];exact Wp k r
theorem YE(kvs:List (κ×V))(k:κ)(v:V):(putK kvs k v).length≤kvs.length+1:=by
 unfold putK;split
 ·rw[List.length_map];omega
 ·rw[List.length_append,List.length_cons,List.length_nil];omega
theorem RelO.isSome_eq{o:Option V}{u:Option Value}(r:RelO o u):o.isSome=u.isSome:=by
 cases o with
 |none=>cases u with
  |none=>rfl
  |some _=>exact(show False from r).elim
 |some _=>cases u with
  |none=>exact(show False from r).elim
  |some _=>rfl
theorem RelO.getD{o:Option V}{u:Option Value}{d:V}{d':Value}(r:RelO o u)(rd:RelV d d'):RelV (o.getD d) (u.getD d'):=by
 cases o with
 |none=>cases u with
  |none=>exact rd
  |some _=>exact(show False from r).elim
 |some _=>cases u with
  |none=>exact(show False from r).elim
  |some _=>exact r
theorem KV.val{kvs:List (κ×V)}{vs:List (κ×Value)}(r:KV kvs vs)(k:κ):RelO (Yb kvs k) (valueAt vs k):=by
 unfold KV at r;induction r with
 |nil=>exact True.intro
 |@cons p q ps qs h t ih =>
  obtain⟨h1,h2⟩:=h;by_cases e:p.1=k
  ·have e':q.1=k:=h1.symm.trans e;have b:valueAt (q::qs) k=some q.2:=by simp[valueAt,List.find?_cons,e']
   rw[Xk e,b];exact h2
  ·have e':¬ q.1=k:=fun z=>e (h1.trans z);have b:valueAt (q::qs) k=valueAt qs k:=by simp[valueAt,List.find?_cons,e']
   rw[Xo e,b];exact ih
theorem KV.any{kvs:List (κ×V)}{vs:List (κ×Value)}(r:KV kvs vs)(k:κ):(kvs.any fun kv=>decide (kv.1=k))=vs.any fun kv=>decide (kv.1=k):=by
 unfold KV at r;induction r with
 |nil=>rfl
 |cons h t ih=>rw[List.any_cons,List.any_cons,ih,h.1]
theorem KV.repl{kvs:List (κ×V)}{vs:List (κ×Value)}(r:KV kvs vs)(k:κ){y:V}{u:Value}(ry:RelV y u) :
  KV (kvs.map fun kv=>if kv.1=k then(kv.1,y)else kv) (vs.map fun kv=>if kv.1=k then(kv.1,u)else kv):=by
 unfold KV at r ⊢;induction r with
 |nil=>exact .nil
 |@cons p q ps qs h t ih =>
  rw[List.map_cons,List.map_cons];refine .cons ?_ ih;obtain⟨h1,h2⟩:=h;by_cases e:p.1=k
  ·rw[if_pos e,if_pos (h1.symm.trans e)];exact⟨h1,ry⟩
  ·rw[if_neg e,if_neg (fun z=>e (h1.trans z))];exact⟨h1,h2⟩
theorem KV.put{kvs:List (κ×V)}{vs:List (κ×Value)}(r:KV kvs vs)(k:κ){y:V}{u:Value}(ry:RelV y u):KV (putK kvs k y) (stored vs k u):=by
 unfold putK stored;rw[r.any k];by_cases e:(vs.any fun kv=>decide (kv.1=k))=true
 ·rw[if_pos e,if_pos e];exact r.repl k ry
 ·rw[if_neg e,if_neg e];exact Paired.snoc r ⟨rfl,ry⟩
theorem KV.drop{kvs:List (κ×V)}{vs:List (κ×Value)}(r:KV kvs vs)(k:κ):KV (dropK kvs k) (without vs k):=by
 unfold KV at r ⊢;unfold dropK without;induction r with
 |nil=>exact .nil
 |@cons p q ps qs h t ih =>
  obtain⟨h1,h2⟩:=h;rw[List.filter_cons,List.filter_cons];by_cases e:p.1=k
  ·have a:¬ decide (p.1≠k)=true:=by simp[e]
   have b:¬ decide (q.1≠k)=true:=by simp[h1.symm.trans e]
   rw[if_neg a,if_neg b];exact ih
  ·have e':¬ q.1=k:=fun z=>e (h1.trans z);have a:decide (p.1≠k)=true:=by simp[e]
   have b:decide (q.1≠k)=true:=by simp[e']
   rw[if_pos a,if_pos b];exact .cons ⟨h1,h2⟩ ih
theorem KV.keys{kvs:List (κ×V)}{vs:List (κ×Value)}(r:KV kvs vs):kvs.map (·.1)=vs.map (·.1):=by
 unfold KV at r;induction r with
 |nil=>rfl
 |cons h t ih=>rw[List.map_cons,List.map_cons,ih,h.1]
theorem KV.length{kvs:List (κ×V)}{vs:List (κ×Value)}(r:KV kvs vs):kvs.length=vs.length:=Paired.length r
theorem AX(kvs:List (κ×V))(k:κ):(dropK kvs k).length≤kvs.length:=List.length_filter_le _ _
end
theorem Xx{P:Program}{w:World}{k:Key}{u:Value}(r:RelV (kV k) u):(Zm P w).is k u=true:=by
 cases k with
 |inl i=>obtain⟨t,e⟩:=(show ∃ t,u=Value.int i t from r);subst e;exact Mh P w i t
 |inr x=>obtain⟨t,e⟩:=(show ∃ t,u=Value.str x t from r);subst e;exact KA P w x t
theorem Jq{P:Program}{w:World}:∀ {ks:List Key}{us:List Value},Vals (ks.map kV) us→ItemsAre (Zm P w) ks us
 |[],_,r=>by rw[List.map_nil]at r;cases r;exact .nil
 |k::ks,_,r=>by
  rw[List.map_cons]at r;cases r with
  |cons h t=>exact .cons (Xx h) (Jq t)
abbrev KTd (H:Hp):List (List Key×V)→List (List Key×Addr×Value)→Prop:=Paired fun p q=>p.1=q.1∧H q.2.1=some (.tup (p.1.map kV))∧RelV p.2 q.2.2
theorem KTd.val{H:Hp}{kvs:List (List Key×V)}{xs:List (List Key×Addr×Value)}(r:KTd H kvs xs)(k:List Key):RelO (Yb kvs k) ((atKey xs k).map (·.2)):=by
 induction r with
 |nil=>exact True.intro
 |@cons p q ps qs h t ih =>
  obtain⟨h1,_,h2⟩:=h;by_cases e:p.1=k
  ·have e':q.1=k:=h1.symm.trans e;have b:atKey (q::qs) k=some q.2:=by simp[atKey,List.find?_cons,e']
   rw[Xk e,b];exact h2
  ·have e':¬ q.1=k:=fun z=>e (h1.trans z);have b:atKey (q::qs) k=atKey qs k:=by simp[atKey,List.find?_cons,e']
   rw[Xo e,b];exact ih
theorem KTd.repl{H:Hp}{kvs:List (List Key×V)}{xs:List (List Key×Addr×Value)}(r:KTd H kvs xs)(k:List Key){y:V}{u:Value}(ry:RelV y u) :
  KTd H (kvs.map fun kv=>if kv.1=k then(kv.1,y)else kv) (xs.map (putAt k u)):=by
 induction r with
 |nil=>exact .nil
 |@cons p q ps qs h t ih =>
  rw[List.map_cons,List.map_cons];refine .cons ?_ ih;obtain⟨h1,h2,h3⟩:=h;unfold putAt;by_cases e:p.1=k
  ·rw[if_pos e,if_pos (h1.symm.trans e)];exact⟨h1,h2,ry⟩
  ·rw[if_neg e,if_neg (fun z=>e (h1.trans z))];exact⟨h1,h2,h3⟩
theorem KTd.put{H:Hp}{kvs:List (List Key×V)}{xs:List (List Key×Addr×Value)}(r:KTd H kvs xs)(k:List Key){b:Addr}{y:V}{u:Value}(hb:H b=some (.tup (k.map kV)))(ry:RelV y u) :
  KTd H (putK kvs k y) (storedH xs k b u):=by
 have e:(kvs.any fun kv=>decide (kv.1=k))=(atKey xs k).isSome:=by rw[Wp,(r.val k).isSome_eq,Option.isSome_map]
 unfold putK storedH;rw[e];by_cases q:(atKey xs k).isSome=true
 ·rw[if_pos q,if_pos q];exact r.repl k ry
 ·rw[if_neg q,if_neg q];exact Paired.snoc r ⟨rfl,hb,ry⟩
theorem KTd.keeps{H H':Hp}{kvs:List (List Key×V)}{xs:List (List Key×Addr×Value)}(r:KTd H kvs xs)(ht:∀ b ys,H b=some (.tup ys)→H' b=some (.tup ys)):KTd H' kvs xs :=
 Paired.mapP r fun _ _ z=>⟨z.1,ht _ _ z.2.1,z.2.2⟩
section
variable {P:Program}{w:World}{H:Hp}{h:Heap}{a:Addr}
theorem D3{u:HO}(ok:HOk P w H h)(e:Rd H a u):ObjOk P w H h a u:=e.ok ok
theorem Xn{kvs:List (Key×V)}(ok:HOk P w H h)(e:Rd H a (.dK kvs)):kvs.length≤sizeLine∧(a==sysModules)=false∧∃ vs,KV kvs vs∧h.DictOf (Zm P w) a vs :=
 show ObjOk P w H h a (.dK kvs) from D3 ok e
theorem WU{kvs:List (Key×V)}(ok:HOk P w H h)(e:H a=some (.dK kvs)):kvs.length≤sizeLine∧(a==sysModules)=false∧∃ vs,KV kvs vs∧h.DictOf (Zm P w) a vs:=Xn ok (.inl e)
theorem key_of{ks:List Key}(ok:HOk P w H h)(e:H a=some (.tup (ks.map kV))):(tupleKind (Zm P w)).is h ks a:=by
 obtain⟨_,its,r,o,h1,h2,n,h3⟩:=(show ObjOk P w H h a (.tup (ks.map kV)) from ok a _ e)
 exact⟨o,its.toArray,n,h1,h2,h3,by simpa using Jq r⟩
theorem Wl{kvs:List (List Key×V)}(ok:HOk P w H h)(e:Rd H a (.dT kvs)):kvs.length≤sizeLine∧(a==sysModules)=false∧
  ∃ xs,KTd H kvs xs∧h.DictOfH (tupleKind (Zm P w)) a xs:=by
 obtain⟨z,y,xs,r,o,es,ep,h1,h2,h3,h4,h5⟩:=(show ObjOk P w H h a (.dT kvs) from D3 ok e)
 refine⟨z,y,xs,r,o,es,ep,h1,h2,h3,h4,fun x hx=>?_,h5⟩;have all:∀ {l:List (List Key×V)}{m:List (List Key×Addr×Value)},KTd H l m→∀ x∈m,(tupleKind (Zm P w)).is h x.1 x.2.1:=by
  intro l m q;induction q with
  |nil=>intro x hx;exact nomatch hx
  |@cons p q ps qs hq t ih =>
   intro x hx;rcases List.mem_cons.mp hx with e|hx
   ·subst e;exact key_of ok (by rw[←hq.1];exact hq.2.1)
   ·exact ih x hx
 exact all r x hx
theorem IW{kvs:List (List Key×V)}(ok:HOk P w H h)(e:H a=some (.dT kvs)):kvs.length≤sizeLine∧(a==sysModules)=false∧
  ∃ xs,KTd H kvs xs∧h.DictOfH (tupleKind (Zm P w)) a xs:=Wl ok (.inl e)
end
def DGet (H:Hp) (a:Addr) (y:V) (r:Option V):Prop :=
 (∃ kvs k,Rd H a (.dK kvs)∧y=kV k∧r=Yb kvs k)∨∃ kvs k b,Rd H a (.dT kvs)∧y=.ref b∧H b=some (.tup (k.map kV))∧r=Yb kvs k
def DPut (H:Hp) (a:Addr) (y v:V) (H':Hp):Prop :=
 (∃ kvs k,H a=some (.dK kvs)∧y=kV k∧kvs.length<sizeLine∧H'=upd H a (.dK (putK kvs k v)))∨
 ∃ kvs k b,H a=some (.dT kvs)∧y=.ref b∧H b=some (.tup (k.map kV))∧kvs.length<sizeLine∧H'=upd H a (.dT (putK kvs k v))
theorem DGet.k{H:Hp}{a:Addr}{kvs:List (Key×V)}{k:Key}(e:H a=some (.dK kvs)):DGet H a (kV k) (Yb kvs k):=.inl ⟨kvs,k,.inl e,rfl,rfl⟩
theorem DGet.t{H:Hp}{a b:Addr}{kvs:List (List Key×V)}{k:List Key}(e:H a=some (.dT kvs))(eb:H b=some (.tup (k.map kV))):DGet H a (.ref b) (Yb kvs k):=.inr ⟨kvs,k,b,.inl e,rfl,eb,rfl⟩
theorem DPut.k{H:Hp}{a:Addr}{kvs:List (Key×V)}{k:Key}{v:V}(e:H a=some (.dK kvs))(hl:kvs.length<sizeLine):DPut H a (kV k) v (upd H a (.dK (putK kvs k v))):=.inl ⟨kvs,k,e,rfl,hl,rfl⟩
theorem DPut.t{H:Hp}{a b:Addr}{kvs:List (List Key×V)}{k:List Key}{v:V}(e:H a=some (.dT kvs))(eb:H b=some (.tup (k.map kV)))(hl:kvs.length<sizeLine) :
  DPut H a (.ref b) v (upd H a (.dT (putK kvs k v))):=.inr ⟨kvs,k,b,e,rfl,eb,hl,rfl⟩
section
variable {X:Cx}{pins:List (Addr×Obj)}{σ:St}{H:Hp}{s:Shared}{a:Addr}{y v:V}{u r:Value}{o:Option V}{A:Around}{E:Value→Shared→Prop}
theorem Inv.big(I:Inv X pins σ H s):sysModules<s.heap.objs.size:=by have h:mainGlobals<s.heap.objs.size:=(I.mod.glob.keeps I.bk).lt;exact Nat.lt_trans (by decide) h
theorem OF{Q:Value→Shared→Prop}(hu:A.units+1<cLine)(I:Inv X pins σ H s)(g:DGet H a y (some v))(ry:RelV y u)(h:∀ w' s',Inv X pins σ H s'→RelV v w'→Q w' s') :
  wpAny (model X.prog X.w) A (getItem (.ref a) u) Q E s:=by
 rcases g with⟨kvs,k,e,ey,l⟩|⟨kvs,k,b,e,ey,eb,l⟩
 ·subst ey;obtain⟨z,hd,vs,rel,dd⟩:=Xn I.hok e;obtain⟨w',hw,rw'⟩:=RelO.some_of (v:=v) (o:=valueAt vs k) (by rw[l];exact rel.val k);exact wpAny_getItem_of (Xx ry) dd.mapOf hw (h w' _ (I.tok _) rw')
 ·subst ey;cases (show u=Value.ref b from ry);obtain⟨z,hd,xs,rel,dd⟩:=Wl I.hok e;obtain⟨w',hw,rw'⟩:=RelO.some_of (v:=v) (o:=(atKey xs k).map (·.2)) (by rw[l];exact rel.val k);obtain⟨p,hp,hp2⟩:=Option.map_eq_some_iff.mp hw;refine wpAny_getItem_heap (tupleKind_room_in1 hu) (key_of I.hok eb) dd hp ?_;rw[hp2];exact h w' _ (I.tok _) rw'
theorem LY{Q:Value→Shared→Prop}(hu:A.units+1<cLine)(I:Inv X pins σ H s)(g:DGet H a y o)(ry:RelV y u)(h:∀ s',Inv X pins σ H s'→Q (.bool o.isSome) s') :
  wpAny (model X.prog X.w) A (compareOp .In u (.ref a)) Q E s:=by
 rcases g with⟨kvs,k,e,ey,l⟩|⟨kvs,k,b,e,ey,eb,l⟩
 ·subst ey;obtain⟨z,hd,vs,rel,dd⟩:=Xn I.hok e;refine wpAny_in_of (Xx ry) hd dd.mapOf ?_;rw[←(rel.val k).isSome_eq,←l];exact h _ (I.tok _)
 ·subst ey;cases (show u=Value.ref b from ry);obtain⟨z,hd,xs,rel,dd⟩:=Wl I.hok e;refine wpAny_in_heap (tupleKind_room_in1 hu) (key_of I.hok eb) hd dd ?_;have q:=(rel.val k).isSome_eq;rw[Option.isSome_map]at q;rw[←q,←l];exact h _ (I.tok _)
theorem BP{Q:Value→Shared→Prop}(hu:A.units+1<cLine)(I:Inv X pins σ H s)(g:DGet H a y o)(ry:RelV y u)(h:∀ s',Inv X pins σ H s'→Q (.bool (!o.isSome)) s') :
  wpAny (model X.prog X.w) A (compareOp .NotIn u (.ref a)) Q E s:=by
 rcases g with⟨kvs,k,e,ey,l⟩|⟨kvs,k,b,e,ey,eb,l⟩
 ·subst ey;obtain⟨z,hd,vs,rel,dd⟩:=Xn I.hok e;refine wpAny_notIn_of (Xx ry) hd dd.mapOf ?_;rw[←(rel.val k).isSome_eq,←l];exact h _ (I.tok _)
 ·subst ey;cases (show u=Value.ref b from ry);obtain⟨z,hd,xs,rel,dd⟩:=Wl I.hok e;refine wpAny_notIn_heap (tupleKind_room_in1 hu) (key_of I.hok eb) hd dd ?_;have q:=(rel.val k).isSome_eq;rw[Option.isSome_map]at q;rw[←q,←l];exact h _ (I.tok _)
theorem X6{h':Heap}{t':Nat}{ob:HO}(I:Inv X pins σ H s)(mu:Mut (H a))(hs:Heap.SameBut a s.heap h')(he:∃ q,h'.get? a=some q)(new:ObjOk X.prog X.w (upd H a ob) h' a ob) :
  Inv X pins σ (upd H a ob) {s with heap:=h',toks:=t'} :=
 I.write (x:=a) (e:=a) mu (.inl rfl) (fun b q hb z=>(hs.2 b hb).trans z) he new
theorem Nb{P:Program}{w:World}{H':Hp}{h':Heap}{kvs:List (Key×V)}{vs:List (Key×Value)}(z:kvs.length≤sizeLine)(hd:(a==sysModules)=false)(rel:KV kvs vs)(dd:h'.DictOf (Zm P w) a vs) :
  ObjOk P w H' h' a (.dK kvs):=⟨z,hd,vs,rel,dd⟩
theorem Ow{H':Hp}{Q:Unit→Shared→Prop}(hu:A.units+1<cLine)(I:Inv X pins σ H s)(g:DPut H a y v H')(ry:RelV y u)(rv:RelV v r)(h:∀ s',Inv X pins σ H' s'→Q () s') :
  wpAny (model X.prog X.w) A (setItem (.ref a) u r) Q E s:=by
 rcases g with⟨kvs,k,e,ey,l,eH⟩|⟨kvs,k,b,e,ey,eb,l,eH⟩
 ·subst ey eH;obtain⟨z,hd,vs,rel,dd⟩:=WU I.hok e;have hz:vs.length≤sizeLine:=by rw[←rel.length];exact z
  have hl:(putK kvs k v).length≤sizeLine:=by have:=YE kvs k v;omega
  refine wpAny_setItem_pairs (hsz:=hz) (Xx ry) dd fun h' dd' hs=>h _ ?_;have he:∃ q,h'.get? a=some q:=let ⟨q,_,_,hq,_⟩:=dd';⟨q,hq⟩;exact X6 I (by rw[e];exact True.intro) hs he (Nb hl hd (rel.put k rv) dd')
 ·subst ey eH;cases (show u=Value.ref b from ry);obtain⟨z,hd,xs,rel,dd⟩:=IW I.hok e;have hz:xs.length≤sizeLine:=by rw[←Paired.length rel];exact z
  have hl:(putK kvs k v).length≤sizeLine:=by have:=YE kvs k v;omega
  refine wpAny_setItem_heap (hsz:=hz) (tupleKind_room_in1 hu) (key_of I.hok eb) dd fun h' dd' hs=>h _ ?_;obtain⟨q,es,ep,hq,h2,h3,h4,_,h5⟩:=dd';refine X6 I (by rw[e];exact True.intro) hs ⟨q,hq⟩ ⟨hl,hd,_,(rel.put k eb rv).keeps fun c ys ec=>?_,q,es,ep,hq,h2,h3,h4,h5⟩;rw[upd_ne (Ay ec e (fun z=>nomatch z))];exact ec
end
section
variable {X:Cx}{pins:List (Addr×Obj)}{σ:St}{H:Hp}{s:Shared}{a:Addr}{kvs:List (Key×V)}{k:Key}{u:Value}{A:Around}{E:Value→Shared→Prop}
theorem DF{v:V}{more:List Value}{Q:Value→Shared→Prop}(I:Inv X pins σ H s)(e:H a=some (.dK kvs))(ry:RelV (kV k) u)(l:Yb kvs k=some v)(hm:more=[]∨∃ x,more=[x])
  (h:∀ w' s',Inv X pins σ (upd H a (.dK (dropK kvs k))) s'→RelV v w'→Q w' s'):wpAny (model X.prog X.w) A (call (.builtin "dict.pop") (.ref a::u::more)) Q E s:=by
 obtain⟨z,hd,vs,rel,dd⟩:=WU I.hok e;obtain⟨w',hw,rw'⟩:=RelO.some_of (v:=v) (o:=valueAt vs k) (by rw[←l];exact rel.val k);have hp:(keyPart u).isSome=true:=by
  cases k with
  |inl i=>obtain⟨t,q⟩:=(show ∃ t,u=Value.int i t from ry);subst q;rfl
  |inr x=>obtain⟨t,q⟩:=(show ∃ t,u=Value.str x t from ry);subst q;rfl
 have ha:argsOk "dict.pop" ⟨.ref a::u::more,[]⟩:=by
  rcases hm with q|⟨x,q⟩
  ·subst q;exact PySem.F.args_dict_pop_2 _ _
  ·subst q;exact PySem.F.args_dict_pop_3 _ _ _
 refine call_meetsIn PySem.F.slot_dict_pop dd.typeIs PySem.F.entry_dict_pop ha (meets_dict_pop_there (Zm X.prog X.w) a (Xx ry) more hm hp)
  ⟨vs,w',dd,by rw[←rel.length];exact z,hw,fun h' dd' hs=>h w' _ ?_ rw'⟩
 have he:∃ q,h'.get? a=some q:=let ⟨q,_,_,hq,_⟩:=dd';⟨q,hq⟩;exact X6 I (by rw[e];exact True.intro) hs he (Nb (Nat.le_trans (AX kvs k) z) hd (rel.drop k) dd')
theorem F0{r:Value}{Q:Value→Shared→Prop}(I:Inv X pins σ H s)(e:H a=some (.dK kvs))(ry:RelV (kV k) u)(l:Yb kvs k=none)(h:∀ s',Inv X pins σ H s'→Q r s') :
  wpAny (model X.prog X.w) A (call (.builtin "dict.pop") [.ref a,u,r]) Q E s:=by
 obtain⟨z,hd,vs,rel,dd⟩:=WU I.hok e;have hn:valueAt vs k=none:=RelO.none_of (by rw[←l];exact rel.val k);have hp:(keyPart u).isSome=true:=by
  cases k with
  |inl i=>obtain⟨t,q⟩:=(show ∃ t,u=Value.int i t from ry);subst q;rfl
  |inr x=>obtain⟨t,q⟩:=(show ∃ t,u=Value.str x t from ry);subst q;rfl
 exact call_meetsIn PySem.F.slot_dict_pop dd.typeIs PySem.F.entry_dict_pop (PySem.F.args_dict_pop_3 _ _ _) (meets_dict_pop_default (Zm X.prog X.w) a (Xx ry) hd hp r) ⟨vs,dd,hn,h _ (I.tok _)⟩
theorem IJ {Q:Value→Shared→Prop}(I:Inv X pins σ H s) (e:Rd H a (.dK kvs)) (h:∀ t s',Inv X pins σ H s'→Q (.int kvs.length t) s'):wpAny (model X.prog X.w) A (call (.builtin "len") [.ref a]) Q E s:=by obtain⟨z,hd,vs,rel,dd⟩:=Xn I.hok e;refine call_len_dict hd dd (by rw[←rel.length];rw[sizeLine_eq]at z;omega) ?_;rw[←rel.length];exact h _ _ (I.tok _)
end
def Rq (i:Expr):Prop:=∀ ov iv,subscripted i false ov iv=operate [ov,iv] (getItem ov iv)
theorem KP {X:Cx}{pins:List (Addr×Obj)}{σ:St}{H:Hp}{s:Shared}{a:Addr}{y:V}{o:Option V}(I:Inv X pins σ H s) (g:DGet H a y o):s.TypeIs (.ref a) "dict":=by
 rcases g with⟨kvs,k,e,_,_⟩|⟨kvs,k,b,e,_,_,_⟩
 ·obtain⟨_,_,vs,_,dd⟩:=Xn I.hok e;exact dd.typeIs
 ·obtain⟨_,_,xs,_,dd⟩:=Wl I.hok e;exact dd.typeIs
def Rg (td ty:TE):TE:=fun σ H Q=>td σ H fun x H1=>ty σ H1 fun y H2=>∃ a v,x=.ref a∧DGet H2 a y (some v)∧Q v H2
def Ru (ty td:TE):TE:=fun σ H Q=>ty σ H fun y H1=>td σ H1 fun x H2=>∃ a o,x=.ref a∧DGet H2 a y o∧Q (.bl o.isSome) H2
def LF (ty td:TE):TE:=fun σ H Q=>ty σ H fun y H1=>td σ H1 fun x H2=>∃ a o,x=.ref a∧DGet H2 a y o∧Q (.bl (!o.isSome)) H2
def Ri (td ty tv:TE):TS:=fun D σ H=>tv σ H fun v H1=>td σ H1 fun x H2=>ty σ H2 fun y H3=>∃ a H4,x=.ref a∧DPut H3 a y v H4∧D.nx σ H4
def Q4 (td ty tv:TE) (rd:V→V→Hp→VK→Prop):TS:=fun D σ H=>td σ H fun x H1=>ty σ H1 fun y H2=>∃ a v,x=.ref a∧DGet H2 a y (some v)∧
 tv σ H2 fun y2 H3=>rd v y2 H3 fun z H4=>∃ H5,DPut H4 a y z H5∧D.nx σ H5
def QW (td ty:TE):TS:=fun D σ H=>td σ H fun x H1=>ty σ H1 fun y H2=>∃ a kvs k,x=.ref a∧H2 a=some (.dK kvs)∧y=kV k∧(Yb kvs k).isSome=true∧D.nx σ (upd H2 a (.dK (dropK kvs k)))
theorem KQ {P:Program}{w:World}{H:Hp}(h:Heap) (hb:sysModules<h.objs.size):ObjOk P w H (h.push {cls:=.type "dict",data:=.dict #[]}) h.objs.size (.dK []) :=
 ⟨Nat.zero_le _,beq_eq_false_iff_ne.mpr (Ne.symm (Nat.ne_of_lt hb)),[],.nil,Heap.DictOf.new h⟩
def Fi:TE:=fun _ H Q=>∀ p,H p=none→Q (.ref p) (upd H p (.dK []))
def Pv:TE:=fun _ H Q=>∀ p,H p=none→Q (.ref p) (upd H p (.dT []))
section
variable {X:Cx}{pos:Pos}
theorem pe_dnewK:PE X (.Dict [] [] pos) Fi:=fun pins s σ H Q I h =>
 wpAny_Dict_empty ⟨.ref s.heap.objs.size,_,I.laid (a:=s.heap.objs.size) (o:=.dK []) (t':=s.toks) (fun _ _ q=>Heap.get?_push_of_some _ q) (Nat.le_refl _) (KQ s.heap I.big),rfl,h _ (I.hok.fresh (Nat.le_refl _))⟩
end
def JS:List (TE×TE)→St→Hp→(List (V×V)→Hp→Prop)→Prop
 |[],_,H,Q=>Q [] H
 |(tk,tv)::r,σ,H,Q=>tk σ H fun x H1=>tv σ H1 fun y H2=>JS r σ H2 fun ps H3=>Q ((x,y)::ps) H3
abbrev VV:List (V×V)→List (Value×Value)→Prop:=Paired fun p q=>RelV p.1 q.1∧RelV p.2 q.2
def PPs (X:Cx) (pos:Pos) (keys:List (Option Expr)) (values:List Expr) (trs:List (TE×TE)):Prop :=
 ∀ (pins:List (Addr×Obj)) (s:Shared) (σ:St) (H:Hp) (Q:List (V×V)→Hp→Prop),Inv X pins σ H s→JS trs σ H Q→
  wpAny (model X.prog X.w) X.A (evalPairs (pairTrees keys values X.env pos)) (fun vs s'=>∃ ps H',Inv X pins σ H' s'∧VV ps vs∧Q ps H') X.xe s
theorem CO{X:Cx}{pos:Pos}:PPs X pos [] [] []:=fun pins s σ H Q I h=>pairTrees_nil_walk ⟨[],H,I,.nil,h⟩
theorem Af{X:Cx}{pos:Pos}{k v:Expr}{ks:List (Option Expr)}{vs:List Expr}{tk tv:TE}{trs:List (TE×TE)}(hk:PE X k tk)(hv:PE X v tv)(hr:PPs X pos ks vs trs) :
  PPs X pos (some k::ks) (v::vs) ((tk,tv)::trs):=fun pins s σ H Q I h =>
 pairTrees_cons_walk (thn (hk pins s σ H _ I h) fun u s1 ⟨x,H1,I1,rx,q1⟩=>thn (hv pins s1 σ H1 _ I1 q1) fun w2 s2 ⟨y,H2,I2,ry,q2⟩ =>
   thn (hr pins s2 σ H2 _ I2 q2) fun ws s3 ⟨ps,H3,I3,rel,q3⟩=>⟨(x,y)::ps,H3,I3,.cons ⟨rx,ry⟩ rel,q3⟩)
def YI (kvs more:List (Key×V)):List (Key×V):=more.foldl (fun acc kv=>putK acc kv.1 kv.2) kvs
theorem KV.merge:∀ {more:List (Key×V)}{rs:List (Key×Value)}{kvs:List (Key×V)}{vs:List (Key×Value)},KV more rs→KV kvs vs→KV (YI kvs more) (merged vs rs):=by
 intro more rs kvs vs r;unfold KV at r;induction r generalizing kvs vs with
 |nil=>intro q;exact q
 |@cons p q ps qs h t ih =>
  intro r0;have e:KV (putK kvs p.1 p.2) (stored vs q.1 q.2):=by have:=r0.put p.1 h.2;rw[←h.1];exact this
  exact ih e
theorem YY:∀ (more kvs:List (Key×V)),(YI kvs more).length≤kvs.length+more.length
 |[],kvs=>by show kvs.length≤kvs.length+0;omega
 |p::r,kvs=>by have h1:=YY r (putK kvs p.1 p.2);have h2:=YE kvs p.1 p.2;show(YI (putK kvs p.1 p.2) r).length≤_;rw[List.length_cons];omega
theorem Wm{P:Program}{w:World}:∀ {kvs:List (Key×V)}{ws:List (Value×Value)},VV (kvs.map fun kv=>(kV kv.1,kv.2)) ws→∃ rs,Carries (Zm P w) ws rs∧KV kvs rs
 |[],_,r=>by rw[List.map_nil]at r;cases r;exact⟨[],True.intro,.nil⟩
 |p::kvs,_,r=>by
  rw[List.map_cons]at r;cases r with
  |@cons a b as bs h t =>obtain⟨rs,c,q⟩:=Wm (P:=P) (w:=w) t;obtain⟨b1,b2⟩:=b;exact⟨(p.1,b2)::rs,⟨Xx h.1,rfl,c⟩,.cons ⟨rfl,h.2⟩ q⟩
def IE (trs:List (TE×TE)):TE:=fun σ H Q=>∀ p,H p=none→JS trs σ (upd H p (.dK [])) fun ps H2=>H2 p=some (.dK [])∧∃ kvs:List (Key×V),ps=kvs.map (fun kv=>(kV kv.1,kv.2))∧kvs.length≤15∧Q (.ref p) (upd H2 p (.dK (YI [] kvs)))
theorem CT{X:Cx}{pos:Pos}{keys:List (Option Expr)}{values:List Expr}{trs:List (TE×TE)}(h:PPs X pos keys values trs)(hall:keys.all (·.isSome)=true)(hl:keys.length=values.length)(h0:keys≠[])
  (h15:keys.length≤15):PE X (.Dict keys values pos) (IE trs):=by
 intro pins s σ H Q I q;have hn:=I.hok.fresh (Nat.le_refl s.heap.objs.size);have I1:=I.laid (a:=s.heap.objs.size) (o:=.dK []) (h':=s.heap.push {cls:=.type "dict",data:=.dict #[]}) (t':=s.toks) (fun _ _ q=>Heap.get?_push_of_some _ q) (Nat.le_refl _) (KQ s.heap I.big);refine wpAny_Dict_walk (knd:=Zm X.prog X.w) hall hl h0 h15 (thn (h pins _ σ _ _ I1 (q _ hn)) fun ws s2 ⟨ps,H2,I2,rel,e,kvs,ep,lk,q2⟩=>?_);subst ep;obtain⟨rs,c,rk⟩:=Wm (P:=X.prog) (w:=X.w) rel;obtain⟨z,hd,vs0,r0,dd⟩:=WU I2.hok e;cases r0;refine⟨rs,c,dd,fun h' dd' hs=>⟨.ref s.heap.objs.size,_,?_,rfl,q2⟩⟩;have hz:(YI [] kvs).length≤sizeLine:=by have h1:=YY kvs [];rw[List.length_nil]at h1;rw[sizeLine_eq];omega
 have he:∃ q,h'.get? s.heap.objs.size=some q:=let ⟨q,_,_,hq,_⟩:=dd';⟨q,hq⟩;exact X6 I2 (by rw[e];exact True.intro) hs he (Nb hz hd (rk.merge .nil) dd')
structure M1 (X:Cx) (o:Expr) (m:Str) (apos:Pos) (e:Expr) (cpos:Pos):Prop where
 base:attributeBase o m X.env (eval o X.env)=eval o X.env
 few:((backTo cpos (starEach [e] X.env)).all (fun x=>!x.1)&&(backToKw cpos (keywordEach [] X.env)).all (fun x=>x.1.isSome)
   && decide (([e]:List Expr).length+([]:List Keyword).length+(if([]:List Keyword).isEmpty then 0 else 1)<30))=true
 line:(apos.endLine==cpos.line)=true
 trees:backTo cpos (starEach [e] X.env)=[(false,eval e X.env)]
structure M2 (X:Cx) (o:Expr) (m:Str) (apos:Pos) (e f:Expr) (cpos:Pos):Prop where
 base:attributeBase o m X.env (eval o X.env)=eval o X.env
 few:((backTo cpos (starEach [e,f] X.env)).all (fun x=>!x.1)&&(backToKw cpos (keywordEach [] X.env)).all (fun x=>x.1.isSome)
   && decide (([e,f]:List Expr).length+([]:List Keyword).length+(if([]:List Keyword).isEmpty then 0 else 1)<30))=true
 line:(apos.endLine==cpos.line)=true
 trees:backTo cpos (starEach [e,f] X.env)=[(false,eval e X.env),(false,eval f X.env)]
def AW (H:Hp) (a:Addr):Prop:=(∃ kvs,Rd H a (.dK kvs))∨∃ kvs,Rd H a (.dT kvs)
theorem Go{X:Cx}{pins:List (Addr×Obj)}{σ:St}{H:Hp}{s:Shared}{a:Addr}(I:Inv X pins σ H s)(d:AW H a) :
  s.TypeIs (.ref a) "dict"∧(∀ b,Value.ref a=.ref b→∃ ob,s.heap.get? b=some ob∧ob.dict=none)∧(a==sysModules)=false:=by
 rcases d with⟨kvs,e⟩|⟨kvs,e⟩
 ·obtain⟨_,hd,vs,_,dd⟩:=Xn I.hok e;refine⟨dd.typeIs,fun b q=>?_,hd⟩;cases q;obtain⟨ob,_,_,h1,h2,_⟩:=dd;exact⟨ob,h1,h2.2.1⟩
 ·obtain⟨_,hd,xs,_,dd⟩:=Wl I.hok e;refine⟨dd.typeIs,fun b q=>?_,hd⟩;cases q;obtain⟨ob,_,_,h1,h2,_⟩:=dd;exact⟨ob,h1,h2.2.1⟩
section
variable {X:Cx}{pins:List (Addr×Obj)}{σ:St}{H:Hp}{s:Shared}{a:Addr}{y d:V}{u r:Value}{o:Option V}{A:Around}{E:Value→Shared→Prop}
theorem EJ{Q:Value→Shared→Prop}(hu:A.units+1<cLine)(I:Inv X pins σ H s)(g:DGet H a y o)(ry:RelV y u)(h:∀ w' s',Inv X pins σ H s'→RelV (o.getD .non) w'→Q w' s') :
  wpAny (model X.prog X.w) A (call (.builtin "dict.get") [.ref a,u]) Q E s:=by
 rcases g with⟨kvs,k,e,ey,l⟩|⟨kvs,k,b,e,ey,eb,l⟩
 ·subst ey;obtain⟨z,hd,vs,rel,dd⟩:=Xn I.hok e;refine call_meetsIn PySem.F.slot_dict_get dd.typeIs PySem.F.entry_dict_get (PySem.F.args_dict_get_2 _ _) (meets_dict_get (Zm X.prog X.w) a (Xx ry) hd) ⟨_,dd.mapOf,h _ _ (I.tok _) ?_⟩;rw[l];exact(rel.val k).getD rfl
 ·subst ey;cases (show u=Value.ref b from ry);obtain⟨z,hd,xs,rel,dd⟩:=Wl I.hok e;refine call_meetsIn PySem.F.slot_dict_get dd.typeIs PySem.F.entry_dict_get (PySem.F.args_dict_get_2 _ _) (meetsH_dict_get (tupleKind (Zm X.prog X.w)) a b hd) ⟨tupleKind_room_in1 hu,k,xs,key_of I.hok eb,dd,h _ _ (I.tok _) ?_⟩;rw[l];exact(rel.val k).getD rfl
end
def PQ (td ty:TE):TE:=fun σ H Q=>td σ H fun x H1=>∃ a,x=.ref a∧AW H1 a∧ty σ H1 fun y H2=>∃ o,DGet H2 a y o∧Q (o.getD .non) H2
def LU (td ty tx:TE):TE:=fun σ H Q=>td σ H fun x H1=>∃ a,x=.ref a∧AW H1 a∧ty σ H1 fun y H2=>tx σ H2 fun z H3=>∃ o,DGet H3 a y o∧Q (o.getD z) H3
def QD (td ty:TE):TE:=fun σ H Q=>td σ H fun x H1=>∃ a,x=.ref a∧AW H1 a∧ty σ H1 fun y H2=>∃ kvs k v,H2 a=some (.dK kvs)∧y=kV k∧Yb kvs k=some v∧Q v (upd H2 a (.dK (dropK kvs k)))
def P7 (td ty tx:TE):TE:=fun σ H Q=>td σ H fun x H1=>∃ a,x=.ref a∧AW H1 a∧ty σ H1 fun y H2=>tx σ H2 fun z H3=>∃ kvs k,H3 a=some (.dK kvs)∧y=kV k∧
 (∀ v,Yb kvs k=some v→Q v (upd H3 a (.dK (dropK kvs k))))∧(Yb kvs k=none→Q z H3)
section
variable {X:Cx}
theorem Ov:CallR X (.builtin "len") (fun xs H Q=>∃ a kvs,xs=[V.ref a]∧H a=some (.dK kvs)∧Q (.int kvs.length) H):=by intro pins s σ H xs us Q I r h;obtain⟨a,kvs,rfl,ha,q⟩:=h;obtain⟨u,rfl,ru⟩:=Yd r;cases ru;exact IJ I (.inl ha) fun t s' I'=>⟨.int kvs.length,H,I',⟨t,rfl⟩,q⟩
end
end L2
namespace Own
noncomputable abbrev Ad:=Nat
inductive Val where
 |non|bl (b:Bool)|int (i:Int)|str (s:String)|tup (xs:List Val)|ref (a:Ad)|scr (ns:List Int)
 deriving Inhabited
mutual
noncomputable def Val.eqb:Val→Val→Bool
 |.non,.non=>true
 |.bl a,.bl b=>a==b
 |.int a,.int b=>a==b
 |.str a,.str b=>a==b
 |.tup a,.tup b=>Val.eqs a b
 |.ref a,.ref b=>a==b
 |.scr a,.scr b=>a==b
 |_,_=>false
noncomputable def Val.eqs:List Val→List Val→Bool
 |[],[]=>true
 |x::xs,y::ys=>Val.eqb x y&&Val.eqs xs ys
 |_,_=>false
end
mutual
theorem Val.eqb_iff:∀ {a b:Val},Val.eqb a b=true↔a=b
 |.non,b=>by cases b<;>simp[Val.eqb]
 |.bl _,b=>by cases b<;>simp[Val.eqb]
 |.int _,b=>by cases b<;>simp[Val.eqb]
 |.str _,b=>by cases b<;>simp[Val.eqb]
 |.tup _,b=>by cases b<;>simp[Val.eqb,Val.eqs_iff]
 |.ref _,b=>by cases b<;>simp[Val.eqb]
 |.scr _,b=>by cases b<;>simp[Val.eqb]
theorem Val.eqs_iff:∀ {a b:List Val},Val.eqs a b=true↔a=b
 |[],b=>by cases b<;>simp[Val.eqs]
 |_::_,b=>by cases b<;>simp[Val.eqs,Val.eqb_iff,Val.eqs_iff]
end
noncomputable instance:DecidableEq Val:=fun a b=>if h:Val.eqb a b=true then isTrue (Val.eqb_iff.mp h)else isFalse fun e=>h (Val.eqb_iff.mpr e)
inductive Ob where
 |lst (xs:List Val)|dct (kvs:List (Val×Val))|ins (C:String) (fs:List (String×Val))|exc (C:String)|frz (kvs:List (Val×Val))
 deriving Inhabited
noncomputable def DX (sep:List Char):List (List Char)→List Char
 |[]=>[]
 |[x]=>x
 |x::y::r=>x++(sep++DX sep (y::r))
noncomputable def HR (sep:String) (xs:List String):String:=String.ofList (DX sep.toList (xs.map String.toList))
noncomputable def M7 (c:Char):List Char→List (List Char)
 |[]=>[[]]
 |x::xs=>if x=c then []::M7 c xs else match M7 c xs with
  |[]=>[[x]]
  |y::ys=>(x::y)::ys
noncomputable def U1 (c:Char) (s:String):List String:=(M7 c s.toList).map String.ofList
noncomputable def figB (c:Char):Bool:=decide (48≤c.toNat)&&decide (c.toNat≤57)
noncomputable def decN (l:List Char):Nat:=l.foldl (fun a c=>10*a+(c.toNat - 48)) 0
noncomputable def U8:List Val→Option (List String)
 |[]=>some []
 |.str s::xs=>(U8 xs).map (s :: ·)
 |_=>none
noncomputable def WQ:Val→Option String
 |.str s=>some s
 |_=>none
noncomputable def oneC (s:String):Option Char:=match s.toList with
 |[c]=>some c
 |_=>none
noncomputable def N1 (i:Int):String:=toString i
noncomputable def fmtV:Val→Option String
 |.str s=>some s
 |.int i=>if i.natAbs<10 ^ 200 then some (N1 i)else none
 |_=>none
noncomputable abbrev Hs:=Ad→Option Ob
@[irreducible] noncomputable def upd (h:Hs) (a:Ad) (o:Ob):Hs:=fun b=>if b=a then some o else h b
theorem upd_same{h:Hs}{a:Ad}{o:Ob}:upd h a o a=some o:=by simp[upd]
theorem upd_ne{h:Hs}{a b:Ad}{o:Ob}(e:b≠a):upd h a o b=h b:=by simp[upd,e]
theorem upd_upd{h:Hs}{a:Ad}{o u:Ob}:upd (upd h a o) a u=upd h a u:=by funext b;simp only[upd];split<;>rfl
noncomputable abbrev Env:=List (Option Val)
noncomputable abbrev Q1:=Val→Hs→Prop
noncomputable abbrev XQ:=String→Hs→Prop
noncomputable abbrev Fs:=String→List Val→Hs→Q1→XQ→Prop
noncomputable def lim:Nat:=1000000
@[irreducible] noncomputable def go {α:Type}(o:Option α) (k:α→Prop):Prop:=match o with|some a=>k a|none=>False
@[simp] theorem go_some{α:Type}{a:α}{k:α→Prop}:go (some a) k=k a:=by unfold go;rfl
@[simp] theorem Cv{α:Type}{k:α→Prop}:go none k=False:=by unfold go;rfl
theorem go_of{α:Type}{o:Option α}{a:α}{k:α→Prop}(e:o=some a)(h:k a):go o k:=by rw[e,go_some];exact h
inductive Bop where|add|sub|mul|fdiv|mod|pow
inductive Cop where|eq|ne|lt|le|gt|ge|isin|notin|is|isnot
inductive Bi where
 |len|int|str|bool|abs|min2|max2|minL|maxL|minD|sum|all|sorted|sortedSet|lenSet|list|tuple|dict|isi (Ts:List String)|isx (Ts:List String)|repr|listRev|listRange
inductive Bm where
 |append|extend|pop|popAt|insert|remove|clear|reverse|index|count|dget|dgetD|dpop|dpopD|setdefault|join|split|replace|upper|partition
inductive Pt where|one (i:Nat)|many (is:List Nat)|nest (i:Nat) (is:List Nat)
mutual
inductive E where
 |cst (v:Val)|var (i:Nat)|glob (x:String) (v:Val)
 |bin (op:Bop) (a b:E)|neg (a:E)|not (a:E)|and (a b:E)|or (a b:E)
 |cmp (op:Cop) (a b:E)|chain (o1 o2:Cop) (a b c:E)
 |call (f:String) (as:Es)|make (C:String) (as:Es)|meth (C m:String) (o:E) (as:Es)|fld (o:E) (f:String)
 |bi (f:Bi) (as:Es)|bm (m:Bm) (o:E) (as:Es)
 |idx (a i:E)|slc (a:E) (lo hi:Oe)|rev (a:E)
 |tup (es:Es)|lst (es:Es)|dct (es:Es)
 |ife (c:Tt) (a b:E)
 |comp (caps:List Nat) (n:Nat) (p:Pt) (it:It) (c:Tt) (e:E)
 |fstr (es:Es)
 |split (o a:E)
inductive Es where|nil|cons (e:E) (es:Es)
inductive Oe where|none|some (e:E)
inductive Tt where|yes|val (e:E)|not (t:Tt)|and (a b:Tt)|or (a b:Tt)
inductive It where
 |seq (e:E)|chars (e:E)|range (a:E)|range2 (a b:E)|enum (e:E)|zip (a b:E)|items (e:E)|rev (e:E)
end
mutual
inductive S where
 |set (p:Pt) (e:E)|setIdx (a i e:E)|setFld (o:E) (f:String) (e:E)
 |augVar (i:Nat) (op:Bop) (e:E)|augFld (o:E) (f:String) (op:Bop) (n:Int)|augIdx (a i:E) (op:Bop) (n:Int)
 |setPair (a i b j e:E)
 |expr (e:E)|ret (e:E)|retN|ite (c:Tt) (a b:Ss)|whl (c:Tt) (b:Ss)|for (p:Pt) (it:It) (b:Ss)|forI (k:Bool) (p:Pt) (e:E) (b:Ss)
 |never|brk|cnt|pass|raise (C:String) (as:Es)|try (t:Option Nat) (e:E) (hs:Hn)
inductive Ss where|nil|cons (s:S) (ss:Ss)
inductive Hn where|nil|cons (C:String) (n:Option Nat) (b:Ss) (r:Hn)
end
noncomputable def ixN (n:Nat) (i:Int):Option Nat:=if 0≤i then(if i<n then some i.toNat else none)else if -(n:Int)≤i then some (i+n).toNat else none
noncomputable def atI {α:Type}(xs:List α) (i:Int):Option α:=(ixN xs.length i).bind fun j=>xs[j]?
noncomputable def cutAt (n d:Nat):Option Int→Nat
 |none=>d
 |some i=>if 0≤i then min i.toNat n else(i+n).toNat
noncomputable def cut {α:Type}(xs:List α) (lo hi:Option Int):List α:=(xs.drop (cutAt xs.length 0 lo)).take (cutAt xs.length xs.length hi - cutAt xs.length 0 lo)
noncomputable def lsOf:Option Ob→Option (List Val)
 |some (.lst xs)=>some xs
 |_=>none
@[simp] theorem lsOf_lst{xs:List Val}:lsOf (some (.lst xs))=some xs:=rfl
noncomputable def YX (h:Hs):Val→Option (List Val)
 |.ref a=>lsOf (h a)
 |.tup xs=>some xs
 |.scr ns=>some (ns.map .int)
 |_=>none
noncomputable def dcOf:Option Ob→Option (List (Val×Val))
 |some (.dct kvs)=>some kvs
 |_=>none
noncomputable def lookK (kvs:List (Val×Val)) (k:Val):Option Val:=(kvs.find? fun p=>p.1==k).map (·.2)
noncomputable def hasK (kvs:List (Val×Val)) (k:Val):Bool:=kvs.any fun p=>p.1==k
noncomputable def putK (kvs:List (Val×Val)) (k v:Val):List (Val×Val):=if hasK kvs k then kvs.map fun p=>if p.1==k then(k,v)else p else kvs++[(k,v)]
noncomputable def dropK (kvs:List (Val×Val)) (k:Val):List (Val×Val):=kvs.filter fun p=>!(p.1==k)
noncomputable def isKey:Val→Bool
 |.int _=>true
 |.str _=>true
 |_=>false
inductive D where
 |non|bl (b:Bool)|int (i:Int)|str (s:String)|tup (ds:List D)|lst (ds:List D)
 deriving Inhabited
mutual
noncomputable def D.eqv:D→D→Bool
 |.non,.non=>true
 |.bl a,.bl b=>a==b
 |.bl a,.int i=>(if a then 1 else 0)==i
 |.int i,.bl a=>i==(if a then 1 else 0)
 |.int a,.int b=>a==b
 |.str a,.str b=>a==b
 |.tup a,.tup b=>D.eqvs a b
 |.lst a,.lst b=>D.eqvs a b
 |_,_=>false
noncomputable def D.eqvs:List D→List D→Bool
 |[],[]=>true
 |x::xs,y::ys=>D.eqv x y&&D.eqvs xs ys
 |_,_=>false
end
noncomputable def dat (h:Hs):Nat→Val→Option D
 |_,.non=>some .non
 |_,.bl b=>some (.bl b)
 |_,.int i=>some (.int i)
 |_,.str s=>some (.str s)
 |0,_=>none
 |n+1,.tup xs=>(xs.mapM (dat h n)).map .tup
 |n+1,.ref a=>(lsOf (h a)).bind fun xs=>(xs.mapM (dat h n)).map .lst
 |n+1,.scr ns=>some (.lst (ns.map .int))
noncomputable def deep:Nat:=12
noncomputable def eqV (h:Hs) (v u:Val):Option Bool:=(dat h deep v).bind fun d=>(dat h deep u).map fun e=>D.eqv d e
noncomputable def intsOf:List Val→Option (List Int)
 |[]=>some []
 |.int i::xs=>(intsOf xs).map (i :: ·)
 |_=>none
noncomputable def lexI:List Int→List Int→Bool
 |[],[]=>false
 |[],_::_=>true
 |_::_,[]=>false
 |x::xs,y::ys=>if x=y then lexI xs ys else decide (x<y)
noncomputable def ltV:Val→Val→Option Bool
 |.int i,.int j=>some (decide (i<j))
 |.tup xs,.tup ys=>(intsOf xs).bind fun ns=>(intsOf ys).map fun ms=>lexI ns ms
 |_,_=>none
noncomputable def inL (h:Hs) (x:Val) (ys:List Val):Option Bool:=(dat h deep x).bind fun d=>(ys.mapM (dat h (deep - 1))).map fun ds=>ds.any fun e=>D.eqv e d
noncomputable def leV:Val→Val→Option Bool
 |.int i,.int j=>some (decide (i≤j))
 |_,_=>none
noncomputable def inV (h:Hs) (v u:Val):Option Bool:=match u with
 |.tup xs=>inL h v xs
 |.ref a=>match h a with
  |some (.lst xs)=>inL h v xs
  |some (.dct kvs)=>if isKey v then some (hasK kvs v)else none
  |_=>none
 |.str t=>(match v with|.str s=>(oneC s).map fun c=>decide (c∈t.toList)|_=>none)
 |_=>none
noncomputable def isV (v u:Val):Option Bool:=match u with
 |.non=>some (decide (v=.non))
 |.bl b=>some (decide (v=.bl b))
 |_=>none
noncomputable def cmpV (h:Hs) (op:Cop) (v u:Val):Option Bool:=match op with
 |.eq=>eqV h v u
 |.ne=>(eqV h v u).map (!·)
 |.lt=>ltV v u
 |.gt=>ltV u v
 |.le=>leV v u
 |.ge=>leV u v
 |.isin=>inV h v u
 |.notin=>(inV h v u).map (!·)
 |.is=>isV v u
 |.isnot=>(isV v u).map (!·)
noncomputable def Y8 (h:Hs):Val→Option Bool
 |.bl b=>some b
 |.int i=>some (decide (i≠0))
 |.non=>some false
 |.str s=>if s.length≤lim then some (decide (s.length≠0))else none
 |.tup xs=>some (!xs.isEmpty)
 |.scr ns=>some (!ns.isEmpty)
 |.ref a=>match h a with
  |some (.lst xs)=>some (!xs.isEmpty)
  |some (.dct kvs)=>some (!kvs.isEmpty)
  |_=>none
def mulOk (i j:Int):Prop:=(i.natAbs<2 ^ 64∨j.natAbs<2 ^ 64)∨(i.natAbs≤10 ^ 200∧j.natAbs≤10 ^ 200)
instance (i j:Int):Decidable (mulOk i j):=inferInstanceAs (Decidable (_∨_))
@[irreducible] noncomputable def new (h:Hs) (o:Ob) (Q:Q1):Prop:=∀ p,h p=none→Q (.ref p) (upd h p o)
theorem Zh{h:Hs}{o:Ob}{Q:Q1}(q:∀ p,h p=none→Q (.ref p) (upd h p o)):new h o Q:=by unfold new;exact q
inductive Rs where|val (v:Val)|new (o:Ob)|no
@[irreducible] noncomputable def Rs.wp (r:Rs) (h:Hs) (Q:Q1):Prop:=match r with|.val v=>Q v h|.new o=>Own.new h o Q|.no=>False
@[simp] theorem Rs.wp_val{v:Val}{h:Hs}{Q:Q1}:(Rs.val v).wp h Q=Q v h:=by unfold Rs.wp;rfl
@[simp] theorem Rs.wp_new{o:Ob}{h:Hs}{Q:Q1}:(Rs.new o).wp h Q=Own.new h o Q:=by unfold Rs.wp;rfl
@[simp] theorem Rs.wp_no{h:Hs}{Q:Q1}:Rs.no.wp h Q=False:=by unfold Rs.wp;rfl
noncomputable def Rs.ofO:Option Val→Rs
 |some v=>.val v
 |none=>.no
noncomputable def Rs.lst (xs:List Val):Rs:=if xs.length≤lim then .new (.lst xs)else .no
noncomputable def addV (h:Hs):Val→Val→Rs
 |.int i,.int j=>.val (.int (i+j))
 |.str s,.str t=>if s.length+t.length≤lim then .val (.str (s++t))else .no
 |.tup xs,.tup ys=>if xs≠[]∧xs.length+ys.length≤lim then .val (.tup (xs++ys))else .no
 |.ref a,.ref b=>match h a,h b with
  |some (.lst xs),some (.lst ys)=>Rs.lst (xs++ys)
  |_,_=>.no
 |_,_=>.no
noncomputable def mulV (h:Hs):Val→Val→Rs
 |.int i,.int j=>if mulOk i j then .val (.int (i*j))else .no
 |.ref a,.int k=>match h a with
  |some (.lst xs)=>if -(2 ^ 62)<k∧k<2 ^ 62∧xs.length*k.toNat≤lim then Rs.lst (List.replicate k.toNat xs).flatten else .no
  |_=>.no
 |_,_=>.no
noncomputable def intV (f:Int→Int→Rs):Val→Val→Rs
 |.int i,.int j=>f i j
 |_,_=>.no
noncomputable def binV (h:Hs) (op:Bop) (v u:Val):Rs:=match op with
 |.add=>addV h v u
 |.sub=>intV (fun i j=>.val (.int (i - j))) v u
 |.mul=>mulV h v u
 |.fdiv=>intV (fun i j=>if 0<j∧j<1073741824 then .val (.int (i / j))else .no) v u
 |.mod=>intV (fun i j=>if 0<j then .val (.int (i % j))else .no) v u
 |.pow=>intV (fun i j=>if 0≤j∧j≤1000000∧i.natAbs<2 ^ 64 then .val (.int (i ^ j.toNat))else .no) v u
noncomputable def asInt:Val→Option Int
 |.int i=>some i
 |_=>none
noncomputable def idxV (h:Hs):Val→Val→Option Val
 |.tup xs,.int k=>atI xs k
 |.str s,.int k=>if s.length≤lim then(atI s.toList k).map fun c=>.str (String.singleton c)else none
 |.ref a,k=>match h a with
  |some (.lst xs)=>(asInt k).bind (atI xs)
  |some (.dct kvs)=>if isKey k then lookK kvs k else none
  |some (.frz kvs)=>if isKey k then lookK kvs k else none
  |_=>none
 |.scr ns,.int i=>atI (ns.map .int) i
 |_,_=>none
noncomputable def slcV (h:Hs) (v:Val) (lo hi:Option Int):Rs :=
 match v with
 |.tup xs=>if cutAt xs.length 0 lo=0∧cutAt xs.length xs.length hi=xs.length then .no else .val (.tup (cut xs lo hi))
 |.ref a=>match lsOf (h a)with
  |some xs=>.new (.lst (cut xs lo hi))
  |none=>.no
 |.scr ns=>.new (.lst (cut (ns.map .int) lo hi))
 |.str s=>if s.length≤lim then .val (.str (String.ofList (cut s.toList lo hi)))else .no
 |_=>.no
noncomputable def sortI (ns:List Int):List Int:=ns.mergeSort fun a b=>decide (a≤b)
noncomputable def blsOf:List Val→Option (List Bool)
 |[]=>some []
 |.bl b::xs=>(blsOf xs).map (b :: ·)
 |_=>none
noncomputable def minL:List Val→Option Val
 |[]=>none
 |x::xs=>xs.foldl (fun m y=>m.bind fun b=>(ltV y b).map fun c=>if c then y else b) (some x)
noncomputable def maxL:List Val→Option Val
 |[]=>none
 |x::xs=>xs.foldl (fun m y=>m.bind fun b=>(ltV b y).map fun c=>if c then y else b) (some x)
noncomputable def Uf:List Int→List Int
 |[]=>[]
 |x::xs=>x::(Uf xs).filter (· != x)
noncomputable def Lp:List String:=["NoNet","NoLetter","NoDeed","NoFrame","NoOrder","NoLine","NoCommand"]
noncomputable def excSub (c d:String):Bool:=c==d||d == "ShutError" || d == "ValueError" || d == "Exception"
noncomputable def kindV (h:Hs):Val→Option String
 |.non=>some "NoneType"
 |.bl _=>some "bool"
 |.int _=>some "int"
 |.str _=>some "str"
 |.tup _=>some "tuple"
 |.scr _=>some "list"
 |.ref a=>match h a with
  |some (.lst _)=>some "list"
  |some (.dct _)=>some "dict"
  |_=>none
noncomputable def isiV (h:Hs) (v:Val) (T:String):Option Bool:=(kindV h v).map fun t=>t==T||(t == "bool" && T == "int")
noncomputable def Ig:Option Ob→Option String
 |some (.exc c)=>some c
 |_=>none
noncomputable def Px (h:Hs):Val→Option String
 |.ref a=>Ig (h a)
 |_=>none
noncomputable def isiAny (h:Hs) (v:Val):List String→Option Bool
 |[]=>some false
 |T::Ts=>(isiV h v T).bind fun b=>(isiAny h v Ts).map (b || ·)
noncomputable def CB (h:Hs):List Val→Option (List (Val×Val))
 |[]=>some []
 |v::vs=>match v with
  |.tup [k,x]=>if isKey k then(CB h vs).map ((k,x) :: ·)else none
  |_=>none
noncomputable def pairUp:List Val→Option (List (Val×Val))
 |[]=>some []
 |k::v::r=>if isKey k then(pairUp r).map ((k,v) :: ·)else none
 |_=>none
noncomputable def putAll (kvs:List (Val×Val)):List (Val×Val)→List (Val×Val)
 |[]=>kvs
 |(k,v)::r=>putAll (putK kvs k v) r
noncomputable def lenV (h:Hs):Val→Rs
 |.ref a=>match h a with
  |some (.lst xs)=>.val (.int xs.length)
  |some (.dct kvs)=>.val (.int kvs.length)
  |_=>.no
 |.tup xs=>.val (.int xs.length)
 |.scr ns=>.val (.int ns.length)
 |.str s=>if s.length≤lim then .val (.int s.length)else .no
 |_=>.no
noncomputable def Iw:Val→Rs
 |.int i=>.val (.int i)
 |.bl b=>.val (.int (if b then 1 else 0))
 |.str s=>if s.length≤640∧s.toList≠[]∧s.toList.all figB=true then .val (.int (decN s.toList))else .no
 |_=>.no
noncomputable def Fw:Val→Rs
 |.bl b=>.val (.bl b)
 |_=>.no
noncomputable def IF:Val→Rs
 |.str s=>.val (.str s)
 |.int i=>if i.natAbs<10 ^ 200 then .val (.str (N1 i))else .no
 |_=>.no
noncomputable def absV:Val→Rs
 |.int i=>.val (.int (if i<0 then -i else i))
 |_=>.no
noncomputable def biOf1 (f:Val→Rs):List Val→Rs
 |[v]=>f v
 |_=>.no
noncomputable def biOf2 (f:Val→Val→Rs):List Val→Rs
 |[v,u]=>f v u
 |_=>.no
noncomputable def rowsOf:List Val→Option (List (List Int))
 |[]=>some []
 |.tup xs::r=>(intsOf xs).bind fun ns=>(rowsOf r).map (ns :: ·)
 |_=>none
noncomputable def minR (b:List Int):List (List Int)→List Int
 |[]=>b
 |y::r=>minR (if lexI y b then y else b) r
noncomputable def biMinD (h:Hs) (v:Val):Rs:=match v with
 |.ref a=>match (lsOf (h a)).bind rowsOf with
  |some []=>.val .non
  |some (x::r)=>.val (.tup ((minR x r).map .int))
  |none=>.no
 |_=>.no
noncomputable def PF (h:Hs):Val→Rs
 |.ref a=>.ofO ((lsOf (h a)).bind fun xs=>(blsOf xs).map fun bs=>.bl (bs.all id))
 |_=>.no
noncomputable def LH (h:Hs):Val→Option (List Val)
 |.ref a=>match lsOf (h a)with
  |some xs=>some xs
  |none=>(dcOf (h a)).map fun kvs=>kvs.map (·.1)
 |.tup xs=>some xs
 |.scr ns=>some (ns.map .int)
 |_=>none
noncomputable def Uk (h:Hs):Val→Option (List Int)
 |.ref a=>(lsOf (h a)).bind intsOf
 |.scr ns=>some ns
 |_=>none
noncomputable def keysOf (kvs:List (Val×Val)):Option (List Int):=intsOf (kvs.map (·.1))
noncomputable def sortAny (h:Hs) (v:Val):Option (List Int):=match v with
 |.ref a=>match h a with
  |some (.lst xs)=>intsOf xs
  |some (.dct kvs)=>keysOf kvs
  |_=>none
 |.scr ns=>some ns
 |_=>none
noncomputable def sortR (rows:List (List Int)):List (List Int):=rows.mergeSort fun a b=>!lexI b a
noncomputable def rowsAt (h:Hs) (v:Val):Option (List (List Int)):=match v with
 |.ref a=>(lsOf (h a)).bind rowsOf
 |_=>none
noncomputable def biSortedR (h:Hs) (v:Val):Rs:=match rowsAt h v with
 |some rows=>if rows.length<64∧(rows.all fun r=>!r.isEmpty)=true then .new (.lst ((sortR rows).map fun r=>.tup (r.map .int)))else .no
 |none=>.no
noncomputable def biSorted (h:Hs) (v:Val):Rs:=match sortAny h v with
 |some ns=>if ns.length<64 then .new (.lst ((sortI ns).map .int))else .no
 |none=>biSortedR h v
noncomputable def KY (h:Hs) (v:Val):Rs:=match Uk h v with
 |some ns=>if ns.length<64 then .new (.lst ((sortI (Uf ns)).map .int))else .no
 |none=>.no
noncomputable def By (h:Hs) (v:Val):Rs:=match Uk h v with
 |some ns=>if ns.length<4000 then .val (.int (Uf ns).length)else .no
 |none=>.no
noncomputable def toList (h:Hs):Val→Rs
 |.ref a=>match h a with
  |some (.lst xs)=>.new (.lst xs)
  |_=>.no
 |.tup xs=>.new (.lst xs)
 |_=>.no
noncomputable def JW (h:Hs):Val→Rs
 |.ref a=>match h a with
  |some (.lst xs)=>.val (.tup xs)
  |_=>.no
 |.tup xs=>.val (.tup xs)
 |_=>.no
noncomputable def Er (h:Hs):Val→Rs
 |.ref a=>match h a with
  |some (.dct kvs)=>.new (.dct kvs)
  |_=>.no
 |_=>.no
noncomputable def Ed:Val→Option (Int×Int)
 |.tup [.int i,.int j]=>some (i,j)
 |_=>none
noncomputable def OC (h:Hs) (v:Val):Rs:=match YX h v with
 |some xs=>.new (.lst xs.reverse)
 |none=>.no
noncomputable def rangeL:Val→Rs
 |.int k=>if 0≤k∧k≤1000 then .new (.lst ((List.range k.toNat).map fun n=>.int (n:Nat)))else .no
 |_=>.no
noncomputable def biV (h:Hs) (b:Bi) (vs:List Val):Rs:=match b with
 |.len=>biOf1 (lenV h) vs
 |.int=>biOf1 Iw vs
 |.str=>biOf1 IF vs
 |.bool=>biOf1 Fw vs
 |.abs=>biOf1 absV vs
 |.min2=>biOf2 (intV fun i j=>.val (.int (if j<i then j else i))) vs
 |.max2=>biOf2 (intV fun i j=>.val (.int (if j > i then j else i))) vs
 |.minL=>biOf1 (fun v=>.ofO ((Ed v).map fun p=>.int (if p.2<p.1 then p.2 else p.1))) vs
 |.maxL=>biOf1 (fun v=>.ofO ((Ed v).map fun p=>.int (if p.2 > p.1 then p.2 else p.1))) vs
 |.minD=>biOf1 (biMinD h) vs
 |.sum=>biOf1 (fun v=>.ofO ((YX h v).bind fun xs=>(intsOf xs).map fun ns=>.int ns.sum)) vs
 |.all=>biOf1 (PF h) vs
 |.sorted=>biOf1 (biSorted h) vs
 |.sortedSet=>biOf1 (KY h) vs
 |.lenSet=>biOf1 (By h) vs
 |.list=>biOf1 (toList h) vs
 |.tuple=>biOf1 (JW h) vs
 |.dict=>biOf1 (Er h) vs
 |.isi Ts=>biOf1 (fun v=>.ofO ((isiAny h v Ts).map .bl)) vs
 |.isx Ts=>biOf1 (fun v=>.ofO ((Px h v).map fun c=>.bl (Ts.any (excSub c)))) vs
 |.repr=>.no
 |.listRev=>biOf1 (OC h) vs
 |.listRange=>biOf1 rangeL vs
noncomputable def bmL (h:Hs) (v:Val) (f:Ad→List Val→Option (Val×Hs)):Option (Val×Hs):=match v with
 |.ref a=>(lsOf (h a)).bind (f a)
 |_=>none
noncomputable def bmD (h:Hs) (v:Val) (f:Ad→List (Val×Val)→Option (Val×Hs)):Option (Val×Hs):=match v with
 |.ref a=>(dcOf (h a)).bind (f a)
 |_=>none
noncomputable def UC (h:Hs) (vs:List Val) (a:Ad) (xs:List Val):Option (Val×Hs):=match vs with
 |[v]=>if xs.length<lim then some (.non,upd h a (.lst (xs++[v])))else none
 |_=>none
noncomputable def AN (h:Hs) (vs:List Val) (a:Ad) (xs:List Val):Option (Val×Hs):=match vs with
 |[.ref b]=>(lsOf (h b)).bind fun ys=>if xs.length+ys.length≤lim then some (.non,upd h a (.lst (xs++ys)))else none
 |_=>none
noncomputable def GZ (h:Hs) (vs:List Val) (a:Ad) (xs:List Val):Option (Val×Hs):=match vs with
 |[]=>(xs[xs.length - 1]?).map fun v=>(v,upd h a (.lst xs.dropLast))
 |_=>none
noncomputable def bmPopAt (h:Hs) (vs:List Val) (a:Ad) (xs:List Val):Option (Val×Hs):=match vs with
 |[.int i]=>if -(2 ^ 62)<i∧i<2 ^ 62 then(ixN xs.length i).bind fun k=>(xs[k]?).map fun v=>(v,upd h a (.lst (xs.eraseIdx k)))else none
 |_=>none
noncomputable def Bu (h:Hs) (vs:List Val) (a:Ad) (xs:List Val):Option (Val×Hs):=match vs with
 |[.int i,v]=>if 0≤i∧i≤xs.length∧xs.length<lim then some (.non,upd h a (.lst (xs.take i.toNat++v::xs.drop i.toNat)))else none
 |_=>none
noncomputable def As (h:Hs) (vs:List Val) (a:Ad) (xs:List Val):Option (Val×Hs):=match vs with
 |[.int i]=>(intsOf xs).bind fun ns=>if i∈ns then some (.non,upd h a (.lst ((ns.erase i).map .int)))else none
 |_=>none
noncomputable def CW (h:Hs) (vs:List Val) (a:Ad) (xs:List Val):Option (Val×Hs):=match vs with
 |[]=>some (.non,upd h a (.lst []))
 |_=>none
noncomputable def OY (h:Hs) (vs:List Val) (a:Ad) (xs:List Val):Option (Val×Hs):=match vs with
 |[]=>some (.non,upd h a (.lst xs.reverse))
 |_=>none
noncomputable def GL (h:Hs) (v:Val) (vs:List Val):Option (Val×Hs):=match v,vs with
 |.str sep,[.ref a]=>(lsOf (h a)).bind fun xs=>(U8 xs).bind fun ss=>if(ss.map String.length).sum+ss.length*sep.length≤lim then some (.str (HR sep ss),h)else none
 |_,_=>none
noncomputable def Cr (h:Hs) (v:Val) (vs:List Val):Option (Val×Hs):=match vs with
 |[.int i]=>((YX h v).bind intsOf).bind fun ns=>if i∈ns then some (.int (ns.idxOf i),h)else none
 |_=>none
noncomputable def HZ (h:Hs) (vs:List Val) (a:Ad) (kvs:List (Val×Val)):Option (Val×Hs):=match vs with
 |[k]=>if isKey k then some ((lookK kvs k).getD .non,h)else none
 |_=>none
noncomputable def Ev (h:Hs) (vs:List Val) (a:Ad) (kvs:List (Val×Val)):Option (Val×Hs):=match vs with
 |[k,d]=>if isKey k then some ((lookK kvs k).getD d,h)else none
 |_=>none
noncomputable def FS (h:Hs) (vs:List Val) (a:Ad) (kvs:List (Val×Val)):Option (Val×Hs):=match vs with
 |[k]=>if isKey k then(lookK kvs k).map fun v=>(v,upd h a (.dct (dropK kvs k)))else none
 |_=>none
noncomputable def Ch (h:Hs) (vs:List Val) (a:Ad) (kvs:List (Val×Val)):Option (Val×Hs):=match vs with
 |[k,d]=>if isKey k then some ((lookK kvs k).getD d,upd h a (.dct (dropK kvs k)))else none
 |_=>none
noncomputable def bmV (h:Hs) (m:Bm) (v:Val) (vs:List Val):Option (Val×Hs):=match m with
 |.append=>bmL h v (UC h vs)
 |.extend=>bmL h v (AN h vs)
 |.pop=>bmL h v (GZ h vs)
 |.popAt=>bmL h v (bmPopAt h vs)
 |.insert=>bmL h v (Bu h vs)
 |.remove=>bmL h v (As h vs)
 |.clear=>bmL h v (CW h vs)
 |.reverse=>bmL h v (OY h vs)
 |.index=>Cr h v vs
 |.join=>GL h v vs
 |.dget=>bmD h v (HZ h vs)
 |.dgetD=>bmD h v (Ev h vs)
 |.dpop=>bmD h v (FS h vs)
 |.dpopD=>bmD h v (Ch h vs)
 |.count=>none
 |.setdefault=>none
 |.split=>none
 |.replace=>none
 |.upper=>none
 |.partition=>none
noncomputable def isLst:Option Ob→Bool
 |some (.lst _)=>true
 |_=>false
noncomputable def isDct:Option Ob→Bool
 |some (.dct _)=>true
 |_=>false
inductive Ty where|l|d|s|t
noncomputable def Bm.ty:Bm→Ty
 |.dget=>.d
 |.dgetD=>.d
 |.dpop=>.d
 |.dpopD=>.d
 |.setdefault=>.d
 |.join=>.s
 |.split=>.s
 |.replace=>.s
 |.upper=>.s
 |.partition=>.s
 |.index=>.t
 |_=>.l
noncomputable def Wt (p:Option Ob→Bool) (h:Hs):Val→Bool
 |.ref a=>p (h a)
 |_=>false
noncomputable def Ef:Val→Bool
 |.str _=>true
 |_=>false
noncomputable def ES:Val→Bool
 |.tup _=>true
 |_=>false
noncomputable def bmTy (h:Hs) (m:Bm) (v:Val):Bool:=match m.ty with
 |.l=>Wt isLst h v
 |.d=>Wt isDct h v
 |.s=>Ef v
 |.t=>Wt isLst h v||ES v
noncomputable def putF:List (String×Val)→String→Val→List (String×Val)
 |[],f,v=>[(f,v)]
 |(g,x)::r,f,v=>if g=f then(g,v)::r else(g,x)::putF r f v
noncomputable def getV (env:Env) (i:Nat):Option Val:=match env[i]? with
 |some (some v)=>some v
 |_=>none
noncomputable def asBl:Val→Option Bool
 |.bl b=>some b
 |_=>none
noncomputable def asRef:Val→Option Ad
 |.ref a=>some a
 |_=>none
noncomputable def insOf:Option Ob→Option (String×List (String×Val))
 |some (.ins C fs)=>some (C,fs)
 |_=>none
noncomputable def Kz:Val→Option (List Val)
 |.tup xs=>some xs
 |_=>none
noncomputable def bindL:List Nat→List Val→Env→Option Env
 |[],[],env=>some env
 |i::is,x::xs,env=>bindL is xs (env.set i (some x))
 |_,_,_=>none
noncomputable def bind (p:Pt) (h:Hs) (v:Val) (env:Env):Option Env :=
 match p with
 |.one i=>some (env.set i (some v))
 |.many is=>(Kz v).bind fun xs=>bindL is xs env
 |.nest i is=>(Kz v).bind fun xs=>match xs with
  |[x,y]=>(Kz y).bind fun ys=>bindL is ys (env.set i (some x))
  |_=>none
def wComp (st:Hs→Prop) (step:Val→Hs→(Option Val→Hs→Prop)→XQ→Prop):List Val→List Val→Hs→(List Val→Hs→Prop)→XQ→Prop
 |[],acc,h,Q,_=>st h∧Q acc h
 |v::vs,acc,h,Q,X=>st h∧step v h (fun r h'=>wComp st step vs (acc++r.toList) h' Q X) X
noncomputable def Bz:Nat→List Val→List Val
 |_,[]=>[]
 |k,x::xs=>.tup [.int k,x]::Bz (k+1) xs
noncomputable def zipL:List Val→List Val→List Val
 |x::xs,y::ys=>.tup [x,y]::zipL xs ys
 |_,_=>[]
noncomputable def Iu (s:String):List Val:=s.toList.map fun c=>.str (String.singleton c)
noncomputable def itV (h:Hs):Val→Option ((Hs→Prop)×List Val)
 |.tup xs=>some (fun _=>True,xs)
 |.scr ns=>some (fun _=>True,ns.map .int)
 |.ref a=>(lsOf (h a)).map fun xs=>(fun g=>lsOf (g a)=some xs,xs)
 |_=>none
noncomputable def N3 (h:Hs):Val→Val→Option ((Hs→Prop)×List Val)
 |.tup xs,.tup ys=>some (fun _=>True,zipL xs ys)
 |.ref p,.ref q=>(lsOf (h p)).bind fun xs=>(lsOf (h q)).map fun ys=>(fun g=>lsOf (g p)=some xs∧lsOf (g q)=some ys,zipL xs ys)
 |_,_=>none
noncomputable def itemOf (k:Bool) (p:Val×Val):Val:=if k then p.1 else .tup [p.1,p.2]
noncomputable def rangeV (i j:Int):List Val:=(List.range (j - i).toNat).map fun(k:Nat)=>.int (i+k)
noncomputable def putV (h:Hs) (o k v:Val):Option Hs :=
 match o with
 |.ref p=>match h p with
  |some (.lst xs)=>(asInt k).bind fun n=>(ixN xs.length n).map fun j=>upd h p (.lst (xs.set j v))
  |some (.dct kvs)=>if isKey k∧kvs.length<lim then some (upd h p (.dct (putK kvs k v)))else none
  |_=>none
 |_=>none
noncomputable def putFV (h:Hs) (o:Val) (f:String) (v:Val):Option Hs :=
 match o with
 |.ref p=>match h p with
  |some (.ins C fs)=>if fs.length<900 then some (upd h p (.ins C (putF fs f v)))else none
  |_=>none
 |_=>none
noncomputable def fldV (h:Hs) (o:Val) (f:String):Option Val:=(asRef o).bind fun a=>(insOf (h a)).bind fun p=>p.2.lookup f
noncomputable def clsV (h:Hs) (o:Val) (m:String):Option String:=(asRef o).bind fun a=>(insOf (h a)).bind fun p=>if(p.2.lookup m).isNone then some p.1 else none
noncomputable def augV (op:Bop) (x y:Val):Option Val:=match op,x,y with
 |.add,.int i,.int j=>some (.int (i+j))
 |.sub,.int i,.int j=>some (.int (i - j))
 |_,_,_=>none
mutual
def xE (Φ:Fs):E→Env→Hs→Q1→XQ→Prop
 |.cst v,_,h,Q,_=>Q v h
 |.glob _ v,_,h,Q,_=>Q v h
 |.var i,env,h,Q,_=>go (getV env i) fun v=>Q v h
 |.bin op a b,env,h,Q,X=>xE Φ a env h (fun v h1=>xE Φ b env h1 (fun u h2=>(binV h2 op v u).wp h2 Q) X) X
 |.neg a,env,h,Q,X=>xE Φ a env h (fun v h1=>go (asInt v) fun i=>Q (.int (-i)) h1) X
 |.not a,env,h,Q,X=>xE Φ a env h (fun v h1=>go (asBl v) fun b=>Q (.bl (!b)) h1) X
 |.and a b,env,h,Q,X=>xE Φ a env h (fun v h1=>go (asBl v) fun c=>if c=true then xE Φ b env h1 Q X else Q (.bl false) h1) X
 |.or a b,env,h,Q,X=>xE Φ a env h (fun v h1=>go (asBl v) fun c=>if c=true then Q (.bl true) h1 else xE Φ b env h1 Q X) X
 |.cmp op a b,env,h,Q,X=>xE Φ a env h (fun v h1=>xE Φ b env h1 (fun u h2=>go (cmpV h2 op v u) fun c=>Q (.bl c) h2) X) X
 | .chain o1 o2 a b c,env,h,Q,X=>xE Φ a env h (fun v h1=>xE Φ b env h1 (fun u h2=>go (cmpV h2 o1 v u) fun k =>
     if k=true then xE Φ c env h2 (fun w h3=>go (cmpV h3 o2 u w) fun k2=>Q (.bl k2) h3) X else Q (.bl false) h2) X) X
 |.call f as,env,h,Q,X=>xA Φ as env h (fun vs h1=>Φ f vs h1 Q X) X
 |.make C as,env,h,Q,X=>xA Φ as env h (fun vs h1=>∀ p,h1 p=none→Φ (C ++ ".__init__") (.ref p::vs) (upd h1 p (.ins C [])) (fun v h2=>v=.non∧Q (.ref p) h2) X) X
 |.meth C m o as,env,h,Q,X=>xE Φ o env h (fun v h1=>clsV h1 v m=some C∧xA Φ as env h1 (fun vs h2=>Φ (C ++ "." ++ m) (v::vs) h2 Q X) X) X
 |.fld o f,env,h,Q,X=>xE Φ o env h (fun v h1=>go (fldV h1 v f) fun u=>Q u h1) X
 |.bi f as,env,h,Q,X=>xA Φ as env h (fun vs h1=>(biV h1 f vs).wp h1 Q) X
 |.bm m o as,env,h,Q,X=>xE Φ o env h (fun v h1=>bmTy h1 m v=true∧xA Φ as env h1 (fun vs h2=>go (bmV h2 m v vs) fun r=>Q r.1 r.2) X) X
 |.idx a i,env,h,Q,X=>xE Φ a env h (fun v h1=>xE Φ i env h1 (fun k h2=>go (idxV h2 v k) fun u=>Q u h2) X) X
 |.slc a lo hi,env,h,Q,X=>xE Φ a env h (fun v h1=>xO Φ lo env h1 (fun l h2=>xO Φ hi env h2 (fun u h3=>(slcV h3 v l u).wp h3 Q) X) X) X
 |.rev a,env,h,Q,X=>xE Φ a env h (fun v h1=>go (asRef v) fun p=>go (lsOf (h1 p)) fun xs=>new h1 (.lst xs.reverse) Q) X
 |.tup es,env,h,Q,X=>xA Φ es env h (fun vs h1=>Q (.tup vs) h1) X
 |.lst es,env,h,Q,X=>xA Φ es env h (fun vs h1=>new h1 (.lst vs) Q) X
 |.dct es,env,h,Q,X=>new h (.dct []) fun r h1=>go (asRef r) fun p=>xA Φ es env h1 (fun vs h2=>go (pairUp vs) fun kvs=>h2 p=some (.dct [])∧Q (.ref p) (upd h2 p (.dct (putAll [] kvs)))) X
 |.ife c a b,env,h,Q,X=>xT Φ c env h (fun k h1=>if k=true then xE Φ a env h1 Q X else xE Φ b env h1 Q X) X
 | .comp caps n p it c e,env,h,Q,X=>xI Φ it env h (fun st xs h1=>xs.length<lim∧
     wComp st (fun v h2 K X2=>go (bind p h2 v (List.replicate n none++caps.map fun j=>(env[j]?).getD none)) fun env2 =>
       xT Φ c env2 h2 (fun k h3=>if k=true then xE Φ e env2 h3 (fun u h4=>K (some u) h4) X2 else K none h3) X2) xs [] h1 (fun ys h5=>new h5 (.lst ys) Q) fun _ _=>False) X
 |.fstr es,env,h,Q,X=>xJ Φ es env h "" (fun s h1=>Q (.str s) h1) X
 |.split o a,env,h,Q,X=>xE Φ o env h (fun v h1=>go (WQ v) fun s=>xE Φ a env h1 (fun u h2=>go ((WQ u).bind oneC) fun c=>s.length+2≤lim∧new h2 (.lst ((U1 c s).map .str)) Q) X) X
def xA (Φ:Fs):Es→Env→Hs→(List Val→Hs→Prop)→XQ→Prop
 |.nil,_,h,Q,_=>Q [] h
 |.cons e es,env,h,Q,X=>xE Φ e env h (fun v h1=>xA Φ es env h1 (fun vs h2=>Q (v::vs) h2) X) X
def xJ (Φ:Fs):Es→Env→Hs→String→(String→Hs→Prop)→XQ→Prop
 |.nil,_,h,acc,Q,_=>Q acc h
 |.cons e es,env,h,acc,Q,X=>xE Φ e env h (fun v h1=>go (fmtV v) fun s=>acc.length+s.length≤lim∧xJ Φ es env h1 (acc++s) Q X) X
def xO (Φ:Fs):Oe→Env→Hs→(Option Int→Hs→Prop)→XQ→Prop
 |.none,_,h,Q,_=>Q none h
 |.some e,env,h,Q,X=>xE Φ e env h (fun v h1=>go (asInt v) fun i=>Q (some i) h1) X
def xT (Φ:Fs):Tt→Env→Hs→(Bool→Hs→Prop)→XQ→Prop
 |.yes,_,h,Q,_=>Q true h
 |.val e,env,h,Q,X=>xE Φ e env h (fun v h1=>go (Y8 h1 v) fun k=>Q k h1) X
 |.not a,env,h,Q,X=>xT Φ a env h (fun k h1=>Q (!k) h1) X
 |.and a b,env,h,Q,X=>xT Φ a env h (fun k h1=>if k=true then xT Φ b env h1 Q X else Q false h1) X
 |.or a b,env,h,Q,X=>xT Φ a env h (fun k h1=>if k=true then Q true h1 else xT Φ b env h1 Q X) X
def xI (Φ:Fs):It→Env→Hs→((Hs→Prop)→List Val→Hs→Prop)→XQ→Prop
 |.seq e,env,h,Q,X=>xE Φ e env h (fun v h1=>go (itV h1 v) fun p=>Q p.1 p.2 h1) X
 |.chars e,env,h,Q,X=>xE Φ e env h (fun v h1=>go (WQ v) fun s=>Q (fun _=>True) (Iu s) h1) X
 |.range a,env,h,Q,X=>xE Φ a env h (fun v h1=>go (asInt v) fun n=>(-(2 ^ 62)≤n∧n<2 ^ 62)∧Q (fun _=>True) (rangeV 0 n) h1) X
 | .range2 a b,env,h,Q,X=>xE Φ a env h (fun v h1=>xE Φ b env h1 (fun u h2=>go (asInt v) fun i=>go (asInt u) fun j =>
     (-(2 ^ 62)≤i∧i<2 ^ 62∧-(2 ^ 62)≤j∧j<2 ^ 62)∧Q (fun _=>True) (rangeV i j) h2) X) X
 |.enum e,env,h,Q,X=>xE Φ e env h (fun v h1=>go (Kz v) fun xs=>Q (fun _=>True) (Bz 0 xs) h1) X
 |.zip a b,env,h,Q,X=>xE Φ a env h (fun v h1=>xE Φ b env h1 (fun u h2=>go (N3 h2 v u) fun p=>Q p.1 p.2 h2) X) X
 |.items e,env,h,Q,X=>xE Φ e env h (fun v h1=>go (asRef v) fun a=>go (dcOf (h1 a)) fun kvs=>Q (fun g=>g a=some (.dct kvs)) (kvs.map fun p=>.tup [p.1,p.2]) h1) X
 |.rev e,env,h,Q,X=>xE Φ e env h (fun v h1=>go (YX h1 v) fun xs=>Q (fun g=>YX g v=some xs) xs.reverse h1) X
end
@[irreducible] noncomputable def wE:Fs→E→Env→Hs→Q1→XQ→Prop:=xE
@[irreducible] noncomputable def wA:Fs→Es→Env→Hs→(List Val→Hs→Prop)→XQ→Prop:=xA
@[irreducible] noncomputable def wJ:Fs→Es→Env→Hs→String→(String→Hs→Prop)→XQ→Prop:=xJ
theorem Kw:wJ=xJ:=by unfold wJ;rfl
@[irreducible] noncomputable def wO:Fs→Oe→Env→Hs→(Option Int→Hs→Prop)→XQ→Prop:=xO
@[irreducible] noncomputable def wT:Fs→Tt→Env→Hs→(Bool→Hs→Prop)→XQ→Prop:=xT
@[irreducible] noncomputable def wI:Fs→It→Env→Hs→((Hs→Prop)→List Val→Hs→Prop)→XQ→Prop:=xI
theorem wE_eq:wE=xE:=by unfold wE;rfl
theorem Zf:wA=xA:=by unfold wA;rfl
theorem Zd:wO=xO:=by unfold wO;rfl
theorem Ze:wT=xT:=by unfold wT;rfl
theorem Zc:wI=xI:=by unfold wI;rfl
noncomputable abbrev NQ:=Env→Hs→Prop
noncomputable abbrev EQ:=Env→String→Hs→Prop
def wFor (st:Hs→Prop) (W:Val→Env→Hs→NQ→NQ→Prop) (N:NQ):List Val→Env→Hs→Prop
 |[],env,h=>st h∧N env h
 |v::vs,env,h=>st h∧W v env h (fun e g=>wFor st W N vs e g) N
def MZ (T:Env→Hs→(Bool→Hs→Prop)→Prop) (W:Env→Hs→NQ→NQ→Prop) (N:NQ):Nat→Env→Hs→Prop
 |0,_,_=>False
 |n+1,env,h=>T env h fun k h1=>if k=true then W env h1 (fun e g=>MZ T W N n e g) N else N env h1
def wC (Φ:Fs):E→Env→Hs→Q1→XQ→Prop
 |.call f as,env,h,Q,X=>wA Φ as env h (fun vs h1=>Φ f vs h1 Q X) fun _ _=>False
 |.meth C m o as,env,h,Q,X=>wE Φ o env h (fun v h1=>clsV h1 v m=some C∧wA Φ as env h1 (fun vs h2=>Φ (C ++ "." ++ m) (v::vs) h2 Q X) fun _ _=>False) fun _ _=>False
 |_,_,_,_,_=>False
noncomputable def AL (env:Env):Option Nat→Val→Env
 |none,_=>env
 |some j,v=>env.set j (some v)
mutual
def xS (Φ:Fs):S→Env→Hs→NQ→Q1→NQ→NQ→EQ→Prop
 |.set p e,env,h,N,_,_,_,X=>wE Φ e env h (fun v h1=>go (bind p h1 v env) fun env2=>N env2 h1) (X env)
 |.setIdx a i e,env,h,N,_,_,_,X=>wE Φ e env h (fun v h1=>wE Φ a env h1 (fun o h2=>wE Φ i env h2 (fun k h3=>go (putV h3 o k v) fun g=>N env g) (X env)) (X env)) (X env)
 |.setFld o f e,env,h,N,_,_,_,X=>wE Φ e env h (fun v h1=>wE Φ o env h1 (fun u h2=>go (putFV h2 u f v) fun g=>N env g) (X env)) (X env)
 |.augVar i op e,env,h,N,_,_,_,X=>go (getV env i) fun x=>wE Φ e env h (fun v h1=>go (augV op x v) fun y=>N (env.set i (some y)) h1) (X env)
 |.augFld o f op n,env,h,N,_,_,_,X=>wE Φ o env h (fun u h1=>go (fldV h1 u f) fun x=>go (augV op x (.int n)) fun y=>go (putFV h1 u f y) fun g=>N env g) (X env)
 |.augIdx a i op n,env,h,N,_,_,_,X=>wE Φ a env h (fun o h1=>wE Φ i env h1 (fun k h2=>go (idxV h2 o k) fun x=>go (augV op x (.int n)) fun y=>go (putV h2 o k y) fun g=>N env g) (X env)) (X env)
 |.setPair ..,_,_,_,_,_,_,_=>False
 |.expr e,env,h,N,_,_,_,X=>wE Φ e env h (fun _ h1=>N env h1) (X env)
 |.ret e,env,h,_,R,_,_,X=>wE Φ e env h R (X env)
 |.retN,_,h,_,R,_,_,_=>R .non h
 |.ite c a b,env,h,N,R,B,C,X=>wT Φ c env h (fun k h1=>if k=true then xSs Φ a env h1 N R B C X else xSs Φ b env h1 N R B C X) (X env)
 |.whl c b,env,h,N,R,_,_,X=>∃ n,MZ (fun e g K=>wT Φ c e g K (X e)) (fun e g K M=>xSs Φ b e g K R M K X) N n env h
 |.for p it b,env,h,N,R,_,_,X=>wI Φ it env h (fun st xs h1=>wFor st (fun v e g K M=>go (bind p g v e) fun e2=>xSs Φ b e2 g K R M K X) N xs env h1) (X env)
 | .forI k p e b,env,h,N,R,_,_,X=>wE Φ e env h (fun v h1=>go (asRef v) fun a=>go (dcOf (h1 a)) fun kvs =>
     wFor (fun g=>g a=some (.frz kvs)) (fun v e g K M=>go (bind p g v e) fun e2=>xSs Φ b e2 g K (fun u g2=>g2 a=some (.frz kvs)∧R u (upd g2 a (.dct kvs))) M K fun _ _ _=>False)
       (fun e g=>g a=some (.frz kvs)∧N e (upd g a (.dct kvs))) (kvs.map (itemOf k)) env (upd h1 a (.frz kvs))) (X env)
 |.never,_,_,_,_,_,_,_=>False
 |.brk,env,h,_,_,B,_,_=>B env h
 |.cnt,env,h,_,_,_,C,_=>C env h
 |.pass,env,h,N,_,_,_,_=>N env h
 |.raise C as,env,h,_,_,_,_,X=>wA Φ as env h (fun _ h1=>X env C h1) (X env)
 |.try t e hs,env,h,N,R,B,C,X=>wC Φ e env h (fun v h1=>N (AL env t v) h1) fun c g=>xH Φ hs c env g N R B C
def xSs (Φ:Fs):Ss→Env→Hs→NQ→Q1→NQ→NQ→EQ→Prop
 |.nil,env,h,N,_,_,_,_=>N env h
 |.cons s ss,env,h,N,R,B,C,X=>xS Φ s env h (fun e g=>xSs Φ ss e g N R B C X) R B C X
def xH (Φ:Fs):Hn→String→Env→Hs→NQ→Q1→NQ→NQ→Prop
 |.nil,_,_,_,_,_,_,_=>False
 |.cons K none b r,c,env,h,N,R,B,C=>if excSub c K=true then xSs Φ b env h N R B C (fun _ _ _=>False)else xH Φ r c env h N R B C
 |.cons K (some i) b r,c,env,h,N,R,B,C=>if excSub c K=true then(∀ p,h p=none→xSs Φ b (env.set i (some (.ref p))) (upd h p (.exc c)) (fun e g=>N (e.set i none) g) R (fun e g=>B (e.set i none) g) (fun e g=>C (e.set i none) g) fun _ _ _=>False)
  else xH Φ r c env h N R B C
end
@[irreducible] noncomputable def wS:Fs→S→Env→Hs→NQ→Q1→NQ→NQ→EQ→Prop:=xS
@[irreducible] noncomputable def wSs:Fs→Ss→Env→Hs→NQ→Q1→NQ→NQ→EQ→Prop:=xSs
@[irreducible] noncomputable def wH:Fs→Hn→String→Env→Hs→NQ→Q1→NQ→NQ→Prop:=xH
theorem Zs:wS=xS:=by unfold wS;rfl
theorem Zk:wSs=xSs:=by unfold wSs;rfl
theorem Zt:wH=xH:=by unfold wH;rfl
structure Fn where
 ar:Nat
 sz:Nat
 body:Ss
noncomputable abbrev Pg:=String→Option Fn
class In (P:Pg) (f:String) (d:outParam Fn):Prop where
 eq:P f=some d
noncomputable def Fn.env (d:Fn) (vs:List Val):Env:=vs.map some++List.replicate (d.sz - d.ar) none
noncomputable def wF0 (P:Pg):Nat→Fs
 |0=>fun _ _ _ _ _=>False
 |n+1=>fun f vs h Q X=>go (P f) fun d=>vs.length=d.ar∧wSs (wF0 P n) d.body (d.env vs) h (fun _ g=>Q .non g) Q (fun _ _=>False) (fun _ _=>False) fun _ c g=>X c g
@[irreducible] noncomputable def wF (P:Pg) (n:Nat):Fs:=wF0 P n
theorem wF_eq{P:Pg}{n:Nat}:wF P n=wF0 P n:=by unfold wF;rfl
theorem Zp{P:Pg}{n:Nat}{f:String}{d:Fn}{vs:List Val}{h:Hs}{Q:Q1}{X:XQ}(e:P f=some d)(hl:vs.length=d.ar)
  (q:wSs (wF P n) d.body (d.env vs) h (fun _ g=>Q .non g) Q (fun _ _=>False) (fun _ _=>False) fun _ c g=>X c g):wF P (n+1) f vs h Q X:=by
 rw[wF_eq]at q ⊢;exact go_of e ⟨hl,q⟩
section
variable {Φ:Fs}{env:Env}{h:Hs}{Q:Q1}{X:XQ}{a b c e o:E}{as:Es}{v u:Val}
theorem HQ(q:Q v h):wE Φ (.cst v) env h Q X:=by simp only[wE_eq,Zf,Zd,Ze,Zc]at q ⊢;exact q
theorem FM{x:String}(q:Q v h):wE Φ (.glob x v) env h Q X:=by simp only[wE_eq,Zf,Zd,Ze,Zc]at q ⊢;exact q
theorem IS{i:Nat}(g:getV env i=some v)(q:Q v h):wE Φ (.var i) env h Q X:=by rw[wE_eq];exact go_of g q
theorem Ij{op:Bop}(q:wE Φ a env h (fun v h1=>wE Φ b env h1 (fun u h2=>(binV h2 op v u).wp h2 Q) X) X):wE Φ (.bin op a b) env h Q X:=by simp only[wE_eq,Zf,Zd,Ze,Zc]at q ⊢;exact q
theorem Hl(q:wE Φ a env h (fun v h1=>go (asInt v) fun i=>Q (.int (-i)) h1) X):wE Φ (.neg a) env h Q X:=by simp only[wE_eq,Zf,Zd,Ze,Zc]at q ⊢;exact q
theorem II(q:wE Φ a env h (fun v h1=>go (asBl v) fun b=>Q (.bl (!b)) h1) X):wE Φ (.not a) env h Q X:=by simp only[wE_eq,Zf,Zd,Ze,Zc]at q ⊢;exact q
theorem Ih(q:wE Φ a env h (fun v h1=>go (asBl v) fun c=>if c=true then wE Φ b env h1 Q X else Q (.bl false) h1) X):wE Φ (.and a b) env h Q X:=by simp only[wE_eq,Zf,Zd,Ze,Zc]at q ⊢;exact q
theorem Rz(q:wE Φ a env h (fun v h1=>go (asBl v) fun c=>if c=true then Q (.bl true) h1 else wE Φ b env h1 Q X) X):wE Φ (.or a b) env h Q X:=by simp only[wE_eq,Zf,Zd,Ze,Zc]at q ⊢;exact q
theorem Lf{op:Cop}(q:wE Φ a env h (fun v h1=>wE Φ b env h1 (fun u h2=>go (cmpV h2 op v u) fun c=>Q (.bl c) h2) X) X):wE Φ (.cmp op a b) env h Q X:=by simp only[wE_eq,Zf,Zd,Ze,Zc]at q ⊢;exact q
theorem LL{o1 o2:Cop}(q:wE Φ a env h (fun v h1=>wE Φ b env h1 (fun u h2=>go (cmpV h2 o1 v u) fun k =>
      if k=true then wE Φ c env h2 (fun w h3=>go (cmpV h3 o2 u w) fun k2=>Q (.bl k2) h3) X else Q (.bl false) h2) X) X):wE Φ (.chain o1 o2 a b c) env h Q X:=by simp only[wE_eq,Zf,Zd,Ze,Zc]at q ⊢;exact q
theorem Gv{f:String}(q:wA Φ as env h (fun vs h1=>Φ f vs h1 Q X) X):wE Φ (.call f as) env h Q X:=by simp only[wE_eq,Zf,Zd,Ze,Zc]at q ⊢;exact q
theorem Fv {C:String}(q:wA Φ as env h (fun vs h1=>∀ p,h1 p=none→Φ (C ++ ".__init__") (.ref p::vs) (upd h1 p (.ins C [])) (fun v h2=>v=.non∧Q (.ref p) h2) X) X):wE Φ (.make C as) env h Q X:=by simp only[wE_eq,Zf,Zd,Ze,Zc]at q ⊢;exact q
theorem FA {C m:String}(q:wE Φ o env h (fun v h1=>clsV h1 v m=some C∧wA Φ as env h1 (fun vs h2=>Φ (C ++ "." ++ m) (v::vs) h2 Q X) X) X):wE Φ (.meth C m o as) env h Q X:=by simp only[wE_eq,Zf,Zd,Ze,Zc]at q ⊢;exact q
theorem IA{f:String}(q:wE Φ o env h (fun v h1=>go (fldV h1 v f) fun u=>Q u h1) X):wE Φ (.fld o f) env h Q X:=by simp only[wE_eq,Zf,Zd,Ze,Zc]at q ⊢;exact q
theorem PX{f:Bi}(q:wA Φ as env h (fun vs h1=>(biV h1 f vs).wp h1 Q) X):wE Φ (.bi f as) env h Q X:=by simp only[wE_eq,Zf,Zd,Ze,Zc]at q ⊢;exact q
theorem PY{m:Bm}(q:wE Φ o env h (fun v h1=>bmTy h1 m v=true∧wA Φ as env h1 (fun vs h2=>go (bmV h2 m v vs) fun r=>Q r.1 r.2) X) X):wE Φ (.bm m o as) env h Q X:=by simp only[wE_eq,Zf,Zd,Ze,Zc]at q ⊢;exact q
theorem HK{i:E}(q:wE Φ a env h (fun v h1=>wE Φ i env h1 (fun k h2=>go (idxV h2 v k) fun u=>Q u h2) X) X):wE Φ (.idx a i) env h Q X:=by simp only[wE_eq,Zf,Zd,Ze,Zc]at q ⊢;exact q
theorem Ib{lo hi:Oe}(q:wE Φ a env h (fun v h1=>wO Φ lo env h1 (fun l h2=>wO Φ hi env h2 (fun u h3=>(slcV h3 v l u).wp h3 Q) X) X) X):wE Φ (.slc a lo hi) env h Q X:=by simp only[wE_eq,Zf,Zd,Ze,Zc]at q ⊢;exact q
theorem Io{es:Es}(q:wA Φ es env h (fun vs h1=>Q (.tup vs) h1) X):wE Φ (.tup es) env h Q X:=by simp only[wE_eq,Zf,Zd,Ze,Zc]at q ⊢;exact q
theorem Hw{es:Es}(q:wA Φ es env h (fun vs h1=>new h1 (.lst vs) Q) X):wE Φ (.lst es) env h Q X:=by simp only[wE_eq,Zf,Zd,Ze,Zc]at q ⊢;exact q
theorem DR{es:Es}(q:new h (.dct []) fun r h1=>go (asRef r) fun p=>wA Φ es env h1 (fun vs h2=>go (pairUp vs) fun kvs=>h2 p=some (.dct [])∧Q (.ref p) (upd h2 p (.dct (putAll [] kvs)))) X):wE Φ (.dct es) env h Q X:=by simp only[wE_eq,Zf,Zd,Ze,Zc]at q ⊢;exact q
theorem Hx{t:Tt}(q:wT Φ t env h (fun k h1=>if k=true then wE Φ a env h1 Q X else wE Φ b env h1 Q X) X):wE Φ (.ife t a b) env h Q X:=by simp only[wE_eq,Zf,Zd,Ze,Zc]at q ⊢;exact q
theorem F3{caps:List Nat}{n:Nat}{p:Pt}{it:It}{t:Tt}(q:wI Φ it env h (fun st xs h1=>xs.length<lim∧
      wComp st (fun v h2 K X2=>go (bind p h2 v (List.replicate n none++caps.map fun j=>(env[j]?).getD none)) fun env2 =>
        wT Φ t env2 h2 (fun k h3=>if k=true then wE Φ e env2 h3 (fun u h4=>K (some u) h4) X2 else K none h3) X2) xs [] h1 (fun ys h5=>new h5 (.lst ys) Q) fun _ _=>False) X):wE Φ (.comp caps n p it t e) env h Q X:=by simp only[wE_eq,Zf,Zd,Ze,Zc]at q ⊢;exact q
theorem L9 {es:Es}(q:wJ Φ es env h "" (fun s h1=>Q (.str s) h1) X):wE Φ (.fstr es) env h Q X:=by simp only[wE_eq,Kw]at q ⊢;exact q
theorem Q6{acc:String}{QJ:String→Hs→Prop}(q:QJ acc h):wJ Φ .nil env h acc QJ X:=by rw[Kw];exact q
theorem Qb{es:Es}{acc:String}{QJ:String→Hs→Prop}(q:wE Φ e env h (fun v h1=>go (fmtV v) fun s=>acc.length+s.length≤lim∧wJ Φ es env h1 (acc++s) QJ X) X):wJ Φ (.cons e es) env h acc QJ X:=by simp only[wE_eq,Kw]at q ⊢;exact q
theorem LK(q:wE Φ o env h (fun v h1=>go (WQ v) fun s=>wE Φ a env h1 (fun u h2=>go ((WQ u).bind oneC) fun c=>s.length+2≤lim∧new h2 (.lst ((U1 c s).map .str)) Q) X) X):wE Φ (.split o a) env h Q X:=by simp only[wE_eq,Zf,Zd,Ze,Zc]at q ⊢;exact q
variable {QA:List Val→Hs→Prop}{QO:Option Int→Hs→Prop}{QT:Bool→Hs→Prop}{QI:(Hs→Prop)→List Val→Hs→Prop}
theorem D9(q:QA [] h):wA Φ .nil env h QA X:=by simp only[wE_eq,Zf,Zd,Ze,Zc]at q ⊢;exact q
theorem Gx{es:Es}(q:wE Φ e env h (fun v h1=>wA Φ es env h1 (fun vs h2=>QA (v::vs) h2) X) X):wA Φ (.cons e es) env h QA X:=by simp only[wE_eq,Zf,Zd,Ze,Zc]at q ⊢;exact q
theorem F2(q:QO none h):wO Φ .none env h QO X:=by simp only[wE_eq,Zf,Zd,Ze,Zc]at q ⊢;exact q
theorem FX(q:wE Φ e env h (fun v h1=>go (asInt v) fun i=>QO (some i) h1) X):wO Φ (.some e) env h QO X:=by simp only[wE_eq,Zf,Zd,Ze,Zc]at q ⊢;exact q
theorem IN(q:QT true h):wT Φ .yes env h QT X:=by simp only[wE_eq,Zf,Zd,Ze,Zc]at q ⊢;exact q
theorem HC(q:wE Φ e env h (fun v h1=>go (Y8 h1 v) fun k=>QT k h1) X):wT Φ (.val e) env h QT X:=by simp only[wE_eq,Zf,Zd,Ze,Zc]at q ⊢;exact q
theorem Hv{t:Tt}(q:wT Φ t env h (fun k h1=>QT (!k) h1) X):wT Φ (.not t) env h QT X:=by simp only[wE_eq,Zf,Zd,Ze,Zc]at q ⊢;exact q
theorem Ho{s t:Tt}(q:wT Φ s env h (fun k h1=>if k=true then wT Φ t env h1 QT X else QT false h1) X):wT Φ (.and s t) env h QT X:=by simp only[wE_eq,Zf,Zd,Ze,Zc]at q ⊢;exact q
theorem LT{s t:Tt}(q:wT Φ s env h (fun k h1=>if k=true then QT true h1 else wT Φ t env h1 QT X) X):wT Φ (.or s t) env h QT X:=by simp only[wE_eq,Zf,Zd,Ze,Zc]at q ⊢;exact q
theorem HY(q:wE Φ e env h (fun v h1=>go (itV h1 v) fun p=>QI p.1 p.2 h1) X):wI Φ (.seq e) env h QI X:=by simp only[wE_eq,Zf,Zd,Ze,Zc]at q ⊢;exact q
theorem LN(q:wE Φ e env h (fun v h1=>go (WQ v) fun s=>QI (fun _=>True) (Iu s) h1) X):wI Φ (.chars e) env h QI X:=by simp only[wE_eq,Zf,Zd,Ze,Zc]at q ⊢;exact q
theorem BK(q:wE Φ a env h (fun v h1=>go (asInt v) fun n=>(-(2 ^ 62)≤n∧n<2 ^ 62)∧QI (fun _=>True) (rangeV 0 n) h1) X):wI Φ (.range a) env h QI X:=by simp only[wE_eq,Zf,Zd,Ze,Zc]at q ⊢;exact q
theorem Lg (q:wE Φ a env h (fun v h1=>wE Φ b env h1 (fun u h2=>go (asInt v) fun i=>go (asInt u) fun j =>
      (-(2 ^ 62)≤i∧i<2 ^ 62∧-(2 ^ 62)≤j∧j<2 ^ 62)∧QI (fun _=>True) (rangeV i j) h2) X) X):wI Φ (.range2 a b) env h QI X:=by simp only[wE_eq,Zf,Zd,Ze,Zc]at q ⊢;exact q
theorem QC(q:wE Φ e env h (fun v h1=>go (Kz v) fun xs=>QI (fun _=>True) (Bz 0 xs) h1) X):wI Φ (.enum e) env h QI X:=by simp only[wE_eq,Zf,Zd,Ze,Zc]at q ⊢;exact q
theorem Ie(q:wE Φ a env h (fun v h1=>wE Φ b env h1 (fun u h2=>go (N3 h2 v u) fun p=>QI p.1 p.2 h2) X) X):wI Φ (.zip a b) env h QI X:=by simp only[wE_eq,Zf,Zd,Ze,Zc]at q ⊢;exact q
theorem LQ(q:wE Φ e env h (fun v h1=>go (asRef v) fun a=>go (dcOf (h1 a)) fun kvs=>QI (fun g=>g a=some (.dct kvs)) (kvs.map fun p=>.tup [p.1,p.2]) h1) X):wI Φ (.items e) env h QI X:=by simp only[wE_eq,Zf,Zd,Ze,Zc]at q ⊢;exact q
theorem Rj(q:wE Φ e env h (fun v h1=>go (YX h1 v) fun xs=>QI (fun g=>YX g v=some xs) xs.reverse h1) X):wI Φ (.rev e) env h QI X:=by simp only[wE_eq,Zf,Zd,Ze,Zc]at q ⊢;exact q
end
section
variable {Φ:Fs}{env:Env}{h:Hs}{N B C:NQ}{R:Q1}{X:EQ}{a b c e o i:E}{as:Es}{v u:Val}{t:Tt}{s1 s2:Ss}{s:S}{p:Pt}{it:It}{hs:Hn}
theorem HM(q:wE Φ e env h (fun v h1=>go (bind p h1 v env) fun env2=>N env2 h1) (X env)):wS Φ (.set p e) env h N R B C X:=by simp only[Zs,Zk,Zt]at q ⊢;exact q
theorem Uc(q:wE Φ e env h (fun v h1=>wE Φ a env h1 (fun o h2=>wE Φ i env h2 (fun k h3=>go (putV h3 o k v) fun g=>N env g) (X env)) (X env)) (X env)):wS Φ (.setIdx a i e) env h N R B C X:=by simp only[Zs,Zk,Zt]at q ⊢;exact q
theorem AT{f:String}(q:wE Φ e env h (fun v h1=>wE Φ o env h1 (fun u h2=>go (putFV h2 u f v) fun g=>N env g) (X env)) (X env)):wS Φ (.setFld o f e) env h N R B C X:=by simp only[Zs,Zk,Zt]at q ⊢;exact q
theorem IT{k:Nat}{op:Bop}(q:go (getV env k) fun x=>wE Φ e env h (fun v h1=>go (augV op x v) fun y=>N (env.set k (some y)) h1) (X env)):wS Φ (.augVar k op e) env h N R B C X:=by simp only[Zs,Zk,Zt]at q ⊢;exact q
theorem UU{f:String}{op:Bop}{n:Int}(q:wE Φ o env h (fun u h1=>go (fldV h1 u f) fun x=>go (augV op x (.int n)) fun y=>go (putFV h1 u f y) fun g=>N env g) (X env)):wS Φ (.augFld o f op n) env h N R B C X:=by simp only[Zs,Zk,Zt]at q ⊢;exact q
theorem Lh{i:E}{op:Bop}{n:Int}(q:wE Φ a env h (fun o h1=>wE Φ i env h1 (fun k h2=>go (idxV h2 o k) fun x=>go (augV op x (.int n)) fun y=>go (putV h2 o k y) fun g=>N env g) (X env)) (X env)):wS Φ (.augIdx a i op n) env h N R B C X:=by simp only[Zs,Zk,Zt]at q ⊢;exact q
theorem Gb(q:wE Φ e env h (fun _ h1=>N env h1) (X env)):wS Φ (.expr e) env h N R B C X:=by simp only[Zs,Zk,Zt]at q ⊢;exact q
theorem Lb(q:wE Φ e env h R (X env)):wS Φ (.ret e) env h N R B C X:=by simp only[Zs,Zk,Zt]at q ⊢;exact q
theorem GB(q:R .non h):wS Φ .retN env h N R B C X:=by simp only[Zs,Zk,Zt]at q ⊢;exact q
theorem O9(q:wT Φ t env h (fun k h1=>if k=true then wSs Φ s1 env h1 N R B C X else wSs Φ s2 env h1 N R B C X) (X env)):wS Φ (.ite t s1 s2) env h N R B C X:=by simp only[Zs,Zk,Zt]at q ⊢;exact q
theorem Q0(q:∃ n,MZ (fun e g K=>wT Φ t e g K (X e)) (fun e g K M=>wSs Φ s1 e g K R M K X) N n env h):wS Φ (.whl t s1) env h N R B C X:=by simp only[Zs,Zk,Zt]at q ⊢;exact q
theorem Hi(q:wI Φ it env h (fun st xs h1=>wFor st (fun v e g K M=>go (bind p g v e) fun e2=>wSs Φ s1 e2 g K R M K X) N xs env h1) (X env)):wS Φ (.for p it s1) env h N R B C X:=by simp only[Zs,Zk,Zt]at q ⊢;exact q
theorem Fc{k:Bool}(q:wE Φ e env h (fun v h1=>go (asRef v) fun a=>go (dcOf (h1 a)) fun kvs =>
      wFor (fun g=>g a=some (.frz kvs)) (fun v e g K M=>go (bind p g v e) fun e2=>wSs Φ s1 e2 g K (fun u g2=>g2 a=some (.frz kvs)∧R u (upd g2 a (.dct kvs))) M K fun _ _ _=>False)
        (fun e g=>g a=some (.frz kvs)∧N e (upd g a (.dct kvs))) (kvs.map (itemOf k)) env (upd h1 a (.frz kvs))) (X env)):wS Φ (.forI k p e s1) env h N R B C X:=by simp only[Zs,Zk,Zt]at q ⊢;exact q
theorem Q2(q:B env h):wS Φ .brk env h N R B C X:=by simp only[Zs,Zk,Zt]at q ⊢;exact q
theorem QY(q:C env h):wS Φ .cnt env h N R B C X:=by simp only[Zs,Zk,Zt]at q ⊢;exact q
theorem QL(q:N env h):wS Φ .pass env h N R B C X:=by simp only[Zs,Zk,Zt]at q ⊢;exact q
theorem LG{D:String}(q:wA Φ as env h (fun _ h1=>X env D h1) (X env)):wS Φ (.raise D as) env h N R B C X:=by simp only[Zs,Zk,Zt]at q ⊢;exact q
theorem QX{t:Option Nat}(q:wC Φ e env h (fun v h1=>N (AL env t v) h1) fun c g=>wH Φ hs c env g N R B C):wS Φ (.try t e hs) env h N R B C X:=by simp only[Zs,Zk,Zt]at q ⊢;exact q
theorem YJ(q:N env h):wSs Φ .nil env h N R B C X:=by simp only[Zs,Zk,Zt]at q ⊢;exact q
theorem Dx{ss:Ss}(q:wS Φ s env h (fun e g=>wSs Φ ss e g N R B C X) R B C X):wSs Φ (.cons s ss) env h N R B C X:=by simp only[Zs,Zk,Zt]at q ⊢;exact q
end
section
variable {h:Hs}{Q:Q1}{i j k:Int}{a b:Ad}{xs ys:List Val}{v u:Val}{K:Val→Prop}{KB:Bool→Prop}
theorem wp_val{r:Rs}(e:r=.val v)(q:Q v h):r.wp h Q:=by rw[e,Rs.wp_val];exact q
theorem wp_new{r:Rs}{o:Ob}(e:r=.new o)(q:new h o Q):r.wp h Q:=by rw[e,Rs.wp_new];exact q
theorem b_add(q:Q (.int (i+j)) h):(binV h .add (.int i) (.int j)).wp h Q:=wp_val rfl q
theorem b_sub(q:Q (.int (i - j)) h):(binV h .sub (.int i) (.int j)).wp h Q:=wp_val rfl q
theorem b_mul(m:mulOk i j)(q:Q (.int (i*j)) h):(binV h .mul (.int i) (.int j)).wp h Q:=wp_val (if_pos m) q
theorem b_fdiv(m:0<j∧j<1073741824)(q:Q (.int (i / j)) h):(binV h .fdiv (.int i) (.int j)).wp h Q:=wp_val (if_pos m) q
theorem b_mod(m:0<j)(q:Q (.int (i % j)) h):(binV h .mod (.int i) (.int j)).wp h Q:=wp_val (if_pos m) q
theorem b_pow(m:0≤j∧j≤1000000∧i.natAbs<2 ^ 64)(q:Q (.int (i ^ j.toNat)) h):(binV h .pow (.int i) (.int j)).wp h Q:=wp_val (if_pos m) q
theorem EF{z:Int}(m:0≤j∧j≤1000000∧i.natAbs<2 ^ 64)(e:i ^ j.toNat=z)(q:Q (.int z) h):(binV h .pow (.int i) (.int j)).wp h Q:=b_pow m (by rw[e];exact q)
theorem Xz(m:xs≠[]∧xs.length+ys.length≤lim)(q:Q (.tup (xs++ys)) h):(binV h .add (.tup xs) (.tup ys)).wp h Q:=wp_val (if_pos m) q
theorem Kh(e1:h a=some (.lst xs))(e2:h b=some (.lst ys))(m:(xs++ys).length≤lim)(q:new h (.lst (xs++ys)) Q):(binV h .add (.ref a) (.ref b)).wp h Q:=by refine wp_new ?_ q;show(match h a,h b with|some (.lst xs),some (.lst ys)=>Rs.lst (xs++ys)|_,_=>.no:Rs)=_;simp only[e1,e2,Rs.lst];rw[if_pos m]
theorem lsE(e1:h a=some (.lst xs)):lsOf (h a)=some xs:=by rw[e1];rfl
theorem dcE{kvs:List (Val×Val)}(e1:h a=some (.dct kvs)):dcOf (h a)=some kvs:=by rw[e1];rfl
theorem Ly{K:Int→Prop}(q:K i):go (asInt (.int i)) K:=go_of rfl q
theorem Ps{b:Bool}(q:KB b):go (asBl (.bl b)) KB:=go_of rfl q
theorem DH{K:Ad→Prop}(q:K a):go (asRef (.ref a)) K:=go_of rfl q
theorem HB{b:Bool}(q:KB b):go (Y8 h (.bl b)) KB:=go_of rfl q
theorem Pq(q:KB (decide (i≠0))):go (Y8 h (.int i)) KB:=go_of rfl q
theorem Pr(e:h a=some (.lst xs))(q:KB (!xs.isEmpty)):go (Y8 h (.ref a)) KB:=go_of (by unfold Y8;simp only[e]) q
theorem ix_tup(e:atI xs i=some v)(q:K v):go (idxV h (.tup xs) (.int i)) K:=go_of e q
theorem ZB(e1:h a=some (.lst xs))(e:atI xs i=some v)(q:K v):go (idxV h (.ref a) (.int i)) K:=go_of (by unfold idxV;simp only[e1];exact e) q
theorem Zb{kvs:List (Val×Val)}{k:Val}(e1:h a=some (.dct kvs))(hk:isKey k=true)(e:lookK kvs k=some v)(q:K v):go (idxV h (.ref a) k) K:=go_of (by unfold idxV;simp only[e1];rw[if_pos hk];exact e) q
theorem c_lt(q:KB (decide (i<j))):go (cmpV h .lt (.int i) (.int j)) KB:=go_of rfl q
theorem c_gt(q:KB (decide (j<i))):go (cmpV h .gt (.int i) (.int j)) KB:=go_of rfl q
theorem c_le(q:KB (decide (i≤j))):go (cmpV h .le (.int i) (.int j)) KB:=go_of rfl q
theorem c_ge(q:KB (decide (j≤i))):go (cmpV h .ge (.int i) (.int j)) KB:=go_of rfl q
theorem A6:D.eqv (.int i) (.int j)=decide (i=j):=by rw[D.eqv];by_cases e:i=j<;>simp[e]
theorem D6{s t:String}:D.eqv (.str s) (.str t)=decide (s=t):=by rw[D.eqv];by_cases e:s=t<;>simp[e]
theorem Lx(q:KB (decide (i=j))):go (cmpV h .eq (.int i) (.int j)) KB:=go_of (by show some (D.eqv (.int i) (.int j))=_;rw[A6]) q
theorem Id(q:KB (!decide (i=j))):go (cmpV h .ne (.int i) (.int j)) KB:=go_of (by show some (!D.eqv (.int i) (.int j))=_;rw[A6]) q
theorem H9{s t:String}(q:KB (decide (s=t))):go (cmpV h .eq (.str s) (.str t)) KB:=go_of (by show some (D.eqv (.str s) (.str t))=_;rw[D6]) q
theorem Q5{s t:String}(q:KB (!decide (s=t))):go (cmpV h .ne (.str s) (.str t)) KB:=go_of (by show some (!D.eqv (.str s) (.str t))=_;rw[D6]) q
theorem Rc{c d:Bool}(q:KB (c==d)):go (cmpV h .eq (.bl c) (.bl d)) KB:=go_of (by show some (D.eqv (.bl c) (.bl d))=_;rw[D.eqv]) q
theorem Hb(q:KB (decide (v=.non))):go (cmpV h .is v .non) KB:=go_of (by unfold cmpV;rfl) q
theorem FU(q:KB (!decide (v=.non))):go (cmpV h .isnot v .non) KB:=go_of (by unfold cmpV;rfl) q
theorem AJ{ns ms:List Int}(e1:intsOf xs=some ns)(e2:intsOf ys=some ms)(q:KB (lexI ms ns)):go (cmpV h .gt (.tup xs) (.tup ys)) KB:=go_of (by show(intsOf ys).bind _=_;rw[e1,e2];rfl) q
theorem FO{n:Nat}{env env':Env}{K:Env→Prop}(e:env.set n (some v)=env')(q:K env'):go (bind (.one n) h v env) K:=by subst e;exact go_of rfl q
theorem EU{is:List Nat}{env env':Env}{K:Env→Prop}(e:bindL is xs env=some env')(q:K env'):go (bind (.many is) h (.tup xs) env) K:=go_of e q
theorem EN{n:Nat}{K:Hs→Prop}(e1:h a=some (.lst xs))(e:ixN xs.length i=some n)(q:K (upd h a (.lst (xs.set n v)))):go (putV h (.ref a) (.int i) v) K:=go_of (by unfold putV;simp only[e1,asInt,Option.bind_some,e,Option.map_some]) q
theorem ZO{K:Hs→Prop}{kvs:List (Val×Val)}{k:Val}(e1:h a=some (.dct kvs))(m:isKey k=true∧kvs.length<lim)(q:K (upd h a (.dct (putK kvs k v)))):go (putV h (.ref a) k v) K:=go_of (by unfold putV;simp only[e1];rw[if_pos m]) q
theorem Mb{kvs:List (Val×Val)}(e1:h a=some (.dct kvs))(hk:isKey v=true)(q:KB (hasK kvs v)):go (cmpV h .isin v (.ref a)) KB:=go_of (by show inV h v (.ref a)=_;unfold inV;simp only[e1];rw[if_pos hk]) q
theorem Me{kvs:List (Val×Val)}(e1:h a=some (.dct kvs))(hk:isKey v=true)(q:KB (!hasK kvs v)):go (cmpV h .notin v (.ref a)) KB:=go_of (by show(inV h v (.ref a)).map _=_;unfold inV;simp only[e1];rw[if_pos hk];rfl) q
theorem YC{C f:String}{fs:List (String×Val)}{K:Hs→Prop}(e1:h a=some (.ins C fs))(m:fs.length<900)(q:K (upd h a (.ins C (putF fs f v)))):go (putFV h (.ref a) f v) K:=go_of (by unfold putFV;simp only[e1];rw[if_pos m]) q
theorem FY{C f:String}{fs:List (String×Val)}(e1:h a=some (.ins C fs))(e:fs.lookup f=some v)(q:K v):go (fldV h (.ref a) f) K:=go_of (by unfold fldV asRef;simp only[e1,insOf,Option.bind_some];exact e) q
theorem FE{C m:String}{fs:List (String×Val)}{P:Prop}(e1:h a=some (.ins C fs))(e:fs.lookup m=none)(q:P):clsV h (.ref a) m=some C∧P:=⟨by unfold clsV asRef;simp only[e1,insOf,Option.bind_some,e,Option.isNone_none,if_true],q⟩
theorem Gp(q:K (.int (i+j))):go (augV .add (.int i) (.int j)) K:=go_of rfl q
theorem FL(e1:h a=some (.lst xs))(q:Q (.int xs.length) h):(biV h .len [.ref a]).wp h Q:=wp_val (by show lenV h (.ref a)=_;unfold lenV;dsimp only;rw[e1]) q
theorem Qs{ns:List Int}(q:Q (.int ns.length) h):(biV h .len [.scr ns]).wp h Q:=wp_val rfl q
theorem FQ(q:Q (.int xs.length) h):(biV h .len [.tup xs]).wp h Q:=wp_val rfl q
theorem P5{s:String}(q:Q (.str s) h):(biV h .str [.str s]).wp h Q:=wp_val rfl q
theorem in_str{s:String}(m:s.length≤640∧s.toList≠[]∧s.toList.all figB=true)(q:Q (.int (decN s.toList)) h):(biV h .int [.str s]).wp h Q:=wp_val (if_pos m) q
theorem L6(q:Q (.int (if i<0 then -i else i)) h):(biV h .abs [.int i]).wp h Q:=wp_val rfl q
theorem Ra{K:String→Prop}{s:String}(q:K s):go (WQ (.str s)) K:=go_of rfl q
theorem QF{m:Bm}{P:Prop}{s:String}(hm:m=.join)(q:P):bmTy h m (.str s)=true∧P:=⟨by subst hm;rfl,q⟩
theorem Ff{K:(Hs→Prop)×List Val→Prop}(e1:h a=some (.lst xs))(e2:h b=some (.lst ys))(q:K (fun g=>lsOf (g a)=some xs∧lsOf (g b)=some ys,zipL xs ys)):go (N3 h (.ref a) (.ref b)) K:=go_of (by unfold N3;simp only[e1,e2,lsOf,Option.bind_some,Option.map_some]) q
theorem GG{K:(Hs→Prop)×List Val→Prop}(q:K (fun _=>True,zipL xs ys)):go (N3 h (.tup xs) (.tup ys)) K:=go_of rfl q
theorem QQ(q:Q (.int i) h):(biV h .int [.int i]).wp h Q:=wp_val rfl q
theorem Re{c:Bool}(q:Q (.int (if c then 1 else 0)) h):(biV h .int [.bl c]).wp h Q:=wp_val rfl q
theorem mn2(q:Q (.int (if j<i then j else i)) h):(biV h .min2 [.int i,.int j]).wp h Q:=wp_val rfl q
theorem mx2(q:Q (.int (if j > i then j else i)) h):(biV h .max2 [.int i,.int j]).wp h Q:=wp_val rfl q
theorem PH(e1:h a=some (.lst xs))(q:Q (.tup xs) h):(biV h .tuple [.ref a]).wp h Q:=wp_val (by show JW h (.ref a)=_;unfold JW;dsimp only;rw[e1]) q
theorem QH(q:Q (.tup xs) h):(biV h .tuple [.tup xs]).wp h Q:=wp_val rfl q
theorem Mv{Ts:List String}{c:Bool}(e:isiAny h v Ts=some c)(q:Q (.bl c) h):(biV h (.isi Ts) [v]).wp h Q:=wp_val (by show Rs.ofO ((isiAny h v Ts).map .bl)=_;rw[e];rfl) q
theorem QB(e1:h a=some (.lst xs))(q:new h (.lst xs) Q):(biV h .list [.ref a]).wp h Q:=wp_new (by show toList h (.ref a)=_;unfold toList;dsimp only;rw[e1]) q
theorem Pb(q:new h (.lst xs) Q):(biV h .list [.tup xs]).wp h Q:=wp_new rfl q
theorem sl_tup{lo hi:Option Int}(n:¬ (cutAt xs.length 0 lo=0∧cutAt xs.length xs.length hi=xs.length))(q:Q (.tup (cut xs lo hi)) h):(slcV h (.tup xs) lo hi).wp h Q:=wp_val (by unfold slcV;simp only;rw[if_neg n]) q
theorem Fz{m:Bm}{P:Prop}(hm:m.ty=.l∨m.ty=.t)(e:h a=some (.lst xs))(q:P):bmTy h m (.ref a)=true∧P:=⟨by unfold bmTy;rcases hm with hm|hm<;>rw[hm]<;>simp[Wt,e,isLst],q⟩
theorem Ei{m:Bm}{P:Prop}{kvs:List (Val×Val)}(hm:m.ty=.d)(e:h a=some (.dct kvs))(q:P):bmTy h m (.ref a)=true∧P:=⟨by unfold bmTy;rw[hm];simp[Wt,e,isDct],q⟩
theorem FD{ns:List Int}(e1:h a=some (.lst (ns.map Val.int)))(e2:intsOf (ns.map Val.int)=some ns)(m:ns.length<64)(q:new h (.lst ((sortI ns).map Val.int)) Q):(biV h .sorted [.ref a]).wp h Q:=wp_new (by show biSorted h (.ref a)=_;unfold biSorted sortAny;simp only[e1,e2];exact if_pos m) q
theorem MS{kvs:List (Val×Val)}{ns:List Int}(e1:h a=some (.dct kvs))(e2:keysOf kvs=some ns)(m:ns.length<64)(q:new h (.lst ((sortI ns).map Val.int)) Q):(biV h .sorted [.ref a]).wp h Q:=wp_new (by show biSorted h (.ref a)=_;unfold biSorted sortAny;simp only[e1,e2];exact if_pos m) q
theorem CQ{rows:List (List Int)}(e1:h a=some (.lst xs))(e0:intsOf xs=none)(e2:rowsOf xs=some rows)(m:rows.length<64∧(rows.all fun r=>!r.isEmpty)=true)(q:new h (.lst ((sortR rows).map fun r=>.tup (r.map .int))) Q):(biV h .sorted [.ref a]).wp h Q:=wp_new (by show biSorted h (.ref a)=_;unfold biSorted sortAny;simp only[e1,e0];unfold biSortedR rowsAt;simp only[e1,lsOf,Option.bind_some,e2];exact if_pos m) q
theorem F8(e1:h a=some (.lst []))(q:Q .non h):(biV h .minD [.ref a]).wp h Q:=wp_val (by show biMinD h (.ref a)=_;unfold biMinD;simp only[e1,lsOf,Option.bind_some,rowsOf]) q
theorem BE{x:List Int}{r:List (List Int)}(e1:h a=some (.lst xs))(e2:rowsOf xs=some (x::r))(q:Q (.tup ((minR x r).map Val.int)) h):(biV h .minD [.ref a]).wp h Q:=wp_val (by show biMinD h (.ref a)=_;unfold biMinD;simp only[e1,lsOf,Option.bind_some,e2]) q
theorem sl_str{s:String}{lo hi:Option Int}(n:s.length≤lim)(q:Q (.str (String.ofList (cut s.toList lo hi))) h):(slcV h (.str s) lo hi).wp h Q:=wp_val (by unfold slcV;simp only;rw[if_pos n]) q
theorem P1{lo hi:Option Int}(e1:h a=some (.lst xs))(q:new h (.lst (cut xs lo hi)) Q):(slcV h (.ref a) lo hi).wp h Q:=wp_new (by unfold slcV;simp only[e1,lsOf]) q
theorem GN{ns:List Int}{lo hi:Option Int}(q:new h (.lst (cut (ns.map Val.int) lo hi)) Q):(slcV h (.scr ns) lo hi).wp h Q:=wp_new rfl q
theorem ZW{K:Val×Hs→Prop}(e1:h a=some (.lst xs))(m:xs.length<lim)(q:K (.non,upd h a (.lst (xs++[v])))):go (bmV h .append (.ref a) [v]) K:=go_of (by show(lsOf (h a)).bind _=_;rw[lsE e1];exact if_pos m) q
theorem FP{K:Val×Hs→Prop}{kvs:List (Val×Val)}(e1:h a=some (.dct kvs))(hk:isKey v=true)(q:K ((lookK kvs v).getD .non,h)):go (bmV h .dget (.ref a) [v]) K:=go_of (by show(dcOf (h a)).bind _=_;rw[dcE e1];exact if_pos hk) q
theorem it_lst{K:(Hs→Prop)×List Val→Prop}(e1:h a=some (.lst xs))(q:K (fun g=>lsOf (g a)=some xs,xs)):go (itV h (.ref a)) K:=go_of (by unfold itV;simp only[e1,lsOf,Option.map_some]) q
theorem it_scr{ns:List Int}{K:(Hs→Prop)×List Val→Prop}(q:K (fun _=>True,ns.map Val.int)):go (itV h (.scr ns)) K:=go_of rfl q
theorem it_tup{K:(Hs→Prop)×List Val→Prop}(q:K (fun _=>True,xs)):go (itV h (.tup xs)) K:=go_of rfl q
theorem QK{K:List Val→Prop}(q:K xs):go (YX h (.tup xs)) K:=go_of rfl q
theorem QE{K:List Val→Prop}(e1:h a=some (.lst xs))(q:K xs):go (YX h (.ref a)) K:=go_of (by unfold YX;simp only[e1,lsOf]) q
theorem ifT{c:Bool}{A B:Prop}(e:c=true)(q:A):if c=true then A else B:=by rw[if_pos e];exact q
theorem ifF{c:Bool}{A B:Prop}(e:c=false)(q:B):if c=true then A else B:=by rw[if_neg (by rw[e];decide)];exact q
theorem ifD{c:Bool}{A B:Prop}(q:c=true→A)(r:c=false→B):if c=true then A else B:=by cases c;exact r rfl;exact q rfl
theorem ifP{p:Prop}[Decidable p]{A B:Prop}(q:p→A)(r:¬p→B):if decide p=true then A else B:=by
 by_cases e:p
 ·rw[if_pos (decide_eq_true e)];exact q e
 ·rw[if_neg (by simpa using e)];exact r e
theorem KC{p:Prop}[Decidable p]{A B:Prop}(q:¬p→A)(r:p→B):if(!decide p)=true then A else B:=by
 by_cases e:p
 ·rw[if_neg (by simpa using e)];exact r e
 ·rw[if_pos (by simpa using e)];exact q e
end
structure Ext (h g:Hs):Prop where
 get:∀ {a:Ad}{o:Ob},h a=some o→g a=some o
theorem Ext.refl{h:Hs}:Ext h h:=⟨fun e=>e⟩
theorem Ext.trans{h g k:Hs}(e:Ext h g)(f:Ext g k):Ext h k:=⟨fun x=>f.get (e.get x)⟩
theorem Ext.new{h:Hs}{p:Ad}{o:Ob}(e:h p=none):Ext h (upd h p o):=⟨fun {a u} x=>by
  rw[upd_ne (by intro z;rw[z,e]at x;cases x)];exact x⟩
structure ExtB (w:Ad) (h g:Hs):Prop where
 get:∀ {a:Ad}{o:Ob},a≠w→h a=some o→g a=some o
theorem ExtB.refl{h:Hs}{w:Ad}:ExtB w h h:=⟨fun _ e=>e⟩
theorem ExtB.trans{h g k:Hs}{w:Ad}(e:ExtB w h g)(f:ExtB w g k):ExtB w h k:=⟨fun n x=>f.get n (e.get n x)⟩
theorem ExtB.upd{h:Hs}{w:Ad}{o:Ob}:ExtB w h (upd h w o):=⟨fun n x=>by rw[upd_ne n];exact x⟩
theorem ExtB.of{h g:Hs}{w:Ad}(e:Ext h g):ExtB w h g:=⟨fun _ x=>e.get x⟩
theorem Za{h:Hs}{a p:Ad}{o:Ob}(x:h a=some o)(n:h p=none):a≠p:=by intro z;rw[z,n]at x;cases x
theorem ne_none'{h:Hs}{a p:Ad}{o:Ob}(n:h p=none)(x:h a=some o):a≠p:=Za x n
theorem upd_ne'{h:Hs}{a b:Ad}{o:Ob}{r:Option Ob}(n:b≠a)(e:h b=r):upd h a o b=r:=by rw[upd_ne n];exact e
theorem ZJ{st:Hs→Prop}{W:Val→Env→Hs→NQ→NQ→Prop}{N:NQ}(I:Nat→Env→Hs→Prop){xs:List Val}{env:Env}{h:Hs}(h0:I 0 env h)(hst:∀ i e g,i≤xs.length→I i e g→st g)
  (step:∀ i v e g,xs[i]?=some v→I i e g→∀ K:NQ,(∀ e' g',I (i+1) e' g'→K e' g')→W v e g K N) (fin:∀ e g,I xs.length e g→N e g):wFor st W N xs env h:=by
 have key:∀ (ys:List Val) (i:Nat) e g,xs.drop i=ys→i≤xs.length→I i e g→wFor st W N ys e g:=by
  intro ys;induction ys with
  |nil =>
   intro i e g hd hi hI;have:i=xs.length:=by have:=congrArg List.length hd;simp at this;omega
   subst this;exact⟨hst _ e g (Nat.le_refl _) hI,fin e g hI⟩
  |cons v vs ih =>
   intro i e g hd hi hI;have hlt:i<xs.length:=by have:=congrArg List.length hd;simp at this;omega
   have hv:xs[i]?=some v:=by have:=congrArg (fun l=>l[0]?) hd;simpa using this
   refine⟨hst i e g hi hI,step i v e g hv hI _ fun e' g' hI'=>ih (i+1) e' g' ?_ (by omega) hI'⟩;have:=congrArg List.tail hd;simpa using this
 exact key xs 0 env h (by simp) (by omega) h0
theorem Ap{st:Hs→Prop}{step:Val→Hs→(Option Val→Hs→Prop)→XQ→Prop}{Q:List Val→Hs→Prop}{X:XQ}(I:Nat→List Val→Hs→Prop){xs:List Val}{h:Hs}(h0:I 0 [] h)(hst:∀ i ys g,i≤xs.length→I i ys g→st g)
  (go:∀ i v ys g,xs[i]?=some v→I i ys g→∀ K,(∀ r g',I (i+1) (ys++r.toList) g'→K r g')→step v g K X) (fin:∀ ys g,I xs.length ys g→Q ys g):wComp st step xs [] h Q X:=by
 have key:∀ (zs:List Val) (i:Nat) ys g,xs.drop i=zs→i≤xs.length→I i ys g→wComp st step zs ys g Q X:=by
  intro zs;induction zs with
  |nil =>
   intro i ys g hd hi hI;have:i=xs.length:=by have:=congrArg List.length hd;simp at this;omega
   subst this;exact⟨hst _ ys g (Nat.le_refl _) hI,fin ys g hI⟩
  |cons v vs ih =>
   intro i ys g hd hi hI;have hlt:i<xs.length:=by have:=congrArg List.length hd;simp at this;omega
   have hv:xs[i]?=some v:=by have:=congrArg (fun l=>l[0]?) hd;simpa using this
   refine⟨hst i ys g hi hI,go i v ys g hv hI _ fun r g' hI'=>ih (i+1) _ g' ?_ (by omega) hI'⟩;have:=congrArg List.tail hd;simpa using this
 exact key xs 0 [] h (by simp) (by omega) h0
theorem YN{st:Hs→Prop}{step:Val→Hs→(Option Val→Hs→Prop)→XQ→Prop}{Q:List Val→Hs→Prop}{X:XQ}(f:Val→Option Val){xs:List Val}{h:Hs}(hst:st h)
  (go:∀ v∈xs,∀ K,K (f v) h→step v h K X) (fin:Q (xs.filterMap f) h):wComp st step xs [] h Q X:=by
 have key:∀ (zs ys:List Val),(∀ v∈zs,v∈xs)→Q (ys++zs.filterMap f) h→wComp st step zs ys h Q X:=by
  intro zs;induction zs with
  |nil=>intro ys _ q;exact⟨hst,by simpa using q⟩
  |cons v vs ih =>
   intro ys hm q;refine⟨hst,go v (hm v (by simp)) _ (ih _ (fun w hw=>hm w (by simp[hw])) ?_)⟩;cases e:f v with
   |none=>simpa[List.filterMap_cons,e]using q
   |some u=>simpa[List.filterMap_cons,e]using q
 exact key xs [] (fun _ h=>h) (by simpa using fin)
section
variable {Φ:Fs}{env:Env}{h:Hs}{Q:Q1}{X:XQ}{a b c e o:E}{as:Es}{v u:Val}
theorem q_e_cst:(wE Φ (.cst v) env h Q X)=(Q v h):=by simp only[wE_eq,Zf,Zd,Ze,Zc];rfl
theorem q_e_glob{x:String}:(wE Φ (.glob x v) env h Q X)=(Q v h):=by simp only[wE_eq,Zf,Zd,Ze,Zc];rfl
theorem q_e_bin{op:Bop}:(wE Φ (.bin op a b) env h Q X)=(wE Φ a env h (fun v h1=>wE Φ b env h1 (fun u h2=>(binV h2 op v u).wp h2 Q) X) X):=by simp only[wE_eq,Zf,Zd,Ze,Zc];rfl
theorem q_e_neg:(wE Φ (.neg a) env h Q X)=(wE Φ a env h (fun v h1=>go (asInt v) fun i=>Q (.int (-i)) h1) X):=by simp only[wE_eq,Zf,Zd,Ze,Zc];rfl
theorem q_e_not:(wE Φ (.not a) env h Q X)=(wE Φ a env h (fun v h1=>go (asBl v) fun b=>Q (.bl (!b)) h1) X):=by simp only[wE_eq,Zf,Zd,Ze,Zc];rfl
theorem q_e_and:(wE Φ (.and a b) env h Q X)=(wE Φ a env h (fun v h1=>go (asBl v) fun c=>if c=true then wE Φ b env h1 Q X else Q (.bl false) h1) X):=by simp only[wE_eq,Zf,Zd,Ze,Zc];rfl
theorem q_e_or:(wE Φ (.or a b) env h Q X)=(wE Φ a env h (fun v h1=>go (asBl v) fun c=>if c=true then Q (.bl true) h1 else wE Φ b env h1 Q X) X):=by simp only[wE_eq,Zf,Zd,Ze,Zc];rfl
theorem q_e_cmp{op:Cop}:(wE Φ (.cmp op a b) env h Q X)=(wE Φ a env h (fun v h1=>wE Φ b env h1 (fun u h2=>go (cmpV h2 op v u) fun c=>Q (.bl c) h2) X) X):=by simp only[wE_eq,Zf,Zd,Ze,Zc];rfl
theorem q_e_chain{o1 o2:Cop}:(wE Φ (.chain o1 o2 a b c) env h Q X)=(wE Φ a env h (fun v h1=>wE Φ b env h1 (fun u h2=>go (cmpV h2 o1 v u) fun k=>if k=true then wE Φ c env h2 (fun w h3=>go (cmpV h3 o2 u w) fun k2=>Q (.bl k2) h3) X else Q (.bl false) h2) X) X):=by simp only[wE_eq,Zf,Zd,Ze,Zc];rfl
theorem q_e_call{f:String}:(wE Φ (.call f as) env h Q X)=(wA Φ as env h (fun vs h1=>Φ f vs h1 Q X) X):=by simp only[wE_eq,Zf,Zd,Ze,Zc];rfl
theorem q_e_make {C:String}:(wE Φ (.make C as) env h Q X)=(wA Φ as env h (fun vs h1=>∀ p,h1 p=none→Φ (C ++ ".__init__") (.ref p::vs) (upd h1 p (.ins C [])) (fun v h2=>v=.non∧Q (.ref p) h2) X) X):=by simp only[wE_eq,Zf,Zd,Ze,Zc];rfl
theorem q_e_meth {C m:String}:(wE Φ (.meth C m o as) env h Q X)=(wE Φ o env h (fun v h1=>clsV h1 v m=some C∧wA Φ as env h1 (fun vs h2=>Φ (C ++ "." ++ m) (v::vs) h2 Q X) X) X):=by simp only[wE_eq,Zf,Zd,Ze,Zc];rfl
theorem q_e_fld{f:String}:(wE Φ (.fld o f) env h Q X)=(wE Φ o env h (fun v h1=>go (fldV h1 v f) fun u=>Q u h1) X):=by simp only[wE_eq,Zf,Zd,Ze,Zc];rfl
theorem q_e_bi{f:Bi}:(wE Φ (.bi f as) env h Q X)=(wA Φ as env h (fun vs h1=>(biV h1 f vs).wp h1 Q) X):=by simp only[wE_eq,Zf,Zd,Ze,Zc];rfl
theorem q_e_bm{m:Bm}:(wE Φ (.bm m o as) env h Q X)=(wE Φ o env h (fun v h1=>bmTy h1 m v=true∧wA Φ as env h1 (fun vs h2=>go (bmV h2 m v vs) fun r=>Q r.1 r.2) X) X):=by simp only[wE_eq,Zf,Zd,Ze,Zc];rfl
theorem q_e_idx{i:E}:(wE Φ (.idx a i) env h Q X)=(wE Φ a env h (fun v h1=>wE Φ i env h1 (fun k h2=>go (idxV h2 v k) fun u=>Q u h2) X) X):=by simp only[wE_eq,Zf,Zd,Ze,Zc];rfl
theorem q_e_slc{lo hi:Oe}:(wE Φ (.slc a lo hi) env h Q X)=(wE Φ a env h (fun v h1=>wO Φ lo env h1 (fun l h2=>wO Φ hi env h2 (fun u h3=>(slcV h3 v l u).wp h3 Q) X) X) X):=by simp only[wE_eq,Zf,Zd,Ze,Zc];rfl
theorem q_e_tup{es:Es}:(wE Φ (.tup es) env h Q X)=(wA Φ es env h (fun vs h1=>Q (.tup vs) h1) X):=by simp only[wE_eq,Zf,Zd,Ze,Zc];rfl
theorem q_e_lst{es:Es}:(wE Φ (.lst es) env h Q X)=(wA Φ es env h (fun vs h1=>new h1 (.lst vs) Q) X):=by simp only[wE_eq,Zf,Zd,Ze,Zc];rfl
theorem q_e_dct{es:Es}:(wE Φ (.dct es) env h Q X)=(new h (.dct []) fun r h1=>go (asRef r) fun p=>wA Φ es env h1 (fun vs h2=>go (pairUp vs) fun kvs=>h2 p=some (.dct [])∧Q (.ref p) (upd h2 p (.dct (putAll [] kvs)))) X):=by simp only[wE_eq,Zf,Zd,Ze,Zc];rfl
theorem q_e_ife{t:Tt}:(wE Φ (.ife t a b) env h Q X)=(wT Φ t env h (fun k h1=>if k=true then wE Φ a env h1 Q X else wE Φ b env h1 Q X) X):=by simp only[wE_eq,Zf,Zd,Ze,Zc];rfl
theorem q_e_comp{caps:List Nat}{n:Nat}{p:Pt}{it:It}{t:Tt}:(wE Φ (.comp caps n p it t e) env h Q X)=(wI Φ it env h (fun st xs h1=>xs.length<lim∧wComp st (fun v h2 K X2=>go (bind p h2 v (List.replicate n none++caps.map fun j=>(env[j]?).getD none)) fun env2=>  wT Φ t env2 h2 (fun k h3=>if k=true then wE Φ e env2 h3 (fun u h4=>K (some u) h4) X2 else K none h3) X2) xs [] h1 (fun ys h5=>new h5 (.lst ys) Q) fun _ _=>False) X):=by simp only[wE_eq,Zf,Zd,Ze,Zc];rfl
theorem q_j_nil{acc:String}{QJ:String→Hs→Prop}:(wJ Φ .nil env h acc QJ X)=QJ acc h:=by rw[Kw];rfl
theorem q_j_cons{es:Es}{acc:String}{QJ:String→Hs→Prop}:(wJ Φ (.cons e es) env h acc QJ X)=(wE Φ e env h (fun v h1=>go (fmtV v) fun s=>acc.length+s.length≤lim∧wJ Φ es env h1 (acc++s) QJ X) X):=by simp only[wE_eq,Kw];rfl
variable {QA:List Val→Hs→Prop}{QO:Option Int→Hs→Prop}{QT:Bool→Hs→Prop}{QI:(Hs→Prop)→List Val→Hs→Prop}
theorem q_a_nil:(wA Φ .nil env h QA X)=(QA [] h):=by simp only[wE_eq,Zf,Zd,Ze,Zc];rfl
theorem q_a_cons{es:Es}:(wA Φ (.cons e es) env h QA X)=(wE Φ e env h (fun v h1=>wA Φ es env h1 (fun vs h2=>QA (v::vs) h2) X) X):=by simp only[wE_eq,Zf,Zd,Ze,Zc];rfl
theorem q_o_none:(wO Φ .none env h QO X)=(QO none h):=by simp only[wE_eq,Zf,Zd,Ze,Zc];rfl
theorem q_o_some:(wO Φ (.some e) env h QO X)=(wE Φ e env h (fun v h1=>go (asInt v) fun i=>QO (some i) h1) X):=by simp only[wE_eq,Zf,Zd,Ze,Zc];rfl
theorem q_t_yes:(wT Φ .yes env h QT X)=(QT true h):=by simp only[wE_eq,Zf,Zd,Ze,Zc];rfl
theorem q_t_val:(wT Φ (.val e) env h QT X)=(wE Φ e env h (fun v h1=>go (Y8 h1 v) fun k=>QT k h1) X):=by simp only[wE_eq,Zf,Zd,Ze,Zc];rfl
theorem q_t_not{t:Tt}:(wT Φ (.not t) env h QT X)=(wT Φ t env h (fun k h1=>QT (!k) h1) X):=by simp only[wE_eq,Zf,Zd,Ze,Zc];rfl
theorem q_t_and{s t:Tt}:(wT Φ (.and s t) env h QT X)=(wT Φ s env h (fun k h1=>if k=true then wT Φ t env h1 QT X else QT false h1) X):=by simp only[wE_eq,Zf,Zd,Ze,Zc];rfl
theorem q_t_or{s t:Tt}:(wT Φ (.or s t) env h QT X)=(wT Φ s env h (fun k h1=>if k=true then QT true h1 else wT Φ t env h1 QT X) X):=by simp only[wE_eq,Zf,Zd,Ze,Zc];rfl
theorem q_i_seq:(wI Φ (.seq e) env h QI X)=(wE Φ e env h (fun v h1=>go (itV h1 v) fun p=>QI p.1 p.2 h1) X):=by simp only[wE_eq,Zf,Zd,Ze,Zc];rfl
theorem q_i_range:(wI Φ (.range a) env h QI X)=(wE Φ a env h (fun v h1=>go (asInt v) fun n=>(-(2 ^ 62)≤n∧n<2 ^ 62)∧QI (fun _=>True) (rangeV 0 n) h1) X):=by simp only[wE_eq,Zf,Zd,Ze,Zc];rfl
theorem q_i_zip:(wI Φ (.zip a b) env h QI X)=(wE Φ a env h (fun v h1=>wE Φ b env h1 (fun u h2=>go (N3 h2 v u) fun p=>QI p.1 p.2 h2) X) X):=by simp only[wE_eq,Zf,Zd,Ze,Zc];rfl
end
section
variable {Φ:Fs}{env:Env}{h:Hs}{N B C:NQ}{R:Q1}{X:EQ}{a b c e o i:E}{as:Es}{v u:Val}{t:Tt}{s1 s2:Ss}{s:S}{p:Pt}{it:It}{hs:Hn}
theorem q_s_set:(wS Φ (.set p e) env h N R B C X)=(wE Φ e env h (fun v h1=>go (bind p h1 v env) fun env2=>N env2 h1) (X env)):=by simp only[Zs,Zk,Zt];rfl
theorem q_s_setIdx:(wS Φ (.setIdx a i e) env h N R B C X)=(wE Φ e env h (fun v h1=>wE Φ a env h1 (fun o h2=>wE Φ i env h2 (fun k h3=>go (putV h3 o k v) fun g=>N env g) (X env)) (X env)) (X env)):=by simp only[Zs,Zk,Zt];rfl
theorem q_s_setFld{f:String}:(wS Φ (.setFld o f e) env h N R B C X)=(wE Φ e env h (fun v h1=>wE Φ o env h1 (fun u h2=>go (putFV h2 u f v) fun g=>N env g) (X env)) (X env)):=by simp only[Zs,Zk,Zt];rfl
theorem q_s_augFld{f:String}{op:Bop}{n:Int}:(wS Φ (.augFld o f op n) env h N R B C X)=(wE Φ o env h (fun u h1=>go (fldV h1 u f) fun x=>go (augV op x (.int n)) fun y=>go (putFV h1 u f y) fun g=>N env g) (X env)):=by simp only[Zs,Zk,Zt];rfl
theorem q_s_expr:(wS Φ (.expr e) env h N R B C X)=(wE Φ e env h (fun _ h1=>N env h1) (X env)):=by simp only[Zs,Zk,Zt];rfl
theorem q_s_ret:(wS Φ (.ret e) env h N R B C X)=(wE Φ e env h R (X env)):=by simp only[Zs,Zk,Zt];rfl
theorem q_s_retN:(wS Φ .retN env h N R B C X)=(R .non h):=by simp only[Zs,Zk,Zt];rfl
theorem q_s_ite:(wS Φ (.ite t s1 s2) env h N R B C X)=(wT Φ t env h (fun k h1=>if k=true then wSs Φ s1 env h1 N R B C X else wSs Φ s2 env h1 N R B C X) (X env)):=by simp only[Zs,Zk,Zt];rfl
theorem q_s_for:(wS Φ (.for p it s1) env h N R B C X)=(wI Φ it env h (fun st xs h1=>wFor st (fun v e g K M=>go (bind p g v e) fun e2=>wSs Φ s1 e2 g K R M K X) N xs env h1) (X env)):=by simp only[Zs,Zk,Zt];rfl
theorem q_s_forI{k:Bool}:(wS Φ (.forI k p e s1) env h N R B C X)=(wE Φ e env h (fun v h1=>go (asRef v) fun a=>go (dcOf (h1 a)) fun kvs =>
      wFor (fun g=>g a=some (.frz kvs)) (fun v e g K M=>go (bind p g v e) fun e2=>wSs Φ s1 e2 g K (fun u g2=>g2 a=some (.frz kvs)∧R u (upd g2 a (.dct kvs))) M K fun _ _ _=>False)
        (fun e g=>g a=some (.frz kvs)∧N e (upd g a (.dct kvs))) (kvs.map (itemOf k)) env (upd h1 a (.frz kvs))) (X env)):=by simp only[Zs,Zk,Zt];rfl
theorem q_s_never:(wS Φ .never env h N R B C X)=False:=by simp only[Zs];rfl
theorem q_ss_nil:(wSs Φ .nil env h N R B C X)=(N env h):=by simp only[Zs,Zk,Zt];rfl
theorem q_ss_cons{ss:Ss}:(wSs Φ (.cons s ss) env h N R B C X)=(wS Φ s env h (fun e g=>wSs Φ ss e g N R B C X) R B C X):=by simp only[Zs,Zk,Zt];rfl
end
mutual
theorem D.eqv_refl:∀ d:D,D.eqv d d=true
 |.non=>by simp[D.eqv]
 |.bl _=>by simp[D.eqv]
 |.int _=>by simp[D.eqv]
 |.str _=>by simp[D.eqv]
 |.tup ds=>by simp only[D.eqv];exact D.eqvs_refl ds
 |.lst ds=>by simp only[D.eqv];exact D.eqvs_refl ds
theorem D.eqvs_refl:∀ ds:List D,D.eqvs ds ds=true
 |[]=>by simp[D.eqvs]
 |d::ds=>by simp only[D.eqvs,D.eqv_refl d,D.eqvs_refl ds,Bool.and_self]
end
theorem YS{α:Type}{o:Option α}{k k':α→Prop}(h:go o k)(f:∀ a,k a→k' a):go o k':=by
 cases o with
 |none=>rw[Cv]at h;exact h.elim
 |some a=>rw[go_some]at h ⊢;exact f a h
section
variable {Φ:Fs}{env:Env}{h:Hs}{Q:Q1}{X:XQ}{a:Ad}{v:Val}{kvs:List (Val×Val)}
theorem E7(q:∀ p,h p=none→Q (.ref p) (upd h p (.dct []))):wE Φ (.dct .nil) env h Q X:=by refine DR (Zh fun p hp=>DH (D9 (go_of rfl ⟨upd_same,?_⟩)));rw[upd_upd];exact q p hp
theorem Hg{K:List (Val×Val)→Prop}(e1:h a=some (.dct kvs))(q:K kvs):go (dcOf (h a)) K:=go_of (dcE e1) q
theorem E8{K:Val→Prop}{k u:Val}(e1:h a=some (.frz kvs))(hk:isKey k=true)(e:lookK kvs k=some u)(q:K u):go (idxV h (.ref a) k) K:=go_of (by unfold idxV;simp only[e1];rw[if_pos hk];exact e) q
theorem MX{K:Val×Hs→Prop}{u:Val}(e1:h a=some (.dct kvs))(hk:isKey v=true)(e2:lookK kvs v=some u)(q:K (u,upd h a (.dct (dropK kvs v)))):go (bmV h .dpop (.ref a) [v]) K:=go_of (by show(dcOf (h a)).bind _=_;rw[dcE e1];show(if isKey v then _ else _)=_;rw[if_pos hk,e2];rfl) q
theorem NX{K:Val×Hs→Prop}{u:Val}(e1:h a=some (.dct kvs))(hk:isKey v=true)(q:K ((lookK kvs v).getD u,upd h a (.dct (dropK kvs v)))):go (bmV h .dpopD (.ref a) [v,u]) K:=go_of (by show(dcOf (h a)).bind _=_;rw[dcE e1];exact if_pos hk) q
end
end Own
namespace Snd
open PySem L2
def KT (K:PySem.W.Frag) (a:Addr) (xs:List V):Prop :=
 ∃ (o:Obj) (its:Array Value) (n:Nat),K.lookup a=some o∧o.cls=.type "tuple"∧o.data=.seq its n∧its.size≤sizeLine∧Vals xs its.toList
def KL (K:PySem.W.Frag) (a:Addr) (xs:List V):Prop :=
 ∃ (o:Obj) (its:Array Value) (n:Nat),K.lookup a=some o∧o.cls=.type "list"∧o.dict=none∧o.data=.seq its n∧its.size≤sizeLine∧Vals xs its.toList
mutual
inductive RV (K:PySem.W.Frag) (H:Hp):Own.Val→V→Prop
 |non:RV K H .non .non
 |bl (b:Bool):RV K H (.bl b) (.bl b)
 |int (i:Int):RV K H (.int i) (.int i)
 |str (s:String):RV K H (.str s) (.str (Str.ofString s))
 |tup {xs:List Own.Val}{a:Addr}{vs:List V}:(H a=some (.tup vs)∨KT K a vs)→RVs K H xs vs→RV K H (.tup xs) (.ref a)
 |ref (a:Addr):RV K H (.ref a) (.ref a)
 |scr {ns:List Int}{a:Addr}:((∃ o,H a=some (.frz o (.lst (ns.map V.int))))∨KL K a (ns.map V.int))→RV K H (.scr ns) (.ref a)
inductive RVs (K:PySem.W.Frag) (H:Hp):List Own.Val→List V→Prop
 |nil:RVs K H [] []
 |cons {v:Own.Val}{x:V}{vs:List Own.Val}{xs:List V}:RV K H v x→RVs K H vs xs→RVs K H (v::vs) (x::xs)
end
structure Keep (H H':Hp):Prop where
 t:∀ a xs,H a=some (.tup xs)→H' a=some (.tup xs)
 f:∀ a o u,H a=some (.frz o u)→H' a=some (.frz o u)
theorem Keep.refl(H:Hp):Keep H H:=⟨fun _ _ e=>e,fun _ _ _ e=>e⟩
theorem Keep.trans{H H1 H2:Hp}(a:Keep H H1)(b:Keep H1 H2):Keep H H2:=⟨fun c xs e=>b.t c xs (a.t c xs e),fun c o u e=>b.f c o u (a.f c o u e)⟩
theorem Keep.put{H:Hp}{a:Addr}{o:HO}(h:∀ xs,H a≠some (.tup xs))(h2:∀ p u,H a≠some (.frz p u)):Keep H (upd H a o):=⟨fun b xs e=>by
  rw[upd_ne (by rintro rfl;exact h xs e)];exact e,fun b p u e=>by rw[upd_ne (by rintro rfl;exact h2 p u e)];exact e⟩
theorem Keep.new{H:Hp}{a:Addr}{o:HO}(h:H a=none):Keep H (upd H a o):=Keep.put (fun xs e=>by rw[h]at e;cases e) fun p u e=>by rw[h]at e;cases e
variable {K:PySem.W.Frag}{H H':Hp}
mutual
theorem RV.keep(k:Keep H H'):∀ {v:Own.Val}{x:V},RV K H v x→RV K H' v x
 |_,_,.non=>.non
 |_,_,.bl b=>.bl b
 |_,_,.int i=>.int i
 |_,_,.str s=>.str s
 |_,_,.tup (.inl e) r=>.tup (.inl (k.t _ _ e)) (RVs.keep k r)
 |_,_,.tup (.inr e) r=>.tup (.inr e) (RVs.keep k r)
 |_,_,.ref a=>.ref a
 |_,_,.scr (.inl ⟨o,e⟩)=>.scr (.inl ⟨o,k.f _ _ _ e⟩)
 |_,_,.scr (.inr e)=>.scr (.inr e)
theorem RVs.keep(k:Keep H H'):∀ {vs:List Own.Val}{xs:List V},RVs K H vs xs→RVs K H' vs xs
 |_,_,.nil=>.nil
 |_,_,.cons r t=>.cons (RV.keep k r) (RVs.keep k t)
end
theorem RVs.length:∀ {vs:List Own.Val}{xs:List V},RVs K H vs xs→vs.length=xs.length
 |_,_,.nil=>rfl
 |_,_,.cons _ t=>by rw[List.length_cons,List.length_cons,RVs.length t]
theorem RVs.get:∀ {vs:List Own.Val}{xs:List V}{i:Nat}{v:Own.Val},RVs K H vs xs→vs[i]?=some v→∃ x,xs[i]?=some x∧RV K H v x
 |_,_,_,_,.nil,e=>by simp at e
 |_,_,0,_,.cons r _,e=>by simp at e;subst e;exact⟨_,rfl,r⟩
 |_,_,i+1,v,.cons _ t,e=>by obtain⟨x,h1,h2⟩:=RVs.get (i:=i) (v:=v) t (by simpa using e);exact⟨x,by simpa using h1,h2⟩
theorem RVs.append:∀ {vs us:List Own.Val}{xs ys:List V},RVs K H vs xs→RVs K H us ys→RVs K H (vs++us) (xs++ys)
 |_,_,_,_,.nil,h=>h
 |_,_,_,_,.cons r t,h=>.cons r (RVs.append t h)
theorem RVs.set{v:Own.Val}{x:V}(r:RV K H v x):∀ {vs:List Own.Val}{xs:List V}(i:Nat),RVs K H vs xs→RVs K H (vs.set i v) (xs.set i x)
 |_,_,_,.nil=>.nil
 |_,_,0,.cons _ t=>.cons r t
 |_,_,i+1,.cons q t=>.cons q (RVs.set r i t)
theorem RVs.take:∀ {vs:List Own.Val}{xs:List V}(n:Nat),RVs K H vs xs→RVs K H (vs.take n) (xs.take n)
 |_,_,0,_=>.nil
 |_,_,_+1,.nil=>.nil
 |_,_,n+1,.cons r t=>.cons r (RVs.take n t)
theorem RVs.drop:∀ {vs:List Own.Val}{xs:List V}(n:Nat),RVs K H vs xs→RVs K H (vs.drop n) (xs.drop n)
 |_,_,0,r=>r
 |_,_,_+1,.nil=>.nil
 |_,_,n+1,.cons _ t=>RVs.drop n t
theorem RVs.reverse{vs:List Own.Val}{xs:List V}(r:RVs K H vs xs):RVs K H vs.reverse xs.reverse:=by
 induction r using RVs.rec (motive_1:=fun _ _ _=>True)with
 |nil=>exact .nil
 |cons r t _ ih=>rw[List.reverse_cons,List.reverse_cons];exact ih.append (.cons r .nil)
 |_=>trivial
theorem RVs.eraseIdx:∀ {vs:List Own.Val}{xs:List V}(i:Nat),RVs K H vs xs→RVs K H (vs.eraseIdx i) (xs.eraseIdx i)
 |_,_,_,.nil=>.nil
 |_,_,0,.cons _ t=>t
 |_,_,i+1,.cons q t=>.cons q (RVs.eraseIdx i t)
theorem RVs.dropLast{vs:List Own.Val}{xs:List V}(r:RVs K H vs xs):RVs K H vs.dropLast xs.dropLast:=by rw[List.dropLast_eq_take,List.dropLast_eq_take,r.length];exact r.take _
theorem ZA{a:Addr}{vs:List V}(h:H a=some (.tup vs)∨KT K a vs):SqT K H a vs:=by
 rcases h with h|h
 ·exact SqT.of h
 ·exact .inr h
structure Inf where
 K:PySem.W.Frag
 cl:String→Addr→Prop
 ins:String→Bool
 xc:String→Addr→Prop
def XR:Own.Val→Key→Prop
 |.int i,.inl j=>i=j
 |.str s,.inr t=>t=Str.ofString s
 |_,_=>False
inductive RKs (K:PySem.W.Frag) (H:Hp):List (Own.Val×Own.Val)→List (Key×V)→Prop
 |nil:RKs K H [] []
 |cons {k v:Own.Val}{c:Key}{x:V}{kvs:List (Own.Val×Own.Val)}{ps:List (Key×V)}:XR k c→RV K H v x→RKs K H kvs ps→RKs K H ((k,v)::kvs) ((c,x)::ps)
inductive RFs (K:PySem.W.Frag) (H:Hp):List (String×Own.Val)→List (Str×V)→Prop
 |nil:RFs K H [] []
 |cons {f:String}{v:Own.Val}{x:V}{fs:List (String×Own.Val)}{ps:List (Str×V)}:RV K H v x→RFs K H fs ps→RFs K H ((f,v)::fs) ((Str.ofString f,x)::ps)
theorem RKs.keep(k:Keep H H'):∀ {kvs:List (Own.Val×Own.Val)}{ps:List (Key×V)},RKs K H kvs ps→RKs K H' kvs ps
 |_,_,.nil=>.nil
 |_,_,.cons a r t=>.cons a (r.keep k) (RKs.keep k t)
theorem RFs.keep(k:Keep H H'):∀ {fs:List (String×Own.Val)}{ps:List (Str×V)},RFs K H fs ps→RFs K H' fs ps
 |_,_,.nil=>.nil
 |_,_,.cons r t=>.cons (r.keep k) (RFs.keep k t)
def RO (i:Inf) (H:Hp) (a:Addr):Own.Ob→Prop
 |.lst xs=>∃ vs,H a=some (.lst vs)∧RVs i.K H xs vs
 |.dct kvs=>∃ ps,H a=some (.dK ps)∧RKs i.K H kvs ps
 |.ins C fs=>∃ c dx ps,i.ins C=true∧i.cl C c∧H a=some (.ins c dx ps)∧RFs i.K H fs ps
 |.exc C=>∃ c,i.xc C c∧H a=some (xcO a (.ref c))
 |.frz kvs=>∃ o ps,H a=some (.frz o (.dK ps))∧RKs i.K H kvs ps
theorem RO.there{i:Inf}{a:Addr}{o:Own.Ob}(r:RO i H a o):∃ u,H a=some u:=by
 cases o with
 |lst xs=>obtain⟨_,e,_⟩:=r;exact⟨_,e⟩
 |dct kvs=>obtain⟨_,e,_⟩:=r;exact⟨_,e⟩
 |ins C fs=>obtain⟨_,_,_,_,_,e,_⟩:=r;exact⟨_,e⟩
 |exc C=>obtain⟨_,_,e⟩:=r;exact⟨_,e⟩
 |frz kvs=>obtain⟨_,_,e,_⟩:=r;exact⟨_,e⟩
theorem RO.move{i:Inf}{a:Addr}{o:Own.Ob}(r:RO i H a o)(k:Keep H H')(e:H' a=H a):RO i H' a o:=by
 cases o with
 |lst xs=>obtain⟨vs,q,r⟩:=r;exact⟨vs,e.trans q,r.keep k⟩
 |dct kvs=>obtain⟨ps,q,r⟩:=r;exact⟨ps,e.trans q,r.keep k⟩
 |ins C fs=>obtain⟨c,dx,ps,h0,h,q,r⟩:=r;exact⟨c,dx,ps,h0,h,e.trans q,r.keep k⟩
 |exc C=>obtain⟨c,h,q⟩:=r;exact⟨c,h,e.trans q⟩
 |frz kvs=>obtain⟨o,ps,q,r⟩:=r;exact⟨o,ps,e.trans q,r.keep k⟩
def RH (i:Inf) (G:Own.Hs) (H:Hp):Prop:=∀ a o,G a=some o→RO i H a o
theorem RH.free{i:Inf}{G:Own.Hs}{a:Addr}(r:RH i G H)(e:H a=none):G a=none:=by
 cases q:G a with
 |none=>rfl
 |some o=>obtain⟨u,z⟩:=(r a o q).there;rw[e]at z;cases z
theorem RH.put{i:Inf}{G:Own.Hs}{a:Addr}{o:Own.Ob}{u:HO}(r:RH i G H)(k:Keep H (upd H a u))(n:RO i (upd H a u) a o):RH i (Own.upd G a o) (upd H a u):=fun b p e=>by
 by_cases hb:b=a
 ·subst hb;rw[Own.upd_same]at e;cases e;exact n
 ·rw[Own.upd_ne hb]at e;exact(r b p e).move k (upd_ne hb)
theorem RH.hid{i:Inf}{G:Own.Hs}(r:RH i G H)(k:Keep H H')(e:∀ a o,G a=some o→H' a=H a):RH i G H':=fun b p q=>(r b p q).move k (e b p q)
structure REn (K:PySem.W.Frag) (H:Hp) (env:Own.Env) (σ:St):Prop where
 len:env.length=σ.length
 get:∀ (i:Nat) (v:Own.Val),env[i]?=some (some v)→∃ x,σ[i]?=some (some x)∧RV K H v x
theorem REn.keep{env:Own.Env}{σ:St}(r:REn K H env σ)(k:Keep H H'):REn K H' env σ:=⟨r.len,fun i v e=>by
  obtain⟨x,h1,h2⟩:=r.get i v e
  exact⟨x,h1,h2.keep k⟩⟩
theorem REn.set{env:Own.Env}{σ:St}{v:Own.Val}{x:V}(r:REn K H env σ)(q:RV K H v x)(j:Nat):REn K H (env.set j (some v)) (σ.set j (some x)):=⟨by simp[r.len],fun i u e=>by
  by_cases hij:j=i
  · subst hij
    rw[List.getElem?_set_self']at e
    cases z:env[j]? with
    |none=>rw[z]at e;cases e
    |some w =>
      rw[z]at e
      cases e
      have hj:j<σ.length:=by rw[←r.len];exact(List.getElem?_eq_some_iff.mp z).1
      exact⟨x,List.getElem?_set_self hj,q⟩
  · rw[List.getElem?_set_ne hij]at e
    obtain⟨y,h1,h2⟩:=r.get i u e
    exact⟨y,by rw[List.getElem?_set_ne hij];exact h1,h2⟩⟩
theorem REn.start{vs:List Own.Val}{xs:List V}{n:Nat}(r:RVs K H vs xs):REn K H (vs.map some++List.replicate n none) (xs.map some++List.replicate n none):=⟨by simp[r.length],fun i v e=>by
  by_cases hi:i<vs.length
  · rw[List.getElem?_append_left (by simpa using hi),List.getElem?_map]at e
    cases z:vs[i]? with
    |none=>rw[z]at e;cases e
    |some w =>
      rw[z]at e
      cases e
      obtain⟨x,h1,h2⟩:=r.get z
      exact⟨x,by rw[List.getElem?_append_left (by rw[List.length_map,←r.length];exact hi),List.getElem?_map,h1];rfl,h2⟩
  · rw[List.getElem?_append_right (by simpa using hi),List.getElem?_replicate]at e
    split at e<;>cases e⟩
theorem RVs.ints{K:PySem.W.Frag}{H:Hp}:∀ ns:List Int,RVs K H (ns.map Own.Val.int) (ns.map V.int)
 |[]=>.nil
 |n::ns=>.cons (.int n) (RVs.ints ns)
theorem Yi{a:Addr}{ns:List Int}(h:(∃ o,H a=some (.frz o (.lst (ns.map V.int))))∨KL K a (ns.map V.int)):SqL K H a (ns.map V.int):=by
 rcases h with⟨o,h⟩|h
 ·exact .inl (.inr ⟨o,h⟩)
 ·exact .inr h
variable {i:Inf}{X:Cx}{Φ:Own.Fs}
noncomputable def XK1 (i:Inf) (H:Hp) (Em:Own.XQ):XK:=fun cls _ H'=>∃ c G' ad,cls=.ref ad∧i.xc c ad∧Keep H H'∧RH i G' H'∧Em c G'
def XOk (X:Cx) (i:Inf) (H:Hp) (Em:Own.XQ):Prop:=XW X (XK1 i H Em)
theorem XK1.go{H H1 H':Hp}{Em:Own.XQ}{cls:Value}{d:Option Addr}(k:Keep H H1)(h:XK1 i H1 Em cls d H'):XK1 i H Em cls d H':=by obtain⟨c,G',ad,e,q,k',r,m⟩:=h;exact⟨c,G',ad,e,q,k.trans k',r,m⟩
theorem XOk.go{H H1:Hp}{Em:Own.XQ}(x:XOk X i H Em)(k:Keep H H1):XOk X i H1 Em:=fun pins σ H0 s H' a cls s' I f e=>x pins σ H0 s H' a cls s' I f (e.go k)
structure Pre (X:Cx) (i:Inf) (σ:St) (H:Hp) (env:Own.Env) (G:Own.Hs) (Em:Own.XQ):Prop where
 en:REn i.K H env σ
 hp:RH i G H
 xo:XOk X i H Em
theorem Pre.go{σ:St}{H H1:Hp}{env:Own.Env}{G G1:Own.Hs}{Em:Own.XQ}(p:Pre X i σ H env G Em)(k:Keep H H1)(r:RH i G1 H1):Pre X i σ H1 env G1 Em:=⟨p.en.keep k,r,p.xo.go k⟩
def Cn (i:Inf) (H:Hp) (Q:VK) (Qm:Own.Q1):Prop:=∀ v G' H' x,Keep H H'→RH i G' H'→RV i.K H' v x→Qm v G'→Q x H'
theorem Cn.go{H H1:Hp}{Q:VK}{Qm:Own.Q1}(c:Cn i H Q Qm)(k:Keep H H1):Cn i H1 Q Qm:=fun v G' H' x k'=>c v G' H' x (k.trans k')
def tE (X:Cx) (i:Inf) (Φ:Own.Fs) (m:Own.E):TE:=fun σ H Q=>∃ env G Qm Em,Pre X i σ H env G Em∧Own.wE Φ m env G Qm Em∧Cn i H Q Qm
def tAr (X:Cx) (i:Inf) (Φ:Own.Fs) (ms:Own.Es) (n:Nat):TA:=fun σ H Q=>∃ env G Qm Em,Pre X i σ H env G Em∧Own.wA Φ ms env G Qm Em∧∀ vs G' H' xs,Keep H H'→RH i G' H'→RVs i.K H' vs xs→xs.length=n→Qm vs G'→Q xs H'
def tTt (X:Cx) (i:Inf) (Φ:Own.Fs) (m:Own.Tt):TT:=fun σ H Q=>∃ env G Qm Em,Pre X i σ H env G Em∧Own.wT Φ m env G Qm Em∧∀ b G' H',Keep H H'→RH i G' H'→Qm b G'→Q b H'
theorem _root_.L2.PE.imp{X:Cx}{e:Expr}{t t':TE}(h:PE X e t)(f:∀ σ H Q,t' σ H Q→t σ H Q):PE X e t':=fun pins s σ H Q I q=>h pins s σ H Q I (f σ H Q q)
theorem _root_.L2.PT.imp{X:Cx}{e:Expr}{t t':TT}(h:PT X e t)(f:∀ σ H Q,t' σ H Q→t σ H Q):PT X e t':=fun pins s σ H Q I q=>h pins s σ H Q I (f σ H Q q)
theorem _root_.L2.PW.imp{X:Cx}{e:Expr}{t t':TT}(h:PW X e t)(f:∀ σ H Q,t' σ H Q→t σ H Q):PW X e t':=fun wh pins s σ H Q I q=>h wh pins s σ H Q I (f σ H Q q)
theorem _root_.L2.PA.imp{X:Cx}{es:List Expr}{t t':TA}(h:PA X es t)(f:∀ σ H Q,t' σ H Q→t σ H Q):PA X es t':=fun pos pins s σ H Q I q=>h pos pins s σ H Q I (f σ H Q q)
theorem Ll{env:Own.Env}{h:Own.Hs}{Q:Own.Q1}{E:Own.XQ}{j:Nat}:(Own.wE Φ (.var j) env h Q E)=(Own.go (Own.getV env j) fun v=>Q v h):=by simp only[Own.wE_eq];rfl
theorem go_some{α:Type}{o:Option α}{k:α→Prop}(h:Own.go o k):∃ a,o=some a∧k a:=by
 cases o with
 |none=>simp at h
 |some a=>exact⟨a,rfl,by simpa using h⟩
theorem OR{env:Own.Env}{j:Nat}{v:Own.Val}(h:Own.getV env j=some v):env[j]?=some (some v):=by
 unfold Own.getV at h;split at h
 ·rename_i u e;cases h;exact e
 ·cases h
theorem GT {x:Str}{pos:Pos}{j:Nat}(hN:X.N[j]?=some x) (hv:Vis X.env.scope x) (hd:(x==("__debug__" : Str))=false) (hcd:(x==("__classdict__" : Str))=false):PE X (.Name x pos) (tE X i Φ (.var j)) :=
 (Fx hN hv hd hcd).imp fun σ H Q ⟨env,G,Qm,Em,p,w,c⟩=>by rw[Ll]at w;obtain⟨v,e,q⟩:=go_some w;obtain⟨y,h1,h2⟩:=p.en.get j v (OR e);exact⟨y,h1,c v G H y (Keep.refl H) p.hp h2 q⟩
theorem XY{e:Expr}{v:Own.Val}{x:V}(h:PE X e (tC x))(r:∀ H,RV i.K H v x):PE X e (tE X i Φ (.cst v)) :=
 h.imp fun σ H Q ⟨env,G,Qm,Em,p,w,c⟩=>by rw[Own.q_e_cst]at w;exact c v G H x (Keep.refl H) p.hp (r H) w
theorem EA{e:Expr}{y:String}{v:Own.Val}{x:V}(h:PE X e (tC x))(r:∀ H,RV i.K H v x):PE X e (tE X i Φ (.glob y v)) :=
 h.imp fun σ H Q ⟨env,G,Qm,Em,p,w,c⟩=>by rw[Own.q_e_glob]at w;exact c v G H x (Keep.refl H) p.hp (r H) w
theorem two{a b:Own.E}{σ:St}{H:Hp}{env:Own.Env}{G:Own.Hs}{Em:Own.XQ}{F:Own.Val→Own.Val→Own.Hs→Prop}{R:V→V→Hp→Prop}(p:Pre X i σ H env G Em)
  (w:Own.wE Φ a env G (fun v G1=>Own.wE Φ b env G1 (fun u G2=>F v u G2) Em) Em)
  (h:∀ v u G2 H2 x y,Keep H H2→Pre X i σ H2 env G2 Em→RV i.K H2 v x→RV i.K H2 u y→F v u G2→R x y H2):tE X i Φ a σ H fun x H1=>tE X i Φ b σ H1 fun y H2=>R x y H2 :=
 ⟨env,G,_,Em,p,w,fun v G1 H1 x k1 g1 r1 w1=>⟨env,G1,_,Em,p.go k1 g1,w1,fun u G2 H2 y k2 g2 r2 w2=>h v u G2 H2 x y (k1.trans k2) ((p.go k1 g1).go k2 g2) (r1.keep k2) r2 w2⟩⟩
theorem one{a:Own.E}{σ:St}{H:Hp}{env:Own.Env}{G:Own.Hs}{Em:Own.XQ}{F:Own.Val→Own.Hs→Prop}{R:V→Hp→Prop}(p:Pre X i σ H env G Em)
  (w:Own.wE Φ a env G (fun v G1=>F v G1) Em) (h:∀ v G1 H1 x,Keep H H1→Pre X i σ H1 env G1 Em→RV i.K H1 v x→F v G1→R x H1):tE X i Φ a σ H fun x H1=>R x H1 :=
 ⟨env,G,_,Em,p,w,fun v G1 H1 x k1 g1 r1 w1=>h v G1 H1 x k1 (p.go k1 g1) r1 w1⟩
def Wi (i:Inf) (op:Own.Bop) (r:R2):Prop:=∀ (v u:Own.Val) (G:Own.Hs) (H:Hp) (x y:V) (Q:VK) (Qm:Own.Q1),RH i G H→RV i.K H v x→RV i.K H u y→(Own.binV G op v u).wp G Qm→Cn i H Q Qm→r x y H Q
theorem JR{a b:Expr}{ma mb:Own.E}{op:Operator}{bop:Own.Bop}{r:R2}{pos:Pos}(ho:OpR X (binaryOp op) r)(hr:Wi i bop r)(ha:PE X a (tE X i Φ ma))(hb:PE X b (tE X i Φ mb)):PE X (.BinOp a op b pos) (tE X i Φ (.bin bop ma mb)) :=
 (Ia ho ha hb).imp fun σ H Q ⟨env,G,Qm,Em,p,w,c⟩=>by rw[Own.q_e_bin]at w;exact two p w fun v u G2 H2 x y k2 p2 rx ry q=>hr v u G2 H2 x y Q Qm p2.hp rx ry q (c.go k2)
def Z1 (i:Inf) (op:Own.Cop) (r:R2):Prop:=∀ (v u:Own.Val) (G:Own.Hs) (H:Hp) (x y:V) (c:Bool) (Q:VK),RH i G H→RV i.K H v x→RV i.K H u y→Own.cmpV G op v u=some c→Q (.bl c) H→r x y H Q
theorem HG{a b:Expr}{ma mb:Own.E}{op:CmpOp}{cop:Own.Cop}{r:R2}{pos:Pos}(ho:OpR X (compareOp op) r)(hr:Z1 i cop r)(ha:PE X a (tE X i Φ ma))(hb:PE X b (tE X i Φ mb))(hm:behindInMarks op b=false):PE X (.Compare a [op] [b] pos) (tE X i Φ (.cmp cop ma mb)) :=
 (C8 ho ha hb hm).imp fun σ H Q ⟨env,G,Qm,Em,p,w,c⟩=>by
  rw[Own.q_e_cmp]at w;exact two p w fun v u G2 H2 x y k2 p2 rx ry q=>by obtain⟨d,e,q⟩:=go_some q;exact hr v u G2 H2 x y d Q p2.hp rx ry e (c (.bl d) G2 H2 (.bl d) k2 p2.hp (.bl d) q)
theorem Ga{a b:Expr}{ma mb:Own.E}{op:CmpOp}{cop:Own.Cop}{r:R2}{pos:Pos}(ho:OpR X (compareOp op) r)(hr:Z1 i cop r)(ha:PE X a (tE X i Φ ma))(hb:PE X b (tE X i Φ mb))(hm:behindInMarks op b=false):PT X (.Compare a [op] [b] pos) (tTt X i Φ (.val (.cmp cop ma mb))) :=
 (C4 ho ha hb hm).imp fun σ H Q ⟨env,G,Qm,Em,p,w,c⟩=>by
  rw[Own.q_t_val,Own.q_e_cmp]at w;exact two p w fun v u G2 H2 x y k2 p2 rx ry q=>by obtain⟨d,e,q⟩:=go_some q;obtain⟨d',e',q⟩:=go_some q;cases e';exact hr v u G2 H2 x y d _ p2.hp rx ry e ⟨d,rfl,c d G2 H2 k2 p2.hp q⟩
theorem XA{v:Own.Val}{b:Bool}(h:Own.asBl v=some b):v=.bl b:=by cases v<;>simp_all [Own.asBl]
theorem Z0{v:Own.Val}{b:Int}(h:Own.asInt v=some b):v=.int b:=by cases v<;>simp_all [Own.asInt]
theorem Wg{v:Own.Val}{b:Own.Ad}(h:Own.asRef v=some b):v=.ref b:=by cases v<;>simp_all [Own.asRef]
theorem RV.bl_inv{K:PySem.W.Frag}{H:Hp}{b:Bool}{x:V}(r:RV K H (.bl b) x):x=.bl b:=by cases r;rfl
theorem RV.int_inv{K:PySem.W.Frag}{H:Hp}{b:Int}{x:V}(r:RV K H (.int b) x):x=.int b:=by cases r;rfl
theorem RV.ref_inv{K:PySem.W.Frag}{H:Hp}{b:Addr}{x:V}(r:RV K H (.ref b) x):x=.ref b:=by cases r;rfl
theorem RV.str_inv{K:PySem.W.Frag}{H:Hp}{b:String}{x:V}(r:RV K H (.str b) x):x=.str (Str.ofString b):=by cases r;rfl
theorem RV.non_inv{K:PySem.W.Frag}{H:Hp}{x:V}(r:RV K H .non x):x=.non:=by cases r;rfl
theorem IU{a:Expr}{ma:Own.E}{pos:Pos}(ha:PE X a (tE X i Φ ma)):PE X (.UnaryOp .Not a pos) (tE X i Φ (.not ma)) :=
 (Ey ha).imp fun σ H Q ⟨env,G,Qm,Em,p,w,c⟩=>by
  rw[Own.q_e_not]at w;exact one p w fun v G1 H1 x k1 p1 r q=>by obtain⟨b,e,q2⟩:=go_some q;clear q;cases XA e;exact⟨b,r.bl_inv,c _ G1 H1 _ k1 p1.hp (.bl _) q2⟩
theorem IC{a:Expr}{ma:Own.E}{pos:Pos}(ha:PE X a (tE X i Φ ma)):PE X (.UnaryOp .USub a pos) (tE X i Φ (.neg ma)) :=
 (Li Gh ha).imp fun σ H Q ⟨env,G,Qm,Em,p,w,c⟩=>by
  rw[Own.q_e_neg]at w;exact one p w fun v G1 H1 x k1 p1 r q=>by obtain⟨b,e,q2⟩:=go_some q;clear q;cases Z0 e;exact⟨b,r.int_inv,c _ G1 H1 _ k1 p1.hp (.int _) q2⟩
theorem IQ{a b:Expr}{rest:List Expr}{ma mb:Own.E}{pos:Pos}(ha:PE X a (tE X i Φ ma))(hb:PE X (.BoolOp .And (b::rest) pos) (tE X i Φ mb)):PE X (.BoolOp .And (a::b::rest) pos) (tE X i Φ (.and ma mb)) :=
 (FF ha hb).imp fun σ H Q ⟨env,G,Qm,Em,p,w,c⟩=>by
  rw[Own.q_e_and]at w;exact one p w fun v G1 H1 x k1 p1 r q=>by
   obtain⟨d,e,q2⟩:=go_some q;clear q;cases XA e;refine⟨d,r.bl_inv,?_⟩;cases d with
   |true=>exact⟨env,G1,Qm,Em,p1,by simpa using q2,c.go k1⟩
   |false=>simp at q2 ⊢;exact c _ G1 H1 _ k1 p1.hp (.bl _) q2
theorem Pa{a b:Expr}{rest:List Expr}{ma mb:Own.E}{pos:Pos}(ha:PE X a (tE X i Φ ma))(hb:PE X (.BoolOp .Or (b::rest) pos) (tE X i Φ mb)):PE X (.BoolOp .Or (a::b::rest) pos) (tE X i Φ (.or ma mb)) :=
 (IM ha hb).imp fun σ H Q ⟨env,G,Qm,Em,p,w,c⟩=>by
  rw[Own.q_e_or]at w;exact one p w fun v G1 H1 x k1 p1 r q=>by
   obtain⟨d,e,q2⟩:=go_some q;clear q;cases XA e;refine⟨d,r.bl_inv,?_⟩;cases d with
   |false=>exact⟨env,G1,Qm,Em,p1,by simpa using q2,c.go k1⟩
   |true=>simp at q2 ⊢;exact c _ G1 H1 _ k1 p1.hp (.bl _) q2
theorem F9{a:Expr}{ma:Own.Tt}{pos:Pos}(ha:PT X a (tTt X i Φ ma)):PT X (.UnaryOp .Not a pos) (tTt X i Φ (.not ma)) :=
 (Fh ha).imp fun σ H Q ⟨env,G,Qm,Em,p,w,c⟩=>by rw[Own.q_t_not]at w;exact⟨env,G,_,Em,p,w,fun b G1 H1 k1 g1 q=>c (!b) G1 H1 k1 g1 q⟩
theorem EO{a b:Expr}{rest:List Expr}{ma mb:Own.Tt}{pos:Pos}(ha:PT X a (tTt X i Φ ma))(hb:PW X (.BoolOp .And (b::rest) pos) (tTt X i Φ mb)):PW X (.BoolOp .And (a::b::rest) pos) (tTt X i Φ (.and ma mb)) :=
 (Ej ha hb).imp fun σ H Q ⟨env,G,Qm,Em,p,w,c⟩=>by
  rw[Own.q_t_and]at w;refine⟨env,G,_,Em,p,w,fun d G1 H1 k1 g1 q=>?_⟩;cases d with
  |true=>exact⟨env,G1,Qm,Em,p.go k1 g1,by simpa using q,fun b G2 H2 k2=>c b G2 H2 (k1.trans k2)⟩
  |false=>simp at q ⊢;exact c false G1 H1 k1 g1 q
theorem IG{a b:Expr}{rest:List Expr}{ma mb:Own.Tt}{pos:Pos}(ha:PT X a (tTt X i Φ ma))(hb:PW X (.BoolOp .Or (b::rest) pos) (tTt X i Φ mb)):PW X (.BoolOp .Or (a::b::rest) pos) (tTt X i Φ (.or ma mb)) :=
 (Hf ha hb).imp fun σ H Q ⟨env,G,Qm,Em,p,w,c⟩=>by
  rw[Own.q_t_or]at w;refine⟨env,G,_,Em,p,w,fun d G1 H1 k1 g1 q=>?_⟩;cases d with
  |false=>exact⟨env,G1,Qm,Em,p.go k1 g1,by simpa using q,fun b G2 H2 k2=>c b G2 H2 (k1.trans k2)⟩
  |true=>simp at q ⊢;exact c true G1 H1 k1 g1 q
theorem Du{a:Expr}{ma:Own.Tt}{pos:Pos}(ha:PT X a (tTt X i Φ ma)):PW X (.BoolOp .And [a] pos) (tTt X i Φ ma):=CI ha
theorem Eh{a:Expr}{ma:Own.Tt}{pos:Pos}(ha:PT X a (tTt X i Φ ma)):PW X (.BoolOp .Or [a] pos) (tTt X i Φ ma):=ED ha
theorem Hk{c a b:Expr}{mc:Own.Tt}{ma mb:Own.E}{pos:Pos}(hc:PT X c (tTt X i Φ mc))(ha:PE X a (tE X i Φ ma))(hb:PE X b (tE X i Φ mb)):PE X (.IfExp c a b pos) (tE X i Φ (.ife mc ma mb)) :=
 (Ug hc ha hb).imp fun σ H Q ⟨env,G,Qm,Em,p,w,c⟩=>by
  rw[Own.q_e_ife]at w;refine⟨env,G,_,Em,p,w,fun d G1 H1 k1 g1 q=>?_⟩;cases d with
  |true=>exact⟨env,G1,Qm,Em,p.go k1 g1,by simpa using q,c.go k1⟩
  |false=>exact⟨env,G1,Qm,Em,p.go k1 g1,by simpa using q,c.go k1⟩
theorem EG:PA X [] (tAr X i Φ .nil 0):=pa_nil.imp fun σ H Q ⟨env,G,Qm,Em,p,w,c⟩=>by rw[Own.q_a_nil]at w;exact c [] G H [] (Keep.refl H) p.hp .nil rfl w
theorem BH{e:Expr}{es:List Expr}{m:Own.E}{ms:Own.Es}{n:Nat}(he:PE X e (tE X i Φ m))(hes:PA X es (tAr X i Φ ms n))(hs:starEach (e::es) X.env=(false,eval e X.env)::starEach es X.env):PA X (e::es) (tAr X i Φ (.cons m ms) (n+1)) :=
 (Yg he hes hs).imp fun σ H Q ⟨env,G,Qm,Em,p,w,c⟩=>by rw[Own.q_a_cons]at w;exact⟨env,G,_,Em,p,w,fun v G1 H1 x k1 g1 r1 w1=>⟨env,G1,_,Em,p.go k1 g1,w1,fun vs G2 H2 xs k2 g2 r2 hn w2=>c (v::vs) G2 H2 (x::xs) (k1.trans k2) g2 (.cons (r1.keep k2) r2) (by rw[List.length_cons,hn]) w2⟩⟩
theorem ZU:Own.lim≤sizeLine:=by decide
theorem Yt{H:Hp}{G:Own.Hs}{Q:VK}{Qm:Own.Q1}{o:Own.Ob}{u:HO}(g:RH i G H)(w:Own.new G o Qm)(c:Cn i H Q Qm)(r:∀ p,H p=none→RO i (upd H p u) p o):∀ p,H p=none→Q (.ref p) (upd H p u):=fun p hp=>by unfold Own.new at w;exact c (.ref p) _ _ (.ref p) (Keep.new hp) (g.put (Keep.new hp) (r p hp)) (.ref p) (w p (g.free hp))
end Snd
namespace HT2
open PySem PySem.Spec PyProof.Rows L2
def Z2:List Int→List Int→Bool
 |[],[]=>false
 |[],_::_=>false
 |_::_,[]=>true
 |x::xs,y::ys=>if x=y then Z2 xs ys else decide (x > y)
theorem Ux(A:Around)(s:Shared)(a:Int)(t:Tok)(c:Int)(u:Tok)(prog:Program)(w:World)(E:Value→Shared→Prop)(Q:Value→Shared→Prop)(h:Q (.bool (decide (a > c))) s) :
  wpAny (model prog w) A (richCompare .Gt (.int a t) (.int c u)) Q E s :=
 (PyProof.Rows.gt_int h:wpAny (model prog w) A (compareOp .Gt (.int a t) (.int c u)) Q E s)
section
open PySem.SeqAt
open PySem.AutoSeq1 (wpAny_loadPart')
open PySem.MeetsSeq PySem.MeetsSeq2 PySem.MeetsSeq3
theorem Jm(l b:Addr)(items items2:Array Value)(n n2:Nat)(dd dd2:Option Addr)(sl sl2:Array (Option Value))(ns ms:List Int)(hi:IntsAre items.toList ns)(hj:IntsAre items2.toList ms) :
  Meets (Builtin.«tuple.__gt__» ⟨[.ref l,.ref b],[]⟩)
   (fun _ R s=>s.heap.get? l=some { cls:=.type "tuple",dict:=dd,data:=.seq items n,slots:=sl }∧s.heap.get? b=some { cls:=.type "tuple",dict:=dd2,data:=.seq items2 n2,slots:=sl2 }∧
     R (.ok (.ret (.bool (Z2 ns ms)))) s) :=
 .of_wp fun prog w A R s h=>by
  obtain⟨hp,g,d,tk,os⟩:=s;obtain⟨hl,hb,h⟩:=h;have f2:=AutoSeq1.sub_tuple_tuple;have z1:items.size=ns.length:=by rw[←hi.length];simp
  have z2:items2.size=ms.length:=by rw[←hj.length];simp
  wp_walk using wpAny_loadPart' hl,wpAny_loadPart' hb,wpAny_forIn_list _ (fun rest b s'=>b.1=none∧s'=⟨hp,g,d,tk,os⟩∧∃ (vs ws:List Value) (ns' ms':List Int),rest=vs.zip ws∧
    IntsAre vs ns'∧IntsAre ws ms'∧ns'.length+items2.size=ms'.length+items.size∧R (.ok (.ret (.bool (Z2 ns' ms')))) ⟨hp,g,d,tk,os⟩) _
  case turn =>
   rintro⟨y,x⟩ rest b s' ⟨hb',rfl,vs,ws,ns',ms',hz,hvi,hwi,hlen,hR⟩;cases hvi with
   |nil=>rw[List.zip_nil_left]at hz;cases hz
   |cons a t hvi' =>
    cases hwi with
    |nil=>rw[List.zip_nil_right]at hz;cases hz
    |cons c u hwi' =>
     rw[List.zip_cons_cons]at hz;injection hz with hyx hrest;injection hyx with hy hx;subst hy hx;rw[Z2]at hR;simp only[List.length_cons]at hlen;obtain⟨e,he,hiff⟩:=HT.eqAt_int A.in1 ⟨hp,g,d,tk,os⟩ a t c u;refine wpAny_bind (he prog w _ _ ?_);cases e with
     |true =>
      rw[if_pos (hiff.mp rfl)]at hR
      wp_walk
      exact⟨rfl,rfl,_,_,_,_,hrest,hvi',hwi',by omega,hR⟩
     |false =>
      rw[if_neg (fun q=>absurd (hiff.mpr q) Bool.false_ne_true)]at hR;have hri:=Ux A.in1 ⟨hp,g,d,tk,os⟩ a t c u prog w
      wp_walk using hri
      exact⟨_,rfl,by simpa using hR⟩
  case fin =>
   rintro⟨b1,b2⟩ s' ⟨hb',rfl,vs,ws,ns',ms',hz,hvi,hwi,hlen,hR⟩;simp only at hb';subst hb';have hv:Z2 ns' ms'=decide (items.size > items2.size):=by
    cases hvi with
    |nil =>
     cases hwi with
     |nil =>simp only[List.length_nil]at hlen;rw[Z2];exact(decide_eq_false (by omega)).symm
     |cons c u hw =>simp only[List.length_nil,List.length_cons]at hlen;rw[Z2];exact(decide_eq_false (by omega)).symm
    |cons a t hv =>
     cases hwi with
     |nil =>simp only[List.length_nil,List.length_cons]at hlen;rw[Z2];exact(decide_eq_true (by omega)).symm
     |cons c u hw =>rw[List.zip_cons_cons]at hz;cases hz
   rw[hv]at hR
   wp_walk
   exact⟨_,rfl,by simpa[Builtin.Tuple.tupleCompareSizes]using hR⟩
  case h =>exact⟨rfl,rfl,items.toList,items2.toList,ns,ms,rfl,hi,hj,by omega,h⟩
end
theorem MR{prog:Program}{w:World}{A:Around}{E:Value→Shared→Prop}{s:Shared}{l b:Addr}{items items2:Array Value}{ns ms:List Int}{Q:Value→Shared→Prop}(hl:IsTup s.heap l items)(hb:IsTup s.heap b items2)(hi:IntsAre items.toList ns)(hj:IntsAre items2.toList ms)
  (hu:A.units<cLine) (h:Q (.bool (Z2 ns ms)) s):wpAny (model prog w) A (compareOp .Gt (.ref l) (.ref b)) Q E s:=by
 obtain⟨⟨cls,dd,data,sl⟩,ho,hc,n,hd⟩:=id hl;obtain⟨⟨cls2,dd2,data2,sl2⟩,ho2,hc2,n2,hd2⟩:=id hb;simp only at hc hd hc2 hd2;subst hc hd hc2 hd2;exact richCompare_meets_room (op:=.Gt) ⟨_,ho,rfl⟩ ⟨_,ho2,rfl⟩ PySem.F.slot_tuple_gt PySem.F.entry_tuple_gt (PySem.F.args_tuple_gt_2 _ _) (Jm l b items items2 n n2 dd dd2 sl sl2 ns ms hi hj)
  ⟨ho,ho2,show Value.bool (Z2 ns ms)≠Value.notImplemented∧Q (.bool (Z2 ns ms)) s from ⟨(fun x=>nomatch x),h⟩⟩ hu
def rGtT (K:PySem.W.Frag):R2:=fun x y H Q=>∃ a b ns ms,x=.ref a∧y=.ref b∧SqT K H a (ns.map V.int)∧SqT K H b (ms.map V.int)∧Q (.bl (Z2 ns ms)) H
theorem op_gtT{X:Cx}(hu:X.A.units<cLine):OpR X (compareOp .Gt) (rGtT X.K):=by intro pins s σ H x y v u Q I rx ry h;obtain⟨a,b,ns,ms,rfl,rfl,ha,hb,q⟩:=h;cases rx;cases ry;obtain⟨its,r1,p1,_⟩:=I.tuple ha;obtain⟨its2,r2,p2,_⟩:=I.tuple hb;have i1:IntsAre its.toArray.toList ns:=ZL r1;have i2:IntsAre its2.toArray.toList ms:=ZL r2;exact MR p1 p2 i1 i2 hu ⟨.bl (Z2 ns ms),H,I,rfl,q⟩
theorem lexGt_lt:∀ (ns ms:List Int),Z2 ns ms=HT.lexLt ms ns
 |[],[]=>rfl
 |[],_::_=>rfl
 |_::_,[]=>rfl
 |x::xs,y::ys=>by
  rw[Z2,HT.lexLt_cons,lexGt_lt xs ys];by_cases e:x=y
  ·rw[if_pos e,if_pos e.symm]
  ·rw[if_neg e,if_neg (fun z=>e z.symm)]
end HT2
namespace Snd
open PySem L2
mutual
noncomputable def toD:Own.D→PyData
 |.non=>.none
 |.bl b=>.bool b
 |.int i=>.int i
 |.str s=>.str (Str.ofString s)
 |.tup ds=>.tuple (toDs ds)
 |.lst ds=>.list (toDs ds)
noncomputable def toDs:List Own.D→List PyData
 |[]=>[]
 |d::ds=>toD d::toDs ds
end
theorem ofS_inj{s t:String}:Str.ofString s=Str.ofString t↔s=t:=by
 constructor
 ·intro h;rw[Str.ofString_eq_toList,Str.ofString_eq_toList]at h;injection h with h;have h2:s.toList.map Char.toNat=t.toList.map Char.toNat:=by simpa using congrArg Array.toList h
  have inj:∀ {a b:Char},a.toNat=b.toNat→a=b:=fun {a b} e=>Char.ext (UInt32.toNat.inj e);have:s.toList=t.toList:=by
   revert h2;generalize s.toList=a;generalize t.toList=b;intro h2;induction a generalizing b with
   |nil=>cases b with
    |nil=>rfl
    |cons _ _=>cases h2
   |cons x xs ih=>cases b with
    |nil=>cases h2
    |cons y ys =>simp only[List.map_cons,List.cons.injEq]at h2;rw[inj h2.1,ih _ h2.2]
  exact String.toList_inj.mp this
 ·rintro rfl;rfl
theorem Dp(s t:String):(Str.ofString s==Str.ofString t)=(s==t):=by
 by_cases e:s=t
 ·subst e;simp
 ·have:Str.ofString s≠Str.ofString t:=fun z=>e (ofS_inj.mp z);rw[beq_eq_false_iff_ne.mpr this,beq_eq_false_iff_ne.mpr e]
theorem Of(s:String):PyData.strOk (Str.ofString s)=true:=by
 rw[Str.ofString_eq_toList];unfold PyData.strOk;rw[Array.all_eq_true'];intro n hn;have:n∈s.toList.map Char.toNat:=by simpa using hn
 obtain⟨c,_,rfl⟩:=List.mem_map.mp this;have:=c.valid;have h2:c.toNat=c.val.toNat:=rfl;simp only[UInt32.isValidChar,Nat.isValidChar]at this;simp only[decide_eq_true_eq];omega
mutual
theorem Kt:∀ d e:Own.D,PyData.eqv (toD d) (toD e)=Own.D.eqv d e
 |.non,e=>by cases e<;>simp[toD,PyData.eqv,Own.D.eqv]
 |.bl _,e=>by cases e<;>simp[toD,PyData.eqv,Own.D.eqv]
 |.int _,e=>by cases e<;>simp[toD,PyData.eqv,Own.D.eqv]
 |.str s,e=>by cases e<;>simp only[toD,PyData.eqv,Own.D.eqv];exact Dp _ _
 |.tup ds,e=>by cases e<;>simp only[toD,PyData.eqv,Own.D.eqv];exact toDs_eqv _ _
 |.lst ds,e=>by cases e<;>simp only[toD,PyData.eqv,Own.D.eqv];exact toDs_eqv _ _
theorem toDs_eqv:∀ ds es:List Own.D,PyData.eqvAll (toDs ds) (toDs es)=Own.D.eqvs ds es
 |[],[]=>by simp[toDs,PyData.eqvAll,Own.D.eqvs]
 |[],_::_=>by simp[toDs,PyData.eqvAll,Own.D.eqvs]
 |_::_,[]=>by simp[toDs,PyData.eqvAll,Own.D.eqvs]
 |d::ds,e::es=>by simp only[toDs,PyData.eqvAll,Own.D.eqvs,Kt d e,toDs_eqv ds es]
end
mutual
theorem JZ:∀ d:Own.D,(toD d).canLay0=true
 |.non=>by simp[toD,PyData.canLay0]
 |.bl _=>by simp[toD,PyData.canLay0]
 |.int _=>by simp[toD,PyData.canLay0]
 |.str s=>by simp only[toD,PyData.canLay0];exact Of s
 |.tup ds=>by simp only[toD,PyData.canLay0];exact toDs_lay ds
 |.lst ds=>by simp only[toD,PyData.canLay0];exact toDs_lay ds
theorem toDs_lay:∀ ds:List Own.D,PyData.canLayAll0 (toDs ds)=true
 |[]=>by simp[toDs,PyData.canLayAll0]
 |d::ds=>by simp only[toDs,PyData.canLayAll0,JZ d,toDs_lay ds,Bool.and_self]
end
section
variable {i:Inf}{G:Own.Hs}{H:Hp}
theorem OJ{α β:Type}{f:α→Option β}:∀ {xs:List α}{ys:List β},xs.mapM f=some ys→List.length xs=ys.length∧∀ (n:Nat) (x:α),xs[n]?=some x→∃ y,ys[n]?=some y∧f x=some y:=by
 intro xs;induction xs with
 |nil=>intro ys h;simp at h;subst h;exact⟨rfl,fun n x e=>by simp at e⟩
 |cons a as ih =>
  intro ys h;rw[List.mapM_cons]at h;cases e:f a with
  |none=>rw[e]at h;simp at h
  |some b =>
   rw[e]at h;cases e2:as.mapM f with
   |none=>rw[e2]at h;simp at h
   |some bs =>
    rw[e2]at h;simp at h;subst h;obtain⟨h1,h2⟩:=ih e2;refine⟨by simp[h1],fun n x hn=>?_⟩;cases n with
    |zero=>simp at hn;subst hn;exact⟨b,rfl,e⟩
    |succ n=>simp at hn ⊢;exact h2 n x hn
theorem NE{K:PySem.W.Frag}{f:Own.Val→Option Own.D}(hf:∀ v d x,f v=some d→RV K H v x→IsD K H x (toD d)):∀ {vs:List Own.Val}{xs:List V}{ds:List Own.D},vs.mapM f=some ds→RVs K H vs xs→IsDs K H xs (toDs ds):=by
 intro vs;induction vs with
 |nil=>intro xs ds h r;simp at h;subst h;cases r;exact .nil
 |cons a as ih =>
  intro xs ds h r;rw[List.mapM_cons]at h;cases e:f a with
  |none=>rw[e]at h;simp at h
  |some b =>
   rw[e]at h;cases e2:as.mapM f with
   |none=>rw[e2]at h;simp at h
   |some bs =>
    rw[e2]at h;simp at h;subst h;cases r with
    |cons r1 r2=>exact .cons (hf a b _ e r1) (ih e2 r2)
theorem ZC(g:RH i G H){a:Addr}{xs:List Own.Val}(e:Own.lsOf (G a)=some xs):∃ vs,SqL i.K H a vs∧RVs i.K H xs vs:=by
 cases q:G a with
 |none=>rw[q]at e;cases e
 |some o =>
  rw[q]at e;cases o with
  |lst ys=>cases e;obtain⟨vs,h,r⟩:=g a _ q;exact⟨vs,SqL.of h,r⟩
  |dct _=>cases e
  |ins _ _=>cases e
  |exc _=>cases e
  |frz _=>cases e
theorem Jz:∀ ns:List Int,toDs (ns.map Own.D.int)=ns.map PyData.int
 |[]=>by simp[toDs]
 |n::ns=>by simp only[List.map_cons,toDs,toD,Jz ns]
theorem Xu(g:RH i G H):∀ (n:Nat) (v:Own.Val) (d:Own.D) (x:V),Own.dat G n v=some d→RV i.K H v x→IsD i.K H x (toD d):=by
 intro n;induction n with
 |zero =>
  intro v d x e r;cases v with
  |non=>cases r;simp[Own.dat]at e;subst e;rw[toD];exact .non
  |bl b=>cases r;simp[Own.dat]at e;subst e;rw[toD];exact .bl b
  |int b=>cases r;simp[Own.dat]at e;subst e;rw[toD];exact .int b
  |str s=>cases r;simp[Own.dat]at e;subst e;rw[toD];exact .str _
  |tup xs=>simp[Own.dat]at e
  |ref a=>simp[Own.dat]at e
  |scr ns=>simp[Own.dat]at e
 |succ n ih =>
  intro v d x e r;cases v with
  |non=>cases r;simp[Own.dat]at e;subst e;rw[toD];exact .non
  |bl b=>cases r;simp[Own.dat]at e;subst e;rw[toD];exact .bl b
  |int b=>cases r;simp[Own.dat]at e;subst e;rw[toD];exact .int b
  |str s=>cases r;simp[Own.dat]at e;subst e;rw[toD];exact .str _
  |tup xs =>
   rw[Own.dat]at e;cases z:xs.mapM (Own.dat G n)with
   |none=>rw[z]at e;cases e
   |some ds =>
    rw[z]at e;cases e;cases r with
    |tup hp hr=>rw[toD];exact .tup (ZA hp) (NE ih z hr)
  |ref a =>
   rw[Own.dat]at e;cases q:Own.lsOf (G a)with
   |none=>rw[q]at e;cases e
   |some xs =>
    rw[q]at e;simp only[Option.bind_some]at e;cases z:xs.mapM (Own.dat G n)with
    |none=>rw[z]at e;cases e
    |some ds =>rw[z]at e;cases e;cases r.ref_inv;obtain⟨vs,h1,h2⟩:=ZC g q;rw[toD];exact .lst h1 (NE ih z h2)
  |scr ns =>
   simp[Own.dat]at e;subst e;cases r with
   |scr h =>rw[toD,Jz];exact .lst (Yi h) (IsDs.ints ns)
theorem Y5{n:Nat}:∀ {ds:List Own.D},(∀ d∈ds,(toD d).depth≤n)→PyData.depthAll (toDs ds)≤n
 |[],_=>by rw[toDs];simp[PyData.depthAll]
 |d::ds,h=>by rw[toDs];simp only[PyData.depthAll];exact Nat.max_le.mpr ⟨h d (by simp),Y5 fun e he=>h e (by simp[he])⟩
theorem Ju:∀ (n:Nat) (v:Own.Val) (d:Own.D),Own.dat G n v=some d→(toD d).depth≤n:=by
 have sc:∀ (n:Nat) (v:Own.Val) (d:Own.D),(∀ xs,v≠.tup xs)→(∀ a,v≠.ref a)→(∀ ns,v≠.scr ns)→Own.dat G n v=some d→(toD d).depth≤n:=by
  intro n v d h1 h2 h3 e;cases v with
  |tup xs=>exact absurd rfl (h1 xs)
  |ref a=>exact absurd rfl (h2 a)
  |scr ns=>exact absurd rfl (h3 ns)
  |_=>simp[Own.dat]at e;subst e;simp[toD,PyData.depth]
 have ms:∀ (n:Nat),(∀ v d,Own.dat G n v=some d→(toD d).depth≤n)→∀ (xs:List Own.Val) (ds:List Own.D),xs.mapM (Own.dat G n)=some ds→PyData.depthAll (toDs ds)≤n:=by
  intro n ih xs ds z;refine Y5 fun d hd=>?_;obtain⟨k,hk⟩:=List.mem_iff_getElem?.mp hd;obtain⟨h1,h2⟩:=OJ z;have hlt:k<xs.length:=by rw[h1];exact(List.getElem?_eq_some_iff.mp hk).1
  obtain⟨y,hy,hf⟩:=h2 k xs[k] (List.getElem?_eq_getElem hlt);rw[hk]at hy;cases hy;exact ih _ _ hf
 intro n;induction n with
 |zero =>
  intro v d e;cases v with
  |tup xs=>simp[Own.dat]at e
  |ref a=>simp[Own.dat]at e
  |scr ns=>simp[Own.dat]at e
  |_=>exact sc 0 _ d (by simp) (by simp) (by simp) e
 |succ n ih =>
  intro v d e;cases v with
  |tup xs =>
   rw[Own.dat]at e;cases z:xs.mapM (Own.dat G n)with
   |none=>rw[z]at e;cases e
   |some ds =>rw[z]at e;cases e;rw[toD];exact Nat.succ_le_succ (ms n ih xs ds z)
  |ref a =>
   rw[Own.dat]at e;cases q:Own.lsOf (G a)with
   |none=>rw[q]at e;cases e
   |some xs =>
    rw[q]at e;simp only[Option.bind_some]at e;cases z:xs.mapM (Own.dat G n)with
    |none=>rw[z]at e;cases e
    |some ds =>rw[z]at e;cases e;rw[toD];exact Nat.succ_le_succ (ms n ih xs ds z)
  |scr ns =>simp[Own.dat]at e;subst e;rw[toD];refine Nat.succ_le_succ (Nat.le_trans ?_ (Nat.zero_le n));refine Y5 fun d hd=>?_;obtain⟨m,_,rfl⟩:=List.mem_map.mp hd;simp[toD,PyData.depth]
  |_=>exact sc (n+1) _ d (by simp) (by simp) (by simp) e
theorem Ww{v:Own.Val}{d:Own.D}(e:Own.dat G Own.deep v=some d):SeqAt.shaped (toD d)=true:=by show((toD d).canLay0&&decide ((toD d).depth≤64))=true;rw[JZ,decide_eq_true (Nat.le_trans (Ju _ _ _ e) (by decide))];rfl
theorem NF(g:RH i G H){v u:Own.Val}{x y:V}{c:Bool}(rx:RV i.K H v x)(ry:RV i.K H u y)(e:Own.eqV G v u=some c):∃ d d',IsD i.K H x d∧IsD i.K H y d'∧SeqAt.shaped d=true∧SeqAt.shaped d'=true∧PyData.eqv d d'=c:=by
 unfold Own.eqV at e;cases z:Own.dat G Own.deep v with
 |none=>rw[z]at e;cases e
 |some d =>
  cases z2:Own.dat G Own.deep u with
  |none=>rw[z,z2]at e;cases e
  |some d' =>rw[z,z2]at e;cases e;exact⟨_,_,Xu g _ _ _ _ z rx,Xu g _ _ _ _ z2 ry,Ww z,Ww z2,Kt d d'⟩
theorem Qx:Z1 i .eq (Ix i.K):=by intro v u G H x y c Q g rx ry e q;obtain⟨d,d',h1,h2,h3,h4,h5⟩:=NF g rx ry e;exact⟨d,d',h1,h2,h3,h4,by rw[h5];exact q⟩
theorem Pd:Z1 i .ne (GU i.K):=by
 intro v u G H x y c Q g rx ry e q;have e:(Own.eqV G v u).map (!·)=some c:=e;cases z:Own.eqV G v u with
 |none=>rw[z]at e;cases e
 |some b =>rw[z]at e;cases e;obtain⟨d,d',h1,h2,h3,h4,h5⟩:=NF g rx ry z;exact⟨d,d',h1,h2,h3,h4,by rw[h5];exact q⟩
end
variable {i:Inf}{X:Cx}{Φ:Own.Fs}
theorem ZE(s:String):(Str.ofString s).length=s.length:=by rw[Str.ofString_eq_toList];show(List.map Char.toNat s.toList).toArray.size=_;rw[List.size_toArray,List.length_map];first|rfl|exact String.length_toList
theorem Kp(s t:String):Str.ofString (s++t)=Str.ofString s++Str.ofString t:=by rw[Str.ofString_eq_toList,Str.ofString_eq_toList,Str.ofString_eq_toList];show _=Str.append _ _;unfold Str.append;simp
theorem Os{o:Option Own.Ob}{xs:List Own.Val}(h:Own.lsOf o=some xs):o=some (.lst xs):=by
 cases o with
 |none=>cases h
 |some o=>cases o with
  |lst ys=>cases h;rfl
  |_=>cases h
theorem ZP{α:Type}{p:Prop}[Decidable p]{o:Option α}{a:α}(e:(if p then o else none)=some a):p∧o=some a:=by
 by_cases q:p
 ·rw[if_pos q]at e;exact⟨q,e⟩
 ·rw[if_neg q]at e;cases e
theorem Zz{h:Own.Hs}{Q:Own.Q1}(w:Own.Rs.no.wp h Q):False:=by rw[Own.Rs.wp_no]at w;exact w
theorem Zv{v:Own.Val}{h:Own.Hs}{Q:Own.Q1}(w:(Own.Rs.val v).wp h Q):Q v h:=by rw[Own.Rs.wp_val]at w;exact w
theorem MY{o:Own.Ob}{h:Own.Hs}{Q:Own.Q1}(w:(Own.Rs.new o).wp h Q):Own.new h o Q:=by rw[Own.Rs.wp_new]at w;exact w
theorem Xj{p:Prop}[Decidable p]{r:Own.Rs}{h:Own.Hs}{Q:Own.Q1}(w:(if p then r else .no).wp h Q):p∧r.wp h Q:=by
 by_cases e:p
 ·rw[if_pos e]at w;exact⟨e,w⟩
 ·rw[if_neg e]at w;exact(Zz w).elim
theorem YQ{f:Int→Int→Own.Rs}{v u:Own.Val}{h:Own.Hs}{Q:Own.Q1}(w:(Own.intV f v u).wp h Q):∃ i j,v=.int i∧u=.int j∧(f i j).wp h Q:=by
 cases v with
 |int i=>cases u with
  |int j=>exact⟨i,j,rfl,rfl,w⟩
  |_=>exact(Zz w).elim
 |_=>exact(Zz w).elim
noncomputable def D8 (K:PySem.W.Frag):R2:=fun x y H Q=>(rI0 (fun i j=>.int (i+j))) x y H Q∨((D7 K x y H Q∨Lq x y H Q)∨∃ i j,x=.str i∧y=.str j∧i.length+j.length≤sizeLine∧Q (.str (i++j)) H)
theorem Lk:OpR X (binaryOp .Add) (D8 X.K):=op_add.or ((op_catT.or GJ).or Nf)
theorem b_add:Wi i .add (D8 i.K):=by
 intro v u G H x y Q Qm g rx ry w c;cases v<;>cases u<;>first|exact(Zz w).elim|skip
 case int.int a b =>
  replace w:=Zv w
  exact .inl ⟨a,b,rx.int_inv,ry.int_inv,c _ G H _ (Keep.refl H) g (.int _) w⟩
 case str.str a b =>
  obtain⟨h,w⟩:=Xj w
  replace w:=Zv w
  refine .inr (.inr ⟨_,_,rx.str_inv,ry.str_inv,?_,?_⟩)
  ·rw[ZE,ZE];exact Nat.le_trans h ZU
  ·rw[←Kp];exact c _ G H _ (Keep.refl H) g (.str _) w
 case tup.tup xs ys =>
  obtain⟨h,w⟩:=Xj w
  replace w:=Zv w
  ·skip
   cases rx with
   |@tup _ p vs hp hr =>
   cases ry with
   |@tup _ q us hq hs =>
   refine .inr (.inl (.inl ⟨p,q,vs,us,rfl,rfl,ZA hp,ZA hq,fun z=>?_,?_,fun z=>?_,fun z a ha=>?_⟩))
   ·have:=hr.length;rw[z]at this;exact h.1 (List.eq_nil_of_length_eq_zero this)
   ·rw[←hr.length,←hs.length];exact Nat.le_trans h.2 ZU
   ·have:ys=[]:=List.eq_nil_of_length_eq_zero (by rw[hs.length,z];rfl);subst this;rw[List.append_nil]at w;exact c _ G H _ (Keep.refl H) g (.tup hp hr) w
   ·have k:=Keep.new (o:=.tup (vs++us)) ha;refine c _ G _ _ k (g.hid k fun b o e=>upd_ne ?_) (.tup (.inl upd_same) ((hr.keep k).append (hs.keep k))) w;rintro rfl;rw[g.free ha]at e;cases e
 case ref.ref a b =>
  dsimp only[Own.binV,Own.addV]at w;split at w
  ·rename_i xs ys e1 e2;unfold Own.Rs.lst at w;split at w
   ·rename_i hl;rw[Own.Rs.wp_new]at w;cases rx.ref_inv;cases ry.ref_inv;obtain⟨vs,h1,r1⟩:=g a _ e1;obtain⟨us,h2,r2⟩:=g b _ e2;refine .inr (.inl (.inr ⟨a,b,vs,us,rfl,rfl,h1,h2,?_,Yt g w c fun p hp=>?_⟩))
    ·rw[←r1.length,←r2.length,←List.length_append];exact Nat.le_trans hl ZU
    ·have k:=Keep.new (o:=.lst (vs++us)) hp;exact⟨_,upd_same,(r1.keep k).append (r2.keep k)⟩
   ·exact(Zz w).elim
  ·exact(Zz w).elim
theorem b_sub:Wi i .sub (rI0 fun i j=>.int (i - j)):=by intro v u G H x y Q Qm g rx ry w c;obtain⟨a,b,rfl,rfl,w⟩:=YQ w;exact⟨a,b,rx.int_inv,ry.int_inv,c _ G H _ (Keep.refl H) g (.int _) (Zv w)⟩
theorem RVs.rep{K:PySem.W.Frag}{H:Hp}{vs:List Own.Val}{xs:List V}(r:RVs K H vs xs):∀ n,RVs K H (List.replicate n vs).flatten (List.replicate n xs).flatten
 |0=>.nil
 |n+1=>by rw[List.replicate_succ,List.replicate_succ,List.flatten_cons,List.flatten_cons];exact r.append (RVs.rep r n)
set_option exponentiation.threshold 2000 in
theorem Ew{i j:Int}(h:Own.mulOk i j):IntMulOk i j:=by
 rcases h with(h|h)|⟨h1,h2⟩
 ·exact .of_left (intBits_le_64 (by omega) (by omega))
 ·exact .of_right (intBits_le_64 (by omega) (by omega))
 ·have e:(10:Nat) ^ 200<2 ^ 1000:=by decide
  exact .of_bits (Nat.le_trans (PyProof.Rows.intBits_le (Nat.lt_of_le_of_lt h1 e)) (by decide)) (Nat.le_trans (PyProof.Rows.intBits_le (Nat.lt_of_le_of_lt h2 e)) (by decide))
noncomputable def DM:R2:=fun x y H Q=>rI Own.mulOk (fun i j=>.int (i*j)) x y H Q∨IK x y H Q
theorem LB:OpR X (binaryOp .Mult) DM:=OpR.or (opI fun _ _ _ _ _ _ _ hc q=>PyProof.Rows.mul_int q (Ew hc)) FG
theorem b_mul:Wi i .mul DM:=by
 intro v u G H x y Q Qm g rx ry w c;cases v<;>cases u<;>first|exact(Zz w).elim|skip
 case int.int a b =>obtain⟨h,w⟩:=Xj w;exact .inl ⟨a,b,rx.int_inv,ry.int_inv,h,c _ G H _ (Keep.refl H) g (.int _) (Zv w)⟩
 case ref.int a k =>
  dsimp only[Own.binV,Own.mulV]at w;split at w
  ·rename_i xs e1;split at w
   ·rename_i hk;unfold Own.Rs.lst at w;split at w
    ·rw[Own.Rs.wp_new]at w;cases rx.ref_inv;cases ry.int_inv;obtain⟨vs,h1,r1⟩:=g a _ e1;refine .inr ⟨a,k,vs,rfl,rfl,h1,by omega,by omega,?_,Yt g w c fun p hp=>?_⟩
     ·rw[←r1.length];exact Nat.le_trans hk.2.2 ZU
     ·have kk:=Keep.new (o:=.lst (List.replicate k.toNat vs).flatten) hp;exact⟨_,upd_same,(r1.keep kk).rep _⟩
    ·exact(Zz w).elim
   ·exact(Zz w).elim
  ·exact(Zz w).elim
theorem b_fdiv:Wi i .fdiv (rI GY fun i j=>.int (i / j)):=by intro v u G H x y Q Qm g rx ry w c;obtain⟨a,b,rfl,rfl,w⟩:=YQ w;obtain⟨h,w⟩:=Xj w;exact⟨a,b,rx.int_inv,ry.int_inv,h,c _ G H _ (Keep.refl H) g (.int _) (Zv w)⟩
theorem b_mod:Wi i .mod (rI (fun _ j=>0<j) fun i j=>.int (i % j)):=by intro v u G H x y Q Qm g rx ry w c;obtain⟨a,b,rfl,rfl,w⟩:=YQ w;obtain⟨h,w⟩:=Xj w;exact⟨a,b,rx.int_inv,ry.int_inv,h,c _ G H _ (Keep.refl H) g (.int _) (Zv w)⟩
theorem b_pow:Wi i .pow (rI Hh fun i j=>.int (i ^ j.toNat)):=by intro v u G H x y Q Qm g rx ry w c;obtain⟨a,b,rfl,rfl,w⟩:=YQ w;obtain⟨h,w⟩:=Xj w;exact⟨a,b,rx.int_inv,ry.int_inv,h,c _ G H _ (Keep.refl H) g (.int _) (Zv w)⟩
theorem Z7{K:PySem.W.Frag}{H:Hp}:∀ {xs:List Own.Val}{ns:List Int}{vs:List V},Own.intsOf xs=some ns→RVs K H xs vs→vs=ns.map V.int
 |[],_,_,e,.nil=>by cases e;rfl
 |.int k::xs,_,_,e,.cons r t=>by
  simp only[Own.intsOf]at e;cases z:Own.intsOf xs with
  |none=>rw[z]at e;cases e
  |some ns=>rw[z]at e;cases e;cases r;rw[Z7 z t];rfl
 |.non::_,_,_,e,_=>by cases e
 |.bl _::_,_,_,e,_=>by cases e
 |.str _::_,_,_,e,_=>by cases e
 |.tup _::_,_,_,e,_=>by cases e
 |.ref _::_,_,_,e,_=>by cases e
 |.scr _::_,_,_,e,_=>by cases e
theorem We:∀ (ns ms:List Int),Own.lexI ns ms=HT.lexLt ns ms
 |[],[]=>rfl
 |[],_::_=>rfl
 |_::_,[]=>rfl
 |x::xs,y::ys=>by rw[Own.lexI,HT.lexLt_cons,We xs ys]
noncomputable def HJ (K:PySem.W.Frag):R2:=fun x y H Q=>rI0 (fun i j=>.bl (decide (i<j))) x y H Q∨Iz K x y H Q
theorem LR(hu:X.A.units<cLine):OpR X (compareOp .Lt) (HJ X.K):=op_lt.or (Fj hu)
noncomputable def Hj (K:PySem.W.Frag):R2:=fun x y H Q=>rI0 (fun i j=>.bl (decide (j<i))) x y H Q∨HT2.rGtT K x y H Q
theorem Pf(hu:X.A.units<cLine):OpR X (compareOp .Gt) (Hj X.K):=op_gt.or (HT2.op_gtT hu)
theorem Eb{H:Hp}{K:PySem.W.Frag}{xs ys:List Own.Val}{x y:V}{c:Bool}(rx:RV K H (.tup xs) x)(ry:RV K H (.tup ys) y)(e:Own.ltV (.tup xs) (.tup ys)=some c):∃ a b ns ms,x=.ref a∧y=.ref b∧SqT K H a (ns.map V.int)∧SqT K H b (ms.map V.int)∧HT.lexLt ns ms=c:=by
 simp only[Own.ltV]at e;cases z1:Own.intsOf xs with
 |none=>rw[z1]at e;cases e
 |some ns =>
  cases z2:Own.intsOf ys with
  |none=>rw[z1,z2]at e;cases e
  |some ms =>
   rw[z1,z2]at e;cases e;cases rx with
   |@tup _ p vs hp hr =>
   cases ry with
   |@tup _ q us hq hs =>
   have h1:=Z7 z1 hr;have h2:=Z7 z2 hs;subst h1 h2;exact⟨p,q,ns,ms,rfl,rfl,ZA hp,ZA hq,(We _ _).symm⟩
theorem c_lt:Z1 i .lt (HJ i.K):=by
 intro v u G H x y c Q g rx ry e q
 replace e:Own.ltV v u=some c:=e
 cases v<;>cases u<;>first|(cases e;done)|skip
 case int.int a b=>cases e;exact .inl ⟨a,b,rx.int_inv,ry.int_inv,q⟩
 case tup.tup xs ys =>obtain⟨a,b,ns,ms,h1,h2,h3,h4,h5⟩:=Eb rx ry e;exact .inr ⟨a,b,ns,ms,h1,h2,h3,h4,by rw[h5];exact q⟩
theorem c_gt:Z1 i .gt (Hj i.K):=by
 intro v u G H x y c Q g rx ry e q
 replace e:Own.ltV u v=some c:=e
 cases v<;>cases u<;>first|(cases e;done)|skip
 case int.int a b=>cases e;exact .inl ⟨a,b,rx.int_inv,ry.int_inv,q⟩
 case tup.tup xs ys =>obtain⟨a,b,ns,ms,h1,h2,h3,h4,h5⟩:=Eb ry rx e;exact .inr ⟨b,a,ms,ns,h2,h1,h4,h3,by rw[HT2.lexGt_lt,h5];exact q⟩
theorem DP{v u:Own.Val}{c:Bool}(e:Own.leV v u=some c):∃ i j,v=.int i∧u=.int j∧decide (i≤j)=c:=by
 cases v with
 |int i=>cases u with
  |int j=>cases e;exact⟨i,j,rfl,rfl,rfl⟩
  |_=>cases e
 |_=>cases e
theorem c_le:Z1 i .le (rI0 fun i j=>.bl (decide (i≤j))):=by intro v u G H x y c Q g rx ry e q;obtain⟨a,b,rfl,rfl,rfl⟩:=DP e;exact⟨a,b,rx.int_inv,ry.int_inv,q⟩
theorem c_ge:Z1 i .ge (rI0 fun i j=>.bl (decide (j≤i))):=by intro v u G H x y c Q g rx ry e q;obtain⟨a,b,rfl,rfl,rfl⟩:=DP e;exact⟨b,a,rx.int_inv,ry.int_inv,q⟩
theorem RV.isN{K:PySem.W.Frag}{H:Hp}{v:Own.Val}{x:V}(r:RV K H v x):decide (x=.non)=decide (v=.non):=by cases r<;>simp
theorem HN{a:Expr}{ma:Own.E}{pos p2:Pos}{j:Nat}(ha:PE X a (tE X i Φ ma)):PE X (.Compare a [.Is] [.Constant .none j p2] pos) (tE X i Φ (.cmp .is ma (.cst .non))) :=
 (U5 (UE ha) rfl).imp fun σ H Q ⟨env,G,Qm,Em,p,w,c⟩=>by rw[Own.q_e_cmp]at w;refine one p w fun v G1 H1 x k1 p1 r q=>?_;rw[Own.q_e_cst]at q;obtain⟨d,e,q2⟩:=go_some q;have e:some (decide (v=.non))=some d:=e;cases e;rw[r.isN];exact c _ G1 H1 _ k1 p1.hp (.bl _) q2
theorem Fu{a:Expr}{ma:Own.E}{pos p2:Pos}{j:Nat}(ha:PE X a (tE X i Φ ma)):PE X (.Compare a [.IsNot] [.Constant .none j p2] pos) (tE X i Φ (.cmp .isnot ma (.cst .non))) :=
 (U5 (NB ha) rfl).imp fun σ H Q ⟨env,G,Qm,Em,p,w,c⟩=>by rw[Own.q_e_cmp]at w;refine one p w fun v G1 H1 x k1 p1 r q=>?_;rw[Own.q_e_cst]at q;obtain⟨d,e,q2⟩:=go_some q;have e:some (!decide (v=.non))=some d:=e;cases e;rw[r.isN];exact c _ G1 H1 _ k1 p1.hp (.bl _) q2
theorem FB{a:Expr}{ma:Own.E}{pos p2:Pos}{j:Nat}(ha:PE X a (tE X i Φ ma)):PT X (.Compare a [.Is] [.Constant .none j p2] pos) (tTt X i Φ (.val (.cmp .is ma (.cst .non)))) :=
 (UN (UE ha) rfl).imp fun σ H Q ⟨env,G,Qm,Em,p,w,c⟩=>by rw[Own.q_t_val,Own.q_e_cmp]at w;refine one p w fun v G1 H1 x k1 p1 r q=>?_;rw[Own.q_e_cst]at q;obtain⟨d,e,q2⟩:=go_some q;obtain⟨d',e',q3⟩:=go_some q2;cases e';have e:some (decide (v=.non))=some d:=e;cases e;rw[r.isN];exact⟨_,rfl,c _ G1 H1 k1 p1.hp q3⟩
theorem CC{a:Expr}{ma:Own.E}{pos p2:Pos}{j:Nat}(ha:PE X a (tE X i Φ ma)):PT X (.Compare a [.IsNot] [.Constant .none j p2] pos) (tTt X i Φ (.val (.cmp .isnot ma (.cst .non)))) :=
 (UN (NB ha) rfl).imp fun σ H Q ⟨env,G,Qm,Em,p,w,c⟩=>by rw[Own.q_t_val,Own.q_e_cmp]at w;refine one p w fun v G1 H1 x k1 p1 r q=>?_;rw[Own.q_e_cst]at q;obtain⟨d,e,q2⟩:=go_some q;obtain⟨d',e',q3⟩:=go_some q2;cases e';have e:some (!decide (v=.non))=some d:=e;cases e;rw[r.isN];exact⟨_,rfl,c _ G1 H1 k1 p1.hp q3⟩
end Snd
namespace Snd
open PySem L2 PySem.Spec PyProof.Rows
variable {i:Inf}{X:Cx}{Φ:Own.Fs}
theorem RKs.length{K:PySem.W.Frag}{H:Hp}:∀ {kvs:List (Own.Val×Own.Val)}{ps:List (Key×V)},RKs K H kvs ps→kvs.length=ps.length
 |_,_,.nil=>rfl
 |_,_,.cons _ _ t=>by rw[List.length_cons,List.length_cons,RKs.length t]
theorem X5{k j:Own.Val}{c d:Key}(a:XR k c)(b:XR j d):(k==j)=decide (c=d):=by
 have key:k=j↔c=d:=by
  cases k<;>cases c<;>first|(cases a;done)|skip
  ·cases j<;>cases d<;>first|(cases b;done)|skip
   ·cases a;cases b;simp
   ·cases a;cases b;simp
  ·cases j<;>cases d<;>first|(cases b;done)|skip
   ·cases a;cases b;simp
   ·cases a;cases b;simp[ofS_inj]
 by_cases e:k=j
 ·rw[decide_eq_true (key.mp e),e];simp
 ·rw[decide_eq_false fun z=>e (key.mpr z)];simpa using e
theorem key_of{k:Own.Val}{x:V}{K:PySem.W.Frag}{H:Hp}(h:Own.isKey k=true)(r:RV K H k x):∃ c,XR k c∧x=kV c:=by
 cases k with
 |int n=>cases r.int_inv;exact⟨.inl n,rfl,rfl⟩
 |str s=>cases r.str_inv;exact⟨.inr (Str.ofString s),rfl,rfl⟩
 |_=>cases h
theorem RKs.look{K:PySem.W.Frag}{H:Hp}{k:Own.Val}{c:Key}(a:XR k c):∀ {kvs:List (Own.Val×Own.Val)}{ps:List (Key×V)},RKs K H kvs ps→
  (∀ v,Own.lookK kvs k=some v→∃ x,Yb ps c=some x∧RV K H v x)∧(Own.lookK kvs k=none→Yb ps c=none)
 |_,_,.nil=>⟨fun v e=>(by cases e),fun _=>rfl⟩
 |_,_,.cons (k:=j) (v:=u) (c:=d) (x:=y) (kvs:=kvs) (ps:=ps) b r t=>by
  have ih:=RKs.look a t;have q:=X5 b a;by_cases e:d=c
  ·rw[decide_eq_true e]at q;have e1:Own.lookK ((j,u)::kvs) k=some u:=by simp[Own.lookK,List.find?_cons,q]
   rw[e1,Xk e];exact⟨fun v z=>(by cases z;exact⟨y,rfl,r⟩),fun z=>(by cases z)⟩
  ·rw[decide_eq_false e]at q;have e1:Own.lookK ((j,u)::kvs) k=Own.lookK kvs k:=by simp[Own.lookK,List.find?_cons,q]
   rw[e1,Xo e];exact ih
theorem RKs.has{K:PySem.W.Frag}{H:Hp}{k:Own.Val}{c:Key}(a:XR k c):∀ {kvs:List (Own.Val×Own.Val)}{ps:List (Key×V)},RKs K H kvs ps→Own.hasK kvs k=ps.any fun kv=>decide (kv.1=c)
 |_,_,.nil=>rfl
 |_,_,.cons b r t=>by have ih:=RKs.has a t;unfold Own.hasK at ih ⊢;rw[List.any_cons,List.any_cons,ih,X5 b a]
theorem RKs.app{K:PySem.W.Frag}{H:Hp}{k v:Own.Val}{c:Key}{x:V}(a:XR k c)(q:RV K H v x):∀ {kvs:List (Own.Val×Own.Val)}{ps:List (Key×V)},RKs K H kvs ps→RKs K H (kvs++[(k,v)]) (ps++[(c,x)])
 |_,_,.nil=>.cons a q .nil
 |_,_,.cons b r t=>.cons b r (RKs.app a q t)
theorem RKs.repl{K:PySem.W.Frag}{H:Hp}{k v:Own.Val}{c:Key}{x:V}(a:XR k c)(q:RV K H v x):∀ {kvs:List (Own.Val×Own.Val)}{ps:List (Key×V)},RKs K H kvs ps→
  RKs K H (kvs.map fun p=>if p.1==k then(k,v)else p) (ps.map fun kv=>if kv.1=c then(kv.1,x)else kv)
 |_,_,.nil=>.nil
 |_,_,.cons (k:=j) (v:=u) (c:=d) (x:=y) b r t=>by
  have ih:=RKs.repl a q t;have z:=X5 b a;rw[List.map_cons,List.map_cons];by_cases e:d=c
  ·rw[decide_eq_true e]at z;rw[if_pos z,if_pos e];exact .cons (e▸a) q ih
  ·rw[decide_eq_false e]at z;rw[if_neg (by rw[z];decide),if_neg e];exact .cons b r ih
theorem RKs.put{K:PySem.W.Frag}{H:Hp}{k v:Own.Val}{c:Key}{x:V}(a:XR k c)(q:RV K H v x){kvs:List (Own.Val×Own.Val)}{ps:List (Key×V)}(r:RKs K H kvs ps):RKs K H (Own.putK kvs k v) (L2.putK ps c x):=by
 unfold Own.putK L2.putK;rw[r.has a];by_cases e:(ps.any fun kv=>decide (kv.1=c))=true
 ·rw[if_pos e,if_pos e];exact r.repl a q
 ·rw[if_neg e,if_neg e];exact r.app a q
theorem RKs.drop{K:PySem.W.Frag}{H:Hp}{k:Own.Val}{c:Key}(a:XR k c):∀ {kvs:List (Own.Val×Own.Val)}{ps:List (Key×V)},RKs K H kvs ps→RKs K H (Own.dropK kvs k) (L2.dropK ps c)
 |_,_,.nil=>.nil
 |_,_,.cons (k:=j) (v:=u) (c:=d) (x:=y) b r t=>by
  have ih:=RKs.drop a t;have z:=X5 b a;unfold Own.dropK L2.dropK at ih ⊢;rw[List.filter_cons,List.filter_cons];by_cases e:d=c
  ·rw[decide_eq_true e]at z;rw[if_neg (by rw[z];decide),if_neg (by simpa using e)];exact ih
  ·rw[decide_eq_false e]at z;rw[if_pos (by rw[z];rfl),if_pos (by simpa using e)];exact .cons b r ih
theorem Kn{G:Own.Hs}{H:Hp}{a:Addr}{kvs kvs':List (Own.Val×Own.Val)}{ps ps':List (Key×V)}(g:RH i G H)(h:H a=some (.dK ps))(r:RKs i.K H kvs' ps'):Keep H (upd H a (.dK ps'))∧RH i (Own.upd G a (.dct kvs')) (upd H a (.dK ps')):=by
 have k:Keep H (upd H a (.dK ps')):=Keep.put (fun xs e=>by rw[h]at e;cases e) fun p u e=>by rw[h]at e;cases e
 exact⟨k,g.put k ⟨ps',upd_same,r.keep k⟩⟩
noncomputable def Im:R2:=fun x y H Q=>∃ a v,x=.ref a∧DGet H a y (some v)∧Q v H
theorem Dq(hu:X.A.units+1<cLine):IxR X Im:=by
 intro value slice pins s σ H x y v u Q I rx ry h hs;obtain⟨a,z,rfl,g,q⟩:=h;cases rx;have hT:=KP I g;unfold subscriptTail;refine wpAny_bind ?_;rw[getitemInPython_of_ne hT.not_modules];refine wpAny_bind (wpAny_specialOf hT PySem.F.slot_dict_getitem.lookup ?_);have fin:wpAny (model X.prog X.w) X.A (subscripted slice false (.ref a) u) (fun r s₃=>wpAny (model X.prog X.w) X.A (letTemporaryGo value (.ref a) r >>= fun _=>pure r) (EP X pins σ Q) X.xe s₃) X.xe s:=by rw[hs];exact wpAny_operating (OF hu I g ry fun w' s' I' rw'=>wpAny_bind (wpAny_letTemporaryGo (wpAny_pure ⟨_,_,I',rw',q⟩)))
 first
  |exact wpAny_pure (wpAny_bind fin)
  |exact wpAny_bind (wpAny_pure (wpAny_bind fin))
  |exact wpAny_bind fin
noncomputable def Cs (b:Bool):R2:=fun x y H Q=>∃ a o,y=.ref a∧DGet H a x o∧Q (.bl (b ^^ o.isSome)) H
theorem Fg(hu:X.A.units+1<cLine):OpR X (compareOp .In) (Cs false):=by intro pins s σ H x y v u Q I rx ry h;obtain⟨a,o,rfl,g,q⟩:=h;cases ry;rw[Bool.false_xor]at q;exact LY hu I g rx fun s' I'=>⟨.bl o.isSome,_,I',rfl,q⟩
theorem Fd(hu:X.A.units+1<cLine):OpR X (compareOp .NotIn) (Cs true):=by intro pins s σ H x y v u Q I rx ry h;obtain⟨a,o,rfl,g,q⟩:=h;cases ry;rw[Bool.true_xor]at q;exact BP hu I g rx fun s' I'=>⟨.bl (!o.isSome),_,I',rfl,q⟩
def D1:V→V→V→Hp→(Hp→Prop)→Prop:=fun o y v H Q=>∃ a H',o=.ref a∧DPut H a y v H'∧Q H'
theorem Uj(hu:X.A.units+1<cLine):PSet X D1:=by intro pins s σ H o y v ov iv u Q I ro ri rv h;obtain⟨a,H',rfl,g,q⟩:=h;cases ro;exact Ow hu I g ri rv fun s' I'=>⟨H',I',q⟩
theorem PSet.or{r r':V→V→V→Hp→(Hp→Prop)→Prop}(h:PSet X r)(h':PSet X r'):PSet X (fun o y v H Q=>r o y v H Q∨r' o y v H Q):=by
 intro pins s σ H o y v ov iv u Q I ro ri rv q;rcases q with q|q
 ·exact h pins s σ H o y v ov iv u Q I ro ri rv q
 ·exact h' pins s σ H o y v ov iv u Q I ro ri rv q
end Snd
namespace Snd
open PySem L2
variable {i:Inf}{X:Cx}{Φ:Own.Fs}
theorem Ke(n:Nat)(k:Int):Own.ixN n k=L2.ixN n k:=rfl
theorem JU{K:PySem.W.Frag}{H:Hp}{xs:List Own.Val}{vs:List V}{k:Int}{v:Own.Val}(r:RVs K H xs vs)(e:Own.atI xs k=some v):∃ x,L2.atI vs k=some x∧RV K H v x:=by
 unfold Own.atI at e;unfold L2.atI;rw[Ke,r.length]at e;cases z:L2.ixN vs.length k with
 |none=>rw[z]at e;cases e
 |some j =>rw[z]at e;obtain⟨x,h1,h2⟩:=r.get (show xs[j]?=some v from e);exact⟨x,h1,h2⟩
def G8 (i:Inf) (r:R2):Prop:=∀ (v u:Own.Val) (G:Own.Hs) (H:Hp) (x y:V) (w:Own.Val) (Q:VK),RH i G H→RV i.K H v x→RV i.K H u y→Own.idxV G v u=some w→(∀ z,RV i.K H w z→Q z H)→r x y H Q
theorem HL{a b:Expr}{ma mb:Own.E}{r:R2}{pos:Pos}(hr:IxR X r)(ho:G8 i r)(ha:PE X a (tE X i Φ ma))(hb:PE X b (tE X i Φ mb))(hs:Kv b):PE X (.Subscript a b pos) (tE X i Φ (.idx ma mb)) :=
 (Iv hr ha hb hs).imp fun σ H Q ⟨env,G,Qm,Em,p,w,c⟩=>by
  rw[Own.q_e_idx]at w;exact two p w fun v u G2 H2 x y k2 p2 rx ry q=>by obtain⟨z,e,q⟩:=go_some q;exact ho v u G2 H2 x y z Q p2.hp rx ry e fun t rt=>c z G2 H2 t k2 p2.hp rt q
theorem Dz{s:String}{k:Int}{c:Char}(e:Own.atI s.toList k=some c):L2.atI (Str.ofString s).cps.toList k=some c.toNat:=by
 rw[Str.ofString_eq_toList];show L2.atI (List.map Char.toNat s.toList).toArray.toList k=_;unfold Own.atI at e;unfold L2.atI;simp only[List.length_map];rw[Ke]at e;cases z:L2.ixN s.toList.length k with
 |none=>rw[z]at e;cases e
 |some j =>rw[z]at e;have e:s.toList[j]?=some c:=e;show(List.map Char.toNat s.toList)[j]?=_;rw[List.getElem?_map,e];rfl
theorem M5(c:Char):Str.ofString (String.singleton c)=⟨#[c.toNat]⟩:=by rw[Str.ofString_eq_toList];simp
noncomputable def LS (K:PySem.W.Frag):R2:=fun x y H Q=>rIx K x y H Q∨Im x y H Q
theorem IV:G8 i (LS i.K):=by
 intro v u G H x y w Q g rx ry e q;cases v with
 |tup xs =>
  cases u with
  |int k =>
   cases rx with
   |tup hp hr =>obtain⟨z,h1,h2⟩:=JU hr (show Own.atI xs k=some w from e);exact .inl (.inr (.inl ⟨_,_,k,z,rfl,ry.int_inv,ZA hp,h1,q z h2⟩))
  |_=>cases e
 |str s =>
  cases u with
  |int k =>
   simp only[Own.idxV]at e;split at e
   ·rename_i hl;cases z:Own.atI s.toList k with
    |none=>rw[z]at e;cases e
    |some c =>rw[z]at e;cases e;refine .inl (.inr (.inr ⟨_,k,_,rx.str_inv,ry.int_inv,by rw[ZE];exact Nat.le_trans hl ZU,Dz z,?_⟩));have:=q _ (.str (String.singleton c));rw[M5]at this;exact this
   ·cases e
  |_=>cases e
 |ref a =>
  cases rx.ref_inv
  replace e:(match G a with|some (.lst xs)=>(Own.asInt u).bind (Own.atI xs)|some (.dct kvs)=>if Own.isKey u then Own.lookK kvs u else none|some (.frz kvs)=>if Own.isKey u then Own.lookK kvs u else none|_=>none)=some w:=e
  cases z:G a with
  |none=>rw[z]at e;cases e
  |some o =>
   rw[z]at e;cases o with
   |lst xs =>obtain⟨k,hk,e⟩:=Option.bind_eq_some_iff.mp e;cases Z0 hk;obtain⟨vs,h1,h2⟩:=g a _ z;obtain⟨t,h3,h4⟩:=JU h2 e;exact .inl (.inl ⟨a,vs,k,t,rfl,ry.int_inv,SqL.of h1,h3,q t h4⟩)
   |dct kvs =>obtain⟨hk,e⟩:=ZP (show(if Own.isKey u then Own.lookK kvs u else none)=some w from e);obtain⟨ps,h1,h2⟩:=g a _ z;obtain⟨d,kr,rfl⟩:=key_of hk ry;obtain⟨t,hx,rv⟩:=(h2.look kr).1 w e;exact .inr ⟨a,t,rfl,by rw[←hx];exact DGet.k h1,q t rv⟩
   |frz kvs =>obtain⟨hk,e⟩:=ZP (show(if Own.isKey u then Own.lookK kvs u else none)=some w from e);obtain⟨ob,ps,h1,h2⟩:=g a _ z;obtain⟨d,kr,rfl⟩:=key_of hk ry;obtain⟨t,hx,rv⟩:=(h2.look kr).1 w e;exact .inr ⟨a,t,rfl,.inl ⟨ps,d,.inr ⟨ob,h1⟩,rfl,hx.symm⟩,q t rv⟩
   |_=>cases e
 |scr ns =>
  cases u with
  |int k =>
   cases rx with
   |scr h =>obtain⟨t,h3,h4⟩:=JU (RVs.ints ns) (show Own.atI (ns.map .int) k=some w from e);exact .inl (.inl ⟨_,_,k,t,rfl,ry.int_inv,Yi h,h3,q t h4⟩)
  |_=>cases e
 |_=>cases e
def tOx (X:Cx) (i:Inf) (Φ:Own.Fs) (m:Own.Oe):TO:=fun σ H Q=>∃ env G Qm Em,Pre X i σ H env G Em∧Own.wO Φ m env G Qm Em∧∀ k G' H',Keep H H'→RH i G' H'→Qm k G'→Q k H'
theorem _root_.L2.PO.imp{X:Cx}{e:Option Expr}{t t':TO}(h:PO X e t)(f:∀ σ H Q,t' σ H Q→t σ H Q):PO X e t':=fun pins s σ H Q I q=>h pins s σ H Q I (f σ H Q q)
theorem Dc:PO X none (tOx X i Φ .none):=po_none.imp fun σ H Q ⟨env,G,Qm,Em,p,w,c⟩=>by rw[Own.q_o_none]at w;exact c none G H (Keep.refl H) p.hp w
theorem CG{e:Expr}{m:Own.E}(he:PE X e (tE X i Φ m)):PO X (some e) (tOx X i Φ (.some m)):=(CA he).imp fun σ H Q ⟨env,G,Qm,Em,p,w,c⟩=>by
 rw[Own.q_o_some]at w;exact one p w fun v G1 H1 x k1 p1 r q=>by obtain⟨b,e,q2⟩:=go_some q;cases Z0 e;exact⟨b,r.int_inv,c _ G1 H1 k1 p1.hp q2⟩
theorem MA{xs:List Own.Val}{vs:List V}{K:PySem.W.Frag}{H:Hp}(r:RVs K H xs vs)(lo hi:Option Int):RVs K H (Own.cut xs lo hi) (Kb vs lo hi):=by
 have e:∀ (n d:Nat) (o:Option Int),Own.cutAt n d o=HT.sIx n d o:=by
  intro n d o;cases o with
  |none=>rfl
  |some k =>
   show(if 0≤k then min k.toNat n else(k+n).toNat)=(if k<0 then(k+(n:Int)).toNat else min k.toNat n)
   by_cases h:k<0
   ·rw[if_pos h,if_neg (by omega)]
   ·rw[if_neg h,if_pos (by omega)]
 unfold Own.cut Kb;rw[e,e,r.length];exact(r.drop _).take _
def Ir (i:Inf) (r:V→Option Int→Option Int→Hp→VK→Prop):Prop:=∀ (v:Own.Val) (lo hi:Option Int) (G:Own.Hs) (H:Hp) (x:V) (Q:VK) (Qm:Own.Q1),RH i G H→RV i.K H v x→(Own.slcV G v lo hi).wp G Qm→Cn i H Q Qm→r x lo hi H Q
theorem Ip{a:Expr}{lo hi:Option Expr}{ma:Own.E}{ml mh:Own.Oe}{r:V→Option Int→Option Int→Hp→VK→Prop}{p2 pos:Pos}(hr:SlR X r)(ho:Ir i r)(ha:PE X a (tE X i Φ ma))(hl:PO X lo (tOx X i Φ ml))(hh:PO X hi (tOx X i Φ mh)):PE X (.Subscript a (.Slice lo hi none p2) pos) (tE X i Φ (.slc ma ml mh)) :=
 (AM hr ha hl hh).imp fun σ H Q ⟨env,G,Qm,Em,p,w,c⟩=>by
  rw[Own.q_e_slc]at w;exact⟨env,G,_,Em,p,w,fun v G1 H1 x k1 g1 r1 w1=>⟨env,G1,_,Em,p.go k1 g1,w1,fun l G2 H2 k2 g2 w2=>⟨env,G2,_,Em,(p.go k1 g1).go k2 g2,w2,fun u G3 H3 k3 g3 w3 =>
    ho v l u G3 H3 x Q Qm g3 ((r1.keep k2).keep k3) w3 (((c.go k1).go k2).go k3)⟩⟩⟩
def Hc (K:PySem.W.Frag):V→Option Int→Option Int→Hp→VK→Prop:=fun x lo hi H Q=>Iy K x lo hi H Q∨Lz K x lo hi H Q∨ID x lo hi H Q
theorem Pe:SlR X (Hc X.K):=sl_list.or (sl_tup.or sl_str)
theorem KZ(n d:Nat)(o:Option Int):Own.cutAt n d o=HT.sIx n d o:=by
 cases o with
 |none=>rfl
 |some k =>
  show(if 0≤k then min k.toNat n else(k+n).toNat)=(if k<0 then(k+(n:Int)).toNat else min k.toNat n)
  by_cases h:k<0
  ·rw[if_pos h,if_neg (by omega)]
  ·rw[if_neg h,if_pos (by omega)]
theorem KN(n d:Nat)(h:d≤n)(o:Option Int):Own.cutAt n d o≤n:=by
 cases o with
 |none=>exact h
 |some k =>show(if 0≤k then min k.toNat n else(k+n).toNat)≤n;split<;>omega
theorem clip_eq(n d:Nat)(h:d≤n)(o:Option Int):(match o with
    |none=>(d:Int)
    | some i=>max 0 (min (if i<0 then i+(n:Int)else i) (n:Int)))=(Own.cutAt n d o:Int):=by
 cases o with
 |none=>rfl
 |some k =>
  show _=(((if 0≤k then min k.toNat n else(k+n).toNat):Nat):Int)
  by_cases hk:k<0
  ·rw[if_neg (show ¬ 0≤k by omega)];simp only[hk,if_true];omega
  ·rw[if_pos (show 0≤k by omega)];simp only[hk,if_false];omega
theorem Gr(n:Nat)(lo hi:Option Int):PySem.Builtin.Str.strSliceIndices lo hi 1 n=(List.range (Own.cutAt n n hi - Own.cutAt n 0 lo)).map fun k=>Own.cutAt n 0 lo+k:=by
 have e1:=clip_eq n 0 (Nat.zero_le _) lo;have e2:=clip_eq n n (Nat.le_refl _) hi;have e3:PySem.Builtin.Str.strSliceIndices lo hi 1 n=sliceRange (Own.cutAt n 0 lo:Int) (Own.cutAt n n hi:Int) 1:=by unfold PySem.Builtin.Str.strSliceIndices;rw[←e1,←e2];cases lo<;>cases hi<;>rfl
 rw[e3];unfold sliceRange;have e4:(if(1:Int) > 0 then(if(Own.cutAt n 0 lo:Int)<(Own.cutAt n n hi:Int)then((Own.cutAt n n hi:Int) - (Own.cutAt n 0 lo:Int)+1 - 1) / 1 else 0)else(if(Own.cutAt n 0 lo:Int) > (Own.cutAt n n hi:Int)then((Own.cutAt n 0 lo:Int) - (Own.cutAt n n hi:Int) - 1 - 1) / (-1)else 0)).toNat=Own.cutAt n n hi - Own.cutAt n 0 lo:=by rw[if_pos (by decide),Int.ediv_one];split<;>omega
 show(List.range (Int.toNat (if(1:Int) > 0 then _ else _))).map _=_;rw[e4];refine List.map_congr_left fun k _=>?_;omega
theorem BJ(s:String)(lo hi:Option Int):O3 (Str.ofString s) lo hi=Str.ofString (String.ofList (Own.cut s.toList lo hi)):=by
 have hl:(Str.ofString s).length=s.toList.length:=by rw[ZE,String.length_toList]
 have ha:=KN s.toList.length 0 (Nat.zero_le _) lo;have hb:=KN s.toList.length s.toList.length (Nat.le_refl _) hi;have e:=Gr s.toList.length lo hi;rw[←hl]at e;unfold O3;rw[e];simp only[hl];have ec:(Str.ofString s).cps.toList=s.toList.map Char.toNat:=by rw[Str.ofString_eq_toList]
 split
 ·rename_i z;rw[List.length_map,List.length_range]at z;have e0:Own.cutAt s.toList.length 0 lo=0∨s.toList.length=0:=by omega
  have e5:Own.cut s.toList lo hi=s.toList:=by
   unfold Own.cut;rw[z];rcases e0 with e0|e0
   ·rw[e0,List.drop_zero,List.take_length]
   ·have:s.toList=[]:=List.length_eq_zero_iff.mp e0;rw[this];simp
  rw[e5,String.ofList_toList]
 ·rw[Str.ofString_eq_toList (String.ofList _),String.toList_ofList];congr 2;have e3:(fun i:Nat=>(Str.ofString s).cps[i]?)=fun i:Nat=>(s.toList.map Char.toNat)[i]?:=by
   funext i;rw[←ec];simp
  rw[e3];by_cases hab:Own.cutAt s.toList.length 0 lo≤Own.cutAt s.toList.length s.toList.length hi
  ·rw[PySem.StrLaws.picks _ _ _ (by rw[List.length_map];omega)];unfold Own.cut;rw[List.map_take,List.map_drop]
  ·have:Own.cutAt s.toList.length s.toList.length hi - Own.cutAt s.toList.length 0 lo=0:=by omega
   unfold Own.cut;rw[this];simp
theorem Lo:Ir i (Hc i.K):=by
 intro v lo hi G H x Q Qm g r w c;cases v with
 |tup xs =>
  simp only[Own.slcV]at w;split at w
  ·simp at w
  ·rename_i hn;rw[Own.Rs.wp_val]at w;cases r with
   |@tup _ a vs hp hr =>refine .inr (.inl ⟨a,vs,rfl,ZA hp,by rw[←KZ,←KZ,←hr.length];exact hn,fun p hp'=>?_⟩);have k:=Keep.new (o:=.tup (Kb vs lo hi)) hp';refine c _ G _ _ k (g.hid k fun b o e=>upd_ne ?_) (.tup (.inl upd_same) (MA (hr.keep k) lo hi)) w;rintro rfl;rw[g.free hp']at e;cases e
 |ref a =>
  cases r.ref_inv;simp only[Own.slcV]at w;cases z:Own.lsOf (G a)with
  |none=>rw[z]at w;simp at w
  |some xs =>rw[z]at w;rw[Own.Rs.wp_new]at w;obtain⟨vs,h1,h2⟩:=ZC g z;exact .inl ⟨a,vs,rfl,h1,Yt g w c fun p hp=>⟨_,upd_same,MA (h2.keep (Keep.new hp)) lo hi⟩⟩
 |scr ns =>
  simp only[Own.slcV,Own.Rs.wp_new]at w;cases r with
  |scr h=>exact .inl ⟨_,_,rfl,Yi h,Yt g w c fun p hp=>⟨_,upd_same,MA (RVs.ints ns) lo hi⟩⟩
 |str s =>
  cases r.str_inv;simp only[Own.slcV]at w;split at w
  ·rename_i hl;rw[Own.Rs.wp_val]at w;refine .inr (.inr ⟨_,rfl,by rw[ZE];exact Nat.le_trans hl (by decide),?_⟩);rw[BJ];exact c _ G H _ (Keep.refl H) g (.str _) w
  ·simp at w
 |_=>simp[Own.slcV]at w
theorem RVs.app1{K:PySem.W.Frag}{H:Hp}{vs:List Own.Val}{xs:List V}{v:Own.Val}{x:V}(r:RVs K H vs xs)(q:RV K H v x):RVs K H (vs++[v]) (xs++[x]):=r.append (.cons q .nil)
theorem G7{es:List Expr}{ms:Own.Es}{k n:Nat}{pos:Pos}(hn:n≤1000)(h:PA X es (tAr X i Φ ms n)):PE X (.Tuple es k pos) (tE X i Φ (.tup ms)) :=
 (EC h).imp fun σ H Q ⟨env,G,Qm,Em,p,w,c⟩=>by rw[Own.q_e_tup]at w;refine⟨env,G,_,Em,p,w,fun vs G1 H1 xs k1 g1 r1 hl w1=>⟨by rw[hl];exact Nat.le_trans hn (by decide),fun a ha=>?_⟩⟩;have k:=Keep.new (o:=.tup xs) ha;refine c _ G1 _ _ (k1.trans k) (g1.hid k fun b o e=>upd_ne ?_) (.tup (.inl upd_same) (r1.keep k)) w1;rintro rfl;rw[g1.free ha]at e;cases e
theorem Lj{es:List Expr}{ms:Own.Es}{n:Nat}{pos:Pos}(hn:n≤1000)(h:PA X es (tAr X i Φ ms n)):PE X (.List es pos) (tE X i Φ (.lst ms)) :=
 (E1 h).imp fun σ H Q ⟨env,G,Qm,Em,p,w,c⟩=>by rw[Own.q_e_lst]at w;refine⟨env,G,_,Em,p,w,fun vs G1 H1 xs k1 g1 r1 hl w1=>⟨by rw[hl];exact Nat.le_trans hn (by decide),Yt g1 w1 (c.go k1) fun a ha=>?_⟩⟩;exact⟨xs,upd_same,r1.keep (Keep.new ha)⟩
def BiOk (i:Inf) (f:Own.Bi) (r:List V→Hp→VK→Prop):Prop:=∀ (vs:List Own.Val) (G:Own.Hs) (H:Hp) (xs:List V) (Q:VK) (Qm:Own.Q1),RH i G H→RVs i.K H vs xs→(Own.biV G f vs).wp G Qm→Cn i H Q Qm→r xs H Q
theorem WM{f:Own.Bi}{r:List V→Hp→VK→Prop}{ms:Own.Es}{n:Nat}(hr:BiOk i f r):∀ σ H Q,tE X i Φ (.bi f ms) σ H Q→tCB r (tAr X i Φ ms n) σ H Q:=fun σ H Q ⟨env,G,Qm,Em,p,w,c⟩=>by rw[Own.q_e_bi]at w;exact⟨env,G,_,Em,p,w,fun vs G1 H1 xs k1 g1 r1 _ w1=>hr vs G1 H1 xs Q Qm g1 r1 w1 (c.go k1)⟩
theorem RVs.inv1{K:PySem.W.Frag}{H:Hp}{v:Own.Val}{xs:List V}(r:RVs K H [v] xs):∃ x,xs=[x]∧RV K H v x:=by cases r with|cons a t=>cases t;exact⟨_,rfl,a⟩
theorem RVs.inv2{K:PySem.W.Frag}{H:Hp}{v u:Own.Val}{xs:List V}(r:RVs K H [v,u] xs):∃ x y,xs=[x,y]∧RV K H v x∧RV K H u y:=by cases r with|cons a t=>cases t with|cons b t=>cases t;exact⟨_,_,rfl,a,b⟩
theorem JF(s:String):(Str.ofString s).cps.toList=s.toList.map Char.toNat:=by rw[Str.ofString_eq_toList]
theorem N0:∀ (l:List Char) (a:Nat),(l.map Char.toNat).foldl (fun acc c=>acc*10+(c - 48)) a=l.foldl (fun a c=>10*a+(c.toNat - 48)) a
 |[],_=>rfl
 |c::l,a=>by rw[List.map_cons,List.foldl_cons,List.foldl_cons,N0 l,Nat.mul_comm a 10]
theorem Cm{s:String}(h1:s.toList≠[])(h2:s.toList.all Own.figB=true)(h3:s.length≤640):PySem.intText? (Str.ofString s)=some ((Own.decN s.toList:Nat):Int):=by
 have hc:=JF s;rw[intText_digits (x:=Str.ofString s)]
 ·rw[hc];unfold NumText.digitsVal Own.decN;rw[N0]
 ·rw[hc];intro c hm;obtain⟨d,hd,rfl⟩:=List.mem_map.mp hm;have:=List.all_eq_true.mp h2 d hd;unfold Own.figB at this;simpa using this
 ·rw[hc];simpa using h1
 ·rw[ZE];omega
theorem W9{f:Own.Val→Own.Rs}{vs:List Own.Val}{h:Own.Hs}{Q:Own.Q1}(w:(Own.biOf1 f vs).wp h Q):∃ v,vs=[v]∧(f v).wp h Q:=by
 cases vs with
 |nil=>exact(Zz w).elim
 |cons v vs=>cases vs with
  |nil=>exact⟨v,rfl,w⟩
  |cons _ _=>exact(Zz w).elim
theorem Uq{f:Own.Val→Own.Val→Own.Rs}{vs:List Own.Val}{h:Own.Hs}{Q:Own.Q1}(w:(Own.biOf2 f vs).wp h Q):∃ v u,vs=[v,u]∧(f v u).wp h Q:=by
 cases vs with
 |nil=>exact(Zz w).elim
 |cons v vs=>cases vs with
  |nil=>exact(Zz w).elim
  |cons u us=>cases us with
   |nil=>exact⟨v,u,rfl,w⟩
   |cons _ _=>exact(Zz w).elim
theorem BiOk.imp{f:Own.Bi}{r r':List V→Hp→VK→Prop}(h:BiOk i f r)(k:∀ xs H Q,r xs H Q→r' xs H Q):BiOk i f r':=fun vs G H xs Q Qm g rv w c=>k _ _ _ (h vs G H xs Q Qm g rv w c)
theorem Ez:BiOk i .int (fun xs H Q=>((∃ i,xs=[.int i]∧Q (.int i) H)∨∃ k,xs=[.bl k]∧Q (.int (if k then 1 else 0)) H)∨∃ z n,xs=[.str z]∧PySem.intText? z=some n∧z.length≤640∧Q (.int n) H):=by
 intro vs G H xs Q Qm g r w c;obtain⟨v,rfl,w⟩:=W9 w;obtain⟨x,rfl,rx⟩:=r.inv1;cases v with
 |int k=>cases rx.int_inv;exact .inl (.inl ⟨k,rfl,c _ G H _ (Keep.refl H) g (.int _) (Zv w)⟩)
 |bl k=>cases rx.bl_inv;exact .inl (.inr ⟨k,rfl,c _ G H _ (Keep.refl H) g (.int _) (Zv w)⟩)
 |str s =>cases rx.str_inv;obtain⟨hl,w⟩:=Xj w;exact .inr ⟨_,_,rfl,Cm hl.2.1 hl.2.2 hl.1,by rw[ZE];exact hl.1,c _ G H _ (Keep.refl H) g (.int _) (Zv w)⟩
 |_=>exact(Zz w).elim
theorem CH:BiOk i .max2 (fun xs H Q=>∃ i j,xs=[.int i,.int j]∧Q (.int (if j > i then j else i)) H):=by intro vs G H xs Q Qm g r w c;obtain⟨v,u,rfl,w⟩:=Uq w;obtain⟨a,b,rfl,rfl,w⟩:=YQ w;obtain⟨x,y,rfl,rx,ry⟩:=r.inv2;cases rx.int_inv;cases ry.int_inv;exact⟨a,b,rfl,c _ G H _ (Keep.refl H) g (.int _) (Zv w)⟩
theorem BG:BiOk i .min2 (fun xs H Q=>∃ i j,xs=[.int i,.int j]∧Q (.int (if j<i then j else i)) H):=by intro vs G H xs Q Qm g r w c;obtain⟨v,u,rfl,w⟩:=Uq w;obtain⟨a,b,rfl,rfl,w⟩:=YQ w;obtain⟨x,y,rfl,rx,ry⟩:=r.inv2;cases rx.int_inv;cases ry.int_inv;exact⟨a,b,rfl,c _ G H _ (Keep.refl H) g (.int _) (Zv w)⟩
noncomputable def Rf (o:Option Own.Ob) (f:List Own.Val→Own.Rs):Own.Rs:=match o with
 |some (.lst xs)=>f xs
 |_=>.no
noncomputable def kinds:List String:=["int","bool","str","list","tuple","dict"]
theorem Cb (K:PySem.W.Frag):∀ t∈["NoneType","bool","int","str","tuple","list","dict"],∀ T∈kinds,PySem.W.kitOne K (.type t) (.type T)=some (t==T||(t == "bool" && T == "int")):=by intro t ht T hT;simp only[kinds,List.mem_cons,List.not_mem_nil,or_false]at ht hT;rcases ht with rfl|rfl|rfl|rfl|rfl|rfl|rfl<;>rcases hT with rfl|rfl|rfl|rfl|rfl|rfl<;>rfl
theorem OD {G:Own.Hs}{H:Hp}(g:RH i G H){v:Own.Val}{x:V}{t:String}(r:RV i.K H v x) (e:Own.kindV G v=some t):TyV i.K H x (.type t)∧t∈["NoneType","bool","int","str","tuple","list","dict"]:=by
 cases v with
 |non=>cases r;cases e;exact⟨.of .non,by simp⟩
 |bl b=>cases r;cases e;exact⟨.of (.bl b),by simp⟩
 |int b=>cases r;cases e;exact⟨.of (.int b),by simp⟩
 |str b=>cases r;cases e;exact⟨.of (.str _),by simp⟩
 |tup xs=>cases e;cases r with|tup hp hr=>exact⟨.tup (ZA hp),by simp⟩
 |scr ns=>cases e;cases r with|scr h=>exact⟨.lst (Yi h),by simp⟩
 |ref a =>
  cases r.ref_inv;simp only[Own.kindV]at e;cases q:G a with
  |none=>rw[q]at e;cases e
  |some o =>
   rw[q]at e;cases o with
   |lst xs=>cases e;obtain⟨vs,h1,_⟩:=g a _ q;exact⟨.lst (SqL.of h1),by simp⟩
   |dct kvs=>cases e;obtain⟨ps,h1,_⟩:=g a _ q;exact⟨.of (.dK h1),by simp⟩
   |ins C fs=>cases e
   |exc C=>cases e
   |frz _=>cases e
theorem Lw {e:Expr}{m:Own.E}{T:String}{p p2 pos:Pos}(hT:T∈kinds) (he:PE X e (tE X i Φ m)) (hk:X.K=i.K) (hg:Gl X "isinstance") (hm:X.mg "isinstance" = none) (hg2:Gl X (Str.ofString T)) (hm2:X.mg (Str.ofString T)=none)
  (hv2:bootBuiltins (Str.ofString T)=some (.type T)) (hn2:Str.ofString T≠"__name__") (hd2:(Str.ofString T==("__debug__" : Str))=false) (hst:starEach [e,.Name (Str.ofString T) p2] X.env=(false,eval e X.env)::starEach [.Name (Str.ofString T) p2] X.env) :
  PE X (.Call (.Name "isinstance" p) [e,.Name (Str.ofString T) p2] [] pos) (tE X i Φ (.bi (.isi [T]) (.cons m .nil))):=by
 refine(Yn UV hg hm (by kernel_rfl) (Yg he (Yg (LE (T:=T) hg2 hm2 hv2 hn2 hd2) pa_nil) hst) (he:=hst)).imp fun σ H Q ⟨env,G,Qm,Em,p,w,c⟩=>?_;rw[Own.q_e_bi,Own.q_a_cons]at w;refine one p w fun v G1 H1 x k1 p1 r q=>?_;rw[Own.q_a_nil]at q
 replace q:(Own.Rs.ofO (((Own.isiV G1 v T).bind fun b=>(Own.isiAny G1 v []).map (b || ·)).map .bl)).wp G1 Qm:=q
 simp only[Own.isiAny,Own.isiV]at q;cases z:Own.kindV G1 v with
 |none=>rw[z]at q;simp[Own.Rs.ofO]at q
 |some t =>rw[z]at q;simp only[Option.map_some,Option.bind_some,Own.Rs.ofO,Own.Rs.wp_val,Bool.or_false]at q;obtain⟨h1,h2⟩:=OD p1.hp r z;refine⟨x,T,.type t,_,rfl,by rw[hk];exact h1,by rw[hk];exact Cb _ t h2 T hT,c _ G1 H1 _ k1 p1.hp (.bl _) q⟩
theorem MB{o:Option Own.Ob}(h:Own.isLst o=true):∃ xs,o=some (.lst xs):=by
 cases o with
 |none=>cases h
 |some o=>cases o with
  |lst xs=>exact⟨xs,rfl⟩
  |_=>cases h
theorem AZ{G:Own.Hs}{a:Addr}{f:Own.Ad→List Own.Val→Option (Own.Val×Own.Hs)}{t:Own.Val×Own.Hs}(e:Own.bmL G (.ref a) f=some t):∃ xs,G a=some (.lst xs)∧f a xs=some t:=by obtain⟨xs,h1,h2⟩:=Option.bind_eq_some_iff.mp (show(Own.lsOf (G a)).bind (f a)=some t from e);exact⟨xs,Os h1,h2⟩
theorem Kr{G:Own.Hs}{H:Hp}{a:Addr}{xs:List Own.Val}{vs:List V}(g:RH i G H)(h:H a=some (.lst vs))(ys:List Own.Val)(us:List V)(r:RVs i.K H ys us):Keep H (upd H a (.lst us))∧RH i (Own.upd G a (.lst ys)) (upd H a (.lst us)):=by
 have k:Keep H (upd H a (.lst us)):=Keep.put (fun xs e=>by rw[h]at e;cases e) fun p u e=>by rw[h]at e;cases e
 exact⟨k,g.put k ⟨us,upd_same,r.keep k⟩⟩
noncomputable def spF (i:Inf) (P:Own.Pg) (n:Nat) (f:String):Sp:=fun vs H Q E=>∃ args G Qm Em,RVs i.K H args vs∧RH i G H∧Own.wF P n f args G Qm Em∧Cn i H Q Qm∧∀ cls d H',XK1 i H Em cls d H'→E cls d H'
def Dfo (pr:Program) (w:World) (mg:Str→Option Value) (base:Heap) (i:Inf) (P:Own.Pg) (n:Nat) (f:String):Prop :=
 ∃ fa fd ps,FnOk pr w i.K mg base (CX1 pr w) (2*n) fa fd ps (spF i P n f)∧mg (Str.ofString f)=some (.ref fa)∧PySem.W.keepIn i.K (.ref fa)=true∧Binds i.K fd ps []
theorem Fo {P:Own.Pg}{n k:Nat}{f:String}{e:Expr}{es:List Expr}{ms:Own.Es}{p pos:Pos}(hK:X.K=i.K) (D:Dfo X.prog X.w X.mg X.base i P n f) (hr:Room (2*n) X.A) (hg:Gl X (Str.ofString f)) (hdb:(Str.ofString f==("__debug__" : Str))=false)
  (ha:PA X (e::es) (tAr X i (Own.wF P n) ms k)) (he:starEach (e::es) X.env=(false,eval e X.env)::starEach es X.env) (hpl:(backTo pos (starEach es X.env)).any (·.1)=false) :
  PE X (.Call (.Name (Str.ofString f) p) (e::es) [] pos) (tE X i (Own.wF P n) (.call f ms)):=by
 obtain⟨fa,fd,ps,F,hm,hk,hb⟩:=D;rw[←hK]at F hk hb;intro pins s σ H Q I h;obtain⟨env,G,Qm,Em,pr,w,c⟩:=h;rw[Own.q_e_call]at w;refine BY (E:=XK1 i H Em) F hr hg hm hk hb .nil (XW.passes pr.xo) ha hdb he hpl pins s σ H Q I ⟨env,G,_,Em,pr,w,fun vs G1 H1 xs k1 g1 r1 hl w1=>?_⟩;exact⟨vs,G1,Qm,Em,by rw[List.append_nil];exact r1,g1,w1,c.go k1,fun cls d H' h=>h.go k1⟩
noncomputable def XKS (i:Inf) (H:Hp) (Xe:Own.EQ):XK:=fun cls _ H'=>∃ e c G' ad,cls=.ref ad∧i.xc c ad∧Keep H H'∧RH i G' H'∧Xe e c G'
structure PreS (X:Cx) (i:Inf) (σ:St) (H:Hp) (env:Own.Env) (G:Own.Hs) (Xe:Own.EQ):Prop where
 en:REn i.K H env σ
 hp:RH i G H
 xo:XW X (XKS i H Xe)
theorem PreS.go{σ σ1:St}{H H1:Hp}{env env1:Own.Env}{G G1:Own.Hs}{Xe:Own.EQ}(p:PreS X i σ H env G Xe)(k:Keep H H1)(r:RH i G1 H1)(e:REn i.K H1 env1 σ1):PreS X i σ1 H1 env1 G1 Xe :=
 ⟨e,r,fun pins σ H0 s H' a cls s' I f ⟨e,c,G',ad,q1,q2,q3,q4⟩=>p.xo pins σ H0 s H' a cls s' I f ⟨e,c,G',ad,q1,q2,k.trans q3,q4⟩⟩
theorem PreS.pre{σ:St}{H:Hp}{env:Own.Env}{G:Own.Hs}{Xe:Own.EQ}(p:PreS X i σ H env G Xe):Pre X i σ H env G (Xe env) :=
 ⟨p.en,p.hp,fun pins σ H0 s H' a cls s' I f ⟨c,G',ad,q1,q2,q3,q4⟩=>p.xo pins σ H0 s H' a cls s' I f ⟨env,c,G',ad,q1,q2,q3,q4⟩⟩
structure EOk (i:Inf) (H:Hp) (D:Ends) (N:Own.NQ) (R:Own.Q1) (B C:Own.NQ):Prop where
 nx:∀ env' σ' G' H',Keep H H'→RH i G' H'→REn i.K H' env' σ'→N env' G'→D.nx σ' H'
 rt:∀ v G' H' x,Keep H H'→RH i G' H'→RV i.K H' v x→R v G'→D.rt x H'
 bk:∀ env' σ' G' H',Keep H H'→RH i G' H'→REn i.K H' env' σ'→B env' G'→D.bk σ' H'
 ct:∀ env' σ' G' H',Keep H H'→RH i G' H'→REn i.K H' env' σ'→C env' G'→D.ct σ' H'
theorem EOk.go{H H1:Hp}{D:Ends}{N:Own.NQ}{R:Own.Q1}{B C:Own.NQ}(e:EOk i H D N R B C)(k:Keep H H1):EOk i H1 D N R B C :=
 ⟨fun a b c d k'=>e.nx a b c d (k.trans k'),fun a b c d k'=>e.rt a b c d (k.trans k'),fun a b c d k'=>e.bk a b c d (k.trans k'),fun a b c d k'=>e.ct a b c d (k.trans k')⟩
def tSt (X:Cx) (i:Inf) (Φ:Own.Fs) (m:Own.S):TS:=fun D σ H=>∃ env G N R B C Xe,PreS X i σ H env G Xe∧Own.wS Φ m env G N R B C Xe∧EOk i H D N R B C
def tBl (X:Cx) (i:Inf) (Φ:Own.Fs) (m:Own.Ss):TS:=fun D σ H=>∃ env G N R B C Xe,PreS X i σ H env G Xe∧Own.wSs Φ m env G N R B C Xe∧EOk i H D N R B C
theorem _root_.L2.PS.imp{X:Cx}{st:Stmt}{t t':TS}(h:PS X st t)(f:∀ D σ H,t' D σ H→t D σ H):PS X st t':=fun pins s σ H D I q=>h pins s σ H D I (f D σ H q)
theorem _root_.L2.PSs.imp{X:Cx}{st:List Stmt}{t t':TS}(h:PSs X st t)(f:∀ D σ H,t' D σ H→t D σ H):PSs X st t':=fun pins s σ H D I q=>h pins s σ H D I (f D σ H q)
theorem GC:PSs X [] (tBl X i Φ .nil):=pss_nil.imp fun D σ H ⟨env,G,N,R,B,C,Xe,p,w,c⟩=>by rw[Own.q_ss_nil]at w;exact c.nx env σ G H (Keep.refl H) p.hp p.en w
theorem Dv{st:Stmt}{sts:List Stmt}{m:Own.S}{ms:Own.Ss}(h1:PS X st (tSt X i Φ m))(h2:PSs X sts (tBl X i Φ ms)):PSs X (st::sts) (tBl X i Φ (.cons m ms)) :=
 (Ar h1 h2).imp fun D σ H ⟨env,G,N,R,B,C,Xe,p,w,c⟩=>by rw[Own.q_ss_cons]at w;exact⟨env,G,_,R,B,C,Xe,p,w,⟨fun env' σ' G' H' k g e w'=>⟨env',G',N,R,B,C,Xe,p.go k g e,w',c.go k⟩,c.rt,c.bk,c.ct⟩⟩
theorem EV{e:Expr}{m:Own.E}{pos:Pos}(he:PE X e (tE X i Φ m)):PS X (.Return (some e) pos) (tSt X i Φ (.ret m)) :=
 (EZ he).imp fun D σ H ⟨env,G,N,R,B,C,Xe,p,w,c⟩=>by rw[Own.q_s_ret]at w;exact⟨env,G,R,Xe env,p.pre,w,c.rt⟩
theorem DE{pos:Pos}:PS X (.Return none pos) (tSt X i Φ .retN) :=
 ps_retN.imp fun D σ H ⟨env,G,N,R,B,C,Xe,p,w,c⟩=>by rw[Own.q_s_retN]at w;exact c.rt _ G H _ (Keep.refl H) p.hp .non w
theorem BU{e:Expr}{m:Own.E}{pos:Pos}(he:PE X e (tE X i Φ m))(hs:swapsWith e none pos.line X.env=pure false):PS X (.Expr e pos) (tSt X i Φ (.expr m)) :=
 (BR he hs).imp fun D σ H ⟨env,G,N,R,B,C,Xe,p,w,c⟩=>by rw[Own.q_s_expr]at w;exact⟨env,G,_,Xe env,p.pre,w,fun v G1 H1 x k1 g1 r1 w1=>c.nx env σ G1 H1 k1 g1 (p.en.keep k1) w1⟩
theorem Ge{t:Expr}{a b:List Stmt}{mt:Own.Tt}{ma mb:Own.Ss}{pos:Pos}(ht:PT X t (tTt X i Φ mt))(ha:PSs X a (tBl X i Φ ma))(hb:PSs X b (tBl X i Φ mb)):PS X (.If t a b pos) (tSt X i Φ (.ite mt ma mb)) :=
 (HA ht ha hb).imp fun D σ H ⟨env,G,N,R,B,C,Xe,p,w,c⟩=>by
  rw[Own.q_s_ite]at w;refine⟨env,G,_,Xe env,p.pre,w,fun d G1 H1 k1 g1 q=>?_⟩;cases d with
  |true=>exact⟨env,G1,N,R,B,C,Xe,p.go k1 g1 (p.en.keep k1),by simpa using q,c.go k1⟩
  |false=>exact⟨env,G1,N,R,B,C,Xe,p.go k1 g1 (p.en.keep k1),by simpa using q,c.go k1⟩
def gPt (i:Inf) (p:Own.Pt):TG:=fun x σ H Q=>∃ v env G env2,RV i.K H v x∧RH i G H∧REn i.K H env σ∧Own.bind p G v env=some env2∧∀ σ2,REn i.K H env2 σ2→Q σ2 H
theorem _root_.L2.PG.imp{X:Cx}{tg:Expr}{t t':TG}(h:PG X tg t)(f:∀ v σ H Q,t' v σ H Q→t v σ H Q):PG X tg t':=fun pins s σ H v u Q I r q=>h pins s σ H v u Q I r (f v σ H Q q)
theorem _root_.L2.PGs.imp{X:Cx}{tg:List Expr}{t t':TGs}(h:PGs X tg t)(f:∀ v σ H Q,t' v σ H Q→t v σ H Q):PGs X tg t':=fun pins s σ H v u Q I r q=>h pins s σ H v u Q I r (f v σ H Q q)
theorem Aw{x:Str}{j:Nat}{pos:Pos}(hN:X.N.Nodup)(hi:X.N[j]?=some x)(hx:Loc X.env.scope x)(hf:X.fn x=true∨X.env.scope.names.lookup x=some .local):PG X (.Name x pos) (gPt i (.one j)) :=
 (Kl hN hi hx hf).imp fun v σ H Q ⟨u,env,G,env2,r,g,e,b,h⟩=>by cases b;exact h _ (e.set r j)
def Av (i:Inf) (js:List Nat):TGs:=fun xs σ H Q=>∃ vs env env2,RVs i.K H vs xs∧REn i.K H env σ∧Own.bindL js vs env=some env2∧∀ σ2,REn i.K H env2 σ2→Q σ2 H
theorem Cg:PGs X [] (Av i []):=pgs_nil.imp fun xs σ H Q ⟨vs,env,env2,r,e,b,h⟩=>by
 cases vs with
 |nil=>cases r;cases b;exact⟨rfl,h _ e⟩
 |cons _ _=>cases b
theorem UW{x:Str}{j:Nat}{js:List Nat}{es:List Expr}{pos:Pos}(hN:X.N.Nodup)(hi:X.N[j]?=some x)(hx:Loc X.env.scope x)(hf:X.fn x=true∨X.env.scope.names.lookup x=some .local)(h2:PGs X es (Av i js))
  (hs:(assignEach (.Name x pos::es) X.env).map (·.2)=assign (.Name x pos) X.env::(assignEach es X.env).map (·.2)):PGs X (.Name x pos::es) (Av i (j::js)) :=
 (U2 (Kl hN hi hx hf) h2 hs).imp fun xs σ H Q ⟨vs,env,env2,r,e,b,h⟩=>by
  cases vs with
  |nil=>cases b
  |cons v vs =>
   cases r with
   |cons r t=>exact⟨_,_,rfl,vs,env.set j (some v),env2,t,e.set r j,b,h⟩
theorem JL:∀ {js:List Nat}{vs:List Own.Val}{env env2:Own.Env},Own.bindL js vs env=some env2→vs.length=js.length
 |[],[],_,_,_=>rfl
 |j::js,v::vs,env,_,h=>by rw[List.length_cons,List.length_cons,JL (show Own.bindL js vs (env.set j (some v))=_ from h)]
 |[],_::_,_,_,h=>by cases h
 |_::_,[],_,_,h=>by cases h
theorem CL{es:List Expr}{js:List Nat}{k:Nat}{pos:Pos}(hK:X.K=i.K)(hc:X.calm=true)(h:PGs X es (Av i js))(hn:(assignEach es X.env).length=js.length)(hst:(assignEach es X.env).findIdx? (·.1)=none):PG X (.Tuple es k pos) (gPt i (.many js)) :=
 (EE (n:=js.length) hc h hn hst).imp fun v σ H Q ⟨u,env,G,env2,r,g,e,b,h⟩=>by
  cases u with
  |tup vs =>
   have b:Own.bindL js vs env=some env2:=b;cases r with
   |tup hp hr=>exact⟨_,_,rfl,by rw[hK];exact ZA hp,by rw[←hr.length];exact JL b,vs,env,env2,hr,e,b,h⟩
  |_=>cases b
theorem ER{tg e:Expr}{m:Own.E}{q:Own.Pt}{pos:Pos}(he:PE X e (tE X i Φ m))(hg:PG X tg (gPt i q))(hs:swapsWithSole [tg] e pos.line X.env=pure false)(hw:swappedStores [tg] e X.env=pure none)
  (h1:(assignEach [tg] X.env).map (·.2)=[assign tg X.env]):PS X (.Assign [tg] e pos) (tSt X i Φ (.set q m)) :=
 (U9 he hg hs hw h1).imp fun D σ H ⟨env,G,N,R,B,C,Xe,p,w,c⟩=>by rw[Own.q_s_set]at w;refine⟨env,G,_,Xe env,p.pre,w,fun v G1 H1 x k1 g1 r1 w1=>?_⟩;obtain⟨env2,e2,w1⟩:=go_some w1;exact⟨v,env,G1,env2,r1,g1,p.en.keep k1,e2,fun σ2 h2=>c.nx env2 σ2 G1 H1 k1 g1 h2 w1⟩
def D4:V→V→V→Hp→(Hp→Prop)→Prop:=fun o y v H Q=>DN o y v H Q∨D1 o y v H Q
theorem Fp{G G3:Own.Hs}{H:Hp}{o k v:Own.Val}{y z x:V}{Q:Hp→Prop}(g:RH i G H)(ry:RV i.K H o y)(rz:RV i.K H k z)(rx:RV i.K H v x)(e:Own.putV G o k v=some G3)(c:∀ H3,Keep H H3→RH i G3 H3→Q H3):D4 y z x H Q:=by
 cases o with
 |ref b =>
  cases ry.ref_inv
  replace e:(match G b with|some (.lst xs)=>(Own.asInt k).bind fun n=>(Own.ixN xs.length n).map fun j=>Own.upd G b (.lst (xs.set j v))|some (.dct kvs)=>if Own.isKey k∧kvs.length<Own.lim then some (Own.upd G b (.dct (Own.putK kvs k v)))else none|_=>none)=some G3:=e
  cases z4:G b with
  |none=>rw[z4]at e;cases e
  |some o =>
   rw[z4]at e;cases o with
   |lst xs =>obtain⟨n,hn,e⟩:=Option.bind_eq_some_iff.mp e;obtain⟨jj,hj,rfl⟩:=Option.map_eq_some_iff.mp e;cases Z0 hn;cases rz.int_inv;obtain⟨vs,h2,r2⟩:=g b _ z4;rw[Ke,r2.length]at hj;obtain⟨k3,g3⟩:=Kr (xs:=xs) g h2 (xs.set jj v) (vs.set jj x) (r2.set rx jj);exact .inl ⟨b,vs,n,jj,rfl,rfl,h2,hj,c _ k3 g3⟩
   |dct kvs =>obtain⟨hk,e⟩:=ZP (show(if Own.isKey k∧kvs.length<Own.lim then some (Own.upd G b (.dct (Own.putK kvs k v)))else none)=some G3 from e);cases e;obtain⟨ps,h2,r2⟩:=g b _ z4;obtain⟨d,kr,rfl⟩:=key_of hk.1 rz;obtain⟨k3,g3⟩:=Kn (kvs:=kvs) g h2 (r2.put kr rx);exact .inr ⟨b,_,rfl,DPut.k h2 (by rw[←RKs.length r2];exact Nat.lt_of_lt_of_le hk.2 ZU),c _ k3 g3⟩
   |_=>cases e
 |_=>cases e
theorem Om{a j e:Expr}{ma mj m:Own.E}{spos pos:Pos}(hK:X.K=i.K)(he:PE X e (tE X i Φ m))(ha:PE X a (tE X i Φ ma))(hj:PE X j (tE X i Φ mj))(hgl:PG X (.Subscript a j spos) (Lc (tE X i Φ ma) (tE X i Φ mj) D4))(hs:swapsWithSole [.Subscript a j spos] e pos.line X.env=pure false)(hw:swappedStores [.Subscript a j spos] e X.env=pure none)
  (h1:(assignEach [.Subscript a j spos] X.env).map (·.2)=[assign (.Subscript a j spos) X.env]):PS X (.Assign [.Subscript a j spos] e pos) (tSt X i Φ (.setIdx ma mj m)) :=
 (U9 he hgl hs hw h1).imp fun D σ H ⟨env,G,N,R,B,C,Xe,p,w,c⟩=>by rw[Own.q_s_setIdx]at w;refine⟨env,G,_,Xe env,p.pre,w,fun v G1 H1 x k1 g1 r1 w1=>?_⟩;refine two (p.go k1 g1 (p.en.keep k1)).pre w1 fun o k G2 H2 y z k2 p2 ry rz q=>?_;obtain⟨G3,e3,q⟩:=go_some q;exact Fp p2.hp ry rz (r1.keep k2) e3 fun H3 k3 g3=>c.nx env σ _ _ ((k1.trans k2).trans k3) g3 (p2.en.keep k3) q
structure ItOk (i:Inf) (H0:Hp) (J:It) (st:Own.Hs→Prop) (xs:List Own.Val):Prop where
 go:∀ n G H v,Keep H0 H→RH i G H→st G→xs[n]?=some v→J.go n H∧∀ x H',J.yld n H x H'→Keep H H'∧RH i G H'∧RV i.K H' v x
 stop:∀ n G H,Keep H0 H→RH i G H→st G→xs.length≤n→J.stop n H
def tIt (X:Cx) (i:Inf) (Φ:Own.Fs) (m:Own.It):TI:=fun σ H R=>∃ env G QI Em,Pre X i σ H env G Em∧Own.wI Φ m env G QI Em∧∀ st xs G' H' J,Keep H H'→RH i G' H'→ItOk i H' J st xs→QI st xs G'→R J H'
theorem _root_.L2.PI.imp{X:Cx}{tg e:Expr}{t t':TI}(h:PI X tg e t)(f:∀ σ H Q,t' σ H Q→t σ H Q):PI X tg e t':=fun pins s σ H Q I q=>h pins s σ H Q I (f σ H Q q)
noncomputable def QP (K:PySem.W.Frag) (tl:TE):TI:=fun σ H R=>tl σ H fun x H1=>∃ a,x=.ref a∧(((∃ xs,SqL K H1 a xs)∧R (Itl K a) H1)∨((∃ xs,SqT K H1 a xs)∧R (Itt K a) H1))
theorem EX{tg l:Expr}{tl:TE}(hl:PE X l tl):PI X tg l (QP X.K tl):=by
 intro pins s σ H R I h;refine thn (hl pins s σ H _ I h) fun v s1 ⟨x,H1,I1,r1,q1⟩=>?_;obtain⟨a,e,q1⟩:=q1;subst e;cases r1;rcases q1 with⟨⟨xs,hq⟩,q⟩|⟨⟨xs,hq⟩,q⟩
 ·obtain⟨its,rv,p,hz⟩:=I1.list hq;refine wpAny_pyIter_list p.isList ?_;refine⟨s1.heap.objs.size,[s1.heap.objs.size],_,_,H1,rfl,I1.kept (t':=s1.toks) fun b o e=>Heap.get?_push_of_some _ e,OK a _,⟨_,Heap.get?_push_size _ rfl,rfl,rfl⟩,fun b hb=>?_,q⟩;have e:b=s1.heap.objs.size:=by simpa using hb
  subst e;exact I1.fpOk (Nat.le_refl _) (I1.hok.fresh (Nat.le_refl _))
 ·obtain⟨its,rv,p,hz⟩:=I1.tuple hq;refine wpAny_pyIter_tuple (show s1.heap.IsTuple a its.toArray from p) ?_;refine⟨s1.heap.objs.size,[s1.heap.objs.size],_,_,H1,rfl,I1.kept (t':=s1.toks) fun b o e=>Heap.get?_push_of_some _ e,MK a _,⟨_,Heap.get?_push_size _ rfl,rfl,rfl⟩,fun b hb=>?_,q⟩;have e:b=s1.heap.objs.size:=by simpa using hb
  subst e;exact I1.fpOk (Nat.le_refl _) (I1.hok.fresh (Nat.le_refl _))
theorem it_lst{H0:Hp}{a:Addr}{xs:List Own.Val}:ItOk i H0 (Itl i.K a) (fun g=>Own.lsOf (g a)=some xs) xs where
 go:=fun n G H v _ g e hv=>by obtain⟨vs,h1,h2⟩:=ZC g e;obtain⟨x,h3,h4⟩:=h2.get hv;refine⟨⟨vs,x,h1,h3⟩,fun y H' ⟨e1,e2⟩=>?_⟩;subst e1;have:=e2 vs h1;rw[h3]at this;cases this;exact⟨Keep.refl _,g,h4⟩
 stop:=fun n G H _ g e hn=>by obtain⟨vs,h1,h2⟩:=ZC g e;exact⟨vs,h1,by rw[←h2.length];exact hn⟩
theorem it_tup{H0:Hp}{a:Addr}{xs:List Own.Val}{vs:List V}(hp:H0 a=some (.tup vs)∨KT i.K a vs)(hr:RVs i.K H0 xs vs):ItOk i H0 (Itt i.K a) (fun _=>True) xs where
 go:=fun n G H v k g e hv=>by have hp':H a=some (.tup vs)∨KT i.K a vs:=hp.imp (k.t _ _) id;obtain⟨x,h3,h4⟩:=(hr.keep k).get hv;refine⟨⟨vs,x,ZA hp',h3⟩,fun y H' ⟨e1,e2⟩=>?_⟩;subst e1;have:=e2 vs (ZA hp');rw[h3]at this;cases this;exact⟨Keep.refl _,g,h4⟩
 stop:=fun n G H k g e hn=>by have hp':H a=some (.tup vs)∨KT i.K a vs:=hp.imp (k.t _ _) id;exact⟨vs,ZA hp',by rw[←hr.length];exact hn⟩
theorem it_scr{H0:Hp}{a:Addr}{ns:List Int}(h:(∃ o,H0 a=some (.frz o (.lst (ns.map V.int))))∨KL i.K a (ns.map V.int)):ItOk i H0 (Itl i.K a) (fun _=>True) (ns.map .int) where
 go:=fun n G H v k g e hv=>by have h':SqL i.K H a (ns.map V.int):=Yi (h.imp (fun⟨o,e⟩=>⟨o,k.f _ _ _ e⟩) id);obtain⟨x,h3,h4⟩:=(RVs.ints (K:=i.K) (H:=H) ns).get hv;refine⟨⟨_,x,h',h3⟩,fun y H' ⟨e1,e2⟩=>?_⟩;subst e1;have:=e2 _ h';rw[h3]at this;cases this;exact⟨Keep.refl _,g,h4⟩
 stop:=fun n G H k g e hn=>⟨_,Yi (h.imp (fun⟨o,e⟩=>⟨o,k.f _ _ _ e⟩) id),by simpa using hn⟩
theorem EY{H0:Hp}{lo hi:Int}{n:Nat}(hn:n=(hi - lo).toNat):ItOk i H0 (Itr lo n) (fun _=>True) (Own.rangeV lo hi) where
 go:=fun k G H v _ g _ hv=>by
  unfold Own.rangeV at hv;rw[List.getElem?_map]at hv;have hk:k<(hi - lo).toNat:=by
   by_cases h:k<(hi - lo).toNat
   ·exact h
   ·rw[List.getElem?_eq_none (by simpa using h)]at hv;cases hv
  rw[List.getElem?_range hk]at hv;cases hv;refine⟨by rw[hn];exact hk,fun x H' ⟨e1,e2⟩=>?_⟩;subst e1 e2;exact⟨Keep.refl _,g,.int _⟩
 stop:=fun k G H _ g _ hk=>by unfold Own.rangeV at hk;show n≤k;simp at hk;omega
theorem GI{tg e:Expr}{m:Own.E}(hK:X.K=i.K)(he:PE X e (tE X i Φ m)):PI X tg e (tIt X i Φ (.seq m)) :=
 (EX he).imp fun σ H R ⟨env,G,QI,Em,p,w,c⟩=>by
  rw[Own.q_i_seq]at w;refine one p w fun v G1 H1 x k1 p1 r q=>?_;obtain⟨⟨st,xs⟩,e1,q2⟩:=go_some q;clear q;rw[hK];cases v with
  |tup ys =>
   cases e1;cases r with
   |tup hp hr=>exact⟨_,rfl,.inr ⟨⟨_,ZA hp⟩,c _ _ G1 H1 _ k1 p1.hp (it_tup hp hr) q2⟩⟩
  |scr ns =>
   cases e1;cases r with
   |scr h=>exact⟨_,rfl,.inl ⟨⟨_,Yi h⟩,c _ _ G1 H1 _ k1 p1.hp (it_scr h) q2⟩⟩
  |ref a =>
   cases r.ref_inv;simp only[Own.itV]at e1;cases z:Own.lsOf (G1 a)with
   |none=>rw[z]at e1;cases e1
   |some ys =>rw[z]at e1;cases e1;obtain⟨vs,h1,h2⟩:=ZC p1.hp z;exact⟨a,rfl,.inl ⟨⟨vs,h1⟩,c _ _ G1 H1 _ k1 p1.hp it_lst q2⟩⟩
  |_=>cases e1
theorem Uo {tg a:Expr}{m:Own.E}{p pos:Pos}(hg:Gl X "range") (hm:X.mg "range" = none) (ha:PE X a (tE X i Φ m)) (hs:starEach [a] X.env=[(false,eval a X.env)]):PI X tg (.Call (.Name "range" p) [a] [] pos) (tIt X i Φ (.range m)) :=
 (Oi hg hm (Yg ha pa_nil (by rw[hs];rfl)) hs).imp fun σ H R ⟨env,G,QI,Em,p,w,c⟩=>by rw[Own.q_i_range]at w;refine one p w fun v G1 H1 x k1 p1 r q=>?_;obtain⟨n,e1,q2⟩:=go_some q;clear q;cases Z0 e1;cases r.int_inv;exact⟨n,rfl,q2.1.1,q2.1.2,c _ _ G1 H1 _ k1 p1.hp (EY (by rw[Int.sub_zero])) q2.2⟩
theorem GQ{tg iter:Expr}{body:List Stmt}{q:Own.Pt}{mi:Own.It}{mb:Own.Ss}{pos:Pos}(hp:PassesOwn (model X.prog X.w) X.A X.env X.xe)(hc:X.calm=true)(hi:PI X tg iter (tIt X i Φ mi))(hg:PG X tg (gPt i q))(hb:PSs X body (tBl X i Φ mb))
  (hs:∀ x,foldedSetIterable iter X.env x=pure x):PS X (.For tg iter body [] pos) (tSt X i Φ (.for q mi mb)) :=
 (UX hp hc hi hg hb hs).imp fun D σ H ⟨env,G,N,R,B,C,Xe,p,w,c⟩=>by
  rw[Own.q_s_for]at w;refine⟨env,G,_,Xe env,p.pre,w,fun st xs G1 H1 J k1 g1 it w1=>?_⟩;refine⟨fun n m σ' H'=>n+m=xs.length∧∃ env' G',Keep H1 H'∧RH i G' H'∧REn i.K H' env' σ'∧Own.wFor st (fun v e g K M=>Own.go (Own.bind q g v e) fun e2=>Own.wSs Φ mb e2 g K R M K Xe) N (xs.drop n) env' G',⟨xs.length,by omega,env,G1,Keep.refl _,g1,p.en.keep k1,by simpa using w1⟩,?_⟩;rintro n m σ' H' ⟨hnm,env',G',k2,g2,e2,w2⟩;by_cases hn:n<xs.length
  ·right;have hd:xs.drop n=xs[n]::xs.drop (n+1):=List.drop_eq_getElem_cons hn;rw[hd]at w2;obtain⟨s2,w2⟩:=w2;have hv:xs[n]?=some xs[n]:=List.getElem?_eq_getElem hn;obtain⟨a1,a2⟩:=it.go n G' H' xs[n] k2 g2 s2 hv;refine⟨a1,fun σ3 H3=>∃ env3 G3,Keep H1 H3∧RH i G3 H3∧REn i.K H3 env3 σ3∧Own.wFor st (fun v e g K M=>Own.go (Own.bind q g v e) fun e2=>Own.wSs Φ mb e2 g K R M K Xe) N (xs.drop (n+1)) env3 G3,fun σ3 H3 h=>⟨m - 1,by omega,by omega,h⟩,fun x H3 hy=>?_⟩;obtain⟨k3,g3,r3⟩:=a2 x H3 hy;obtain⟨env4,e4,w4⟩:=go_some w2;refine⟨xs[n],env',G',env4,r3,g3,e2.keep k3,e4,fun σ4 h4=>?_⟩;have kk:Keep H H3:=(k1.trans k2).trans k3;refine⟨env4,G',_,R,N,_,Xe,p.go kk g3 h4,w4,⟨fun env5 σ5 G5 H5 k5 g5 e5 w5=>?_,(c.go kk).rt,(c.go kk).nx,fun env5 σ5 G5 H5 k5 g5 e5 w5=>?_⟩⟩
   ·exact⟨env5,G5,(k2.trans k3).trans k5,g5,e5,w5⟩
   ·exact⟨env5,G5,(k2.trans k3).trans k5,g5,e5,w5⟩
  ·left;have hd:xs.drop n=[]:=List.drop_eq_nil_of_le (by omega);rw[hd]at w2;exact⟨it.stop n G' H' k2 g2 w2.1 (by omega),c.nx env' σ' G' H' (k1.trans k2) g2 e2 w2.2⟩
theorem Ek:BiOk i .len (fun xs H Q=>((∃ p ys,xs=[.ref p]∧(SqL i.K H p ys∨SqT i.K H p ys)∧Q (.int ys.length) H)∨∃ z,xs=[.str z]∧z.length≤sizeLine∧Q (.int z.length) H)∨∃ a kvs,xs=[V.ref a]∧H a=some (.dK kvs)∧Q (.int kvs.length) H):=by
 intro vs G H xs Q Qm g r w c;obtain⟨v,rfl,w⟩:=W9 w;obtain⟨x,rfl,rx⟩:=r.inv1;cases v with
 |ref a =>
  cases rx.ref_inv
  replace w:(match G a with|some (.lst xs)=>.val (.int xs.length)|some (.dct kvs)=>.val (.int kvs.length)|_=>.no:Own.Rs).wp G Qm:=w
  cases z:G a with
  |none=>rw[z]at w;exact(Zz w).elim
  |some o =>
   rw[z]at w;cases o with
   |lst ys =>obtain⟨us,h1,h2⟩:=g a _ z;refine .inl (.inl ⟨a,us,rfl,.inl (SqL.of h1),?_⟩);rw[←h2.length];exact c _ G H _ (Keep.refl H) g (.int _) (Zv w)
   |dct kvs =>obtain⟨ps,h1,h2⟩:=g a _ z;refine .inr ⟨a,ps,rfl,h1,?_⟩;rw[←h2.length];exact c _ G H _ (Keep.refl H) g (.int _) (Zv w)
   |_=>exact(Zz w).elim
 |tup ys =>
  cases rx with
  |tup hp hr =>refine .inl (.inl ⟨_,_,rfl,.inr (ZA hp),?_⟩);rw[←hr.length];exact c _ G H _ (Keep.refl H) g (.int _) (Zv w)
 |scr ns =>
  cases rx with
  |scr h =>refine .inl (.inl ⟨_,_,rfl,.inl (Yi h),?_⟩);rw[List.length_map];exact c _ G H _ (Keep.refl H) g (.int _) (Zv w)
 |str s =>cases rx.str_inv;obtain⟨hl,w⟩:=Xj w;refine .inl (.inr ⟨_,rfl,by rw[ZE];exact Nat.le_trans hl ZU,?_⟩);rw[ZE];exact c _ G H _ (Keep.refl H) g (.int _) (Zv w)
 |_=>exact(Zz w).elim
theorem OV{K:PySem.W.Frag}{H:Hp}:∀ {xs:List Own.Val}{bs:List Bool}{vs:List V},Own.blsOf xs=some bs→RVs K H xs vs→vs=bs.map V.bl:=by
 intro xs;induction xs with
 |nil=>intro bs vs e r;cases e;cases r;rfl
 |cons v xs ih =>
  intro bs vs e r;cases v<;>first|(cases e;done)|skip
  case bl b =>
  simp only[Own.blsOf]at e;cases z:Own.blsOf xs with
  |none=>rw[z]at e;cases e
  |some ns=>rw[z]at e;cases e;cases r with|cons a t=>cases a.bl_inv;rw[ih z t];rfl
theorem F7{o:Option Own.Val}{h:Own.Hs}{Q:Own.Q1}(w:(Own.Rs.ofO o).wp h Q):∃ v,o=some v∧Q v h:=by
 cases o with
 |none=>exact(Zz w).elim
 |some v=>exact⟨v,rfl,Zv w⟩
theorem Gk:BiOk i .all (fun xs H Q=>∃ p,∃ bs:List Bool,xs=[.ref p]∧SqL i.K H p (bs.map V.bl)∧Q (.bl (bs.all id)) H):=by
 intro vs G H xs Q Qm g r w c;obtain⟨v,rfl,w⟩:=W9 w;obtain⟨x,rfl,rx⟩:=r.inv1;cases v with
 |ref a =>cases rx.ref_inv;obtain⟨v,e,w⟩:=F7 w;obtain⟨ys,z,e⟩:=Option.bind_eq_some_iff.mp e;obtain⟨bs,z2,rfl⟩:=Option.map_eq_some_iff.mp e;obtain⟨us,h1,h2⟩:=ZC g z;have:=OV z2 h2;subst this;exact⟨a,bs,rfl,h1,c _ G H _ (Keep.refl H) g (.bl _) w⟩
 |_=>exact(Zz w).elim
set_option exponentiation.threshold 2000 in
theorem Bx{k:Int}(h:k.natAbs<10 ^ 200):k.natAbs.log2<1920:=by
 have e:(10:Nat) ^ 200<2 ^ 1920:=by decide
 by_cases h0:k.natAbs=0
 ·rw[h0];decide
 ·exact(Nat.log2_lt h0).mpr (Nat.lt_trans h e)
theorem EH:BiOk i .str (fun xs H Q=>(∃ i,xs=[.int i]∧i.natAbs.log2<1920∧Q (.str (toString i)) H)∨∃ z,xs=[.str z]∧Q (.str z) H):=by
 intro vs G H xs Q Qm g r w c;obtain⟨v,rfl,w⟩:=W9 w;obtain⟨x,rfl,rx⟩:=r.inv1;cases v with
 |int a =>cases rx.int_inv;obtain⟨hl,w⟩:=Xj w;exact .inl ⟨a,rfl,Bx hl,c _ G H _ (Keep.refl H) g (.str _) (Zv w)⟩
 |str s=>cases rx.str_inv;exact .inr ⟨_,rfl,c _ G H _ (Keep.refl H) g (.str _) (Zv w)⟩
 |_=>exact(Zz w).elim
theorem UD(ds:List Own.D)(d:Own.D):(toDs ds).any (fun e=>PyData.eqv e (toD d))=ds.any fun e=>Own.D.eqv e d:=by
 induction ds with
 |nil=>rfl
 |cons e es ih=>simp only[toDs,List.any_cons,ih,Kt]
theorem Nl{G:Own.Hs}{H:Hp}(g:RH i G H){v u:Own.Val}{x y:V}{ys:List Own.Val}{c:Bool}(rx:RV i.K H v x)(e:Own.inL G v ys=some c)(hy:∀ ds,ys.mapM (Own.dat G (Own.deep - 1))=some ds→IsD i.K H y (.tuple (toDs ds))∨IsD i.K H y (.list (toDs ds))) :
  ∃ ds d,(IsD i.K H y (.tuple ds)∨IsD i.K H y (.list ds))∧IsD i.K H x d∧PyData.canLayAll0 ds=true∧d.canLay0=true∧d.depth≤64∧ds.any (fun e=>PyData.eqv e d)=c:=by
 unfold Own.inL at e;cases z:Own.dat G Own.deep v with
 |none=>rw[z]at e;cases e
 |some d =>
  rw[z]at e;simp only[Option.bind_some]at e;cases z2:ys.mapM (Own.dat G (Own.deep - 1))with
  |none=>rw[z2]at e;cases e
  |some ds =>rw[z2]at e;cases e;exact⟨_,_,hy ds z2,Xu g _ _ _ _ z rx,toDs_lay ds,JZ d,Nat.le_trans (Ju _ _ _ z) (by decide),UD ds d⟩
theorem ND{G:Own.Hs}{H:Hp}(g:RH i G H){u:Own.Val}{y:V}{ys:List Own.Val}(ry:RV i.K H u y)(hu:u=.tup ys∨∃ a,u=.ref a∧Own.lsOf (G a)=some ys):∀ ds,ys.mapM (Own.dat G (Own.deep - 1))=some ds→IsD i.K H y (.tuple (toDs ds))∨IsD i.K H y (.list (toDs ds)):=by
 intro ds hd;rcases hu with rfl|⟨a,rfl,hl⟩
 ·left;have:=Xu g Own.deep (.tup ys) (.tup ds) y (by show Option.map _ (List.mapM (Own.dat G (Own.deep - 1)) ys)=_;rw[hd];rfl) ry;simpa[toD]using this
 ·right;have:=Xu g Own.deep (.ref a) (.lst ds) y (by show(Own.lsOf (G a)).bind _=_;rw[hl];show Option.map _ (List.mapM (Own.dat G (Own.deep - 1)) ys)=_;rw[hd];rfl) ry;simpa[toD]using this
theorem FT(s t:String)(c:Char)(h:Own.oneC s=some c):(!(Builtin.Str.occurrences (Str.ofString t) (Str.ofString s) 0 (Str.ofString t).length 1).isEmpty)=decide (c∈t.toList):=by
 have e:Str.ofString s=⟨#[c.toNat]⟩:=by
  unfold Own.oneC at h;split at h
  ·rename_i d hd;cases h;rw[Str.ofString_eq_toList,hd];rfl
  ·cases h
 rw[e,StrLaws.found_one,JF];have inj:∀ {a b:Char},a.toNat=b.toNat→a=b:=fun {a b} e=>Char.ext (UInt32.toNat.inj e);by_cases hc:c∈t.toList
 ·rw[decide_eq_true hc,decide_eq_true_eq];exact List.mem_map_of_mem hc
 ·rw[decide_eq_false hc,decide_eq_false_iff_not];intro m;obtain⟨d,hd,he⟩:=List.mem_map.mp m;exact hc (inj he▸hd)
noncomputable def IL (K:PySem.W.Frag):R2:=fun x y H Q=>Cs false x y H Q∨B1 K false x y H Q∨∃ i j,x=.str i∧y=.str j∧Q (.bl (!(Builtin.Str.occurrences j i 0 j.length 1).isEmpty)) H
noncomputable def HI (K:PySem.W.Frag):R2:=fun x y H Q=>Cs true x y H Q∨B1 K true x y H Q∨∃ i j,x=.str i∧y=.str j∧Q (.bl (!(!(Builtin.Str.occurrences j i 0 j.length 1).isEmpty))) H
theorem PV(hu:X.A.units+65<cLine):OpR X (compareOp .In) (IL X.K):=(Fg (by omega)).or ((E6 hu).or Oh)
theorem Qf(hu:X.A.units+65<cLine):OpR X (compareOp .NotIn) (HI X.K):=(Fd (by omega)).or ((Oo hu).or JT)
theorem DU{v u:Own.Val}{G:Own.Hs}{H:Hp}{x y:V}{b:Bool}(g:RH i G H)(rx:RV i.K H v x)(ry:RV i.K H u y)(e:Own.inV G v u=some b) :
  (∃ ds d,(IsD i.K H y (.tuple ds)∨IsD i.K H y (.list ds))∧IsD i.K H x d∧PyData.canLayAll0 ds=true∧d.canLay0=true∧d.depth≤64∧ds.any (fun e=>PyData.eqv e d)=b)∨
  (∃ j k,x=.str j∧y=.str k∧(!(Builtin.Str.occurrences k j 0 k.length 1).isEmpty)=b)∨∃ a o,y=.ref a∧DGet H a x o∧o.isSome=b:=by
 cases u with
 |tup ys=>exact .inl (Nl (u:=.tup ys) g rx e (ND g ry (.inl rfl)))
 |ref a =>
  replace e:(match G a with|some (.lst xs)=>Own.inL G v xs|some (.dct kvs)=>if Own.isKey v then some (Own.hasK kvs v)else none|_=>none)=some b:=e
  cases z:G a with
  |none=>rw[z]at e;cases e
  |some o =>
   rw[z]at e;cases o with
   |lst ys=>exact .inl (Nl (u:=.ref a) g rx e (ND g ry (.inr ⟨a,rfl,by rw[z];rfl⟩)))
   |dct kvs =>obtain⟨hk,e⟩:=ZP (show(if Own.isKey v then some (Own.hasK kvs v)else none)=some b from e);cases e;obtain⟨ps,h1,h2⟩:=g a _ z;obtain⟨d,kr,rfl⟩:=key_of hk rx;exact .inr (.inr ⟨a,_,ry.ref_inv,DGet.k h1,by rw[h2.has kr,Wp]⟩)
   |_=>cases e
 |str t =>
  cases v with
  |str s =>obtain⟨c,z,rfl⟩:=Option.map_eq_some_iff.mp e;exact .inr (.inl ⟨_,_,rx.str_inv,ry.str_inv,FT s t c z⟩)
  |_=>cases e
 |_=>cases e
theorem Ck{o:Option Bool}{b:Bool}(e:o.map (!·)=some b):o=some (!b):=by obtain⟨c,z,rfl⟩:=Option.map_eq_some_iff.mp e;rw[z,Bool.not_not]
theorem Qr:Z1 i .isin (IL i.K):=by
 intro v u G H x y c Q g rx ry e q;rcases DU g rx ry e with⟨ds,d,h1,h2,h3,h4,h5,h6⟩|⟨j,k,h1,h2,h3⟩|⟨a,o,h1,h2,h3⟩
 ·exact .inr (.inl ⟨ds,d,h1,h2,h3,h4,h5,by show Q (.bl (List.any _ _)) H;rw[h6];exact q⟩)
 ·exact .inr (.inr ⟨j,k,h1,h2,by rw[h3];exact q⟩)
 ·exact .inl ⟨a,o,h1,h2,by rw[h3,Bool.false_xor];exact q⟩
theorem P8:Z1 i .notin (HI i.K):=by
 intro v u G H x y c Q g rx ry e q;rcases DU g rx ry (Ck e)with⟨ds,d,h1,h2,h3,h4,h5,h6⟩|⟨j,k,h1,h2,h3⟩|⟨a,o,h1,h2,h3⟩
 ·exact .inr (.inl ⟨ds,d,h1,h2,h3,h4,h5,by show Q (.bl (!List.any _ _)) H;rw[h6,Bool.not_not];exact q⟩)
 ·exact .inr (.inr ⟨j,k,h1,h2,by rw[h3,Bool.not_not];exact q⟩)
 ·exact .inl ⟨a,o,h1,h2,by rw[h3,Bool.true_xor,Bool.not_not];exact q⟩
theorem Dw{a b d:Expr}{ma mb md:Own.E}{op op':CmpOp}{cop cop':Own.Cop}{r r':R2}{pos:Pos}(ho:OpR X (compareOp op) r)(hr:Z1 i cop r)(ho':OpR X (compareOp op') r')(hr':Z1 i cop' r')(ha:PE X a (tE X i Φ ma))(hb:PE X b (tE X i Φ mb))(hd:PE X d (tE X i Φ md))(hm:lastMarks [op,op'] [b,d]=false) :
  PE X (.Compare a [op,op'] [b,d] pos) (tE X i Φ (.chain cop cop' ma mb md)) :=
 (UF ho ho' ha hb hd hm).imp fun σ H Q ⟨env,G,Qm,Em,p,w,k⟩=>by
  rw[Own.q_e_chain]at w;exact two p w fun v u G2 H2 x y k2 p2 rx ry q=>by
   obtain⟨c,e,q⟩:=go_some q;refine hr v u G2 H2 x y c _ p2.hp rx ry e ⟨c,rfl,?_⟩;cases c with
   |true =>
    rw[if_pos rfl]at q ⊢;exact one p2 q fun t G3 H3 z k3 p3 rz q=>by obtain⟨d2,e2,q⟩:=go_some q;exact hr' u t G3 H3 y z d2 Q p3.hp (ry.keep k3) rz e2 (k (.bl d2) G3 H3 (.bl d2) (k2.trans k3) p3.hp (.bl d2) q)
   |false =>rw[if_neg Bool.false_ne_true]at q ⊢;exact k _ G2 H2 _ k2 p2.hp (.bl _) q
theorem Uv{a b d:Expr}{ma mb md:Own.E}{op op':CmpOp}{cop cop':Own.Cop}{r r':R2}{pos:Pos}(ho:OpR X (compareOp op) r)(hr:Z1 i cop r)(ho':OpR X (compareOp op') r')(hr':Z1 i cop' r')(ha:PE X a (tE X i Φ ma))(hb:PE X b (tE X i Φ mb))(hd:PE X d (tE X i Φ md))(hm:lastMarks [op,op'] [b,d]=false) :
  PT X (.Compare a [op,op'] [b,d] pos) (tTt X i Φ (.val (.chain cop cop' ma mb md))) :=
 (Ac ho ho' ha hb hd hm).imp fun σ H Q ⟨env,G,Qm,Em,p,w,k⟩=>by
  rw[Own.q_t_val,Own.q_e_chain]at w;exact two p w fun v u G2 H2 x y k2 p2 rx ry q=>by
   obtain⟨c,e,q⟩:=go_some q;refine hr v u G2 H2 x y c _ p2.hp rx ry e ⟨c,rfl,?_⟩;cases c with
   |true =>
    rw[if_pos rfl]at q ⊢;exact one p2 q fun t G3 H3 z k3 p3 rz q=>by obtain⟨d2,e2,q⟩:=go_some q;obtain⟨d3,e3,q⟩:=go_some q;cases e3;exact hr' u t G3 H3 y z d2 _ p3.hp (ry.keep k3) rz e2 ⟨d2,rfl,k d2 G3 H3 (k2.trans k3) p3.hp q⟩
   |false =>rw[if_neg Bool.false_ne_true]at q ⊢;obtain⟨d3,e3,q⟩:=go_some q;cases e3;exact⟨false,rfl,k _ G2 H2 k2 p2.hp q⟩
theorem U6{st:Stmt}:PS X st (tSt X i Φ .never):=fun pins s σ H D I ⟨env,G,N,R,B,C,Xe,p,w,c⟩=>by rw[Own.q_s_never]at w;exact w.elim
theorem RVs.strs{K:PySem.W.Frag}{H:Hp}:∀ ss:List String,RVs K H (ss.map Own.Val.str) ((ss.map Str.ofString).map V.str)
 |[]=>.nil
 |s::ss=>.cons (.str s) (RVs.strs ss)
def tPt (X:Cx) (i:Inf) (Φ:Own.Fs) (m:Own.E):TE:=fun σ H Q=>∃ env G Qm Em,Pre X i σ H env G Em∧Own.wE Φ m env G Qm Em∧∀ v G' H',Keep H H'→RH i G' H'→Qm v G'→∃ s,Own.fmtV v=some s∧s.length≤Own.lim∧Q (.str (Str.ofString s)) H'
def tJs (X:Cx) (i:Inf) (Φ:Own.Fs) (ms:Own.Es):TJ:=fun σ H acc Q=>∃ env G a Qm Em,acc=Str.ofString a∧a.length≤Own.lim∧Pre X i σ H env G Em∧Own.wJ Φ ms env G a Qm Em∧∀ s G' H',Keep H H'→RH i G' H'→Qm s G'→Q (Str.ofString s) H'
theorem _root_.L2.PJ.imp{X:Cx}{vs:List Expr}{t t':TJ}(h:PJ X vs t)(f:∀ σ H acc Q,t' σ H acc Q→t σ H acc Q):PJ X vs t':=fun pins s σ H acc Q I q=>h pins s σ H acc Q I (f σ H acc Q q)
theorem FZ{e:Expr}{m:Own.E}{pos:Pos}(he:PE X e (tE X i Φ m)):PE X (.FormattedValue e (-1) none pos) (tPt X i Φ m) :=
 (Dy he).imp fun σ H Q ⟨env,G,Qm,Em,p,w,c⟩=>by
  refine⟨env,G,Qm,Em,p,w,fun v G1 H1 x k1 g1 r1 w1=>?_⟩;obtain⟨s,e1,hl,q⟩:=c v G1 H1 k1 g1 w1;cases v with
  |str t=>cases e1;cases r1.str_inv;exact .inr ⟨_,rfl,by rw[ZE];exact Nat.le_trans hl ZU,q⟩
  |int n =>
   cases r1.int_inv;simp only[Own.fmtV]at e1;split at e1
   ·rename_i hn;cases e1;exact .inl ⟨n,rfl,Bx hn,q⟩
   ·cases e1
  |_=>cases e1
theorem Fq{s:String}{j:Nat}{pos:Pos}:PE X (.Constant (.str (Str.ofString s)) j pos) (tPt X i Φ (.cst (.str s))) :=
 pe_str.imp fun σ H Q ⟨env,G,Qm,Em,p,w,c⟩=>by rw[Own.q_e_cst]at w;obtain⟨t,e1,hl,q⟩:=c _ G H (Keep.refl H) p.hp w;cases e1;exact q
theorem FI:PJ X [] (tJs X i Φ .nil):=pj_nil.imp fun σ H acc Q ⟨env,G,a,Qm,Em,e,hl,p,w,c⟩=>by rw[Own.q_j_nil]at w;subst e;exact⟨by rw[ZE];exact Nat.le_trans hl ZU,c a G H (Keep.refl H) p.hp w⟩
theorem Nt{e:Expr}{es:List Expr}{m:Own.E}{ms:Own.Es}(he:PE X e (tPt X i Φ m))(hr:PJ X es (tJs X i Φ ms))(hs:evalEach (e::es) X.env=eval e X.env::evalEach es X.env):PJ X (e::es) (tJs X i Φ (.cons m ms)) :=
 (CZ he hr hs).imp fun σ H acc Q ⟨env,G,a,Qm,Em,e,hl,p,w,c⟩=>by rw[Own.q_j_cons]at w;subst e;refine⟨env,G,_,Em,p,w,fun v G1 H1 k1 g1 w1=>?_⟩;obtain⟨s,e1,hl1,w2⟩:=go_some w1;clear w1;refine⟨s,e1,by omega,_,rfl,?_,env,G1,a++s,Qm,Em,(Kp a s).symm,by rw[String.length_append];exact hl1,p.go k1 g1,w2,fun t G2 H2 k2=>c t G2 H2 (k1.trans k2)⟩;rw[←Kp,ZE,String.length_append];exact Nat.le_trans hl1 ZU
theorem W0:∀ {xs ys:List Own.Val}{n:Nat}{v:Own.Val},(Own.zipL xs ys)[n]?=some v→∃ x y,xs[n]?=some x∧ys[n]?=some y∧v=.tup [x,y]
 |[],_,_,_,h=>by simp[Own.zipL]at h
 |_::_,[],_,_,h=>by simp[Own.zipL]at h
 |x::xs,y::ys,0,v,h=>by simp[Own.zipL]at h;exact⟨x,y,rfl,rfl,h.symm⟩
 |x::xs,y::ys,n+1,v,h=>by obtain⟨a,b,h1,h2,h3⟩:=W0 (xs:=xs) (ys:=ys) (n:=n) (v:=v) (by simpa[Own.zipL]using h);exact⟨a,b,by simpa using h1,by simpa using h2,h3⟩
theorem Wn:∀ {xs ys:List Own.Val}{n:Nat},(Own.zipL xs ys).length≤n→xs.length≤n∨ys.length≤n
 |[],_,_,_=>by simp
 |_::_,[],_,_=>by simp
 |x::xs,y::ys,0,h=>by simp[Own.zipL]at h
 |x::xs,y::ys,n+1,h=>by have:=Wn (xs:=xs) (ys:=ys) (n:=n) (by simpa[Own.zipL]using h);simpa using this
theorem X0{G:Own.Hs}{H:Hp}{p:Addr}{o:HO}(g:RH i G H)(hp:H p=none):RH i G (upd H p o):=g.hid (Keep.new hp) fun b u e=>upd_ne (by rintro rfl;rw[g.free hp]at e;cases e)
theorem F5{H0:Hp}{a b:Addr}{xs ys:List Own.Val}:ItOk i H0 (Itz i.K a b) (fun g=>Own.lsOf (g a)=some xs∧Own.lsOf (g b)=some ys) (Own.zipL xs ys) where
 go:=fun n G H v _ g e hv=>by obtain⟨x,y,hx,hy,rfl⟩:=W0 hv;obtain⟨us,h1,h2⟩:=ZC g e.1;obtain⟨vs,h3,h4⟩:=ZC g e.2;obtain⟨x',h5,h6⟩:=h2.get hx;obtain⟨y',h7,h8⟩:=h4.get hy;refine⟨⟨us,vs,x',y',h1,h3,h5,h7⟩,fun w H' ⟨p,e1,hp,e2⟩=>?_⟩;subst e1;have:=e2 us vs x' y' h1 h3 h5 h7;subst this;have k:=Keep.new (o:=.tup [x',y']) hp;exact⟨k,X0 g hp,.tup (.inl upd_same) (.cons (h6.keep k) (.cons (h8.keep k) .nil))⟩
 stop:=fun n G H _ g e hn=>by obtain⟨us,h1,h2⟩:=ZC g e.1;obtain⟨vs,h3,h4⟩:=ZC g e.2;exact⟨us,vs,h1,h3,by rw[←h2.length,←h4.length];exact Wn hn⟩
theorem CS{H0:Hp}{a b:Addr}{xs ys:List Own.Val}{us vs:List V}(ha:H0 a=some (.tup us)∨KT i.K a us)(hb:H0 b=some (.tup vs)∨KT i.K b vs)(ra:RVs i.K H0 xs us)(rb:RVs i.K H0 ys vs):ItOk i H0 (Ity i.K a b) (fun _=>True) (Own.zipL xs ys) where
 go:=fun n G H v k g e hv=>by obtain⟨x,y,hx,hy,rfl⟩:=W0 hv;have h1:SqT i.K H a us:=ZA (ha.imp (k.t _ _) id);have h3:SqT i.K H b vs:=ZA (hb.imp (k.t _ _) id);obtain⟨x',h5,h6⟩:=(ra.keep k).get hx;obtain⟨y',h7,h8⟩:=(rb.keep k).get hy;refine⟨⟨us,vs,x',y',h1,h3,h5,h7⟩,fun w H' ⟨p,e1,hp,e2⟩=>?_⟩;subst e1;have:=e2 us vs x' y' h1 h3 h5 h7;subst this;have k:=Keep.new (o:=.tup [x',y']) hp;exact⟨k,X0 g hp,.tup (.inl upd_same) (.cons (h6.keep k) (.cons (h8.keep k) .nil))⟩
 stop:=fun n G H k g e hn=>by have h1:SqT i.K H a us:=ZA (ha.imp (k.t _ _) id);have h3:SqT i.K H b vs:=ZA (hb.imp (k.t _ _) id);exact⟨us,vs,h1,h3,by rw[←ra.length,←rb.length];exact Wn hn⟩
theorem E4 {es:List Expr}{kk:Nat}{tp p pos:Pos}{a b:Expr}{ma mb:Own.E}(hK:X.K=i.K) (hg:Gl X "zip") (hm:X.mg "zip" = none) (ha:PE X a (tE X i Φ ma)) (hb:PE X b (tE X i Φ mb)) (hs:starEach [a,b] X.env=(false,eval a X.env)::starEach [b] X.env) (hs1:starEach [b] X.env=(false,eval b X.env)::starEach [] X.env) :
  PI X (.Tuple es kk tp) (.Call (.Name "zip" p) [a,b] [] pos) (tIt X i Φ (.zip ma mb)) :=
 (BL hg hm (Yg ha (Yg hb pa_nil hs1) hs) hs (by rw[hs1];rfl)).imp fun σ H R ⟨env,G,QI,Em,p,w,c⟩=>by
  rw[Own.q_i_zip]at w;refine two p w fun v u G1 H1 x y k1 p1 rx ry q=>?_;obtain⟨⟨st,zs⟩,e1,q2⟩:=go_some q;clear q;rw[hK];cases v with
  |tup xs =>
   cases u with
   |tup ys =>
    cases e1;cases rx with
    |tup hp hr =>
    cases ry with
    |tup hq hs=>exact⟨_,_,rfl,.inr ⟨⟨_,ZA hp⟩,⟨_,ZA hq⟩,c _ _ G1 H1 _ k1 p1.hp (CS hp hq hr hs) q2⟩⟩
   |_=>cases e1
  |ref a1 =>
   cases u with
   |ref b1 =>
    cases rx.ref_inv;cases ry.ref_inv;have e1:(Own.lsOf (G1 a1)).bind _=some (st,zs):=e1;cases z1:Own.lsOf (G1 a1)with
    |none=>rw[z1]at e1;cases e1
    |some xs =>
     rw[z1]at e1;have e1:(Own.lsOf (G1 b1)).map _=some (st,zs):=e1;cases z2:Own.lsOf (G1 b1)with
     |none=>rw[z2]at e1;cases e1
     |some ys =>rw[z2]at e1;cases e1;obtain⟨us,h1,_⟩:=ZC p1.hp z1;obtain⟨vs,h3,_⟩:=ZC p1.hp z2;exact⟨a1,b1,rfl,.inl ⟨⟨us,h1⟩,⟨vs,h3⟩,c _ _ G1 H1 _ k1 p1.hp F5 q2⟩⟩
   |_=>cases e1
  |_=>cases e1
def tE0 (i:Inf) (Φ:Own.Fs) (m:Own.E):TE:=fun σ H Q=>∃ env G Qm,REn i.K H env σ∧RH i G H∧Own.wE Φ m env G Qm (fun _ _=>False)∧Cn i H Q Qm
def tT0 (i:Inf) (Φ:Own.Fs) (m:Own.Tt):TT:=fun σ H Q=>∃ env G Qm,REn i.K H env σ∧RH i G H∧Own.wT Φ m env G Qm (fun _ _=>False)∧∀ b G' H',Keep H H'→RH i G' H'→Qm b G'→Q b H'
theorem NG{H:Hp}:XOk X i H (fun _ _=>False):=fun pins σ H0 s H' a cls s' I f ⟨_,_,_,_,_,_,_,z⟩=>z.elim
theorem pe0{e:Expr}{m:Own.E}(h:PE X e (tE X i Φ m)):PE X e (tE0 i Φ m):=h.imp fun σ H Q ⟨env,G,Qm,r,g,w,c⟩=>⟨env,G,Qm,_,⟨r,g,NG⟩,w,c⟩
theorem pt0{e:Expr}{m:Own.Tt}(h:PT X e (tTt X i Φ m)):PT X e (tT0 i Φ m):=h.imp fun σ H Q ⟨env,G,Qm,r,g,w,c⟩=>⟨env,G,Qm,_,⟨r,g,NG⟩,w,c⟩
theorem _root_.L2.PIfs.imp{X:Cx}{es:List Expr}{t t':TT}(h:PIfs X es t)(f:∀ σ H Q,t' σ H Q→t σ H Q):PIfs X es t':=fun pins s σ H Q I q=>h pins s σ H Q I (f σ H Q q)
theorem Fa:PIfs X [] (tT0 i Φ .yes):=pifs_nil.imp fun σ H Q ⟨env,G,Qm,r,g,w,c⟩=>by rw[Own.q_t_yes]at w;exact c true G H (Keep.refl H) g w
theorem NW{K:PySem.W.Frag}{H H':Hp}{env:Own.Env}{σ:St}{v:Own.Val}{x:V}{caps:List Nat}(r:REn K H env σ)(k:Keep H H')(q:RV K H' v x):REn K H' (some v::caps.map fun j=>(env[j]?).getD none) (some x::XO σ caps):=by
 refine⟨by simp[XO],fun n u e=>?_⟩;cases n with
 |zero=>cases e;exact⟨x,rfl,q⟩
 |succ n =>
  simp only[List.getElem?_cons_succ,List.getElem?_map]at e;cases z:caps[n]? with
  |none=>rw[z]at e;cases e
  |some j =>
   rw[z]at e;simp only[Option.map_some,Option.some.injEq]at e;cases z2:env[j]? with
   |none=>rw[z2]at e;cases e
   |some o =>rw[z2]at e;have e:o=some u:=e;subst e;obtain⟨y,h1,h2⟩:=r.get j u z2;exact⟨y,by show(XO σ caps)[n]?=_;unfold XO;rw[List.getElem?_map,z];show some ((σ[j]?).getD none)=_;rw[h1];rfl,h2.keep k⟩
theorem NR{caps:List Nat}{mi:Own.It}{mt:Own.Tt}{me:Own.E}:∀ σ H Q,tE X i Φ (.comp caps 1 (.one 0) mi mt me) σ H Q→Ud (tIt X i Φ mi) caps (tT0 i Φ mt) (tE0 i Φ me) σ H Q:=fun σ H Q ⟨env,G,Qm,Em,p,w,c⟩=>by
 rw[Own.q_e_comp]at w;refine⟨env,G,_,Em,p,w,fun st xs G1 H1 J k1 g1 it w1=>?_⟩;obtain⟨hl,w1⟩:=w1;generalize hstep:(fun(v:Own.Val) (h2:Own.Hs) (K:Option Own.Val→Own.Hs→Prop) (X2:Own.XQ)=>Own.go (Own.bind (.one 0) h2 v (List.replicate 1 none++caps.map fun j=>(env[j]?).getD none)) fun env2 =>
       Own.wT Φ mt env2 h2 (fun k h3=>if k=true then Own.wE Φ me env2 h3 (fun u h4=>K (some u) h4) X2 else K none h3) X2)=step at w1
 refine⟨fun n m ys H'=>n+m=xs.length∧ys.length≤n∧∃ acc G',Keep H1 H'∧RH i G' H'∧RVs i.K H' acc ys∧Own.wComp st step (xs.drop n) acc G' (fun ys h5=>Own.new h5 (.lst ys) Qm) (fun _ _=>False),⟨xs.length,by omega,by simp,[],G1,Keep.refl _,g1,.nil,by simpa using w1⟩,?_⟩;rintro n m ys H' ⟨hnm,hly,acc,G',k2,g2,r2,w2⟩;refine⟨Nat.lt_of_lt_of_le (Nat.lt_of_le_of_lt (Nat.le_trans hly (by omega)) hl) ZU,?_⟩;by_cases hn:n<xs.length
 ·right;have hd:xs.drop n=xs[n]::xs.drop (n+1):=List.drop_eq_getElem_cons hn;rw[hd]at w2;obtain⟨s2,w2⟩:=w2;have hv:xs[n]?=some xs[n]:=List.getElem?_eq_getElem hn;obtain⟨a1,a2⟩:=it.go n G' H' xs[n] k2 g2 s2 hv;refine⟨a1,fun ys3 H3=>ys3.length≤n+1∧∃ acc3 G3,Keep H1 H3∧RH i G3 H3∧RVs i.K H3 acc3 ys3∧Own.wComp st step (xs.drop (n+1)) acc3 G3 (fun ys h5=>Own.new h5 (.lst ys) Qm) (fun _ _=>False),fun ys3 H3 h=>⟨m - 1,by omega,by omega,h.1,h.2⟩,fun x H3 hy=>?_⟩;obtain⟨k3,g3,r3⟩:=a2 x H3 hy;rw[←hstep]at w2;obtain⟨env4,e4,w4⟩:=go_some w2;rw[hstep]at w4;have e4:some (some xs[n]::caps.map fun j=>(env[j]?).getD none)=some env4:=e4;cases e4;refine⟨_,G',_,NW p.en ((k1.trans k2).trans k3) r3,g3,w4,fun d G5 H5 k5 g5 q5=>?_⟩;have kk:=(k2.trans k3).trans k5;cases d with
  |true =>refine⟨_,G5,_,(NW p.en ((k1.trans k2).trans k3) r3).keep k5,g5,by simpa using q5,fun u G6 H6 y k6 g6 r6 q6=>?_⟩;exact⟨by simpa using hly,_,G6,kk.trans k6,g6,((((r2.keep k3).keep k5).keep k6).append (.cons r6 .nil)),q6⟩
  |false =>rw[if_neg Bool.false_ne_true]at q5;change if false=true then _ else _;rw[if_neg Bool.false_ne_true];have q5:Own.wComp st step (xs.drop (n+1)) (acc++[]) G5 (fun ys h5=>Own.new h5 (.lst ys) Qm) (fun _ _=>False):=q5;rw[List.append_nil]at q5;exact⟨by omega,acc,G5,kk,g5,(r2.keep k3).keep k5,q5⟩
 ·left;have hd:xs.drop n=[]:=List.drop_eq_nil_of_le (by omega);rw[hd]at w2;refine⟨it.stop n G' H' k2 g2 w2.1 (by omega),?_⟩;exact Yt g2 w2.2 ((c.go k1).go k2) fun q hq=>⟨_,upd_same,r2.keep (Keep.new hq)⟩
def OM (i:Inf) (m:Own.Bm) (r:V→List V→Hp→VK→Prop):Prop:=∀ (v:Own.Val) (vs:List Own.Val) (G:Own.Hs) (H:Hp) (x:V) (xs:List V) (t:Own.Val×Own.Hs) (Q:VK) (Qm:Own.Q1),
 RH i G H→RV i.K H v x→RVs i.K H vs xs→Own.bmV G m v vs=some t→Qm t.1 t.2→Cn i H Q Qm→r x xs H Q
def ET (i:Inf) (m:Own.Bm) (T:String):Prop:=∀ (v:Own.Val) (G:Own.Hs) (H:Hp) (x:V),RH i G H→RV i.K H v x→Own.bmTy G m v=true→tyV i.K T x H
theorem Bb {o e:Expr}{es:List Expr}{name:Str}{apos cpos:Pos}{T id:String}{r:V→List V→Hp→VK→Prop}{m:Own.Bm}{mo:Own.E}{ms:Own.Es}{n:Nat}(hK:X.K=i.K) (pa:PlainAttrs T) (slot:Slot T name id) (hty:typeOf (.builtin id)=pure (.type "method_descriptor")) (mt:MtR X id r) (hT:ET i m T) (hr:OM i m r)
  (ho:PE X o (tE X i Φ mo)) (ha:PA X (e::es) (tAr X i Φ ms n)) (hbase:attributeBase o name X.env (eval o X.env)=eval o X.env)
  (hfew:((backTo cpos (starEach (e::es) X.env)).all (fun x=>!x.1)&&(backToKw cpos (keywordEach [] X.env)).all (fun x=>x.1.isSome)&&decide ((e::es).length+([]:List Keyword).length+(if([]:List Keyword).isEmpty then 0 else 1)<30))=true)
  (hline:(apos.endLine==cpos.line)=true) (hs:starEach (e::es) X.env=(false,eval e X.env)::starEach es X.env) (hplain:(backTo cpos (starEach es X.env)).any (·.1)=false) :
  PE X (.Call (.Attribute o name apos) (e::es) [] cpos) (tE X i Φ (.bm m mo ms)) :=
 (GV pa slot hty mt ho ha hbase hfew hline hs hplain).imp fun σ H Q ⟨env,G,Qm,Em,p,w,c⟩=>by
  rw[Own.q_e_bm]at w;refine one p w fun v G1 H1 x k1 p1 rv q=>⟨by rw[hK];exact hT v G1 H1 x p1.hp rv q.1,env,G1,_,Em,p1,q.2,fun vs G2 H2 xs k2 g2 r2 _ w2=>?_⟩
  obtain⟨t,e,w3⟩:=go_some w2;exact hr v vs G2 H2 x xs t Q Qm g2 (rv.keep k2) r2 e w3 ((c.go k1).go k2)
theorem Na{o:Option Own.Ob}(h:Own.isDct o=true):∃ xs,o=some (.dct xs):=by
 cases o with
 |none=>cases h
 |some o=>cases o with
  |dct xs=>exact⟨xs,rfl⟩
  |_=>cases h
theorem I0 {m:Own.Bm}(hm:m.ty=.l):ET i m "list":=fun v G H x g r h=>by
 unfold Own.bmTy at h;rw[hm]at h;cases v with
 |ref a =>cases r.ref_inv;obtain⟨xs,e⟩:=MB (show Own.isLst (G a)=true from h);obtain⟨vs,h1,_⟩:=g a _ e;exact .inl ⟨rfl,vs,SqL.of h1⟩
 |_=>cases h
theorem Ep {m:Own.Bm}(hm:m.ty=.d):ET i m "dict":=fun v G H x g r h=>by
 unfold Own.bmTy at h;rw[hm]at h;cases v with
 |ref a =>cases r.ref_inv;obtain⟨xs,e⟩:=Na (show Own.isDct (G a)=true from h);obtain⟨vs,h1,_⟩:=g a _ e;exact .inr (.inr (.inl ⟨rfl,.inl ⟨vs,h1⟩⟩))
 |_=>cases h
theorem Nm{G:Own.Hs}{v:Own.Val}{f:Own.Ad→List Own.Val→Option (Own.Val×Own.Hs)}{t:Own.Val×Own.Hs}(e:Own.bmL G v f=some t):∃ a xs,v=.ref a∧G a=some (.lst xs)∧f a xs=some t:=by
 cases v with
 |ref a=>obtain⟨xs,h1,h2⟩:=AZ e;exact⟨a,xs,rfl,h1,h2⟩
 |_=>cases e
theorem FW{vs:List Own.Val}{α:Type}{f:Own.Val→Option α}{a:α}(e:(match vs with|[v]=>f v|_=>none)=some a):∃ v,vs=[v]∧f v=some a:=by
 cases vs with
 |nil=>cases e
 |cons v vs=>cases vs with
  |nil=>exact⟨v,rfl,e⟩
  |cons _ _=>cases e
theorem FJ:OM i .append Nn:=fun v vs G H x xs t Q Qm g rx rs e q c=>by obtain⟨a,ys,rfl,e4,e3⟩:=Nm e;obtain⟨u,rfl,e3⟩:=FW e3;obtain⟨hl,e3⟩:=ZP e3;cases e3;cases rx.ref_inv;obtain⟨y,rfl,ry⟩:=rs.inv1;obtain⟨us,h2,r2⟩:=g a _ e4;obtain⟨k3,g3⟩:=Kr (xs:=ys) g h2 (ys++[u]) (us++[y]) (r2.app1 ry);exact⟨a,us,y,rfl,rfl,h2,by rw[←r2.length];exact Nat.lt_of_lt_of_le hl ZU,c _ _ _ _ k3 g3 .non q⟩
theorem B5:OM i .popAt Ae:=fun v vs G H x xs t Q Qm g rx rs e q c=>by
 obtain⟨a,ys,rfl,e4,e3⟩:=Nm e;unfold Own.bmPopAt at e3;split at e3
 ·rename_i n;obtain⟨hn,e3⟩:=ZP e3;obtain⟨k,z,e3⟩:=Option.bind_eq_some_iff.mp e3;obtain⟨yv,z2,rfl⟩:=Option.map_eq_some_iff.mp e3;cases rx.ref_inv;obtain⟨y,rfl,ry⟩:=rs.inv1;cases ry.int_inv;obtain⟨us,h2,r2⟩:=g a _ e4;obtain⟨xv,hx,rv⟩:=r2.get z2;rw[Ke,r2.length]at z;obtain⟨s1,s2,s3,s4⟩:=Kg z;obtain⟨k3,g3⟩:=Kr (xs:=ys) g h2 (ys.eraseIdx k) (us.eraseIdx k) (r2.eraseIdx k);exact⟨a,us,n,k,xv,rfl,rfl,h2,by omega,by omega,s1,hx,c _ _ _ _ k3 g3 (rv.keep k3) q⟩
 ·cases e3
theorem Kj{G:Own.Hs}{v:Own.Val}{f:Own.Ad→List (Own.Val×Own.Val)→Option (Own.Val×Own.Hs)}{t:Own.Val×Own.Hs}(e:Own.bmD G v f=some t):∃ a kvs,v=.ref a∧G a=some (.dct kvs)∧f a kvs=some t:=by
 cases v with
 |ref a =>
  obtain⟨kvs,h1,h2⟩:=Option.bind_eq_some_iff.mp (show(Own.dcOf (G a)).bind (f a)=some t from e);refine⟨a,kvs,rfl,?_,h2⟩;cases z:G a with
  |none=>rw[z]at h1;cases h1
  |some o =>
   rw[z]at h1;cases o with
   |dct ys=>cases h1;rfl
   |_=>cases h1
 |_=>cases e
theorem Qc{vs:List Own.Val}{α:Type}{f:Own.Val→Own.Val→Option α}{a:α}(e:(match vs with|[v,u]=>f v u|_=>none)=some a):∃ v u,vs=[v,u]∧f v u=some a:=by
 cases vs with
 |nil=>cases e
 |cons v vs=>cases vs with
  |nil=>cases e
  |cons u us=>cases us with
   |nil=>exact⟨v,u,rfl,e⟩
   |cons _ _=>cases e
def A9:V→List V→Hp→VK→Prop:=fun x vs H Q=>∃ a y o,x=.ref a∧vs=[y]∧DGet H a y o∧Q (o.getD .non) H
theorem AB (hu:X.A.units+1<cLine):MtR X "dict.get" A9:=by intro pins s σ H x vs v us Q I rx rv h;obtain⟨a,y,o,rfl,rfl,d,q⟩:=h;cases rx;obtain⟨u,rfl,ru⟩:=rv.one;exact EJ hu I d ru fun w' s' I' rw'=>⟨_,_,I',rw',q⟩
def Qa:V→List V→Hp→VK→Prop:=fun x vs H Q=>∃ a y z o,x=.ref a∧vs=[y,z]∧DGet H a y o∧Q (o.getD z) H
def Au:V→List V→Hp→VK→Prop:=fun x vs H Q=>∃ a kvs k v more,x=.ref a∧vs=kV k::more∧(more=[]∨∃ z,more=[z])∧H a=some (.dK kvs)∧Yb kvs k=some v∧Q v (upd H a (.dK (dropK kvs k)))
theorem mt_dpop:MtR X "dict.pop" Au:=by
 intro pins s σ H x vs v us Q I rx rv h;obtain⟨a,kvs,k,y,more,rfl,rfl,hm,hH,l,q⟩:=h;cases rx;rcases hm with rfl|⟨z,rfl⟩
 ·obtain⟨u,rfl,ru⟩:=rv.one;exact DF I hH ru l (.inl rfl) fun w' s' I' rw'=>⟨_,_,I',rw',q⟩
 ·obtain⟨u,t,rfl,ru,rt⟩:=rv.two;exact DF I hH ru l (.inr ⟨_,rfl⟩) fun w' s' I' rw'=>⟨_,_,I',rw',q⟩
def Ah:V→List V→Hp→VK→Prop:=fun x vs H Q=>∃ a kvs k z,x=.ref a∧vs=[kV k,z]∧H a=some (.dK kvs)∧Yb kvs k=none∧Q z H
theorem An:MtR X "dict.pop" Ah:=by intro pins s σ H x vs v us Q I rx rv h;obtain⟨a,kvs,k,z,rfl,rfl,hH,l,q⟩:=h;cases rx;obtain⟨u,t,rfl,ru,rt⟩:=rv.two;exact F0 I hH ru l fun s' I'=>⟨_,_,I',rt,q⟩
theorem Gu:OM i .dget A9:=fun v vs G H x xs t Q Qm g rx rs e q c=>by
 obtain⟨a,kvs,rfl,e4,e3⟩:=Kj e;obtain⟨k,rfl,e3⟩:=FW e3;obtain⟨hk,e3⟩:=ZP e3;cases e3;cases rx.ref_inv;obtain⟨y,rfl,ry⟩:=rs.inv1;obtain⟨ps,h2,r2⟩:=g a _ e4;obtain⟨d,kr,rfl⟩:=key_of hk ry;refine⟨a,_,_,rfl,rfl,DGet.k (k:=d) h2,?_⟩;obtain⟨l1,l2⟩:=r2.look kr;cases z:Own.lookK kvs k with
 |none=>rw[l2 z];rw[z]at q;exact c _ _ _ _ (Keep.refl H) g .non q
 |some u=>obtain⟨x,hx,rv⟩:=l1 u z;rw[hx];rw[z]at q;exact c _ _ _ _ (Keep.refl H) g rv q
theorem FC:OM i .dpop Au:=fun v vs G H x xs t Q Qm g rx rs e q c=>by obtain⟨a,kvs,rfl,e4,e3⟩:=Kj e;obtain⟨k,rfl,e3⟩:=FW e3;obtain⟨hk,e3⟩:=ZP e3;obtain⟨u,z,rfl⟩:=Option.map_eq_some_iff.mp e3;cases rx.ref_inv;obtain⟨y,rfl,ry⟩:=rs.inv1;obtain⟨ps,h2,r2⟩:=g a _ e4;obtain⟨d,kr,rfl⟩:=key_of hk ry;obtain⟨x,hx,rv⟩:=(r2.look kr).1 u z;obtain⟨k3,g3⟩:=Kn (kvs:=kvs) g h2 (r2.drop kr);exact⟨a,ps,d,x,[],rfl,rfl,.inl rfl,h2,hx,c _ _ _ _ k3 g3 (rv.keep k3) q⟩
theorem MF{kvs:List (Own.Val×Own.Val)}{k:Own.Val}(h:Own.lookK kvs k=none):Own.dropK kvs k=kvs:=by
 unfold Own.dropK;rw[List.filter_eq_self];intro p hp;have h2:kvs.find? (fun p=>p.1==k)=none:=by unfold Own.lookK at h;exact Option.map_eq_none_iff.mp h
 simpa using List.find?_eq_none.mp h2 p hp
theorem Dh:OM i .dpopD (fun x vs H Q=>Au x vs H Q∨Ah x vs H Q):=fun v vs G H x xs t Q Qm g rx rs e q c=>by
 obtain⟨a,kvs,rfl,e4,e3⟩:=Kj e;obtain⟨k,dv,rfl,e3⟩:=Qc e3;obtain⟨hk,e3⟩:=ZP e3;cases e3;cases rx.ref_inv;obtain⟨y,z,rfl,ry,rz⟩:=rs.inv2;obtain⟨ps,h2,r2⟩:=g a _ e4;obtain⟨d,kr,rfl⟩:=key_of hk ry;obtain⟨l1,l2⟩:=r2.look kr;cases z:Own.lookK kvs k with
 |none =>
  refine .inr ⟨a,ps,d,_,rfl,rfl,h2,l2 z,?_⟩;rw[z,MF z]at q;have e:Own.upd G a (.dct kvs)=G:=by
   funext b;by_cases hb:b=a
   ·subst hb;rw[Own.upd_same,e4]
   ·rw[Own.upd_ne hb]
  rw[e]at q;exact c _ _ _ _ (Keep.refl H) g rz q
 |some u =>obtain⟨x,hx,rv⟩:=l1 u z;obtain⟨k3,g3⟩:=Kn (kvs:=kvs) g h2 (r2.drop kr);rw[z]at q;exact .inl ⟨a,ps,d,x,_,rfl,rfl,.inr ⟨_,rfl⟩,h2,hx,c _ _ _ _ k3 g3 (rv.keep k3) q⟩
theorem RFs.look{K:PySem.W.Frag}{H:Hp}{f:String}:∀ {fs:List (String×Own.Val)}{ps:List (Str×V)},RFs K H fs ps→
  (∀ v,fs.lookup f=some v→∃ x,ps.lookup (Str.ofString f)=some x∧RV K H v x)∧(fs.lookup f=none→ps.lookup (Str.ofString f)=none)
 |_,_,.nil=>⟨fun v e=>(by cases e),fun _=>rfl⟩
 |_,_,.cons (f:=g) (v:=u) (x:=y) r t=>by
  have ih:=RFs.look (f:=f) t;rw[List.lookup_cons,List.lookup_cons];by_cases e:f=g
  ·subst e;rw[beq_self_eq_true,beq_self_eq_true];exact⟨fun v z=>(by cases z;exact⟨y,rfl,r⟩),fun z=>(by cases z)⟩
  ·rw[show(f==g)=false by simpa using e,show(Str.ofString f==Str.ofString g)=false by rw[beq_eq_false_iff_ne];exact fun z=>e (ofS_inj.mp z)];exact ih
theorem RFs.put{K:PySem.W.Frag}{H:Hp}{f:String}{v:Own.Val}{x:V}(q:RV K H v x):∀ {fs:List (String×Own.Val)}{ps:List (Str×V)},RFs K H fs ps→RFs K H (Own.putF fs f v) (L2.putF (Str.ofString f) x ps)
 |_,_,.nil=>.cons q .nil
 |_,_,.cons (f:=g) (v:=u) (x:=y) r t=>by
  unfold Own.putF L2.putF;by_cases e:g=f
  ·subst e;rw[if_pos rfl,if_pos rfl];exact .cons q t
  ·rw[if_neg e,if_neg fun z=>e (ofS_inj.mp z)];exact .cons r (RFs.put q t)
theorem RFs.length{K:PySem.W.Frag}{H:Hp}:∀ {fs:List (String×Own.Val)}{ps:List (Str×V)},RFs K H fs ps→fs.length=ps.length
 |_,_,.nil=>rfl
 |_,_,.cons _ t=>by rw[List.length_cons,List.length_cons,RFs.length t]
structure FldOk (i:Inf) (f:String):Prop where
 no:∀ C c,i.cl C c→NoAttr i.K c (Str.ofString f)
structure ClsA (i:Inf):Prop where
 cls:∀ C c,i.ins C=true→i.cl C c→Cls i.K c
theorem W8{o:Option Own.Ob}{p:String×List (String×Own.Val)}(h:Own.insOf o=some p):o=some (.ins p.1 p.2):=by
 cases o with
 |none=>cases h
 |some o=>cases o with
  |ins C fs=>cases h;rfl
  |_=>cases h
theorem JI{G:Own.Hs}{v u:Own.Val}{f:String}(h:Own.fldV G v f=some u):∃ a C fs,v=.ref a∧G a=some (.ins C fs)∧fs.lookup f=some u:=by obtain⟨a,h1,h⟩:=Option.bind_eq_some_iff.mp h;obtain⟨p,h2,h3⟩:=Option.bind_eq_some_iff.mp h;exact⟨a,p.1,p.2,Wg h1,W8 h2,h3⟩
theorem HE{o:Expr}{mo:Own.E}{f:String}{pos:Pos}(hK:X.K=i.K)(A:ClsA i)(F:FldOk i f)(ho:PE X o (tE X i Φ mo))(hb:attributeBase o (Str.ofString f) X.env (eval o X.env)=eval o X.env) :
  PE X (.Attribute o (Str.ofString f) pos) (tE X i Φ (.fld mo f)) :=
 (GD ho hb).imp fun σ H Q ⟨env,G,Qm,Em,p,w,c⟩=>by
  rw[Own.q_e_fld]at w;exact one p w fun v G1 H1 x k1 p1 r q=>by obtain⟨u,e,q2⟩:=go_some q;clear q;obtain⟨a,C,fs,rfl,e2,e3⟩:=JI e;cases r.ref_inv;obtain⟨c',dx,ps,hi,hc,h1,rf⟩:=p1.hp a _ e2;obtain⟨y,l,ry⟩:=rf.look.1 u e3;exact⟨a,c',dx,ps,y,rfl,h1,by rw[hK];exact A.cls _ _ hi hc,by rw[hK];exact F.no _ _ hc,l,c _ _ _ _ k1 p1.hp ry q2⟩
theorem No{G:Own.Hs}{H:Hp}{a:Addr}{C:String}{c' dx:Addr}{fs:List (String×Own.Val)}{ps ps2:List (Str×V)}(g:RH i G H)(hi:i.ins C=true)(hc:i.cl C c')(h:H a=some (.ins c' dx ps2))(r:RFs i.K H fs ps) :
  Keep H (upd H a (.ins c' dx ps))∧RH i (Own.upd G a (.ins C fs)) (upd H a (.ins c' dx ps)):=by
 have k:Keep H (upd H a (.ins c' dx ps)):=Keep.put (fun xs e=>by rw[h]at e;cases e) fun p u e=>by rw[h]at e;cases e
 exact⟨k,g.put k ⟨c',dx,ps,hi,hc,upd_same,r.keep k⟩⟩
theorem WG{G G':Own.Hs}{o v:Own.Val}{f:String}(h:Own.putFV G o f v=some G'):∃ a C fs,o=.ref a∧G a=some (.ins C fs)∧fs.length<900∧G'=Own.upd G a (.ins C (Own.putF fs f v)):=by
 cases o with
 |ref a =>
  unfold Own.putFV at h;dsimp only at h;split at h
  ·rename_i C fs e;obtain⟨hl,h⟩:=ZP h;cases h;exact⟨a,C,fs,rfl,e,hl,rfl⟩
  ·cases h
 |_=>cases h
theorem Od{o e:Expr}{mo m:Own.E}{f:String}{pos pos':Pos}(hK:X.K=i.K)(A:ClsA i)(F:FldOk i f)(ho:PE X o (tE X i Φ mo))(he:PE X e (tE X i Φ m))(hs:swapsWith e (some (.Attribute o (Str.ofString f) pos')) pos.line X.env=pure false) :
  PS X (.Assign [.Attribute o (Str.ofString f) pos'] e pos) (tSt X i Φ (.setFld mo f m)) :=
 (EK ho he hs).imp fun D σ H ⟨env,G,N,R,B,C,Xe,p,w,c⟩=>by rw[Own.q_s_setFld]at w;refine one p.pre w fun v G1 H1 x k1 p1 r q=>?_;refine one p1 q fun u G2 H2 y k2 p2 ry q=>?_;obtain⟨G3,e3,q2⟩:=go_some q;clear q;obtain⟨a,D',fs,rfl,e2,hl,rfl⟩:=WG e3;cases ry.ref_inv;obtain⟨c',dx,ps,hi,hc,h1,rf⟩:=p2.hp a _ e2;obtain⟨k3,g3⟩:=No p2.hp hi hc h1 (rf.put (f:=f) (r.keep k2));refine⟨a,c',dx,ps,rfl,h1,by rw[hK];exact A.cls _ _ hi hc,by rw[hK];exact F.no _ _ hc,by rw[←rf.length];omega,?_⟩;have k:=(k1.trans k2).trans k3;exact c.nx _ _ _ _ k g3 (p.en.keep k) q2
theorem Uy{op:Own.Bop}{x y z:Own.Val}(h:Own.augV op x y=some z):∃ a b,x=.int a∧y=.int b∧((op=.add∧z=.int (a+b))∨(op=.sub∧z=.int (a - b))):=by
 unfold Own.augV at h;split at h
 ·cases h;exact⟨_,_,rfl,rfl,.inl ⟨rfl,rfl⟩⟩
 ·cases h;exact⟨_,_,rfl,rfl,.inr ⟨rfl,rfl⟩⟩
 ·cases h
def rAS (op:Own.Bop):V→V→Hp→VK→Prop:=fun x y H Q=>∃ a b,x=.int a∧y=.int b∧((op=.add∧Q (.int (a+b)) H)∨(op=.sub∧Q (.int (a - b)) H))
theorem Ol{o:Expr}{mo:Own.E}{f:String}{op:Operator}{bop:Own.Bop}{n:Int}{k:Nat}{pos tpos cpos:Pos}(hK:X.K=i.K)(A:ClsA i)(F:FldOk i f)(hop:A1 X op (rAS bop))(ho:PE X o (tE X i Φ mo)) :
  PS X (.AugAssign (.Attribute o (Str.ofString f) tpos) op (.Constant (.int n) k cpos) pos) (tSt X i Φ (.augFld mo f bop n)) :=
 (N6 ho Bg hop).imp fun D σ H ⟨env,G,N,R,B,C,Xe,p,w,c⟩=>by
  rw[Own.q_s_augFld]at w;refine one p.pre w fun v G1 H1 x k1 p1 r q=>?_;obtain⟨u,e1,q2⟩:=go_some q;clear q;obtain⟨a,C',fs,rfl,e2,e3⟩:=JI e1;cases r.ref_inv;obtain⟨c',dx,ps,hi,hc,h1,rf⟩:=p1.hp a _ e2;obtain⟨y,l,ry⟩:=rf.look.1 u e3;refine⟨a,c',dx,ps,y,rfl,h1,by rw[hK];exact A.cls _ _ hi hc,by rw[hK];exact F.no _ _ hc,l,?_⟩;obtain⟨z,e4,q3⟩:=go_some q2;clear q2;obtain⟨G3,e5,q4⟩:=go_some q3;clear q3;obtain⟨n1,n2,rfl,e0,hz⟩:=Uy e4;cases e0;cases ry.int_inv;obtain⟨a2,C2,fs2,e6,e7,hl,rfl⟩:=WG e5;cases e6;rw[e2]at e7;cases e7;have fin:∀ n:Int,z=.int n→∃ dx' fs',H1 a=some (.ins c' dx' fs')∧fs'.length<1000∧D.nx σ (upd H1 a (.ins c' dx' (L2.putF (Str.ofString f) (.int n) fs'))):=fun n hn=>by subst hn;obtain⟨k3,g3⟩:=No p1.hp hi hc h1 (rf.put (f:=f) (x:=.int n) (.int n));refine⟨dx,ps,h1,by rw[←rf.length];omega,?_⟩;exact c.nx _ _ _ _ (k1.trans k3) g3 (p.en.keep (k1.trans k3)) q4
  rcases hz with⟨e,hz⟩|⟨e,hz⟩
  ·exact⟨n1,n,rfl,rfl,.inl ⟨e,fin _ hz⟩⟩
  ·exact⟨n1,n,rfl,rfl,.inr ⟨e,fin _ hz⟩⟩
def Dfm (pr:Program) (w:World) (mg:Str→Option Value) (base:Heap) (i:Inf) (P:Own.Pg) (n:Nat) (f:String) (fa:Addr):Prop :=
 ∃ fd ps,FnOk pr w i.K mg base (CX1 pr w) (2*n) fa fd ps (spF i P n f)∧Binds i.K fd ps []
theorem FK {P:Own.Pg}{n k:Nat}{Cn:String}{C f:Addr}{e:Expr}{es:List Expr}{ms:Own.Es}{p pos:Pos}(hK:X.K=i.K) (hi:i.ins Cn=true) (hc:i.cl Cn C) (M:Mk i.K C f) (D:Dfm X.prog X.w X.mg X.base i P n (Cn ++ ".__init__") f) (hr:Room (2*n+1) X.A)
  (hg:Gl X (Str.ofString Cn)) (hm:X.mg (Str.ofString Cn)=some (.ref C)) (hdb:(Str.ofString Cn==("__debug__" : Str))=false)
  (ha:PA X (e::es) (tAr X i (Own.wF P n) ms k)) (he:starEach (e::es) X.env=(false,eval e X.env)::starEach es X.env) (hpl:(backTo pos (starEach es X.env)).any (·.1)=false) :
  PE X (.Call (.Name (Str.ofString Cn) p) (e::es) [] pos) (tE X i (Own.wF P n) (.make Cn ms)):=by
 obtain⟨fd,ps,F,hb⟩:=D;rw[←hK]at F hb M;intro pins s σ H Q I h;obtain⟨env,G,Qm,Em,pr,w,c⟩:=h;rw[Own.q_e_make]at w;refine Cl (E:=XK1 i H Em) M F hr hg hm hb .nil (XW.passes pr.xo) ha hdb he hpl pins s σ H Q I ⟨env,G,_,Em,pr,w,fun vs G1 H1 xs k1 g1 r1 hl w1 x dx hx hd hne=>?_⟩;have ka:Keep H1 (upd H1 dx (.own x)):=Keep.new hd;have hx2:upd H1 dx (.own x) x=none:=by rw[upd_ne (fun z=>hne z.symm)];exact hx
 have kb:Keep (upd H1 dx (.own x)) (upd (upd H1 dx (.own x)) x (.ins C dx [])):=Keep.new hx2;have g2:RH i G1 (upd H1 dx (.own x)):=X0 g1 hd;have g3:RH i (Own.upd G1 x (.ins Cn [])) (upd (upd H1 dx (.own x)) x (.ins C dx [])):=g2.put kb ⟨C,dx,[],hi,hc,upd_same,.nil⟩;have k:=ka.trans kb;refine⟨.ref x::vs,_,_,Em,.cons (.ref x) (by rw[List.append_nil];exact r1.keep k),g3,w1 x (g1.free hx),?_,fun cls d H' h=>(h.go k).go k1⟩;intro v G' H' y k' g' rv ⟨hv,hq⟩;subst hv;exact⟨rv.non_inv,c _ G' H' _ ((k1.trans k).trans k') g' (.ref x) hq⟩
theorem Jp{G:Own.Hs}{v:Own.Val}{m C:String}(h:Own.clsV G v m=some C):∃ a fs,v=.ref a∧G a=some (.ins C fs)∧fs.lookup m=none:=by
 obtain⟨a,h1,h⟩:=Option.bind_eq_some_iff.mp h;obtain⟨p,h2,h3⟩:=Option.bind_eq_some_iff.mp h;have e:=W8 h2;by_cases z:(p.2.lookup m).isNone=true
 ·rw[if_pos z]at h3;cases h3;exact⟨a,p.2,Wg h1,e,Option.isNone_iff_eq_none.mp z⟩
 ·rw[if_neg z]at h3;cases h3
theorem E9 {P:Own.Pg}{n k:Nat}{Cn m:String}{C f:Addr}{o e:Expr}{es:List Expr}{mo:Own.E}{ms:Own.Es}{apos pos:Pos}{pl:Sem Bool}(hK:X.K=i.K) (hfn:∀ c,i.cl Cn c→c=C) (A:Cls i.K C) (M:Meth i.K C (Str.ofString m) f) (D:Dfm X.prog X.w X.mg X.base i P n (Cn ++ "." ++ m) f) (hr:Room (2*n) X.A)
  (ho:PE X o (tE X i (Own.wF P n) mo)) (ha:PA X (e::es) (tAr X i (Own.wF P n) ms k)) (he:starEach (e::es) X.env=(false,eval e X.env)::starEach es X.env) (hpl:(backTo pos (starEach es X.env)).any (·.1)=false)
  (ht:eval (.Call (.Attribute o (Str.ofString m) apos) (e::es) [] pos) X.env=(do
    let ov←eval o X.env
    standAt apos.atName
    let (f,first)←holding [ov] (getMethod ov (Str.ofString m) pl)
    callWith pos f first (backTo pos (starEach (e::es) X.env)) (backToKw pos (keywordEach [] X.env)))) :
  PE X (.Call (.Attribute o (Str.ofString m) apos) (e::es) [] pos) (tE X i (Own.wF P n) (.meth Cn m mo ms)):=by
 obtain⟨fd,ps,F,hb⟩:=D;rw[←hK]at F hb M A;intro pins s σ H Q I h;obtain⟨env,G,Qm,Em,pr,w,c⟩:=h;rw[Own.q_e_meth]at w;refine Cz (E:=XK1 i H Em) ho A M F hr hb .nil (XW.passes pr.xo) ha he hpl ht pins s σ H Q I (one pr w fun v G1 H1 x k1 p1 rv q=>?_);obtain⟨hq,w1⟩:=q;obtain⟨a,fs,rfl,e2,e3⟩:=Jp hq;cases rv.ref_inv;obtain⟨c',dx,ps',hi,hc,h1,rf⟩:=p1.hp a _ e2;cases hfn c' hc;refine⟨a,dx,ps',rfl,h1,rf.look.2 e3,env,G1,_,Em,p1,w1,fun vs G2 H2 xs k2 g2 r2 hl w2=>?_⟩;exact⟨.ref a::vs,G2,Qm,Em,.cons (.ref a) (by rw[List.append_nil];exact r2),g2,w2,(c.go k1).go k2,fun cls d H' h=>(h.go k2).go k1⟩
theorem Ci {P:Own.Pg}{n:Nat}{Cn m:String}{C f:Addr}{o:Expr}{mo:Own.E}{apos pos:Pos}{pl:Sem Bool}(hK:X.K=i.K) (hfn:∀ c,i.cl Cn c→c=C) (A:Cls i.K C) (M:Meth i.K C (Str.ofString m) f) (D:Dfm X.prog X.w X.mg X.base i P n (Cn ++ "." ++ m) f) (hr:Room (2*n) X.A)
  (ho:PE X o (tE X i (Own.wF P n) mo))
  (ht:eval (.Call (.Attribute o (Str.ofString m) apos) [] [] pos) X.env=(do
    let ov←eval o X.env
    standAt apos.atName
    let (f,first)←holding [ov] (getMethod ov (Str.ofString m) pl)
    callWith pos f first (backTo pos (starEach [] X.env)) (backToKw pos (keywordEach [] X.env)))) :
  PE X (.Call (.Attribute o (Str.ofString m) apos) [] [] pos) (tE X i (Own.wF P n) (.meth Cn m mo .nil)):=by
 obtain⟨fd,ps,F,hb⟩:=D;rw[←hK]at F hb M A;intro pins s σ H Q I h;obtain⟨env,G,Qm,Em,pr,w,c⟩:=h;rw[Own.q_e_meth]at w;refine Um (E:=XK1 i H Em) ho A M F hr hb .nil (XW.passes pr.xo) ht pins s σ H Q I (one pr w fun v G1 H1 x k1 p1 rv q=>?_);obtain⟨hq,w1⟩:=q;rw[Own.q_a_nil]at w1;obtain⟨a,fs,rfl,e2,e3⟩:=Jp hq;cases rv.ref_inv;obtain⟨c',dx,ps',hi,hc,h1,rf⟩:=p1.hp a _ e2;cases hfn c' hc;refine⟨a,dx,ps',rfl,h1,rf.look.2 e3,?_⟩;exact⟨[.ref a],G1,Qm,Em,.cons (.ref a) .nil,p1.hp,w1,c.go k1,fun cls d H' h=>h.go k1⟩
theorem CF {P:Own.Pg}{n:Nat}{f:String}{p pos:Pos}(hK:X.K=i.K) (D:Dfo X.prog X.w X.mg X.base i P n f) (hr:Room (2*n) X.A) (hg:Gl X (Str.ofString f)) (hdb:(Str.ofString f==("__debug__" : Str))=false) :
  PE X (.Call (.Name (Str.ofString f) p) [] [] pos) (tE X i (Own.wF P n) (.call f .nil)):=by
 obtain⟨fa,fd,ps,F,hm,hk,hb⟩:=D;rw[←hK]at F hk hb;intro pins s σ H Q I h;obtain⟨env,G,Qm,Em,pr,w,c⟩:=h;rw[Own.q_e_call,Own.q_a_nil]at w;refine Uh (E:=XK1 i H Em) F hr hg hm hk hb .nil (XW.passes pr.xo) hdb pins s σ H Q I ?_;exact⟨[],G,Qm,Em,.nil,pr.hp,w,c,fun cls d H' h=>h⟩
noncomputable def NA (X:Cx) (i:Inf) (Φ:Own.Fs):Own.Es→List (TE×TE)
 |.cons k (.cons v r)=>(tE X i Φ k,tE X i Φ v)::NA X i Φ r
 |_=>[]
noncomputable def WP:Own.Es→Bool
 |.nil=>true
 |.cons _ .nil=>false
 |.cons _ (.cons _ r)=>WP r
noncomputable def esL:Own.Es→Nat
 |.nil=>0
 |.cons _ es=>esL es+1
noncomputable def NK:List V→List (V×V)
 |x::y::r=>(x,y)::NK r
 |_=>[]
theorem Mj:∀ (es:Own.Es),WP es=true→∀ {σ:St}{H:Hp}{env:Own.Env}{G:Own.Hs}{Qm:List Own.Val→Own.Hs→Prop}{Em:Own.XQ}{Q:List (V×V)→Hp→Prop},Pre X i σ H env G Em→Own.wA Φ es env G Qm Em→
  (∀ vs G' H' xs,Keep H H'→RH i G' H'→RVs i.K H' vs xs→xs.length=esL es→Qm vs G'→Q (NK xs) H')→JS (NA X i Φ es) σ H Q
 |.nil,_,σ,H,env,G,Qm,Em,Q,p,w,c=>by rw[Own.q_a_nil]at w;exact c [] G H [] (Keep.refl H) p.hp .nil rfl w
 |.cons k .nil,h,_,_,_,_,_,_,_,_,_,_=>by cases h
 |.cons k (.cons v r),h,σ,H,env,G,Qm,Em,Q,p,w,c=>by rw[Own.q_a_cons]at w;refine one p w fun a G1 H1 x k1 p1 ra q=>?_;rw[Own.q_a_cons]at q;refine one p1 q fun b G2 H2 y k2 p2 rb q2=>?_;refine Mj r h p2 q2 fun vs G' H' xs k3 g3 rv hl hq=>?_;exact c (a::b::vs) G' H' (x::y::xs) ((k1.trans k2).trans k3) g3 (.cons ((ra.keep k2).keep k3) (.cons (rb.keep k3) rv)) (by rw[List.length_cons,List.length_cons,hl];rfl) hq
theorem WF{K:PySem.W.Frag}{H:Hp}:∀ {vs:List Own.Val}{xs:List V}{kvs:List (Own.Val×Own.Val)},RVs K H vs xs→Own.pairUp vs=some kvs→∃ ps:List (Key×V),NK xs=ps.map (fun kv=>(kV kv.1,kv.2))∧RKs K H kvs ps∧2*ps.length=xs.length
 |_,_,_,.nil,e=>by cases e;exact⟨[],rfl,.nil,rfl⟩
 |_,_,_,.cons _ .nil,e=>by cases e
 |_,_,kvs,.cons (v:=a) (x:=x) ra (.cons (v:=b) (x:=y) rb t),e=>by
  unfold Own.pairUp at e;split at e
  ·rename_i hk;obtain⟨ks,e2,rfl⟩:=Option.map_eq_some_iff.mp e;obtain⟨ps,h1,h2,h3⟩:=WF t e2;obtain⟨c,hc,rfl⟩:=key_of hk ra;refine⟨(c,y)::ps,?_,.cons hc rb h2,by rw[List.length_cons,List.length_cons,List.length_cons];omega⟩;show(kV c,y)::NK _=_;rw[h1];rfl
  ·cases e
theorem RKs.merge{K:PySem.W.Frag}{H:Hp}:∀ {kvs:List (Own.Val×Own.Val)}{ps:List (Key×V)}{acc:List (Own.Val×Own.Val)}{bs:List (Key×V)},RKs K H acc bs→RKs K H kvs ps→RKs K H (Own.putAll acc kvs) (YI bs ps)
 |_,_,_,_,r,.nil=>r
 |_,_,acc,bs,r,.cons (k:=k) (v:=v) (c:=c) (x:=x) (kvs:=kvs) (ps:=ps) a q t=>by show RKs K H (Own.putAll (Own.putK acc k v) kvs) (YI (L2.putK bs c x) ps);exact RKs.merge (RKs.put a q r) t
theorem GR{pos:Pos}:PE X (.Dict [] [] pos) (tE X i Φ (.dct .nil)) :=
 pe_dnewK.imp fun σ H Q ⟨env,G,Qm,Em,p,w,c⟩=>by rw[Own.q_e_dct]at w;unfold Own.new at w;intro a ha;have w1:=w a (p.hp.free ha);obtain⟨a',e,w2⟩:=go_some w1;cases e;rw[Own.q_a_nil]at w2;obtain⟨ks,e2,_,w3⟩:=go_some w2;cases e2;rw[Own.upd_upd]at w3;have k:=Keep.new (o:=.dK []) ha;exact c _ _ _ _ k (p.hp.put (o:=.dct []) k ⟨[],upd_same,.nil⟩) (.ref a) w3
theorem Lr{es:Own.Es}{keys:List (Option Expr)}{values:List Expr}{pos:Pos}(he:WP es=true)(h30:esL es≤30)(h:PPs X pos keys values (NA X i Φ es))(hall:keys.all (·.isSome)=true)(hl:keys.length=values.length)(h0:keys≠[])(h15:keys.length≤15):PE X (.Dict keys values pos) (tE X i Φ (.dct es)) :=
 (CT h hall hl h0 h15).imp fun σ H Q ⟨env,G,Qm,Em,p,w,c⟩=>by
  rw[Own.q_e_dct]at w;unfold Own.new at w;intro a ha;have w1:=w a (p.hp.free ha);obtain⟨a',e,w2⟩:=go_some w1;cases e;have k:=Keep.new (o:=.dK []) ha;have p2:Pre X i σ (upd H a (.dK [])) env (Own.upd G a (.dct [])) Em:=p.go k (p.hp.put (o:=.dct []) k ⟨[],upd_same,.nil⟩);refine Mj es he p2 w2 fun vs G' H' xs k2 g2 rv hl w3=>?_;obtain⟨ks,e2,e3,w4⟩:=go_some w3;obtain⟨ps,e4,r4⟩:=g2 a _ e3;cases r4;obtain⟨qs,h1,h2,h3⟩:=WF rv e2;refine⟨e4,qs,h1,by omega,?_⟩;have k3:Keep H' (upd H' a (.dK (YI [] qs))):=Keep.put (fun xs e=>by rw[e4]at e;cases e) fun p u e=>by rw[e4]at e;cases e
  exact c _ _ _ _ ((k.trans k2).trans k3) (g2.put (o:=.dct (Own.putAll [] ks)) k3 ⟨_,upd_same,(RKs.merge .nil h2).keep k3⟩) (.ref a) w4
end Snd
namespace L2
open PySem PySem.Spec PyProof.Rows
section
variable {X:Cx}{pins:List (Addr×Obj)}{σ:St}{H:Hp}{s:Shared}{a:Addr}{o:Obj}{ps:List (Key×V)}
theorem Inv.freeze(I:Inv X pins σ H s)(e:H a=some (.dK ps))(ho:s.heap.get? a=some o):Inv X pins σ (upd H a (.frz o (.dK ps))) s:=by have h:=I.hok a _ e;exact I.write (t':=s.toks) (x:=a) (e:=a) (h':=s.heap) (by rw[e];exact True.intro) (.inl rfl) (fun _ _ _ q=>q) ⟨o,ho⟩ ⟨ho,h⟩
theorem Inv.thaw(I:Inv X pins σ H s)(e:H a=some (.frz o (.dK ps)))(h0:∀ o u,X.H₀ a≠some (.frz o u)):Inv X pins σ (upd H a (.dK ps)) s:=by
 have hn:∀ b,H b=none→upd H a (.dK ps) b=none:=fun b z=>by rw[upd_ne (by rintro rfl;rw[e]at z;cases z)];exact z
 have ho:=I.hok a _ e;refine⟨I.ok,I.os,I.bare,⟨I.base.keep,I.base.slot,fun b ob q n hx=>hn b (I.base.free b ob q n hx),I.base.there,fun b xs q=>?_,fun b ob u q=>?_,fun b qs q=>?_⟩,I.loc,I.cell,hn _ I.free,fun x c q=>hn _ (I.freeC x c q),fun p hp=>?_,fun b u q=>?_,I.len⟩
 ·have z:=I.base.tups b xs q;rw[upd_ne (by rintro rfl;rw[e]at z;cases z)];exact z
 ·have z:=I.base.frzs b ob u q;rw[upd_ne (by rintro rfl;exact h0 _ _ q)];exact z
 ·obtain⟨m,z⟩:=I.base.tbls b qs q;exact⟨m,by rw[upd_ne (by rintro rfl;rw[e]at z;cases z)];exact z⟩
 ·obtain⟨q1,q2,q3,q4,q5⟩:=I.pin p hp;exact⟨q1,hn _ q2,q3,q4,q5⟩
 ·by_cases hb:b=a
  ·subst hb;rw[upd_same]at q;cases q;exact ho.2
  ·rw[upd_ne hb]at q;refine(I.hok b u q).stay (fun _ _ _ q=>q) (fun c z=>?_) fun c xs z=>?_
   ·rw[upd_ne (by rintro rfl;rw[e]at z;cases z)];exact z
   ·rw[upd_ne (by rintro rfl;rw[e]at z;cases z)];exact z
end
def Ends.thaw (X:Cx) (D:Ends):Ends where
 nx:=fun σ H=>∃ a o ps,H a=some (.frz o (.dK ps))∧(∀ o u,X.H₀ a≠some (.frz o u))∧D.nx σ (upd H a (.dK ps))
 rt:=fun v H=>∃ a o ps,H a=some (.frz o (.dK ps))∧(∀ o u,X.H₀ a≠some (.frz o u))∧D.rt v (upd H a (.dK ps))
 bk:=D.bk
 ct:=D.ct
theorem B7{X:Cx}{st:Stmt}{t:TS}(h:PS X st t):PS X st (fun D σ H=>t (D.thaw X) σ H):=fun pins s σ H D I q =>
 thn (h pins s σ H _ I q) fun f s' z=>by
  cases f with
  |next =>obtain⟨σ',H',I',a,o,ps,e,h0,q⟩:=z;exact⟨σ',_,I'.thaw e h0,q⟩
  |ret u =>obtain⟨v,σ',H',I',r,a,o,ps,e,h0,q⟩:=z;exact⟨v,σ',_,I'.thaw e h0,r,q⟩
  |brk=>exact z
  |cont=>exact z
def Iti (a:Addr) (o:Obj) (ps:List (Key×V)):It :=
 ⟨fun i H=>H a=some (.frz o (.dK ps))∧i<ps.length,fun i H v H'=>∃ p k x,v=.ref p∧H p=none∧ps[i]?=some (k,x)∧H'=upd H p (.tup [kV k,x]),fun i H=>H a=some (.frz o (.dK ps))∧ps.length≤i⟩
theorem UZ{k:Key}{u:Value}(h:WT k u=true):RelV (kV k) u:=by
 rcases Zu h with⟨i,t,rfl,rfl⟩|⟨x,t,rfl,rfl⟩
 ·exact⟨t,rfl⟩
 ·exact⟨t,rfl⟩
theorem KV.at:∀ {ps:List (Key×V)}{vs:List (Key×Value)}{i:Nat}{k:Key}{x:V},KV ps vs→ps[i]?=some (k,x)→∃ u,vs[i]?=some (k,u)∧RelV x u:=by
 intro ps vs i k x r;unfold KV at r;induction r generalizing i with
 |nil=>intro h;simp at h
 |@cons p q ps qs h t ih =>
  intro e;cases i with
  |zero =>simp at e;subst e;obtain⟨q1,q2⟩:=q;obtain⟨h1,h2⟩:=h;have h1:k=q1:=h1;subst h1;exact⟨q2,rfl,h2⟩
  |succ i=>simpa using ih (by simpa using e)
section
variable {X:Cx}{pins:List (Addr×Obj)}{σ:St}{H:Hp}{s:Shared}{a:Addr}{o:Obj}{ps:List (Key×V)}{es:Array DictEntry}{ep:Nat}
theorem Xv(I:Inv X pins σ H s)(e:H a=some (.frz o (.dK ps)))(hd:o.data=.dict es ep):∃ vs,KV ps vs∧s.heap.DictAt (Zm X.prog X.w) a vs ep:=by
 obtain⟨ho,_,_,vs,rel,o2,es2,ep2,h1,h2,h3,h4⟩:=(show ObjOk X.prog X.w H s.heap a (.frz o (.dK ps)) from I.hok a _ e)
 rw[ho]at h1;cases h1;rw[hd]at h3;cases h3;exact⟨vs,rel,o,es,ho,h2,hd,h4⟩
end
theorem Mz{P:Program}{w:World}{K:PySem.W.Frag}{es:List Expr}{kk:Nat}{tp:Pos}{ds:Array DictEntry}{ep:Nat}{o:Obj}{ps:List (Key×V)}(a it:Addr)(hd:o.data=.dict ds ep) :
  Turn P w K (.Tuple es kk tp) (Iti a o ps) [it] it (fun i h=>∃ ok ov,IsItemIter h it a i ps.length ep ok ov) where
 mem:=by simp
 obj:=fun i h st b hb=>by
  obtain⟨ok,ov,h1⟩:=st;have q:b=it:=by simpa using hb
  subst q;exact⟨_,h1,fun v z=>by cases z⟩
 keep:=fun i h h' ⟨ok,ov,h1⟩ k=>⟨ok,ov,k it (by simp) _ h1⟩
 item:=by
  intro X hP hw hK hc i pins s σ H E I hf st hg;subst hP hw hK;obtain⟨e,hi⟩:=hg;obtain⟨ok,ov,h1⟩:=st;obtain⟨vs,rel,da⟩:=Xv I e hd;have hl:ps.length=vs.length:=rel.length;have hx:ps[i]?=some ps[i]:=List.getElem?_eq_getElem hi;obtain⟨u,hu,ru⟩:=rel.at (k:=ps[i].1) (x:=ps[i].2) hx;rw[hl]at h1;refine wpAny_pyNext_items_item h1 da hu fun key h3 hk hout hT hsz hkeep=>?_;have hfi:=hf it (by simp);have hit:it<s.heap.objs.size:=Heap.lt_size h1;have nT:s.heap.objs.size≠it:=Nat.ne_of_gt hit;have hfr:=I.fpOk (H':=H) (Nat.le_refl s.heap.objs.size) I.fresh;refine⟨.ref s.heap.objs.size,rfl,wpAny_letOwnedTupleGo_items (s:={s with heap:=h3}) hout fun h4 he4 hs4=>?_⟩;have I4:Inv X pins σ H {s with heap:=h4,toks:=s.toks}:=I.turnedL (t':=s.toks) (ch:=[it]) (fun b ob hb q=>hs4.extBut b ob (fun z=>hb (by simp[z])) (hkeep b ob (fun z=>hb (by simp[z])) q)) hf;have hT4:h4.get? s.heap.objs.size=some {cls:=.type "tuple",data:=.seq #[key,u]}:=hs4.extBut _ _ nT hT;obtain⟨f0,f1,f2,f3,f4,f5⟩:=hfr;have I5:Inv X pins σ (upd H s.heap.objs.size (.tup [kV ps[i].1,ps[i].2])) {s with heap:=h4,toks:=s.toks}:=I4.track f0 I.sz f1 f4 f5 ⟨by show 2≤sizeLine;decide,[key,u],.cons (UZ hk) (.cons ru .nil),_,hT4,rfl,_,rfl⟩;refine⟨.ref s.heap.objs.size,_,I5,rfl,⟨s.heap.objs.size,_,_,rfl,f0,hx,rfl⟩,⟨key,u,by rw[hl];exact he4⟩,fun b hb=>?_⟩;have q:b=it:=by simpa using hb
  subst q;rw[upd_ne nT.symm];exact hfi.1
 done:=by
  intro X hP hw hK hc i pins s σ H E I hf st hg;subst hP hw hK;obtain⟨e,hi⟩:=hg;obtain⟨ok,ov,h1⟩:=st;obtain⟨vs,rel,da⟩:=Xv I e hd;have hl:ps.length=vs.length:=rel.length;rw[hl]at h1 hi;refine wpAny_pyNext_items_end (I.ok.hd hc) h1 da (List.getElem?_eq_none hi) fun h' he'=>⟨rfl,?_⟩
  exact I.turnedL (t':=s.toks) (ch:=[it]) (fun b ob hb q=>he' b ob (fun z=>hb (by simp[z])) q) hf
 self:=fun A i s Q E st h=>by obtain⟨ok,ov,h1⟩:=st;exact PySem.W.kcp_self h1 h
def Itk (a:Addr) (o:Obj) (ps:List (Key×V)):It :=
 ⟨fun i H=>H a=some (.frz o (.dK ps))∧i<ps.length,fun i H v H'=>H'=H∧∃ k x,ps[i]?=some (k,x)∧v=kV k,fun i H=>H a=some (.frz o (.dK ps))∧ps.length≤i⟩
theorem OL{P:Program}{w:World}{K:PySem.W.Frag}{tg:Expr}{ds:Array DictEntry}{ep:Nat}{o:Obj}{ps:List (Key×V)}(a it:Addr)(hd:o.data=.dict ds ep) :
  Turn P w K tg (Itk a o ps) [it] it (fun i h=>h.IsKeyIter it a i ps.length ep) where
 mem:=by simp
 obj:=fun i h st b hb=>by
  obtain⟨ob,h1,_,h2⟩:=st;have q:b=it:=by simpa using hb
  subst q;exact⟨ob,h1,fun v z=>by rw[h2]at z;cases z⟩
 keep:=fun i h h' st k=>st.at fun o e=>k it (by simp) o e
 item:=by intro X hP hw hK hc i pins s σ H E I hf st hg;subst hP hw hK;obtain⟨e,hi⟩:=hg;obtain⟨vs,rel,da⟩:=Xv I e hd;have hl:ps.length=vs.length:=rel.length;have hx:ps[i]?=some ps[i]:=List.getElem?_eq_getElem hi;obtain⟨u,hu,ru⟩:=rel.at (k:=ps[i].1) (x:=ps[i].2) hx;rw[hl]at st;refine wpAny_pyNext_dict_item st da hu fun key h3 hk st3 hs=>?_;have I3:Inv X pins σ H {s with heap:=h3,toks:=s.toks}:=I.turnedL (t':=s.toks) (ch:=[it]) (fun b ob hb q=>hs.extBut b ob (fun z=>hb (by simp[z])) q) hf;obtain⟨ob,ho,hcl,hda⟩:=id st3;refine⟨key,rfl,go_of (s:={s with heap:=h3,toks:=s.toks}) ho hcl hda (by decide) ⟨kV ps[i].1,H,I3,UZ hk,⟨rfl,_,_,hx,rfl⟩,?_,fun b hb=>(hf b hb).1⟩⟩;show h3.IsKeyIter it a (i+1) ps.length ep;rw[hl];exact st3
 done:=by
  intro X hP hw hK hc i pins s σ H E I hf st hg;subst hP hw hK;obtain⟨e,hi⟩:=hg;obtain⟨vs,rel,da⟩:=Xv I e hd;have hl:ps.length=vs.length:=rel.length;rw[hl]at st hi;refine wpAny_pyNext_dict_end (I.ok.hd hc) st da (List.getElem?_eq_none hi) fun h' he'=>⟨rfl,?_⟩
  exact I.turnedL (t':=s.toks) (ch:=[it]) (fun b ob hb q=>he' b ob (fun z=>hb (by simp[z])) q) hf
 self:=fun A i s Q E st h=>wpAny_pyIter_keyiter st h
def F6 (X:Cx) (J:Addr→Obj→List (Key×V)→It) (td:TE):TI:=fun σ H R=>td σ H fun x H1=>∃ a ps,x=.ref a∧H1 a=some (.dK ps)∧∀ o,(∀ o u,X.H₀ a≠some (.frz o u))→R (J a o ps) (upd H1 a (.frz o (.dK ps)))
theorem AI {X:Cx}{es:List Expr}{kk:Nat}{tp apos cpos:Pos}{d:Expr}{td:TE}(hd:PE X d td) (hbase:attributeBase d "items" X.env (eval d X.env)=eval d X.env) (hline:(apos.endLine==cpos.line)=true) :
  PI X (.Tuple es kk tp) (.Call (.Attribute d "items" apos) [] [] cpos) (F6 X Iti td):=by
 intro pins s σ H R I h;refine wpAny_Call_method0_late hbase hline (thn (hd pins s σ H _ I h) fun v s1 ⟨x,H1,I1,r1,a,ps,ex,ea,q1⟩=>?_);subst ex;obtain rfl:v=Value.ref a:=r1;obtain⟨t1,t2,t3⟩:=Go I1 (.inl ⟨ps,.inl ea⟩);refine⟨"dict","dict.items",PySem.F.plainAttrs_dict,PySem.F.slot_dict_items,PySem.F.type_dict_items,t1,t2,Calls.callWith_builtin rfl (PySem.evalArgs_none ?_)⟩;obtain⟨z,hsm,vs,rel,dd⟩:=WU I1.hok ea;refine call_meetsIn PySem.F.slot_dict_items dd.typeIs PySem.F.entry_dict_items (PySem.F.args_dict_items_1 _) (meets_dict_items (Zm X.prog X.w) a hsm) ⟨⟨vs,dd⟩,?_⟩;have I2:Inv X pins σ H1 {s1 with heap:=s1.heap.push {cls:=.type "dict_items",data:=.fields #[.ref a]}}:=I1.kept (t':=s1.toks) fun b o e=>Heap.get?_push_of_some _ e;obtain⟨z2,hsm2,vs2,rel2,dd2⟩:=WU I2.hok ea;obtain⟨ep,da⟩:=dd2.dictAt;refine wpAny_pyIter_items (s:={s1 with heap:=s1.heap.push {cls:=.type "dict_items",data:=.fields #[.ref a]}}) (d:=a) ⟨_,Heap.get?_push_size _ rfl,rfl,rfl⟩ da ?_;have I3:=I2.kept (t':=s1.toks) (h':=(s1.heap.push {cls:=.type "dict_items",data:=.fields #[.ref a]}).push {cls:=.type "dict_itemiterator",data:=.fields #[.none,.bool false,.ref a,.int 0 0,.int vs2.length 0,.int ep 0,.none,.none]}) fun b o e=>Heap.get?_push_of_some _ e;obtain⟨ob,ds,ho,_,hdat,_⟩:=da;have I4:=I3.freeze ea (Heap.get?_push_of_some _ ho);refine⟨_,[_],_,_,_,rfl,I4,Mz a _ hdat,⟨.none,.none,?_⟩,fun b hb=>?_,q1 ob fun o u z=>by have:=I1.base.frzs a o u z;rw[ea]at this;cases this⟩
 ·rw[rel2.length];exact Heap.get?_push_size _ rfl
 ·have e:b=(s1.heap.push {cls:=.type "dict_items",data:=.fields #[.ref a]}).objs.size:=by simpa using hb
  subst e;have hn:=I2.hok.fresh (Nat.le_refl (s1.heap.push {cls:=.type "dict_items",data:=.fields #[.ref a]}).objs.size);exact I2.fpOk (Nat.le_refl _) (by rw[upd_ne (by intro z;rw[z]at hn;rw[ea]at hn;cases hn)];exact hn)
theorem CP{X:Cx}{tg d:Expr}{td:TE}(hd:PE X d td):PI X tg d (F6 X Itk td):=by
 intro pins s σ H R I h;refine thn (hd pins s σ H _ I h) fun v s1 ⟨x,H1,I1,r1,a,ps,ex,ea,q1⟩=>?_;subst ex;obtain rfl:v=Value.ref a:=r1;obtain⟨z,hsm,vs,rel,dd⟩:=WU I1.hok ea;obtain⟨ep,da⟩:=dd.dictAt;refine wpAny_pyIter_dict hsm da ?_;have I2:=I1.kept (t':=s1.toks) (h':=s1.heap.push {cls:=.type "dict_keyiterator",data:=.fields #[.ref a,.int 0 0,.int vs.length 0,.int ep 0]}) fun b o e=>Heap.get?_push_of_some _ e;obtain⟨ob,ds,ho,_,hdat,_⟩:=da;have I3:=I2.freeze ea (Heap.get?_push_of_some _ ho);refine⟨_,[_],_,_,_,rfl,I3,OL a _ hdat,⟨_,Heap.get?_push_size _ rfl,rfl,by rw[rel.length];rfl⟩,fun b hb=>?_,q1 ob fun o u z=>by have:=I1.base.frzs a o u z;rw[ea]at this;cases this⟩;have e:b=s1.heap.objs.size:=by simpa using hb
 subst e;have hn:=I1.hok.fresh (Nat.le_refl s1.heap.objs.size);exact I1.fpOk (Nat.le_refl _) (by rw[upd_ne (by intro z;rw[z]at hn;rw[ea]at hn;cases hn)];exact hn)
def TupsH (I S:Addr) (items:Array Value) (val:Nat→List Int) (h:Heap):Prop:=∀ i v,items[i]?=some v→∃ a its,v=.ref a∧a≠I∧a≠S∧IsTup h a its∧IntsAre its.toList (val i)
theorem TupsH.keep{I S:Addr}{items:Array Value}{val:Nat→List Int}{h h':Heap}(t:TupsH I S items val h)(k:∀ b o,b≠I→b≠S→h.get? b=some o→h'.get? b=some o):TupsH I S items val h':=fun i v e=>by obtain⟨a,its,h1,h2,h3,⟨o,q1,q2⟩,h5⟩:=t i v e;exact⟨a,its,h1,h2,h3,⟨o,k a o h2 h3 q1,q2⟩,h5⟩
def btL (val:Nat→List Int) (i j:Nat):Bool:=HT.lexLt (val i) (val j)
section
variable {prog:Program}{w:World}{A:Around}{R:Result→Shared→Prop}{I l:Addr}{items:Array Value}{val:Nat→List Int}{kw:List (Str×Value)}
theorem O2(hh:A.handled=none)(hu:A.units+1<cLine)(hlI:l≠I)(S:Addr)(hSI:S≠I)(hSl:S≠l) :
  ∀ (k j:Nat) (s:Shared) (vb:Value) (c:Nat),items.size - (j+1)=k→j+1≤items.size→(s.heap.IsListIter I l (j+1)∧s.heap.IsList l items)→TupsH I S items val s.heap→items[argBest (btL val) j]?=some vb→
  s.heap.get? S=some {cls:=.type "list",dict:=none,data:=.seq #[vb,vb] c,slots:=#[]}→
  (∀ v h' tk,items[argBest (btL val) (items.size - 1)]?=some v→(∀ b o,b≠I→b≠S→s.heap.get? b=some o→h'.get? b=some o)→R (.ok (.ret v)) {s with heap:=h',toks:=tk})→
  codeAny (model prog w) A (.builtin "min.loop" ⟨[.ref I,.none,.ref S],kw⟩) R s:=by
 have hname:(toString "min" ++ toString ".loop" : String) = "min.loop":=by decide
 have W:=Walks.list (prog:=prog) (w:=w) (A:=A.in1) hh I l hlI items;have hSf:S∉[I,l]:=by simp[hSI,hSl]
 have hSw:S∉[I]:=by simp[hSI]
 intro k;induction k with
 |zero =>
  intro j s vb c hk hj hst hT hPb hS hR;have hin:j+1=items.size:=by omega
  refine codeAny_builtin PySem.F.entry_min_loop ?_;rw[Around.under_plainId PySem.F.plain_min_loop _];show wpAny _ A.in1 (seqItems? (.ref S) >>= _) _ _ s;refine wpAny_bind (wpAny_seqItems hS rfl ?_);show wpAny _ A.in1 (tryCatch (pyNext (.ref I)) _ >>= _) _ _ s;refine wpAny_bind (wpAny_tryCatch (W.done s _ _ (hin▸hst) fun h' tk hk'=>?_));have hS':=hk' S _ hSw hS;show wpAny _ A.in1 (updateSeq S (fun _=>#[]) >>= _) _ _ _;refine wpAny_bind ?_;refine wpAny_updateSeq hS' rfl (wpAny_bind (wpAny_letGo (wpAny_pure ?_)));refine hR vb _ tk (by rw[←hin];exact hPb) fun b o hbw hbS e=>(Heap.get?_update_other _ _ (Ne.symm hbS)).trans (hk' b o (by simpa using hbw) e)
 |succ k ih =>
  intro j s vb c hk hj hst hT hPb hS hR;have hlt:j+1<items.size:=by omega
  refine codeAny_builtin PySem.F.entry_min_loop ?_;rw[Around.under_plainId PySem.F.plain_min_loop _];show wpAny _ A.in1 (seqItems? (.ref S) >>= _) _ _ s;refine wpAny_bind (wpAny_seqItems hS rfl ?_);show wpAny _ A.in1 (tryCatch (pyNext (.ref I)) _ >>= _) _ _ s;refine wpAny_bind (wpAny_tryCatch (W.item (j+1) s _ _ hlt hst fun v h' tk hP hst' hk'=>?_));have hS':=hk' S _ hSw hS;have hT':TupsH I S items val h':=hT.keep fun b o h1 _ e=>hk' b o (by simpa using h1) e;have hP:items[j+1]?=some v:=hP;obtain⟨a,its,rfl,_,_,pa,ia⟩:=hT' _ _ hP;obtain⟨b0,its2,rfl,_,_,pb,ib⟩:=hT' _ _ hPb;show wpAny _ A.in1 (tryCatch (holding [.ref a,.ref a] (compareOp .Lt (.ref a) (.ref b0) >>= _)) _ >>= _) _ _ _;refine wpAny_bind (wpAny_tryCatch (wpAny_holding (wpAny_bind (HT.lt_tupInts pa pb ia ib hu ?_))));refine wpAny_bind (wpAny_holding (wpAny_truthy_bool ?_));refine wpAny_bind (wpAny_letGo (wpAny_pure ?_));cases hb:HT.lexLt (val (j+1)) (val (argBest (btL val) j))with
  |true =>
   have hb':btL val (j+1) (argBest (btL val) j)=true:=hb;simp only[if_true];refine wpAny_bind ?_;refine wpAny_updateSeq hS' rfl (wpAny_bind (wpAny_letGo ?_));rw[hname];refine wpAny_pure ⟨plainId_quiet PySem.F.plain_min_loop _,ih (j+1) _ (.ref a) _ (by omega) hlt (W.frame _ _ _ hst' fun b hbf o e=>?_) (hT'.keep fun b o _ h2 e=>(Heap.get?_update_other _ _ (Ne.symm h2)).trans e) (by simp only[argBest,hb',if_true];exact hP) (Heap.get?_update_self _ hS' rfl)
     fun v' h'' tk'' hP' hk''=>?_⟩
   ·exact(Heap.get?_update_other _ _ (fun h:S=b=>hSf (by rw[h];exact hbf))).trans e
   ·exact hR v' h'' tk'' hP' fun b o hbw hbS e=>hk'' b o hbw hbS ((Heap.get?_update_other _ _ (Ne.symm hbS)).trans (hk' b o (by simpa using hbw) e))
  |false =>have hb':btL val (j+1) (argBest (btL val) j)=false:=hb;simp only[Bool.false_eq_true,if_false];refine wpAny_bind (wpAny_letGo ?_);rw[hname];refine wpAny_pure ⟨plainId_quiet PySem.F.plain_min_loop _,ih (j+1) _ (.ref b0) c (by omega) hlt hst' hT' (by simp only[argBest,hb',Bool.false_eq_true,if_false];exact hPb) hS' fun v' h'' tk'' hP' hk''=>?_⟩;exact hR v' h'' tk'' hP' fun b o hbw hbS e=>hk'' b o hbw hbS (hk' b o (by simpa using hbw) e)
theorem M8(hh:A.handled=none)(hu:A.units+1<cLine)(hlI:l≠I)(S:Addr)(hSI:S≠I)(hSl:S≠l)(hn:0<items.size){s:Shared}{c:Nat}(hst:s.heap.IsListIter I l 0∧s.heap.IsList l items)(hT:TupsH I S items val s.heap)
  (hS:s.heap.get? S=some {cls:=.type "list",dict:=none,data:=.seq #[] c,slots:=#[]})
  (hR:∀ v h' tk,items[argBest (btL val) (items.size - 1)]?=some v→(∀ b o,b≠I→b≠S→s.heap.get? b=some o→h'.get? b=some o)→R (.ok (.ret v)) {s with heap:=h',toks:=tk}) :
  codeAny (model prog w) A (.builtin "min.loop" ⟨[.ref I,.none,.ref S],kw⟩) R s:=by
 have hname:(toString "min" ++ toString ".loop" : String) = "min.loop":=by decide
 have W:=Walks.list (prog:=prog) (w:=w) (A:=A.in1) hh I l hlI items;have hSf:S∉[I,l]:=by simp[hSI,hSl]
 have hSw:S∉[I]:=by simp[hSI]
 refine codeAny_builtin PySem.F.entry_min_loop ?_;rw[Around.under_plainId PySem.F.plain_min_loop _];show wpAny _ A.in1 (seqItems? (.ref S) >>= _) _ _ s;refine wpAny_bind (wpAny_seqItems hS rfl ?_);show wpAny _ A.in1 (tryCatch (pyNext (.ref I)) _ >>= _) _ _ s;refine wpAny_bind (wpAny_tryCatch (W.item 0 s _ _ hn hst fun v h' tk hP hst' hk'=>?_));have hS':=hk' S _ hSw hS;have hT':TupsH I S items val h':=hT.keep fun b o h1 _ e=>hk' b o (by simpa using h1) e;show wpAny _ A.in1 (updateSeq S (fun _=>#[v,v]) >>= _) _ _ _;refine wpAny_bind ?_;refine wpAny_updateSeq hS' rfl ?_;rw[hname];refine wpAny_pure ⟨plainId_quiet PySem.F.plain_min_loop _,O2 hh hu hlI S hSI hSl _ 0 _ v _ rfl hn (W.frame _ _ _ hst' fun b hbf o e=>?_) (hT'.keep fun b o _ h2 e=>(Heap.get?_update_other _ _ (Ne.symm h2)).trans e) hP (Heap.get?_update_self _ hS' rfl) fun v' h'' tk'' hP' hk''=>?_⟩
 ·exact(Heap.get?_update_other _ _ (fun h:S=b=>hSf (by rw[h];exact hbf))).trans e
 ·exact hR v' h'' tk'' hP' fun b o hbw hbS e=>hk'' b o hbw hbS ((Heap.get?_update_other _ _ (Ne.symm hbS)).trans (hk' b o (by simpa using hbw) e))
theorem OS(hh:A.handled=none)(hlI:l≠I)(S:Addr)(hSI:S≠I)(hn:items.size=0){s:Shared}{c:Nat}{nm:Str}{d:Value}(hst:s.heap.IsListIter I l 0∧s.heap.IsList l items)
  (hS:s.heap.get? S=some {cls:=.type "list",dict:=none,data:=.seq #[] c,slots:=#[]})
  (hR:∀ h' tk,(∀ b o,b≠I→s.heap.get? b=some o→h'.get? b=some o)→R (.ok (.ret d)) {s with heap:=h',toks:=tk}) :
  codeAny (model prog w) A (.builtin "min.loop" ⟨[.ref I,.none,.ref S],[(nm,d)]⟩) R s:=by
 have W:=Walks.list (prog:=prog) (w:=w) (A:=A.in1) hh I l hlI items;refine codeAny_builtin PySem.F.entry_min_loop ?_;rw[Around.under_plainId PySem.F.plain_min_loop _];show wpAny _ A.in1 (seqItems? (.ref S) >>= _) _ _ s;refine wpAny_bind (wpAny_seqItems hS rfl ?_);show wpAny _ A.in1 (tryCatch (pyNext (.ref I)) _ >>= _) _ _ s;refine wpAny_bind (wpAny_tryCatch (W.done s _ _ (by rw[hn];exact hst) fun h' tk hk'=>?_));show wpAny _ A.in1 (rule _ >>= fun _=>ret d) _ _ _;exact wpAny_bind (wpAny_rule (wpAny_pure (hR h' tk fun b o hb e=>hk' b o (by simpa using hb) e)))
end
theorem N5 (a:Value):argsOk "min" ⟨[a],[(Str.ofString "default",.none)]⟩:=by unfold argsOk;kernel_rfl
def Q3 (rows:List (List Int)):List Int:=rows.getD (argBest (btL fun i=>rows.getD i []) (rows.length - 1)) []
theorem Wk(bt:Nat→Nat→Bool):∀ k,argBest bt k≤k
 |0=>Nat.le_refl _
 |k+1=>by
  unfold argBest;split
  ·exact Nat.le_refl _
  ·exact Nat.le_succ_of_le (Wk bt k)
theorem Ks:∀ {xs:List V}{us:List Value}{i:Nat}{u:Value},Vals xs us→us[i]?=some u→∃ x,xs[i]?=some x∧RelV x u
 |_,_,_,_,.nil,e=>by simp at e
 |_,_,0,_,.cons r _,e=>by simp at e;subst e;exact⟨_,rfl,r⟩
 |_,_,i+1,_,.cons _ t,e=>by obtain⟨x,h1,h2⟩:=Ks (i:=i) t (by simpa using e);exact⟨x,by simpa using h1,h2⟩
section
variable {X:Cx}
theorem Oz{pins:List (Addr×Obj)}{s:Shared}{σ:St}{H:Hp}{a:Addr}{xs:List V}{rows:List (List Int)}{Q:VK}(hc:X.calm=true)(hu:X.A.units+1<cLine)(I:Inv X pins σ H s)(hl:SqL X.K H a xs)(hr:rows.length=xs.length)
  (ht:∀ i,i<rows.length→∃ p,xs[i]?=some (.ref p)∧SqT X.K H p ((rows.getD i []).map V.int))
  (q0:xs=[]→Q .non H) (q1:xs≠[]→∀ x,xs[argBest (btL fun i=>rows.getD i []) (xs.length - 1)]?=some x→Q x H) :
  wpAny (model X.prog X.w) X.A (call (.builtin "min") [.ref a] [(Str.ofString "default",.none)]) (EP X pins σ Q) X.xe s:=by
 have hname:(toString "min" ++ toString ".loop" : String) = "min.loop":=by decide
 obtain⟨its,rv,pl,hz⟩:=I.list hl;have hlen:=rv.length;have hls:=pl.isList;obtain⟨ol,hol,_⟩:=id hls;have hll:a<s.heap.objs.size:=Heap.lt_size hol;refine PyProof.Rows.kmk_tree PySem.F.kind_min PySem.F.plain_min PySem.F.entry_min (N5 _) ?_;show wpAny _ X.A.in1 (Builtin.Builtins.bindParams "min" ["key","default"] 0 ⟨[],[(Str.ofString "default",.none)]⟩ >>= _) _ _ s;refine wpAny_bind (wpAny_of_eq (show Builtin.Builtins.bindParams "min" ["key","default"] 0 ⟨[],[(Str.ofString "default",.none)]⟩=pure [none,some .none] from rfl) ?_);refine wpAny_bind (wpAny_pure ?_);refine wpAny_bind (wpAny_pyIter_list hls ?_);refine wpAny_bind (wpAny_newList ?_ (Nat.zero_le _));rw[hname];have hS:(s.heap.push {cls:=.type "list_iterator",data:=.fields #[.ref a,.int 0 0]}).objs.size=s.heap.objs.size+1:=size_push' ..;have hlI:a≠s.heap.objs.size:=Nat.ne_of_lt hll;have hSI:(s.heap.push {cls:=.type "list_iterator",data:=.fields #[.ref a,.int 0 0]}).objs.size≠s.heap.objs.size:=by rw[hS];exact Nat.ne_of_gt (Nat.lt_succ_self _)
 have hSl:(s.heap.push {cls:=.type "list_iterator",data:=.fields #[.ref a,.int 0 0]}).objs.size≠a:=by rw[hS];exact Nat.ne_of_gt (Nat.lt_succ_of_lt hll)
 have kk:∀ b o,s.heap.get? b=some o→((s.heap.push {cls:=.type "list_iterator",data:=.fields #[.ref a,.int 0 0]}).push (seqObj "list" #[] 0)).get? b=some o:=fun b o e=>Heap.get?_push_of_some _ (Heap.get?_push_of_some _ e);have gI:((s.heap.push {cls:=.type "list_iterator",data:=.fields #[.ref a,.int 0 0]}).push (seqObj "list" #[] 0)).get? s.heap.objs.size=some {cls:=.type "list_iterator",data:=.fields #[.ref a,.int 0 0]} :=
  Heap.get?_push_of_some _ (Heap.get?_push_size _ rfl)
 have gS:((s.heap.push {cls:=.type "list_iterator",data:=.fields #[.ref a,.int 0 0]}).push (seqObj "list" #[] 0)).get? (s.heap.push {cls:=.type "list_iterator",data:=.fields #[.ref a,.int 0 0]}).objs.size=some (seqObj "list" #[] 0):=Heap.get?_push_size _ rfl;have old:∀ b o,s.heap.get? b=some o→b≠s.heap.objs.size∧b≠(s.heap.push {cls:=.type "list_iterator",data:=.fields #[.ref a,.int 0 0]}).objs.size:=fun b o e=>by have:=Heap.lt_size e;rw[hS];exact⟨Nat.ne_of_lt this,Nat.ne_of_lt (Nat.lt_succ_of_lt this)⟩
 have hst:Heap.IsListIter ((s.heap.push {cls:=.type "list_iterator",data:=.fields #[.ref a,.int 0 0]}).push (seqObj "list" #[] 0)) s.heap.objs.size a 0∧Heap.IsList ((s.heap.push {cls:=.type "list_iterator",data:=.fields #[.ref a,.int 0 0]}).push (seqObj "list" #[] 0)) a its.toArray:=by refine⟨⟨_,gI,rfl,rfl⟩,?_⟩;obtain⟨o,e,r⟩:=hls;exact⟨o,kk _ _ e,r⟩
 refine wpAny_pure ⟨plainId_quiet PySem.F.plain_min_loop _,?_⟩;by_cases h0:xs=[]
 ·have hi:its.toArray.size=0:=by rw[List.size_toArray,←hlen,h0];rfl
  refine OS (I:=s.heap.objs.size) (A:=X.A) (l:=a) (items:=its.toArray) (I.ok.hd hc) hlI _ hSI hi hst gS fun h' tk hk=>?_;exact⟨.non,H,I.kept (t':=tk) fun b o e=>hk b o (old b o e).1 (kk b o e),rfl,q0 h0⟩
 ·have hi:0<its.toArray.size:=by
   rw[List.size_toArray,←hlen];exact List.length_pos_iff.mpr h0
  refine M8 (I:=s.heap.objs.size) (A:=X.A) (l:=a) (items:=its.toArray) (val:=fun i=>rows.getD i []) (I.ok.hd hc) hu hlI _ hSI hSl hi hst (fun i v e=>?_) gS fun v h' tk hv hk=>?_
  ·have e:its[i]?=some v:=by simpa using e
   have hi':i<rows.length:=by rw[hr,hlen];exact(List.getElem?_eq_some_iff.mp e).1
   obtain⟨p,hp1,hp2⟩:=ht i hi';obtain⟨x,hx,rx⟩:=Ks rv e;rw[hp1]at hx;cases hx;obtain rfl:v=Value.ref p:=rx;obtain⟨tt,r2,⟨o2,e2,rest⟩,_⟩:=I.tuple hp2;exact⟨p,tt.toArray,rfl,(old p o2 e2).1,(old p o2 e2).2,⟨o2,kk _ _ e2,rest⟩,ZL r2⟩
  ·have hv:its[argBest (btL fun i=>rows.getD i []) (xs.length - 1)]?=some v:=by rw[hlen];simpa using hv
   obtain⟨x,hx,rx⟩:=Ks rv hv;exact⟨x,H,I.kept (t':=tk) fun b o e=>hk b o (old b o e).1 (old b o e).2 (kk b o e),rx,q1 h0 x hx⟩
def Lu (K:PySem.W.Frag) (ta:TA):TE:=fun σ H Q=>ta σ H fun vs H1=>∃ a xs,∃ rows:List (List Int),vs=[.ref a]∧SqL K H1 a xs∧rows.length=xs.length∧
 (∀ i,i<rows.length→∃ p,xs[i]?=some (.ref p)∧SqT K H1 p ((rows.getD i []).map V.int))∧(xs=[]→Q .non H1)∧(xs≠[]→∀ x,xs[argBest (btL fun i=>rows.getD i []) (xs.length - 1)]?=some x→Q x H1)
theorem Co {e:Expr}{ta:TA}{p pos kp kpos:Pos}{kk:Nat}(hc:X.calm=true) (hu:X.A.units+1<cLine) (hg:Gl X "min") (hm:X.mg "min" = none) (ha:PA X [e] ta) (hs:starEach [e] X.env=[(false,eval e X.env)]) :
  PE X (.Call (.Name "min" p) [e] [⟨some "default",.Constant .none kk kp,kpos⟩] pos) (Lu X.K ta):=by
 intro pins s σ H Q I h;refine wpAny_Call_Name_kw (YG (u:=.builtin "min") I hg hm (by kernel_rfl) ?_);refine PyProof.Rows.callWith_kw (e:=e) (rest:=[]) ?_ (by rw[hs];rfl) (by rw[hs];rfl) rfl rfl;refine thn (ha pos pins s σ H _ I h) fun us s1 ⟨vs,H1,I1,r1,a,xs,rows,ev,hl,hr,ht,q0,q1⟩=>?_;subst ev;obtain⟨u,rfl,ru⟩:=Yd r1;cases ru;refine PyProof.Rows.kws_cons (thn (Ut pins s1 σ H1 (fun v H2=>v=.non∧H2=H1) I1 ⟨rfl,rfl⟩) fun v s2 ⟨x,H2,I2,r2,e1,e2⟩=>PyProof.Rows.kws_nil ?_);subst e1 e2;obtain rfl:v=Value.none:=r2;exact Oz hc hu I2 hl hr ht q0 q1
theorem Xg{P:Program}{w:World}:∀ {ns:List Int}{vs:List (Key×Value)}{acc:List Value},vs.map (·.1)=ns.map Sum.inl→acc.length=vs.length→(∀ (j:Nat) (v:Value),acc[j]?=some v→∃ (k:Key) (x:Value),vs[j]?=some (k,x)∧(Zm P w).is k v=true)→IntsAre acc ns
 |[],[],[],_,_,_=>.nil
 |[],_::_,_,h,_,_=>by cases h
 |_::_,[],_,h,_,_=>by cases h
 |[],[],_::_,_,h,_=>by cases h
 |_::_,_::_,[],_,h,_=>by cases h
 |n::ns,p::vs,u::acc,h1,h2,h3=>by rw[List.map_cons,List.map_cons]at h1;injection h1 with h1 h1';obtain⟨k,x,e1,e2⟩:=h3 0 u rfl;simp at e1;subst e1;have h1:k=Sum.inl n:=h1;subst h1;obtain⟨t,rfl⟩:∃ t,u=Value.int n t:=UZ (k:=Sum.inl n) (u:=u) e2;exact .cons n t (Xg (P:=P) (w:=w) h1' (by simpa using h2) fun j v e=>by simpa using h3 (j+1) v (by simpa using e))
theorem JV (hc:X.calm=true):CallR X (.builtin "sorted") (fun xs H Q=>∃ p kvs,∃ ns:List Int,xs=[.ref p]∧Rd H p (.dK kvs)∧kvs.map (·.1)=ns.map Sum.inl∧ns.length<64∧∀ l,H l=none→Q (.ref l) (upd H l (.lst ((sortI ns).map V.int)))):=by
 intro pins s σ H xs us Q I r h;obtain⟨p,kvs,ns,rfl,hp,hk,h64,q⟩:=h;obtain⟨u,rfl,rx⟩:=Yd r;cases rx;obtain⟨z,hsm,vs,rel,dd⟩:=Xn I.hok hp;obtain⟨ep,da⟩:=dd.dictAt;have hlen:vs.length=ns.length:=by have:=congrArg List.length hk;simpa[rel.length]using this
 refine Calls.call_function_entry kind_sorted plain_sorted entry_sorted (args_sorted1 _) ?_;unfold Builtin.«sorted»;refine wpAny_bind (m:=checkCount "sorted" 1 1 _) (wpAny_pure ?_);refine wpAny_bind (PySem.W.kdu_collect (A:=X.A.in1) (PySem.W.kdl_dict (knd:=Zm X.prog X.w) (kvs:=vs) (ep:=ep) hsm) (I.ok.hd hc) da (by rw[←rel.length];exact z) fun h' tk acc hkeep hacc=>?_);have hl:acc.toList.length=vs.length:=by rw[Array.length_toList];exact hacc.1
 refine wpAny_bind (wpAny_newList ?_ (by rw[hl,←rel.length];exact z));have hI:IntsAre acc.toList ns:=Xg (P:=X.prog) (w:=X.w) (by rw[←rel.keys];exact hk) hl fun j v e=>hacc.2 j v (by rw[←Array.getElem?_toList];exact e);have hoL:(h'.push (seqObj "list" acc.toList.toArray 0)).get? h'.objs.size=some (seqObj "list" acc.toList.toArray 0):=Heap.get?_push_size _ rfl;have I1:Inv X pins σ H {s with heap:=h',toks:=tk}:=I.kept hkeep;refine wpAny_bind (wpAny_holding (wpAny_call_entry slot_list_sort ⟨_,hoL,rfl⟩ entry_list_sort (list_sort_tree hoL hI (by rw[hl,hlen];exact h64) fun out ns' a1 a2 a3=>⟨_,rfl,?_⟩) (args_list_sort _)));have e:=WH a2 a3;subst e;obtain⟨n,he⟩:=sortedHeap_at (out:=out) hoL;refine wpAny_pure ⟨_,rfl,.ref h'.objs.size,_,I1.laid (a:=h'.objs.size) (o:=.lst ((sortI ns).map V.int)) (t':=tk) (fun b o e=>?_) (Nat.le_refl _) ?_,rfl,q _ (I1.hok.fresh (Nat.le_refl _))⟩
 ·have e:h'.get? b=some o:=e;have hb:=Heap.lt_size e;rw[sortedHeap_old (Nat.ne_of_lt hb) (by rw[size_push'];exact Nat.lt_succ_of_lt hb)];exact Heap.get?_push_of_some _ e
 ·exact⟨by rw[List.length_map,Xr];unfold sizeLine;omega,out.toList,n,Xh a1,by simpa[seqObj]using he⟩
end
end L2
namespace Srt
open PySem.W PyProof.Rows
def ok (n:Nat) (lt:Nat→Nat→Bool){α:Type}:KasT α→(α→Prop)→Prop
 |.ret a,Q=>Q a
 |.ask i j k,Q=>i<n∧j<n∧ok n lt (k (lt i j)) Q
section
variable {n:Nat}{lt:Nat→Nat→Bool}
theorem YR{α β:Type}{f:α→KasT β}{Q:β→Prop}:∀ {t:KasT α},ok n lt t (fun a=>ok n lt (f a) Q)→ok n lt (t.bind f) Q
 |.ret _,h=>h
 |.ask _ _ k,h=>⟨h.1,h.2.1,YR (t:=k _) h.2.2⟩
structure LO (lt:Nat→Nat→Bool):Prop where
 asym:∀ i j,lt i j=true→lt j i=false
 tr:∀ i j k,lt j i=false→lt k j=false→lt k i=false
def K (p:Array Nat) (k:Nat):Nat:=p.getD k 0
def Up (lt:Nat→Nat→Bool) (p:Array Nat) (m:Nat):Prop:=∀ i j,i≤j→j<m→lt (K p j) (K p i)=false
def Dn (lt:Nat→Nat→Bool) (p:Array Nat) (m:Nat):Prop:=∀ i j,i≤j→j<m→lt (K p i) (K p j)=false
structure Good (n:Nat) (p:Array Nat):Prop where
 sz:p.size=n
 pm:p.toList.Perm (List.range n)
theorem Good.at{p:Array Nat}(g:Good n p)(h0:0<n)(k:Nat):K p k<n:=by
 unfold K;by_cases h:k<p.size
 ·have e:p.getD k 0=p[k]:=by simp[Array.getD,h]
  rw[e];have:p[k]∈List.range n:=g.pm.mem_iff.mp (by simp);exact List.mem_range.mp this
 ·have e:p.getD k 0=0:=by simp[Array.getD,h]
  rw[e];exact h0
theorem Bt{p q:Array Nat}{i j:Nat}(h:p[i]?=q[j]?):K p i=K q j:=by unfold K;rw[Array.getD_eq_getD_getElem?,Array.getD_eq_getD_getElem?,h]
theorem Xq{p:Array Nat}{i j:Nat}(hj:j≤p.size)(k:Nat):K (kas_rev p i j) k=if i≤k∧k<j then K p (i+j - 1 - k)else K p k:=by
 have h:=getElem?_mirror_all (xs:=p) (i:=i) hj k;split
 ·rename_i c;rw[if_pos c]at h;exact Bt h
 ·rename_i c;rw[if_neg c]at h;exact Bt h
theorem Good.rev{p:Array Nat}(g:Good n p)(i j:Nat):Good n (kas_rev p i j):=⟨(mirror_size ..).trans g.sz,(Array.perm_iff_toList_perm.mp (mirror_perm ..)).trans g.pm⟩
theorem Good.bub{p:Array Nat}(g:Good n p)(i j:Nat):Good n (bubble p i j):=⟨(bubble_size ..).trans g.sz,(Array.perm_iff_toList_perm.mp (bubble_perm ..)).trans g.pm⟩
theorem MU(o:LO lt)(h0:0<n){p:Array Nat}(g:Good n p){Q:Nat→Prop}:∀ (f m:Nat),(∀ m',m≤m'→m'≤m+f→(∀ k,m≤k→k<m'→lt (K p k) (K p (k - 1))=false)→(m'=m+f∨lt (K p m') (K p (m' - 1))=true)→Q m')→ok n lt (kas_asc p f m) Q
 |0,m,h=>h m (Nat.le_refl _) (Nat.le_refl _) (fun k h1 h2=>by omega) (.inl rfl)
 |f+1,m,h=>by
  refine⟨g.at h0 _,g.at h0 _,?_⟩;show ok n lt (if lt (K p m) (K p (m - 1))=true then .ret m else kas_asc p f (m+1)) Q;split
  ·rename_i c;exact h m (Nat.le_refl _) (by omega) (fun k h1 h2=>by omega) (.inr c)
  ·rename_i c;refine MU o h0 g f (m+1) fun m' h1 h2 h3 h4=>h m' (by omega) (by omega) (fun k h5 h6=>?_) (h4.imp (fun z=>by omega) id);by_cases hk:k=m
   ·subst hk;simpa using c
   ·exact h3 k (by omega) h6
theorem Ee(o:LO lt){p:Array Nat}{m m':Nat}(h:Up lt p m)(h1:1≤m)(hs:∀ k,m≤k→k<m'→lt (K p k) (K p (k - 1))=false):Up lt p m':=by
 have key:∀ d,m+d≤m'→Up lt p (m+d):=by
  intro d;induction d with
  |zero=>intro _;exact h
  |succ d ih =>
   intro hd i j hij hj;have u:=ih (by omega);by_cases hjm:j<m+d
   ·exact u i j hij hjm
   ·have ej:j=m+d:=by omega
    subst ej;by_cases hi:i=m+d
    ·subst hi;cases z:lt (K p (m+d)) (K p (m+d))with
     |false=>rfl
     |true=>have:=o.asym _ _ z;rw[z]at this;cases this
    ·exact o.tr _ _ _ (u i (m+d - 1) (by omega) (by omega)) (hs (m+d) (by omega) (by omega))
 by_cases hm:m≤m'
 ·have:=key (m' - m) (by omega)
  rwa [show m+(m' - m)=m' by omega]at this
 ·intro i j hij hj;exact h i j hij (by omega)
theorem irr(o:LO lt)(i:Nat):lt i i=false:=by
 cases z:lt i i with
 |false=>rfl
 |true=>have:=o.asym _ _ z;rw[z]at this;cases this
def Alk (lt:Nat→Nat→Bool) (p:Array Nat) (m q:Nat):Prop:=∀ i j,m - (q+1)≤i→i<m→m - (q+1)≤j→j<m→lt (K p i) (K p j)=false
theorem U3{p:Array Nat}{m q:Nat}(hm:m≤p.size)(h:Dn lt p m)(ha:Alk lt p m q):Dn lt (kas_rev p (m - (q+1)) m) m:=by
 intro i j hij hj;rw[Xq hm,Xq hm];by_cases hi:m - (q+1)≤i
 ·rw[if_pos ⟨hi,by omega⟩,if_pos ⟨by omega,hj⟩];exact ha _ _ (by omega) (by omega) (by omega) (by omega)
 ·rw[if_neg (by omega)];by_cases hj2:m - (q+1)≤j
  ·rw[if_pos ⟨hj2,hj⟩];exact h _ _ (by omega) (by omega)
  ·rw[if_neg (by omega)];exact h _ _ hij hj
theorem Ak{p:Array Nat}{i j k:Nat}(hj:j≤p.size)(hk:j≤k):K (kas_rev p i j) k=K p k:=by rw[Xq hj,if_neg (by omega)]
theorem NL(o:LO lt){p:Array Nat}{m:Nat}(h:Dn lt p m)(h1:1≤m)(hs:lt (K p (m - 1)) (K p m)=false):Dn lt p (m+1):=by
 intro i j hij hj;by_cases hjm:j<m
 ·exact h i j hij hjm
 ·have ej:j=m:=by omega
  subst ej;by_cases hi:i=j
  ·subst hi;exact irr o _
  ·exact o.tr _ _ _ hs (h i (j - 1) (by omega) (by omega))
theorem X7(o:LO lt)(h0:0<n){Q:Array Nat×Nat×Nat→Prop}:∀ (f:Nat) (p:Array Nat) (m q:Nat),Good n p→m+f≤n→q+1≤m→Dn lt p m→Alk lt p m q→
  (∀ p' m' q',Good n p'→m≤m'→m'≤m+f→q'+1≤m'→Dn lt p' m'→Alk lt p' m' q'→Q (p',m',q'))→ok n lt (kas_desc f p m q) Q
 |0,p,m,q,g,hm,hq,hd,ha,h=>h p m q g (Nat.le_refl _) (Nat.le_refl _) hq hd ha
 |f+1,p,m,q,g,hm,hq,hd,ha,h=>by
  have hmp:m≤p.size:=by rw[g.sz];omega
  refine⟨g.at h0 _,g.at h0 _,?_⟩;show ok n lt (if lt (K p m) (K p (m - 1))=true then(if q > 0 then kas_desc f (kas_rev p (m - (q+1)) m) (m+1) 0 else kas_desc f p (m+1) 0)else .ask (K p (m - 1)) (K p m) fun d=>if d=true then .ret (p,m,q)else kas_desc f p (m+1) (q+1)) Q;split
  ·rename_i c;have alone:∀ p',Alk lt p' (m+1) 0:=fun p' i j h1 h2 h3 h4=>by
    have e1:i=m:=by omega
    have e2:j=m:=by omega
    subst e1;rw[e2];exact irr o _
   split
   ·have g':=g.rev (m - (q+1)) m;have d':=U3 hmp hd ha;refine X7 o h0 f _ (m+1) 0 g' (by omega) (by omega) (NL o d' (by omega) ?_) (alone _) fun p' m' q' a1 a2 a3 a4 a5 a6=>h p' m' q' a1 (by omega) (by omega) a4 a5 a6;rw[Ak hmp (Nat.le_refl _),Xq hmp,if_pos ⟨by omega,by omega⟩];exact o.tr _ _ _ (o.asym _ _ c) (ha _ _ (by omega) (by omega) (by omega) (by omega))
   ·exact X7 o h0 f _ (m+1) 0 g (by omega) (by omega) (NL o hd (by omega) (o.asym _ _ c)) (alone _) fun p' m' q' a1 a2 a3 a4 a5 a6=>h p' m' q' a1 (by omega) (by omega) a4 a5 a6
  ·rename_i c;have c:lt (K p m) (K p (m - 1))=false:=by simpa using c
   refine⟨g.at h0 _,g.at h0 _,?_⟩;show ok n lt (if lt (K p (m - 1)) (K p m)=true then .ret (p,m,q)else kas_desc f p (m+1) (q+1)) Q;split
   ·exact h p m q g (Nat.le_refl _) (by omega) hq hd ha
   ·rename_i e;have e:lt (K p (m - 1)) (K p m)=false:=by simpa using e
    refine X7 o h0 f p (m+1) (q+1) g (by omega) (by omega) (NL o hd (by omega) e) (fun i j h1 h2 h3 h4=>?_) fun p' m' q' a1 a2 a3 a4 a5 a6=>h p' m' q' a1 (by omega) (by omega) a4 a5 a6;by_cases hi:i=m
    ·by_cases hj:j=m
     ·rw[hi,hj];exact irr o _
     ·rw[hi];exact o.tr _ _ _ (ha (m - 1) j (by omega) (by omega) (by omega) (by omega)) c
    ·by_cases hj:j=m
     ·rw[hj];exact o.tr _ _ _ e (ha i (m - 1) (by omega) (by omega) (by omega) (by omega))
     ·exact ha i j (by omega) (by omega) (by omega) (by omega)
def Cnt (n:Nat) (lt:Nat→Nat→Bool) (r:Nat×Array Nat):Prop:=Good n r.2∧1≤r.1∧r.1≤n∧Up lt r.2 r.1
theorem NC(o:LO lt)(h0:0<n){p:Array Nat}{m:Nat}(g:Good n p)(h1:1≤m)(hm:m≤n)(hd:Dn lt p m):ok n lt (kas_tail3 m n p) (Cnt n lt):=by
 have g':=g.rev 0 m;refine YR (MU o h0 g' _ _ fun m' a1 a2 a3 _=>?_);refine⟨g',by show 1≤m';omega,by show m'≤n;omega,Ee o (m:=m) ?_ h1 a3⟩;intro i j hij hj;have hs:m≤p.size:=by rw[g.sz];exact hm
 show lt (K (kas_rev p 0 m) j) (K (kas_rev p 0 m) i)=false;rw[Xq hs,Xq hs,if_pos ⟨by omega,hj⟩,if_pos ⟨by omega,by omega⟩];exact hd _ _ (by omega) (by omega)
theorem KG(o:LO lt)(h0:0<n){p:Array Nat}{m:Nat}(g:Good n p)(h1:1≤m)(hm:m<n)(ha:∀ i j,i<m→j<m→lt (K p i) (K p j)=false)(hs:lt (K p m) (K p (m - 1))=true):ok n lt (kas_descPart m n p) (Cnt n lt):=by
 refine YR (X7 o h0 _ p (m+1) 0 g (by omega) (by omega) (NL o (fun i j hij hj=>ha i j (by omega) hj) h1 (o.asym _ _ hs)) (fun i j a1 a2 a3 a4=>?_) fun p' m' q' a1 a2 a3 a4 a5 a6=>?_)
 ·have e1:i=m:=by omega
  have e2:j=m:=by omega
  rw[e1,e2];exact irr o _
 ·show ok n lt (if q' > 0 then kas_tail3 m' n (kas_rev p' (m' - (q'+1)) m')else kas_tail3 m' n p') _;split
  ·exact NC o h0 (a1.rev _ _) (by omega) (by omega) (U3 (by rw[a1.sz];omega) a5 a6)
  ·exact NC o h0 a1 (by omega) (by omega) a5
theorem U7(o:LO lt)(h0:0<n){p:Array Nat}(g:Good n p):ok n lt (kas_count n p) (Cnt n lt):=by
 refine YR (MU o h0 g _ _ fun m a1 a2 a3 a4=>?_);have u:Up lt p m:=Ee o (m:=1) (fun i j hij hj=>by rw[show i=0 by omega,show j=0 by omega];exact irr o _) (Nat.le_refl _) a3;show ok n lt (if(m==n)=true then .ret (m,p)else if m > 1 then .ask (K p 0) (K p (m - 1)) fun c=>if c=true then .ret (m,p)else kas_descPart m n (kas_rev p 0 m)else kas_descPart m n p) _;split
 ·exact⟨g,a1,by show m≤n;omega,u⟩
 ·rename_i hn;have hn:m≠n:=by simpa using hn
  have hs:lt (K p m) (K p (m - 1))=true:=a4.resolve_left (by omega);split
  ·rename_i h1;refine⟨g.at h0 _,g.at h0 _,?_⟩;show ok n lt (if lt (K p 0) (K p (m - 1))=true then .ret (m,p)else kas_descPart m n (kas_rev p 0 m)) _;split
   ·exact⟨g,a1,by show m≤n;omega,u⟩
   ·rename_i c;have c:lt (K p 0) (K p (m - 1))=false:=by simpa using c
    have hsz:m≤p.size:=by rw[g.sz];omega
    have al:∀ i j,i<m→j<m→lt (K p i) (K p j)=false:=fun i j hi hj =>
     o.tr _ _ _ (o.tr _ _ _ (u j (m - 1) (by omega) (by omega)) c) (u 0 i (by omega) hi)
    refine KG o h0 (g.rev _ _) a1 (by omega) (fun i j hi hj=>?_) ?_
    ·rw[Xq hsz,Xq hsz,if_pos ⟨by omega,hi⟩,if_pos ⟨by omega,hj⟩];exact al _ _ (by omega) (by omega)
    ·rw[Ak hsz (Nat.le_refl _),Xq hsz,if_pos ⟨by omega,by omega⟩];cases z:lt (K p m) (K p (0+m - 1 - (m - 1)))with
     |true=>rfl
     |false =>have:=o.tr _ _ _ (al (0+m - 1 - (m - 1)) (m - 1) (by omega) (by omega)) z;rw[hs]at this;cases this
  ·rename_i h1;have e:m=1:=by omega
   subst e;exact KG o h0 g (Nat.le_refl _) (by omega) (fun i j hi hj=>by rw[show i=0 by omega,show j=0 by omega];exact irr o _) hs
theorem WK(o:LO lt)(h0:0<n){p:Array Nat}{k:Nat}(g:Good n p)(u:Up lt p k){Q:Nat→Prop}:∀ (f l r:Nat),r - l≤f→l≤r→r≤k→(∀ i,i<l→lt (K p k) (K p i)=false)→(∀ i,r≤i→i<k→lt (K p k) (K p i)=true)→
  (∀ l',l'≤k→(∀ i,i<l'→lt (K p k) (K p i)=false)→(∀ i,l'≤i→i<k→lt (K p k) (K p i)=true)→Q l')→ok n lt (kas_place p k f l r) Q
 |0,l,r,hf,hl,hr,ha,hb,h=>by
  have e:l=r:=by omega
  subst e;exact h l hr ha hb
 |f+1,l,r,hf,hl,hr,ha,hb,h=>by
  show ok n lt (if l≥r then .ret l else .ask (K p k) (K p ((l+r) / 2)) fun c=>if c=true then kas_place p k f l ((l+r) / 2)else kas_place p k f ((l+r) / 2+1) r) Q;split
  ·have e:l=r:=by omega
   subst e;exact h l hr ha hb
  ·refine⟨g.at h0 _,g.at h0 _,?_⟩;show ok n lt (if lt (K p k) (K p ((l+r) / 2))=true then kas_place p k f l ((l+r) / 2)else kas_place p k f ((l+r) / 2+1) r) Q;split
   ·rename_i c;refine WK o h0 g u f l ((l+r) / 2) (by omega) (by omega) (by omega) ha (fun i h1 h2=>?_) h;cases z:lt (K p k) (K p i)with
    |true=>rfl
    |false =>have:=o.tr _ _ _ (u ((l+r) / 2) i h1 h2) z;rw[c]at this;cases this
   ·rename_i c;have c:lt (K p k) (K p ((l+r) / 2))=false:=by simpa using c
    refine WK o h0 g u f ((l+r) / 2+1) r (by omega) (by omega) hr (fun i h1=>?_) hb h;exact o.tr _ _ _ (u i ((l+r) / 2) (by omega) (by omega)) c
theorem AC{p:Array Nat}{s d:Nat}(hs:s<p.size)(hd:d≤s)(k:Nat):K (bubble p s d) k=if k=s - d then K p s else if s - d<k∧k≤s then K p (k - 1)else K p k:=by
 have h:=getElem?_bubble hs d hd k;split
 ·rename_i c;rw[if_pos c]at h;exact Bt h
 ·rename_i c;rw[if_neg c]at h;split
  ·rename_i c2;rw[if_pos c2]at h;exact Bt h
  ·rename_i c2;rw[if_neg c2]at h;exact Bt h
theorem UB(o:LO lt)(h0:0<n):∀ (f:Nat) (p:Array Nat) (k:Nat),Good n p→1≤k→k+f=n→Up lt p k→ok n lt (kas_bin f p k) (fun p'=>Good n p'∧Up lt p' n)
 |0,p,k,g,hk,hf,u=>by
  have e:k=n:=by omega
  subst e;exact⟨g,u⟩
 |f+1,p,k,g,hk,hf,u=>by
  refine YR (WK o h0 g u k 0 k (by omega) (by omega) (Nat.le_refl _) (fun i hi=>by omega) (fun i h1 h2=>by omega) fun l hl ha hb=>?_);have hs:k<p.size:=by rw[g.sz];omega
  refine UB o h0 f _ (k+1) (g.bub _ _) (by omega) (by omega) fun i j hij hj=>?_;have el:k - (k - l)=l:=by omega
  have e1:K (bubble p k (k - l)) l=K p k:=by rw[AC hs (by omega),el,if_pos rfl]
  have e2:∀ x,l<x→x≤k→K (bubble p k (k - l)) x=K p (x - 1):=fun x h1 h2=>by rw[AC hs (by omega),el,if_neg (by omega),if_pos ⟨h1,h2⟩]
  have e3:∀ x,x<l→K (bubble p k (k - l)) x=K p x:=fun x h1=>by rw[AC hs (by omega),el,if_neg (by omega),if_neg (by omega)]
  rcases Nat.lt_trichotomy i l with hi|hi|hi
  ·rw[e3 i hi];rcases Nat.lt_trichotomy j l with hj2|hj2|hj2
   ·rw[e3 j hj2];exact u _ _ hij (by omega)
   ·rw[hj2,e1];exact ha i hi
   ·rw[e2 j hj2 (by omega)];exact u _ _ (by omega) (by omega)
  ·rw[hi,e1];rcases Nat.lt_trichotomy j l with hj2|hj2|hj2
   ·omega
   ·rw[hj2,e1];exact irr o _
   ·rw[e2 j hj2 (by omega)];exact o.asym _ _ (hb _ (by omega) (by omega))
  ·rw[e2 i hi (by omega),e2 j (by omega) (by omega)];exact u _ _ (by omega) (by omega)
theorem ok_sort(o:LO lt)(h2:2≤n):ok n lt (kas_sort n) (fun p=>Good n p∧Up lt p n):=by
 have g:Good n (List.toArray (List.range n)):=⟨by simp,by simp⟩
 have h0:0<n:=by omega
 unfold kas_sort;refine YR (t:=kas_count n (List.toArray (List.range n))) ?_;have key:∀ (t:KasT (Nat×Array Nat)){Q Q':Nat×Array Nat→Prop},ok n lt t Q→(∀ a,Q a→Q' a)→ok n lt t Q':=by
  intro t;induction t with
  |ret a=>intro Q Q' h hq;exact hq a h
  |ask i j k ih=>intro Q Q' h hq;exact⟨h.1,h.2.1,ih _ h.2.2 hq⟩
 refine key _ (U7 o h0 g) fun r ⟨a1,a2,a3,a4⟩=>?_;split
 ·have e:max r.1 1=r.1:=by omega
  rw[e];exact UB o h0 _ _ _ a1 a2 (by omega) a4
 ·have e:r.1=n:=by omega
  exact⟨a1,e▸a4⟩
theorem wp_of{α:Type}{cmp:Nat→Nat→(Bool→PySem.Shared→Prop)→PySem.Shared→Prop}{s:PySem.Shared}(hc:∀ i j C,i<n→j<n→C (lt i j) s→cmp i j C s):∀ {t:KasT α}{Q:α→Prop}{G:α→PySem.Shared→Prop},ok n lt t Q→(∀ a,Q a→G a s)→t.kasWp cmp G s
 |.ret a,Q,G,h,hq=>hq a h
 |.ask i j k,Q,G,h,hq=>hc i j _ h.1 h.2.1 (wp_of hc (t:=k (lt i j)) h.2.2 hq)
end
end Srt
namespace L2
open PySem PySem.Spec PyProof.Rows PySem.W
theorem WW:∀ {a b:List Int},HT.lexLt a b=true→HT.lexLt b a=false
 |[],[],h=>by cases h
 |[],_::_,_=>rfl
 |_::_,[],h=>by cases h
 |x::xs,y::ys,h=>by
  rw[HT.lexLt_cons]at h ⊢;by_cases e:x=y
  ·subst e;rw[if_pos rfl]at h ⊢;exact WW h
  ·rw[if_neg e]at h;have h:x<y:=by simpa using h
   rw[if_neg (Ne.symm e)];simp;omega
theorem MQ:∀ {a b c:List Int},HT.lexLt b a=false→HT.lexLt c b=false→HT.lexLt c a=false
 |[],[],[],_,_=>rfl
 |[],_,_::_,_,_=>rfl
 |[],_::_,[],_,h=>by cases h
 |_::_,[],_,h,_=>by cases h
 |_::_,_::_,[],_,h=>by cases h
 |x::xs,y::ys,z::zs,h1,h2=>by
  rw[HT.lexLt_cons]at h1 h2 ⊢;by_cases e1:y=x
  ·subst e1;rw[if_pos rfl]at h1;by_cases e2:z=y
   ·subst e2;rw[if_pos rfl]at h2 ⊢;exact MQ h1 h2
   ·rw[if_neg e2]at h2 ⊢;exact h2
  ·rw[if_neg e1]at h1;have h1:¬ y<x:=by simpa using h1
   by_cases e2:z=y
   ·subst e2;rw[if_neg e1];simpa using h1
   ·rw[if_neg e2]at h2;have h2:¬ z<y:=by simpa using h2
    rw[if_neg (by omega)];simp;omega
theorem Ba:∀ {a b:List Int},HT.lexLt a b=false→HT.lexLt b a=false→a=b
 |[],[],_,_=>rfl
 |[],_::_,h,_=>by cases h
 |_::_,[],_,h=>by cases h
 |x::xs,y::ys,h1,h2=>by
  rw[HT.lexLt_cons]at h1 h2;by_cases e:x=y
  ·subst e;rw[if_pos rfl]at h1 h2;rw[Ba h1 h2]
  ·rw[if_neg e]at h1;rw[if_neg (Ne.symm e)]at h2;have h1:¬ x<y:=by simpa using h1
   have h2:¬ y<x:=by simpa using h2
   omega
theorem Bn(rows:List (List Int)):Srt.LO (fun i j=>HT.lexLt (rows.getD i []) (rows.getD j [])):=⟨fun _ _ h=>WW h,fun _ _ _ h1 h2=>MQ h1 h2⟩
section
variable {prog:Program}{w:World}{A:Around}{E:Value→Shared→Prop}{s:Shared}
theorem AH{Q:Bool→Shared→Prop}{fin:Bool}:∀ {xs ys:List Value}{ns ms:List Int}(i:Nat),IntsAre xs ns→IntsAre ys ms→fin=decide (xs.length+i<ys.length+i)→Q (HT.lexLt ns ms) s→KatLex prog w A true fin Q (xs.zip ys) i s
 |_,_,_,_,i,.nil,.nil,hf,h=>by
  have:fin=false:=by rw[hf];simp
  subst this;exact h
 |_,_,_,_,i,.nil,.cons n t r,hf,h=>by
  have:fin=true:=by rw[hf];simp
  subst this;exact h
 |_,_,_,_,i,.cons n t r,.nil,hf,h=>by
  have:fin=false:=by rw[hf];simp
  subst this;exact h
 |_,_,_,_,i,.cons n t r,.cons m u q,hf,h=>by
  refine kat_cons (wpAny_eqBool_int ?_);rw[HT.lexLt_cons]at h;by_cases e:n=m
  ·have:(n==m)=true:=by simpa using e
   rw[this];rw[if_pos e]at h;refine kat_yes (AH (i+1) r q ?_ h);rw[hf,List.length_cons,List.length_cons];congr 1;simp only[eq_iff_iff];omega
  ·have:(n==m)=false:=by simpa using e
   rw[this];rw[if_neg e]at h;refine kat_no ?_;by_cases hi:i=0
   ·have:(true&&i==0)=true:=by simp[hi]
    rw[this];exact oneLt_int h
   ·have:(true&&i==0)=false:=by simp[hi]
    rw[this];exact kat_one _ _ (lt_int h)
def RowsAt (h:Heap) (vs:List Value) (rows:List (List Int)):Prop:=rows.length=vs.length∧∀ i,i<vs.length→∃ p o its n,vs.getD i Value.none=.ref p∧h.get? p=some o∧o.cls=.type "tuple"∧o.data=.seq its n∧IntsAre its.toList (rows.getD i [])∧rows.getD i []≠[]
theorem RowsAt.keep {h h':Heap}{vs:List Value}{rows:List (List Int)}(r:RowsAt h vs rows) (k:∀ b o,h.get? b=some o→o.cls=.type "tuple"→h'.get? b=some o):RowsAt h' vs rows:=⟨r.1,fun i hi=>by
  obtain⟨p,o,its,n,h1,h2,h3,h4,h5⟩:=r.2 i hi
  exact⟨p,o,its,n,h1,k p o h2 h3,h3,h4,h5⟩⟩
theorem RowsAt.kat:∀ {h:Heap}{vs:List Value}{rows:List (List Int)},RowsAt h vs rows→∃ fs,KatTups h vs fs∧fs.length=vs.length∧∀ f∈fs,∃ n t,f=Value.int n t
 |h,[],rows,r=>⟨[],.nil,rfl,fun _ m=>nomatch m⟩
 |h,v::vs,[],r=>by have:=r.1;cases this
 |h,v::vs,row::rows,r=>by
  obtain⟨fs,k1,k2,k3⟩:=RowsAt.kat (h:=h) (vs:=vs) (rows:=rows) ⟨by have:=r.1;simpa using this,fun i hi=>by simpa using r.2 (i+1) (by simpa using hi)⟩;obtain⟨p,o,its,n,h1,h2,h3,h4,h5,h6⟩:=r.2 0 (by simp);have h1:v=.ref p:=h1;subst h1;have h5:IntsAre its.toList row:=h5;have h6:row≠[]:=h6;cases row with
  |nil=>exact absurd rfl h6
  |cons a row =>
   generalize hl:its.toList=l at h5;cases h5 with
   |cons _ t rr =>
    refine⟨.int a t::fs,.cons h2 h3 h4 ?_ k1,by rw[List.length_cons,List.length_cons,k2],fun f hf=>?_⟩
    ·rw[←Array.getElem?_toList,hl];rfl
    ·rcases List.mem_cons.mp hf with e|hf
     ·exact⟨_,_,e⟩
     ·exact k3 f hf
theorem WJ {a:Addr}{vs:List Value}{rows:List (List Int)}{n:Nat}{P:PySem.Fin→Shared→Prop}(ho:s.heap.get? a=some (seqObj "list" vs.toArray n)) (hr:RowsAt s.heap vs rows) (h64:vs.length<64)
  (h:∀ (p:Array Nat),Srt.Good vs.length p→Srt.Up (fun i j=>HT.lexLt (rows.getD i []) (rows.getD j [])) p vs.length→P (.done (.ret .none)) {s with heap:=sortedHeap s.heap a vs (List.toArray (p.toList.map fun i=>vs.getD i Value.none))}) :
  wpAny (model prog w) A (Builtin.«list.sort» ⟨[.ref a],[]⟩) P E s:=by
 rw[list_sort_plain];have ha:a<s.heap.objs.size:=Heap.lt_size ho;refine wpAny_bind (listItems_at ho rfl ?_);refine wpAny_bind (listUpdate_at ho rfl ?_ (by rw[List.size_toArray,sizeLine_eq];omega) (Nat.zero_le _));obtain⟨e1,ho1⟩:∃ e1,(s.heap.update a (Obj.mapSeq fun _=>#[])).get? a=some (seqObj "list" #[] e1):=⟨_,get?_update_seq ho (fun _=>#[])⟩
 refine wpAny_bind (seqEpoch_at ho1 rfl ?_);refine wpAny_bind (wpAny_newTuple ?_ (by show vs.length≤_;rw[sizeLine_eq];omega));refine wpAny_bind (wpAny_newList ?_ (Nat.zero_le _));refine wpAny_holding ?_;have old:∀ b o,b≠a→s.heap.get? b=some o→(((s.heap.update a (Obj.mapSeq fun _=>(#[]:Array Value))).push (seqObj "tuple" vs.toArray 0)).push (seqObj "list" #[] 0)).get? b=some o:=fun b o hb e =>
  Heap.get?_push_of_some _ (Heap.get?_push_of_some _ ((Heap.get?_update_other _ _ (Ne.symm hb)).trans e))
 have ho6:(((s.heap.update a (Obj.mapSeq fun _=>(#[]:Array Value))).push (seqObj "tuple" vs.toArray 0)).push (seqObj "list" #[] 0)).get? a=some (seqObj "list" #[] e1):=Heap.get?_push_of_some _ (Heap.get?_push_of_some _ ho1);have hr6:RowsAt (((s.heap.update a (Obj.mapSeq fun _=>(#[]:Array Value))).push (seqObj "tuple" vs.toArray 0)).push (seqObj "list" #[] 0)) vs rows:=hr.keep fun b o e hc=>old b o (fun z=>by
   subst z
   rw[ho]at e
   cases e
   exact absurd (Value.type.inj hc) (by decide)) e
 show wpAny (model prog w) A _ P E {s with heap:=((s.heap.update a (Obj.mapSeq fun _=>(#[]:Array Value))).push (seqObj "tuple" vs.toArray 0)).push (seqObj "list" #[] 0)};dsimp only;by_cases h2:vs.toArray.size<2
 ·rw[if_pos h2,if_pos h2];refine wpAny_bind (wpAny_pure ?_);rw[StateT.run_pure];refine wpAny_bind (wpAny_pure ?_);dsimp only;have hz:((vs.toArray.zip vs.toArray).map (·.2))=List.toArray ((List.toArray (List.range vs.length)).toList.map fun i=>vs.getD i Value.none):=by
   rw[List.size_toArray]at h2
   match vs,h2 with
   |[],_=>simp
   |[v],_=>simp[List.range_succ]
  have hz':(arrOf (SortSt.mk' general' (vs.toArray.zip vs.toArray) #[] 7 none)).map (·.2)=_:=hz;rw[hz'];refine wpAny_bind (seqEpoch_at ho6 rfl ?_);refine wpAny_bind (listUpdate_at ho6 rfl ?_ (Nat.zero_le _) (by rw[List.size_toArray,List.length_map];simp;rw[sizeLine_eq];omega));simp only[bne_self_eq_false,Bool.false_eq_true,if_false];refine wpAny_pure (h (List.toArray (List.range vs.length)) ⟨by simp,by simp⟩ fun i j hij hj=>?_);rw[List.size_toArray]at h2;rw[show i=0 by omega,show j=0 by omega];exact Srt.irr (Bn rows) _
 ·rw[if_neg h2,if_neg h2];rw[List.size_toArray]at h2;obtain⟨fs,k1,k2,k3⟩:=hr6.kat;refine wpAny_bind (kat_kind (T:=.type "int") k1 (by omega) (fun v hv=>?_) (by decide) ?_)
  ·obtain⟨n,t,rfl⟩:=k3 v hv;exact fun A Q E s _ q=>wpAny_pure q
  refine wpAny_bind (wpAny_mono (kat_run (vs:=vs) (ks:=vs) (Q:=fun st' s'=>s'={ s with heap:=((s.heap.update a (Obj.mapSeq fun _=>(#[]:Array Value))).push (seqObj "tuple" vs.toArray 0)).push (seqObj "list" #[] 0) }∧∃ p:Array Nat,arrOf st'=p.map (kas_item (vs.toArray.zip vs.toArray))∧failedOf st'=none∧Srt.Good vs.length p∧Srt.Up (fun i j=>HT.lexLt (rows.getD i []) (rows.getD j [])) p vs.length)
    (G:=fun p s'=>s'={ s with heap:=((s.heap.update a (Obj.mapSeq fun _=>(#[]:Array Value))).push (seqObj "tuple" vs.toArray 0)).push (seqObj "list" #[] 0) }∧Srt.Good vs.length p∧Srt.Up (fun i j=>HT.lexLt (rows.getD i []) (rows.getD j [])) p vs.length) rfl (by omega) h64 (fun p st' s' a1 a2 a3 a4=>⟨a4.1,p,a2,a3,a4.2⟩) (Srt.wp_of (n:=vs.length) (lt:=fun i j=>HT.lexLt (rows.getD i []) (rows.getD j [])) (fun i j C hi hj hC=>?_) (Srt.ok_sort (Bn rows) (by omega)) fun p hp=>⟨rfl,hp⟩)) ?_ fun _ _ e=>e)
  ·obtain⟨p,o,its,n,b1,b2,b3,b4,b5,b6⟩:=hr6.2 i hi;obtain⟨p',o',its',n',c1,c2,c3,c4,c5,c6⟩:=hr6.2 j hj;unfold kas_ask;rw[b1,c1];refine kat_lt b2 b4 c2 c4 (AH 0 b5 c5 ?_ hC);simp
  ·rintro⟨⟨⟩,st'⟩ s' ⟨rfl,p,har,hf,hg,hu⟩;dsimp only;rw[kat_snds rfl har];refine wpAny_bind (seqEpoch_at ho6 rfl ?_);refine wpAny_bind (listUpdate_at ho6 rfl ?_ (Nat.zero_le _) (by rw[List.size_toArray,List.length_map,Array.length_toList,hg.sz,sizeLine_eq];omega));rw[hf];simp only[bne_self_eq_false,Bool.false_eq_true,if_false];exact wpAny_pure (h p hg hu)
theorem KM{l:Addr}{vs:List Value}{rows:List (List Int)}{Q:Value→Shared→Prop}(hl:s.heap.IsList l vs.toArray)(hr:RowsAt s.heap vs rows)(h64:vs.length<64)
  (h:∀ (p:Array Nat),Srt.Good vs.length p→Srt.Up (fun i j=>HT.lexLt (rows.getD i []) (rows.getD j [])) p vs.length→Q (.ref (s.heap.objs.size+1)) {s with heap:=sortedAll s.heap vs (List.toArray (p.toList.map fun i=>vs.getD i Value.none))}) :
  wpAny (model prog w) A (call (.builtin "sorted") [.ref l]) Q E s:=by
 refine Calls.call_function_entry kind_sorted plain_sorted entry_sorted (args_sorted1 _) ?_;unfold Builtin.«sorted»;refine wpAny_bind (m:=checkCount "sorted" 1 1 _) (wpAny_pure ?_);refine wpAny_bind (collect_list hl ?_ (by rw[sizeLine_eq];omega));refine wpAny_bind (wpAny_newList ?_ (by rw[sizeLine_eq];omega));have hsz:((s.heap.push (seqObj "list" #[] 0)).update s.heap.objs.size (Obj.mapSeq (· ++ vs.toArray))).objs.size=s.heap.objs.size+1:=by rw[Heap.size_update,size_push']
 have hoL:(((s.heap.push (seqObj "list" #[] 0)).update s.heap.objs.size (Obj.mapSeq (· ++ vs.toArray))).push (seqObj "list" vs.toArray 0)).get? (s.heap.objs.size+1)=some (seqObj "list" vs.toArray 0):=by rw[←hsz];exact Heap.get?_push_size _ rfl
 have hr2:RowsAt (((s.heap.push (seqObj "list" #[] 0)).update s.heap.objs.size (Obj.mapSeq (· ++ vs.toArray))).push (seqObj "list" vs.toArray 0)) vs rows:=hr.keep fun b o e _=>by have hlt:=Heap.lt_size e;exact Heap.get?_push_of_some _ ((Heap.get?_update_other _ _ (Nat.ne_of_gt hlt)).trans (Heap.get?_push_of_some _ e))
 show wpAny _ _ _ _ _ {s with heap:=((s.heap.push (seqObj "list" #[] 0)).update s.heap.objs.size (Obj.mapSeq (· ++ vs.toArray))).push (seqObj "list" vs.toArray 0)};rw[hsz];refine wpAny_bind (wpAny_holding (wpAny_call_entry slot_list_sort ⟨_,hoL,rfl⟩ entry_list_sort (WJ hoL hr2 h64 fun p a1 a2=>⟨_,rfl,?_⟩) (args_list_sort _)));exact wpAny_pure ⟨_,rfl,h p a1 a2⟩
end
theorem JD{xs:List V}{us:List Value}(r:Vals xs us):∀ (ps:List Nat),(∀ i∈ps,i<xs.length)→Vals (ps.map fun i=>xs.getD i .non) (ps.map fun i=>us.getD i Value.none)
 |[],_=>.nil
 |i::ps,h=>by have hi:=h i List.mem_cons_self;refine .cons ?_ (JD r ps fun j hj=>h j (List.mem_cons_of_mem _ hj));have hx:xs[i]?=some xs[i]:=List.getElem?_eq_getElem hi;obtain⟨u,hu,ru⟩:=r.get hx;show RelV (xs.getD i .non) (us.getD i Value.none);rw[List.getD_eq_getElem?_getD,List.getD_eq_getElem?_getD,hx,hu];exact ru
theorem Ku {X:Cx}:CallR X (.builtin "sorted") (fun xs H Q=>∃ p vs,∃ rows:List (List Int),xs=[.ref p]∧SqL X.K H p vs∧rows.length=vs.length∧(∀ i,i<rows.length→∃ a,vs[i]?=some (.ref a)∧SqT X.K H a ((rows.getD i []).map V.int)∧rows.getD i []≠[])∧vs.length<64∧
    ∀ l (q:Array Nat),H l=none→Srt.Good vs.length q→Srt.Up (fun i j=>HT.lexLt (rows.getD i []) (rows.getD j [])) q vs.length→Q (.ref l) (upd H l (.lst (q.toList.map fun i=>vs.getD i .non)))):=by
 intro pins s σ H xs us Q I r h;obtain⟨p,vs,rows,rfl,hq,hl,hr,h64,q⟩:=h;obtain⟨u,rfl,rx⟩:=Yd r;cases rx;obtain⟨its,rv,pl,hz⟩:=I.list hq;have hlen:=rv.length;refine KM (rows:=rows) pl.isList ⟨by rw[hl,hlen],fun i hi=>?_⟩ (by omega) fun pm g up=>?_
 ·obtain⟨a,h1,h2,h3⟩:=hr i (by omega);obtain⟨v,hv,rr⟩:=rv.get h1;obtain rfl:v=Value.ref a:=rr;obtain⟨tt,r2,⟨o,e1,e2,n,e3⟩,_⟩:=I.tuple h2;exact⟨a,o,tt.toArray,n,by rw[List.getD_eq_getElem?_getD,hv];rfl,e1,e2,e3,ZL r2,h3⟩
 ·obtain⟨n,he⟩:=sortedAll_at s.heap its (List.toArray (pm.toList.map fun i=>its.getD i Value.none));rw[←hlen]at g up;have hmem:∀ i∈pm.toList,i<vs.length:=fun i hi=>List.mem_range.mp (g.pm.mem_iff.mp hi);refine⟨.ref (s.heap.objs.size+1),_,I.laid (a:=s.heap.objs.size+1) (o:=.lst (pm.toList.map fun i=>vs.getD i .non)) (t':=s.toks) (fun b o e=>sortedAll_old e) (Nat.le_succ _) ?_,rfl,q _ pm (I.hok.fresh (Nat.le_succ _)) g up⟩;refine⟨by rw[List.length_map,Array.length_toList,g.sz];exact hz,_,n,JD rv _ hmem,he⟩
end L2
namespace Snd
open PySem L2
variable {i:Inf}{X:Cx}{Φ:Own.Fs}
theorem Mn{H:Hp}:∀ {kvs:List (Own.Val×Own.Val)}{ps:List (Key×V)}{ns:List Int},RKs i.K H kvs ps→Own.keysOf kvs=some ns→ps.map (·.1)=ns.map Sum.inl
 |_,_,ns,.nil,e=>by have e:some []=some ns:=e;cases e;rfl
 |(k,v)::kvs,_,ns,.cons (c:=c) hk _ t,e=>by
  have e:Own.intsOf (k::kvs.map (·.1))=some ns:=e;cases k with
  |int j =>
   have e:(Own.intsOf (kvs.map (·.1))).map (j :: ·)=some ns:=e;obtain⟨ms,z,rfl⟩:=Option.map_eq_some_iff.mp e;have ih:=Mn (ns:=ms) t z;cases c with
   |inl l =>have hk:j=l:=hk;subst hk;rw[List.map_cons,List.map_cons,ih]
   |inr _=>exact(show False from hk).elim
  |_=>cases e
theorem YU:∀ (ns ms:List Int),Own.lexI ns ms=HT.lexLt ns ms:=We
theorem JB:∀ {a b:List (List Int)},a.Perm b→a.Pairwise (fun x y=>Own.lexI y x=false)→b.Pairwise (fun x y=>Own.lexI y x=false)→a=b
 |[],[],_,_,_=>rfl
 |[],_::_,h,_,_=>by have:=h.length_eq;cases this
 |_::_,[],h,_,_=>by have:=h.length_eq;cases this
 |x::xs,y::ys,hp,ha,hb=>by
  rw[List.pairwise_cons]at ha hb;have e:x=y:=by
   by_cases e:x=y
   ·exact e
   ·have h1:x∈ys:=(List.mem_cons.mp (hp.mem_iff.mp List.mem_cons_self)).resolve_left e;have h2:y∈xs:=(List.mem_cons.mp (hp.mem_iff.mpr List.mem_cons_self)).resolve_left (Ne.symm e);exact Ba (by rw[←YU];exact hb.1 x h1) (by rw[←YU];exact ha.1 y h2)
  subst e;rw[JB ((List.perm_cons x).mp hp) ha.2 hb.2]
theorem Ul(rows:List (List Int)):(Own.sortR rows).Pairwise (fun x y=>Own.lexI y x=false):=by
 have h:=List.pairwise_mergeSort (le:=fun a b:List Int=>!Own.lexI b a) (fun a b c h1 h2=>by
   simp only[Bool.not_eq_true',YU]at *
   exact MQ h1 h2) (fun a b=>by
   cases z:Own.lexI b a with
   |false=>simp[z]
   |true =>
     rw[YU]at z
     have:=WW z
     simp[YU,this]) rows
 exact h.imp fun h=>by simpa using h
theorem UY{rows:List (List Int)}{q:Array Nat}(g:Srt.Good rows.length q)(u:Srt.Up (fun i j=>HT.lexLt (rows.getD i []) (rows.getD j [])) q rows.length):Own.sortR rows=q.toList.map fun i=>rows.getD i []:=by
 have e:(List.range rows.length).map (fun i=>rows.getD i [])=rows:=by
  apply List.ext_getElem
  ·simp
  ·intro k h1 h2;simp at h1;simp[h1]
 refine JB ((List.mergeSort_perm rows _).trans ?_) (Ul rows) ?_
 ·have:=g.pm.symm.map fun i=>rows.getD i [];rw[e]at this;exact this
 ·rw[List.pairwise_iff_getElem];intro i j hi hj hij;rw[List.length_map,Array.length_toList]at hi hj;have:=u i j (by omega) (by rw[←g.sz];exact hj);rw[List.getElem_map,List.getElem_map,YU];have ki:Srt.K q i=q.toList[i]'(by simpa using hi):=by unfold Srt.K;simp[Array.getD,hi]
  have kj:Srt.K q j=q.toList[j]'(by simpa using hj):=by unfold Srt.K;simp[Array.getD,hj]
  rw[ki,kj]at this;exact this
theorem RVs.perm{H:Hp}{vs:List Own.Val}{xs:List V}(r:RVs i.K H vs xs):∀ (ps:List Nat),(∀ k∈ps,k<vs.length)→RVs i.K H (ps.map fun k=>vs.getD k .non) (ps.map fun k=>xs.getD k .non)
 |[],_=>.nil
 |k::ps,h=>by have hk:=h k List.mem_cons_self;obtain⟨x,h1,h2⟩:=r.get (List.getElem?_eq_getElem hk);refine .cons ?_ (RVs.perm r ps fun j hj=>h j (List.mem_cons_of_mem _ hj));show RV i.K H (vs.getD k .non) (xs.getD k .non);rw[List.getD_eq_getElem?_getD,List.getD_eq_getElem?_getD,List.getElem?_eq_getElem hk,h1];exact h2
theorem Jx:∀ {ys:List Own.Val}{ns:List Int},Own.intsOf ys=some ns→ys=ns.map .int
 |[],_,e=>by cases e;rfl
 |y::ys,ns,e=>by
  cases y with
  |int j =>obtain⟨ms,z,rfl⟩:=Option.map_eq_some_iff.mp (show(Own.intsOf ys).map (j :: ·)=some ns from e);rw[List.map_cons,←Jx z]
  |_=>cases e
theorem WZ{H:Hp}:∀ {xs:List Own.Val}{us:List V}{rows:List (List Int)},RVs i.K H xs us→Own.rowsOf xs=some rows→rows.length=us.length∧(∀ n,n<rows.length→∃ p,us[n]?=some (.ref p)∧SqT i.K H p ((rows.getD n []).map V.int))∧xs=rows.map fun r=>.tup (r.map .int)
 |_,_,rows,.nil,e=>by have e:some []=some rows:=e;cases e;exact⟨rfl,fun n h=>absurd h (Nat.not_lt_zero _),rfl⟩
 |v::xs,_,rows,.cons r t,e=>by
  cases v with
  |tup ys =>
   obtain⟨ns,z1,e⟩:=Option.bind_eq_some_iff.mp (show(Own.intsOf ys).bind (fun ns=>(Own.rowsOf xs).map (ns :: ·))=some rows from e);obtain⟨rs,z2,rfl⟩:=Option.map_eq_some_iff.mp e;obtain⟨h1,h2,h3⟩:=WZ t z2;cases r with
   |tup hp hr =>
    have:=Z7 z1 hr;subst this;refine⟨by rw[List.length_cons,List.length_cons,h1],fun n hn=>?_,?_⟩
    ·cases n with
     |zero=>exact⟨_,rfl,ZA hp⟩
     |succ n=>exact h2 n (by simpa using hn)
    ·rw[List.map_cons,←h3];have:ys=ns.map .int:=Jx z1;rw[this]
  |_=>cases e
theorem Oc:BiOk i .sorted (fun xs H Q=>(∃ p,∃ ns:List Int,xs=[.ref p]∧SqL i.K H p (ns.map V.int)∧ns.length<64∧∀ l,H l=none→Q (.ref l) (upd H l (.lst ((L2.sortI ns).map V.int))))∨
    (∃ p kvs,∃ ns:List Int,xs=[.ref p]∧Rd H p (.dK kvs)∧kvs.map (·.1)=ns.map Sum.inl∧ns.length<64∧∀ l,H l=none→Q (.ref l) (upd H l (.lst ((L2.sortI ns).map V.int))))∨
    (∃ p vs,∃ rows:List (List Int),xs=[.ref p]∧SqL i.K H p vs∧rows.length=vs.length∧(∀ k,k<rows.length→∃ a,vs[k]?=some (.ref a)∧SqT i.K H a ((rows.getD k []).map V.int)∧rows.getD k []≠[])∧vs.length<64∧
      ∀ l (q:Array Nat),H l=none→Srt.Good vs.length q→Srt.Up (fun i j=>HT.lexLt (rows.getD i []) (rows.getD j [])) q vs.length→Q (.ref l) (upd H l (.lst (q.toList.map fun i=>vs.getD i .non))))):=by
 intro vs G H xs Q Qm g r w c;obtain⟨v,rfl,w⟩:=W9 w;obtain⟨x,rfl,rx⟩:=r.inv1;have key:∀ (ns:List Int),(if ns.length<64 then Own.Rs.new (.lst ((Own.sortI ns).map .int))else .no).wp G Qm→ns.length<64∧∀ l,H l=none→Q (.ref l) (upd H l (.lst ((L2.sortI ns).map V.int))):=fun ns w=>by
  split at w
  ·rename_i h64;exact⟨h64,Yt g (MY w) c fun p hp=>⟨_,upd_same,RVs.ints _⟩⟩
  ·exact(Zz w).elim
 cases v with
 |ref a =>
  cases rx.ref_inv
  replace w:(Own.biSorted G (.ref a)).wp G Qm:=w
  unfold Own.biSorted Own.sortAny at w;dsimp only at w;have rno:Own.lsOf (G a)=none→(Own.biSortedR G (.ref a)).wp G Qm→False:=fun e w=>by unfold Own.biSortedR Own.rowsAt at w;simp only[e,Option.bind_none]at w;exact Zz w
  cases z:G a with
  |none=>rw[z]at w;exact(rno (by rw[z];rfl) w).elim
  |some o =>
   rw[z]at w;cases o with
   |lst ys =>
    cases z2:Own.intsOf ys with
    |none =>
     simp only[z2]at w;unfold Own.biSortedR Own.rowsAt at w;simp only[z,Own.lsOf_lst,Option.bind_some]at w;cases z3:Own.rowsOf ys with
     |none=>simp only[z3]at w;exact(Zz w).elim
     |some rows =>
      simp only[z3]at w;obtain⟨us,h1,h2⟩:=g a _ z;obtain⟨r1,r2,r3⟩:=WZ h2 z3;split at w
      ·rename_i hc;have hne:∀ k,k<rows.length→rows.getD k []≠[]:=fun k hk=>by
        have:=List.all_eq_true.mp hc.2 rows[k] (List.getElem_mem hk);rw[List.getD_eq_getElem?_getD,List.getElem?_eq_getElem hk];intro e;have e:rows[k]=[]:=e;rw[e]at this;cases this
       refine .inr (.inr ⟨a,us,rows,rfl,SqL.of h1,r1,fun k hk=>?_,by rw[←r1];exact hc.1,fun l q hl gq uq=>?_⟩)
       ·obtain⟨p,a1,a2⟩:=r2 k hk;exact⟨p,a1,a2,hne k hk⟩
       ·rw[←r1]at gq uq;have e:=UY gq uq;rw[e]at w;refine Yt g (MY w) c (fun p hp=>⟨_,upd_same,?_⟩) l hl;have hm:∀ k∈q.toList,k<ys.length:=fun k hk=>by
         have:=List.mem_range.mp (gq.pm.mem_iff.mp hk);rw[r3,List.length_map];exact this
        have:=(h2.perm q.toList hm).keep (Keep.new (o:=.lst (q.toList.map fun i=>us.getD i .non)) hp);have ee:(q.toList.map fun k=>ys.getD k .non)=(q.toList.map fun i=>rows.getD i []).map fun r=>.tup (r.map .int):=by rw[List.map_map];refine List.map_congr_left fun k hk=>?_;have hk2:k<rows.length:=List.mem_range.mp (gq.pm.mem_iff.mp hk);simp only[Function.comp_apply,r3];rw[List.getD_eq_getElem?_getD,List.getD_eq_getElem?_getD,List.getElem?_map,List.getElem?_eq_getElem hk2];rfl
        rw[ee]at this;exact this
      ·exact(Zz w).elim
    |some ns =>simp only[z2]at w;obtain⟨us,h1,h2⟩:=g a _ z;have:=Z7 z2 h2;subst this;exact .inl ⟨a,ns,rfl,SqL.of h1,key ns w⟩
   |dct kvs =>
    cases z2:Own.keysOf kvs with
    |none=>simp only[z2]at w;exact(rno (by rw[z];rfl) w).elim
    |some ns =>simp only[z2]at w;obtain⟨ps,h1,h2⟩:=g a _ z;exact .inr (.inl ⟨a,ps,ns,rfl,.inl h1,Mn h2 z2,key ns w⟩)
   |_=>exact(rno (by rw[z];rfl) w).elim
 |scr ns =>
  cases rx with
  |scr h=>exact .inl ⟨_,ns,rfl,Yi h,key ns w⟩
 |_=>exact(Zz w).elim
def PE1 (X:Cx) (T:String):Prop:=∀ pos,PE X (.Name (Str.ofString T) pos) (tC (.ty T))
end Snd
namespace L2
open PySem PySem.Spec PyProof.Rows
variable {X:Cx}
theorem Ni:∀ (xs:List V) (us:List Value),xs.length=us.length→(∀ (j:Nat) (u:Value),us[j]?=some u→∃ x,xs[j]?=some x∧RelV x u)→Vals xs us
 |[],[],_,_=>.nil
 |x::xs,u::us,hl,h=>by obtain⟨y,e,r⟩:=h 0 u rfl;cases e;exact .cons r (Ni xs us (by simpa using hl) fun j v hv=>h (j+1) v hv)
 |[],_::_,hl,_=>by cases hl
 |_::_,[],hl,_=>by cases hl
def tLR (te:TE):TE:=fun σ H Q=>DV te B8 σ H fun vs H1=>∃ n:Nat,vs=[.int n]∧n≤1000∧∀ l,H1 l=none→Q (.ref l) (upd H1 l (.lst ((List.range n).map fun k=>V.int (k:Nat))))
theorem J6 {e:Expr}{te:TE}{p p2 pos pos2:Pos}(hc:X.calm=true) (hg:Gl X "list") (hm:X.mg "list" = none) (hg2:Gl X "range") (hm2:X.mg "range" = none) (he:PE X e te) (hs:starEach [e] X.env=[(false,eval e X.env)]) :
  PE X (.Call (.Name "list" p) [.Call (.Name "range" p2) [e] [] pos2] [] pos) (tLR te):=by
 intro pins s σ H Q I h;refine wpAny_Call_Name_kw (YG (u:=.type "list") I hg hm (by kernel_rfl) ?_ (by decide) (by decide));refine callWith_type1 (T:="list") ?_ rfl rfl;show wpAny _ _ (spliced ((false,eval (.Call (.Name "range" p2) [e] [] pos2) X.env)::[])) _ _ _;refine Calls.spliced_cons ?_;refine wpAny_Call_Name_kw (YG I hg2 hm2 boot_range ?_ (by decide) (by decide));refine callWith_type1 (thn ((Yg he pa_nil hs) pos2 pins s σ H _ I h) fun us s1 ⟨vs,H1,I1,r1,q1⟩=>?_) hs rfl;obtain⟨n,e1,hn,q⟩:=q1;subst e1;obtain⟨u,rfl,t,rfl⟩:=Yd r1;refine call_range_1 (Calls.spliced_nil ?_);have k0:∀ b o,s1.heap.get? b=some o→(s1.heap.push {cls:=.type "range",data:=.fields #[.int 0 s1.toks,.int n t,.int 1 (s1.toks+1)]}).get? b=some o:=fun b o e=>Heap.get?_push_of_some _ e;refine call_list_range (n:=n) (I.ok.hd hc) (Heap.get?_push_size _ rfl) (small_one (by decide) (by decide) (by omega) (by omega)) (by rw[rangeSize_one];split<;>omega) (by omega) fun h' tk acc c' hk hS hacc=>?_;have hsz:s1.heap.objs.size≤(s1.heap.push {cls:=.type "range",data:=.fields #[.int 0 s1.toks,.int n t,.int 1 (s1.toks+1)]}).objs.size:=by rw[Heap.size_push];omega
 refine⟨.ref _,upd H1 _ (.lst ((List.range n).map fun k=>V.int (k:Nat))),I1.laid (t':=tk) (fun b o e=>hk b o (k0 b o e)) hsz ?_,rfl,q _ (I1.hok.fresh hsz)⟩;refine⟨by rw[List.length_map,List.length_range];unfold sizeLine;omega,acc.toList,c',?_,by simpa[seqObj]using hS⟩;obtain⟨a1,a2⟩:=hacc;refine Ni _ _ (by rw[List.length_map,List.length_range,Array.length_toList,a1]) fun j u hu=>?_;have hj:j<n:=by have:=(List.getElem?_eq_some_iff.mp hu).1;rw[Array.length_toList,a1]at this;exact this
 obtain⟨t',ht⟩:=a2 j u (by simpa using hu);refine⟨.int j,by rw[List.getElem?_map,List.getElem?_range hj];rfl,t',?_⟩;rw[ht];congr 1;omega
end L2
namespace Snd
open PySem L2
variable {i:Inf}{X:Cx}{Φ:Own.Fs}
theorem RVs.nats{K:PySem.W.Frag}{H:Hp}:∀ ns:List Nat,RVs K H (ns.map fun n=>Own.Val.int (n:Nat)) (ns.map fun n=>V.int (n:Nat))
 |[]=>.nil
 |n::ns=>.cons (.int n) (RVs.nats ns)
theorem K9 {e:Expr}{m:Own.E}{p p2 pos pos2:Pos}(hc:X.calm=true) (he:PE X e (tE X i Φ m)) (hg:Gl X "list") (hm:X.mg "list" = none) (hg2:Gl X "range") (hm2:X.mg "range" = none) (hst:starEach [e] X.env=[(false,eval e X.env)]) :
  PE X (.Call (.Name "list" p) [.Call (.Name "range" p2) [e] [] pos2] [] pos) (tE X i Φ (.bi .listRange (.cons m .nil))):=by
 refine(J6 hc hg hm hg2 hm2 he hst).imp fun σ H Q ⟨env,G,Qm,Em,p,w,c⟩=>?_;rw[Own.q_e_bi,Own.q_a_cons]at w;change tE X i Φ m σ H _;refine one p w fun v G1 H1 x k1 p1 r q=>?_;rw[Own.q_a_nil]at q
 replace q:(Own.rangeL v).wp G1 Qm:=q
 cases v with
 |int k =>
  cases r.int_inv;unfold Own.rangeL at q;dsimp only at q;split at q
  ·rename_i hk;refine⟨k.toNat,by rw[Int.toNat_of_nonneg hk.1],by omega,?_⟩;exact Yt p1.hp (MY q) (c.go k1) fun l hl=>⟨_,upd_same,RVs.nats _⟩
  ·exact(Zz q).elim
 |_=>exact(Zz q).elim
section
variable {K:PySem.W.Frag}{H H':Hp}
structure KeepL (H H':Hp):Prop where
 t:∀ a xs,H a=some (.tup xs)→H' a=some (.tup xs)
 f:∀ a o xs,H a=some (.frz o (.lst xs))→H' a=some (.frz o (.lst xs))
mutual
theorem RV.keepL(k:KeepL H H'):∀ {v:Own.Val}{x:V},RV K H v x→RV K H' v x
 |_,_,.non=>.non
 |_,_,.bl b=>.bl b
 |_,_,.int i=>.int i
 |_,_,.str s=>.str s
 |_,_,.tup (.inl e) r=>.tup (.inl (k.t _ _ e)) (RVs.keepL k r)
 |_,_,.tup (.inr e) r=>.tup (.inr e) (RVs.keepL k r)
 |_,_,.ref a=>.ref a
 |_,_,.scr (.inl ⟨o,e⟩)=>.scr (.inl ⟨o,k.f _ _ _ e⟩)
 |_,_,.scr (.inr e)=>.scr (.inr e)
theorem RVs.keepL(k:KeepL H H'):∀ {vs:List Own.Val}{xs:List V},RVs K H vs xs→RVs K H' vs xs
 |_,_,.nil=>.nil
 |_,_,.cons r t=>.cons (RV.keepL k r) (RVs.keepL k t)
end
theorem RKs.keepL(k:KeepL H H'):∀ {kvs:List (Own.Val×Own.Val)}{ps:List (Key×V)},RKs K H kvs ps→RKs K H' kvs ps
 |_,_,.nil=>.nil
 |_,_,.cons a r t=>.cons a (r.keepL k) (RKs.keepL k t)
theorem RFs.keepL(k:KeepL H H'):∀ {fs:List (String×Own.Val)}{ps:List (Str×V)},RFs K H fs ps→RFs K H' fs ps
 |_,_,.nil=>.nil
 |_,_,.cons r t=>.cons (r.keepL k) (RFs.keepL k t)
theorem REn.keepL{env:Own.Env}{σ:St}(r:REn K H env σ)(k:KeepL H H'):REn K H' env σ:=⟨r.len,fun i v e=>by
  obtain⟨x,h1,h2⟩:=r.get i v e
  exact⟨x,h1,h2.keepL k⟩⟩
theorem RO.moveL{i:Inf}{a:Addr}{o:Own.Ob}(r:RO i H a o)(k:KeepL H H')(e:H' a=H a):RO i H' a o:=by
 cases o with
 |lst xs=>obtain⟨vs,q,r⟩:=r;exact⟨vs,e.trans q,r.keepL k⟩
 |dct kvs=>obtain⟨ps,q,r⟩:=r;exact⟨ps,e.trans q,r.keepL k⟩
 |ins C fs=>obtain⟨c,dx,ps,h0,h,q,r⟩:=r;exact⟨c,dx,ps,h0,h,e.trans q,r.keepL k⟩
 |exc C=>obtain⟨c,h,q⟩:=r;exact⟨c,h,e.trans q⟩
 |frz kvs=>obtain⟨o,ps,q,r⟩:=r;exact⟨o,ps,e.trans q,r.keepL k⟩
theorem YO{a:Addr}{o:Obj}{ps:List (Key×V)}(e:H a=some (.frz o (.dK ps))):KeepL H (upd H a (.dK ps)) :=
 ⟨fun b xs q=>by rw[upd_ne (by rintro rfl;rw[e]at q;cases q)];exact q,fun b p xs q=>by rw[upd_ne (by rintro rfl;rw[e]at q;cases q)];exact q⟩
theorem RH.thaw{i:Inf}{G:Own.Hs}{a:Addr}{o:Obj}{ps:List (Key×V)}{kvs:List (Own.Val×Own.Val)}(g:RH i G H)(e:H a=some (.frz o (.dK ps)))(r:RKs i.K H kvs ps):RH i (Own.upd G a (.dct kvs)) (upd H a (.dK ps)):=fun b p q=>by
 by_cases hb:b=a
 ·subst hb;rw[Own.upd_same]at q;cases q;exact⟨ps,upd_same,r.keepL (YO e)⟩
 ·rw[Own.upd_ne hb]at q;exact(g b p q).moveL (YO e) (upd_ne hb)
theorem RKs.len:∀ {kvs:List (Own.Val×Own.Val)}{ps:List (Key×V)},RKs K H kvs ps→kvs.length=ps.length
 |_,_,.nil=>rfl
 |_,_,.cons _ _ t=>by rw[List.length_cons,List.length_cons,RKs.len t]
theorem RKs.at:∀ {kvs:List (Own.Val×Own.Val)}{ps:List (Key×V)}{n:Nat}{c:Key}{x:V},RKs K H kvs ps→ps[n]?=some (c,x)→∃ k v,kvs[n]?=some (k,v)∧XR k c∧RV K H v x
 |_,_,n,_,_,.nil,e=>by simp at e
 |_,_,0,_,_,.cons hk r _,e=>by simp at e;obtain⟨rfl,rfl⟩:=e;exact⟨_,_,rfl,hk,r⟩
 |_,_,n+1,_,_,.cons _ _ t,e=>by obtain⟨k,v,h1,h2⟩:=RKs.at (n:=n) t (by simpa using e);exact⟨k,v,by simpa using h1,h2⟩
theorem Bq{k:Own.Val}{c:Key}(h:XR k c):RV K H k (kV c):=by
 cases k with
 |int j=>cases c with
  |inl l=>have h:j=l:=h;subst h;exact .int _
  |inr _=>exact(show False from h).elim
 |str s=>cases c with
  |inl _=>exact(show False from h).elim
  |inr t=>have h:t=Str.ofString s:=h;subst h;exact .str _
 |_=>exact(show False from h).elim
end
theorem Ag{H0:Hp}{a:Addr}{o:Obj}{ps:List (Key×V)}{kvs:List (Own.Val×Own.Val)}(e0:H0 a=some (.frz o (.dK ps)))(r0:RKs i.K H0 kvs ps):ItOk i H0 (Iti a o ps) (fun g=>g a=some (.frz kvs)) (kvs.map (Own.itemOf false)) where
 go:=fun n G H v k g e hv=>by
  have e1:=k.f _ _ _ e0;rw[List.getElem?_map]at hv;obtain⟨p,hp,rfl⟩:=Option.map_eq_some_iff.mp hv;have hn:n<ps.length:=by rw[←r0.len];exact(List.getElem?_eq_some_iff.mp hp).1
  refine⟨⟨e1,hn⟩,fun x H' ⟨q,c,y,ex,hq,hy,eH⟩=>?_⟩;subst ex eH;obtain⟨k2,v2,h1,h2,h3⟩:=(r0.keep k).at hy;rw[hp]at h1;cases h1;have kk:Keep H (upd H q (.tup [kV c,y])):=Keep.new hq;exact⟨kk,X0 g hq,.tup (.inl upd_same) (.cons (Bq h2) (.cons (h3.keep kk) .nil))⟩
 stop:=fun n G H k g e hn=>⟨k.f _ _ _ e0,by rw[←r0.len];simpa using hn⟩
theorem CY{H0:Hp}{a:Addr}{o:Obj}{ps:List (Key×V)}{kvs:List (Own.Val×Own.Val)}(e0:H0 a=some (.frz o (.dK ps)))(r0:RKs i.K H0 kvs ps):ItOk i H0 (Itk a o ps) (fun g=>g a=some (.frz kvs)) (kvs.map (Own.itemOf true)) where
 go:=fun n G H v k g e hv=>by
  have e1:=k.f _ _ _ e0;rw[List.getElem?_map]at hv;obtain⟨p,hp,rfl⟩:=Option.map_eq_some_iff.mp hv;have hn:n<ps.length:=by rw[←r0.len];exact(List.getElem?_eq_some_iff.mp hp).1
  refine⟨⟨e1,hn⟩,fun x H' ⟨eH,c,y,hy,ex⟩=>?_⟩;subst ex eH;obtain⟨k2,v2,h1,h2,h3⟩:=(r0.keep k).at hy;rw[hp]at h1;cases h1;exact⟨Keep.refl _,g,Bq h2⟩
 stop:=fun n G H k g e hn=>⟨k.f _ _ _ e0,by rw[←r0.len];simpa using hn⟩
theorem NO{tg iter:Expr}{pos:Pos}{body:List Stmt}{kb:Bool}{q:Own.Pt}{m:Own.E}{mb:Own.Ss}{J:Addr→Obj→List (Key×V)→It}(hp:PassesOwn (model X.prog X.w) X.A X.env X.xe)(hc:X.calm=true)(hi:PI X tg iter (F6 X J (tE X i Φ m)))(hg:PG X tg (gPt i q))(hb:PSs X body (tBl X i Φ mb))
  (hs:∀ x,foldedSetIterable iter X.env x=pure x) (hJ:∀ (H0:Hp) (a:Addr) (o:Obj) (ps:List (Key×V)) (kvs:List (Own.Val×Own.Val)),H0 a=some (.frz o (.dK ps))→RKs i.K H0 kvs ps→ItOk i H0 (J a o ps) (fun g=>g a=some (.frz kvs)) (kvs.map (Own.itemOf kb))) :
  PS X (.For tg iter body [] pos) (tSt X i Φ (.forI kb q m mb)):=by
 intro pins s σ H D I ⟨env,G,N,R,B,C,Xe,p,w,c⟩;refine B7 (UX hp hc hi hg hb hs) pins s σ H D I ?_;rw[Own.q_s_forI]at w;refine one p.pre w fun v G1 H1 x k1 p1 rx w'=>?_;obtain⟨a,e1,w''⟩:=go_some w';obtain⟨kvs,e2,w1⟩:=go_some w'';clear w' w'';have ev:v=.ref a:=by
  cases v with
  |ref b=>cases e1;rfl
  |_=>cases e1
 subst ev;cases rx.ref_inv;have eG:G1 a=some (.dct kvs):=by
  cases z:G1 a with
  |none=>rw[z]at e2;cases e2
  |some o=>rw[z]at e2;cases o<;>first|(cases e2;rfl)|cases e2
 obtain⟨ps,ha,hr⟩:=p1.hp a _ eG;refine⟨a,ps,rfl,ha,fun o h0=>?_⟩;have k2:Keep H1 (upd H1 a (.frz o (.dK ps))):=Keep.put (fun xs z=>by rw[ha]at z;cases z) fun p u z=>by rw[ha]at z;cases z
 have g2:RH i (Own.upd G1 a (.frz kvs)) (upd H1 a (.frz o (.dK ps))):=p1.hp.put k2 ⟨o,ps,upd_same,hr.keep k2⟩;have it:=hJ _ a o ps kvs upd_same (hr.keep k2);have back:∀ {H':Hp}{G':Own.Hs},Keep (upd H1 a (.frz o (.dK ps))) H'→RH i G' H'→H' a=some (.frz o (.dK ps))∧RKs i.K H' kvs ps∧Keep H (upd H' a (.dK ps)):=fun {H' G'} k g=>by
  have e:=k.f a o _ upd_same;refine⟨e,(hr.keep k2).keep k,fun b xs z=>?_,fun b o' u z=>?_⟩
  ·have z1:=k1.t b xs z;have hb:b≠a:=by rintro rfl;rw[ha]at z1;cases z1
   rw[upd_ne hb];exact k.t b xs (by rw[upd_ne hb];exact z1)
  ·have z1:=k1.f b o' u z;have hb:b≠a:=by rintro rfl;rw[ha]at z1;cases z1
   rw[upd_ne hb];exact k.f b o' u (by rw[upd_ne hb];exact z1)
 have fin:∀ env' σ' G' H',Keep (upd H1 a (.frz o (.dK ps))) H'→RH i G' H'→REn i.K H' env' σ'→(G' a=some (.frz kvs)∧N env' (Own.upd G' a (.dct kvs)))→(D.thaw X).nx σ' H':=fun env' σ' G' H' k g en ⟨_,n⟩=>by obtain⟨b1,b2,b3⟩:=back k g;exact⟨a,o,ps,b1,h0,c.nx env' σ' _ _ b3 (g.thaw b1 b2) (en.keepL (YO b1)) n⟩
 have ret:∀ v G' H' x,Keep (upd H1 a (.frz o (.dK ps))) H'→RH i G' H'→RV i.K H' v x→(G' a=some (.frz kvs)∧R v (Own.upd G' a (.dct kvs)))→(D.thaw X).rt x H':=fun v G' H' x k g r ⟨_,n⟩=>by obtain⟨b1,b2,b3⟩:=back k g;exact⟨a,o,ps,b1,h0,c.rt v _ _ x b3 (g.thaw b1 b2) (r.keepL (YO b1)) n⟩
 have xo:∀ Hq,XW X (XKS i Hq fun _ _ _=>False):=fun Hq=>fun _ _ _ _ _ _ _ _ _ _ ⟨_,_,_,_,_,_,_,_,z⟩=>z.elim;generalize hxs:kvs.map (Own.itemOf kb)=xs at w1 it;generalize hst:(fun g:Own.Hs=>g a=some (.frz kvs))=st at w1 it;refine⟨fun n m σ' H'=>n+m=xs.length∧∃ env' G',Keep (upd H1 a (.frz o (.dK ps))) H'∧RH i G' H'∧REn i.K H' env' σ'∧Own.wFor st (fun v e g K M=>Own.go (Own.bind q g v e) fun e2=>Own.wSs Φ mb e2 g K (fun u g2=>g2 a=some (.frz kvs)∧R u (Own.upd g2 a (.dct kvs))) M K fun _ _ _=>False) (fun e g=>g a=some (.frz kvs)∧N e (Own.upd g a (.dct kvs))) (xs.drop n) env' G',⟨xs.length,by omega,env,_,Keep.refl _,g2,(p.en.keep k1).keep k2,by simpa using w1⟩,?_⟩;rintro n m σ' H' ⟨hnm,env',G',k3,g3,e3,w3⟩;by_cases hn:n<xs.length
 ·right;have hd:xs.drop n=xs[n]::xs.drop (n+1):=List.drop_eq_getElem_cons hn;rw[hd]at w3;obtain⟨s2,w3⟩:=w3;have hv:xs[n]?=some xs[n]:=List.getElem?_eq_getElem hn;obtain⟨a1,a2⟩:=it.go n G' H' xs[n] k3 g3 s2 hv;refine⟨a1,fun σ4 H4=>∃ env4 G4,Keep (upd H1 a (.frz o (.dK ps))) H4∧RH i G4 H4∧REn i.K H4 env4 σ4∧Own.wFor st (fun v e g K M=>Own.go (Own.bind q g v e) fun e2=>Own.wSs Φ mb e2 g K (fun u g2=>g2 a=some (.frz kvs)∧R u (Own.upd g2 a (.dct kvs))) M K fun _ _ _=>False) (fun e g=>g a=some (.frz kvs)∧N e (Own.upd g a (.dct kvs))) (xs.drop (n+1)) env4 G4,fun σ4 H4 h=>⟨m - 1,by omega,by omega,h⟩,fun x H4 hy=>?_⟩;obtain⟨k4,g4,r4⟩:=a2 x H4 hy;obtain⟨env5,e5,w5⟩:=go_some w3;refine⟨xs[n],env',G',env5,r4,g4,e3.keep k4,e5,fun σ5 h5=>?_⟩;refine⟨env5,G',_,_,_,_,_,⟨h5,g4,xo _⟩,w5,⟨fun env6 σ6 G6 H6 k6 g6 e6 w6=>?_,fun v6 G6 H6 x6 k6 g6 r6 w6=>?_,fun env6 σ6 G6 H6 k6 g6 e6 w6=>?_,fun env6 σ6 G6 H6 k6 g6 e6 w6=>?_⟩⟩
  ·exact⟨env6,G6,(k3.trans k4).trans k6,g6,e6,w6⟩
  ·exact ret v6 G6 H6 x6 ((k3.trans k4).trans k6) g6 r6 w6
  ·exact fin env6 σ6 G6 H6 ((k3.trans k4).trans k6) g6 e6 w6
  ·exact⟨env6,G6,(k3.trans k4).trans k6,g6,e6,w6⟩
 ·left;have hd:xs.drop n=[]:=List.drop_eq_nil_of_le (by omega);rw[hd]at w3;exact⟨it.stop n G' H' k3 g3 w3.1 (by omega),fin env' σ' G' H' k3 g3 e3 w3.2⟩
theorem BS{es:List Expr}{kk:Nat}{tp apos cpos pos:Pos}{d:Expr}{body:List Stmt}{q:Own.Pt}{m:Own.E}{mb:Own.Ss}(hp:PassesOwn (model X.prog X.w) X.A X.env X.xe)(hc:X.calm=true)(hd:PE X d (tE X i Φ m))(hg:PG X (.Tuple es kk tp) (gPt i q))(hb:PSs X body (tBl X i Φ mb))
  (hbase:attributeBase d "items" X.env (eval d X.env)=eval d X.env) (hline:(apos.endLine==cpos.line)=true) (hs:∀ x,foldedSetIterable (.Call (.Attribute d "items" apos) [] [] cpos) X.env x=pure x) :
  PS X (.For (.Tuple es kk tp) (.Call (.Attribute d "items" apos) [] [] cpos) body [] pos) (tSt X i Φ (.forI false q m mb)) :=
 NO hp hc (AI hd hbase hline) hg hb hs fun _ _ _ _ _ e r=>Ag e r
theorem Di{tg d:Expr}{pos:Pos}{body:List Stmt}{q:Own.Pt}{m:Own.E}{mb:Own.Ss}(hp:PassesOwn (model X.prog X.w) X.A X.env X.xe)(hc:X.calm=true)(hd:PE X d (tE X i Φ m))(hg:PG X tg (gPt i q))(hb:PSs X body (tBl X i Φ mb))(hs:∀ x,foldedSetIterable d X.env x=pure x) :
  PS X (.For tg d body [] pos) (tSt X i Φ (.forI true q m mb)) :=
 NO hp hc (CP hd) hg hb hs fun _ _ _ _ _ e r=>CY e r
theorem Kx(rows:List (List Int)):∀ (k:Nat) (x:List Int) (r:List (List Int)),rows.take (k+1)=x::r→k<rows.length→Own.minR x r=rows.getD (argBest (btL fun n=>rows.getD n []) k) []
 |0,x,r,h,hk=>by
  cases rows with
  |nil=>cases h
  |cons y ys=>simp at h;obtain⟨rfl,rfl⟩:=h;rfl
 |k+1,x,r,h,hk=>by
  cases rows with
  |nil=>cases h
  |cons y ys =>
   rw[List.take_succ_cons]at h;injection h with h1 h2;subst h1 h2;have hk':k<ys.length:=by simpa using hk
   have ih:=Kx (y::ys) k y (ys.take k) (by rw[List.take_succ_cons]) (by simp;omega);have e:ys.take (k+1)=ys.take k++[ys[k]]:=by rw[List.take_add_one];simp[hk']
   have app:∀ (b:List Int) (l:List (List Int)) (z:List Int),Own.minR b (l++[z])=if Own.lexI z (Own.minR b l)then z else Own.minR b l:=by
    intro b l z;induction l generalizing b with
    |nil=>rfl
    |cons w l ih=>exact ih _
   rw[e,app,ih];have e2:(y::ys).getD (k+1) []=ys[k]:=by simp[hk']
   show _=(y::ys).getD (if btL (fun n=>(y::ys).getD n []) (k+1) (argBest (btL fun n=>(y::ys).getD n []) k)=true then k+1 else argBest (btL fun n=>(y::ys).getD n []) k) [];have eb:btL (fun n=>(y::ys).getD n []) (k+1) (argBest (btL fun n=>(y::ys).getD n []) k)=Own.lexI ys[k] ((y::ys).getD (argBest (btL fun n=>(y::ys).getD n []) k) []):=by rw[We,←e2];rfl
   rw[eb];cases Own.lexI ys[k] ((y::ys).getD (argBest (btL fun n=>(y::ys).getD n []) k) [])with
   |true=>rw[if_pos rfl,if_pos rfl,e2]
   |false=>rw[if_neg (by decide),if_neg (by decide)]
theorem Gf {e:Expr}{m:Own.E}{p pos kp kpos:Pos}{kk:Nat}(hc:X.calm=true) (hu:X.A.units+1<cLine) (hK:X.K=i.K) (hg:Gl X "min") (hm:X.mg "min" = none) (he:PE X e (tE X i Φ m)) (hs:starEach [e] X.env=[(false,eval e X.env)]) :
  PE X (.Call (.Name "min" p) [e] [⟨some "default",.Constant .none kk kp,kpos⟩] pos) (tE X i Φ (.bi .minD (.cons m .nil))):=by
 refine(Co hc hu hg hm (Yg he pa_nil (by rw[hs];rfl)) hs).imp fun σ H Q ⟨env,G,Qm,Em,p,w,c⟩=>?_;rw[Own.q_e_bi,Own.q_a_cons]at w;change tE X i Φ m σ H _;refine one p w fun v G1 H1 x k1 p1 r q=>?_;rw[Own.q_a_nil]at q
 replace q:(Own.biMinD G1 v).wp G1 Qm:=q
 cases v with
 |ref a =>
  cases r.ref_inv;unfold Own.biMinD at q;dsimp only at q;cases z:(Own.lsOf (G1 a)).bind Own.rowsOf with
  |none=>rw[z]at q;exact(Zz q).elim
  |some rows =>
   obtain⟨xs,z1,z2⟩:=Option.bind_eq_some_iff.mp z;obtain⟨us,h1,h2⟩:=ZC p1.hp z1;obtain⟨h3,h4,h5⟩:=WZ h2 z2;rw[z]at q;refine⟨a,us,rows,rfl,by rw[hK];exact h1,h3,by rw[hK];exact h4,fun e0=>?_,fun e0 y hy=>?_⟩
   ·subst e0;cases rows with
    |nil=>exact c _ G1 H1 _ k1 p1.hp .non (Zv q)
    |cons _ _=>cases h3
   ·cases rows with
    |nil=>exact absurd (List.length_eq_zero_iff.mp h3.symm) e0
    |cons w r =>
     refine c _ G1 H1 _ k1 p1.hp ?_ (Zv q);have hb:=Kx (w::r) ((w::r).length - 1) w r (by simp) (by simp);rw[hb];rw[←h3]at hy;have hlt:argBest (btL fun n=>(w::r).getD n []) ((w::r).length - 1)<(w::r).length:=by have:=Wk (btL fun n=>(w::r).getD n []) ((w::r).length - 1);simp only[List.length_cons]at this ⊢;omega
     generalize hj:argBest (btL fun n=>(w::r).getD n []) ((w::r).length - 1)=j at hy hlt ⊢;have hxj:xs[j]?=some (.tup (((w::r).getD j []).map .int)):=by rw[h5,List.getElem?_map,List.getElem?_eq_getElem hlt];simp[List.getD_eq_getElem?_getD,List.getElem?_eq_getElem hlt]
     obtain⟨x2,hx2,rx2⟩:=h2.get hxj;rw[hy]at hx2;cases hx2;exact rx2
 |_=>exact(Zz q).elim
structure Md where
 N:List Str
 sc:Scope
 cs:List (String×Own.Val)
 fs:List String
 cm:Bool
 cl:List String
 ms:List (String×String)
 fl:List String
 xs:List String
noncomputable def Md.nmOf (c:Md) (j:Nat):Str:=c.N.getD j Str.empty
noncomputable def Md.vis (c:Md) (x:Str):Bool:=match c.sc.names.lookup x with
 |some .local=>true
 |some .cell=>true
 |some .free=>true
 |_=>false
noncomputable def Md.loc (c:Md) (x:Str):Bool:=c.sc.names.lookup x==some .local||c.sc.names.lookup x==some .cell
noncomputable def Md.gl (c:Md) (x:Str):Bool:=c.sc.names.lookup x==some .globalImplicit
noncomputable def nm (x:Str):Bool:=!(x==("__debug__" : Str)) && !(x==("__classdict__" : Str)) && !(x==("__name__" : Str))
noncomputable def dE:Expr:=.Name Str.empty ⟨0,0,0,0⟩
noncomputable def mix:List (Option Expr)→List Expr→List Expr
 |k::ks,v::vs=>k.getD dE::v::mix ks vs
 |_,_=>[]
noncomputable def sub:Expr→List Expr
 |.BoolOp _ xs _=>xs
 |.BinOp a _ b _=>[a,b]
 |.UnaryOp _ a _=>[a]
 |.IfExp a b c _=>[a,b,c]
 |.Compare a _ bs _=>a::bs
 |.Call f as ks _=>f::(as++ks.map (·.value))
 |.FormattedValue a _ _ _=>[a]
 |.JoinedStr vs _=>vs
 |.Attribute a _ _=>[a]
 |.Subscript a b _=>[a,b]
 |.List es _=>es
 |.Tuple es _ _=>es
 |.Slice a b c _=>[a.getD dE,b.getD dE,c.getD dE]
 |.ListComp e gs _ _=>e::gs.flatMap fun g=>g.target::g.iter::g.ifs
 |.Dict ks vs _=>mix ks vs
 |_=>[]
noncomputable def kid (x:Expr) (j:Nat):Expr:=(sub x).getD j dE
noncomputable def num:Expr→Nat
 |.Constant _ k _=>k
 |.Tuple _ k _=>k
 |_=>0
noncomputable def scp:Expr→Scope
 |.ListComp _ _ s _=>s
 |_=>default
noncomputable def kwp:Expr→Pos
 |.Call _ _ (k::_) _=>k.pos
 |_=>⟨0,0,0,0⟩
noncomputable def N7:Own.Bop→Operator
 |.add=>.Add
 |.sub=>.Sub
 |.mul=>.Mult
 |.fdiv=>.FloorDiv
 |.mod=>.Mod
 |.pow=>.Pow
noncomputable def XT:Own.Cop→CmpOp
 |.eq=>.Eq
 |.ne=>.NotEq
 |.lt=>.Lt
 |.le=>.LtE
 |.gt=>.Gt
 |.ge=>.GtE
 |.isin=>.In
 |.notin=>.NotIn
 |.is=>.Is
 |.isnot=>.IsNot
noncomputable def LD:Own.Val→Const
 |.non=>.none
 |.bl b=>.bool b
 |.int i=>.int i
 |.str s=>.str (Str.ofString s)
 |_=>.ellipsis
noncomputable def DZ:Own.Val→Bool
 |.non=>true
 |.bl _=>true
 |.int _=>true
 |.str _=>true
 |_=>false
noncomputable def ZM:Own.E→Bool
 |.and _ _=>true
 |_=>false
noncomputable def Yl:Own.E→Bool
 |.or _ _=>true
 |_=>false
noncomputable def Zy:Own.Tt→Bool
 |.and _ _=>true
 |_=>false
noncomputable def ZI:Own.Tt→Bool
 |.or _ _=>true
 |_=>false
noncomputable def rest (b:Bool) (x:Expr):Expr:=match b,x with
 |true,.BoolOp op (_::xs) p=>.BoolOp op xs p
 |_,x=>kid x 1
noncomputable def Xc (b:Bool) (x:Expr):List Expr:=match b with
 |true=>sub x
 |false=>[x]
noncomputable def Y2:Own.Bi→Str
 |.len=>"len"
 |.int=>"int"
 |.str=>"str"
 |.bool=>"bool"
 |.abs=>"abs"
 |.min2=>"min"
 |.max2=>"max"
 |.minL=>"min"
 |.maxL=>"max"
 |.minD=>"min"
 |.sum=>"sum"
 |.all=>"all"
 |.sorted=>"sorted"
 |.sortedSet=>"sorted"
 |.lenSet=>"len"
 |.list=>"list"
 |.tuple=>"tuple"
 |.dict=>"dict"
 |.isi _=>"isinstance"
 |.isx _=>"isinstance"
 |.repr=>"repr"
 |.listRev=>"list"
 |.listRange=>"list"
noncomputable def Iq:Own.Bi→Option Str
 |.sortedSet=>some "set"
 |.lenSet=>some "set"
 |.listRev=>some "reversed"
 |.listRange=>some "range"
 |_=>none
noncomputable def HX (Ts:List String) (x:Expr):Expr:=match Ts with
 |[T]=>.Name (Str.ofString T) x.pos
 |Ts=>.Tuple (Ts.zipIdx.map fun p=>.Name (Str.ofString p.1) (kid x p.2).pos) (num x) x.pos
noncomputable def EB (f:Own.Bi) (as:List Expr) (x:Expr):List Expr:=match Iq f with
 |some y=>[.Call (.Name y (kid (kid x 1) 0).pos) as [] (kid x 1).pos]
 |none=>match f with
  |.isi Ts=>as++[HX Ts (kid x 2)]
  |.isx Ts=>as++[HX Ts (kid x 2)]
  |_=>as
noncomputable def NH (f:Own.Bi) (x:Expr):List Expr:=match Iq f with
 |some _=>(sub (kid x 1)).tail
 |none=>(sub x).tail
noncomputable def P6 (f:Own.Bi) (x:Expr):List Keyword:=match f with
 |.minD=>[⟨some "default",.Constant .none (num (kid x 2)) (kid x 2).pos,kwp x⟩]
 |_=>[]
noncomputable def GA:Own.Bm→Str
 |.append=>"append"
 |.extend=>"extend"
 |.pop=>"pop"
 |.popAt=>"pop"
 |.insert=>"insert"
 |.remove=>"remove"
 |.clear=>"clear"
 |.reverse=>"reverse"
 |.index=>"index"
 |.count=>"count"
 |.dget=>"get"
 |.dgetD=>"get"
 |.dpop=>"pop"
 |.dpopD=>"pop"
 |.setdefault=>"setdefault"
 |.join=>"join"
 |.split=>"split"
 |.replace=>"replace"
 |.upper=>"upper"
 |.partition=>"partition"
noncomputable def Xs:List Expr→List (Option Expr)
 |k::_::r=>some k::Xs r
 |_=>[]
noncomputable def Bj:List Expr→List Expr
 |_::v::r=>v::Bj r
 |_=>[]
noncomputable def toP (p:Own.Pt) (c:Md) (x:Expr):Expr:=match p with
 |.one j=>.Name (c.nmOf j) x.pos
 |.many js=>.Tuple (js.zipIdx.map fun p=>.Name (c.nmOf p.1) (kid x p.2).pos) (num x) x.pos
 |.nest j js=>.Tuple [.Name (c.nmOf j) (kid x 0).pos,.Tuple (js.zipIdx.map fun p=>.Name (c.nmOf p.1) (kid (kid x 1) p.2).pos) (num (kid x 1)) (kid x 1).pos] (num x) x.pos
noncomputable def nmX:Expr→Str
 |.Name x _=>x
 |_=>Str.empty
noncomputable def Md.blk (c:Md) (sc:Scope) (x:Str) (caps:List Nat):Md :=
 {N:=x::caps.map (fun j=>c.N.getD j Str.empty),sc:={sc with names:=sc.names.map fun(n,k)=>if(k == .free&&c.sc.kind == .function&&c.sc.names.lookup n==some .cell)then(n,.cell)else(n,k)},cs:=c.cs,fs:=c.fs,cm:=c.cm,cl:=c.cl,ms:=c.ms,fl:=c.fl,xs:=c.xs}
noncomputable def OZ:Own.E→Bool
 |.cst (.str _)=>true
 |_=>false
mutual
noncomputable def toX:Own.E→Md→Expr→Expr
 |.cst v,_,x=>.Constant (LD v) (num x) x.pos
 |.var j,c,x=>.Name (c.nmOf j) x.pos
 |.glob y _,_,x=>.Name (Str.ofString y) x.pos
 |.bin o a b,c,x=>.BinOp (toX a c (kid x 0)) (N7 o) (toX b c (kid x 1)) x.pos
 |.neg a,c,x=>.UnaryOp .USub (toX a c (kid x 0)) x.pos
 |.not a,c,x=>.UnaryOp .Not (toX a c (kid x 0)) x.pos
 |.and a b,c,x=>.BoolOp .And (toX a c (kid x 0)::Xc (ZM b) (toX b c (rest (ZM b) x))) x.pos
 |.or a b,c,x=>.BoolOp .Or (toX a c (kid x 0)::Xc (Yl b) (toX b c (rest (Yl b) x))) x.pos
 |.cmp o a b,c,x=>.Compare (toX a c (kid x 0)) [XT o] [toX b c (kid x 1)] x.pos
 |.chain o1 o2 a b d,c,x=>.Compare (toX a c (kid x 0)) [XT o1,XT o2] [toX b c (kid x 1),toX d c (kid x 2)] x.pos
 |.call f as,c,x=>.Call (.Name (Str.ofString f) (kid x 0).pos) (toA as c (sub x).tail) [] x.pos
 |.make C as,c,x=>.Call (.Name (Str.ofString C) (kid x 0).pos) (toA as c (sub x).tail) [] x.pos
 |.meth _ m o as,c,x=>.Call (.Attribute (toX o c (kid (kid x 0) 0)) (Str.ofString m) (kid x 0).pos) (toA as c (sub x).tail) [] x.pos
 |.fld o f,c,x=>.Attribute (toX o c (kid x 0)) (Str.ofString f) x.pos
 |.bi f as,c,x=>.Call (.Name (Y2 f) (kid x 0).pos) (EB f (toA as c (NH f x)) x) (P6 f x) x.pos
 |.bm m o as,c,x=>.Call (.Attribute (toX o c (kid (kid x 0) 0)) (GA m) (kid x 0).pos) (toA as c (sub x).tail) [] x.pos
 |.idx a b,c,x=>.Subscript (toX a c (kid x 0)) (toX b c (kid x 1)) x.pos
 |.slc a lo hi,c,x=>.Subscript (toX a c (kid x 0)) (.Slice (toO lo c (kid (kid x 1) 0)) (toO hi c (kid (kid x 1) 1)) none (kid x 1).pos) x.pos
 |.rev a,c,x=>.Subscript (toX a c (kid x 0)) (.Slice none none (some (.UnaryOp .USub (.Constant (.int 1) (num (kid (kid (kid x 1) 2) 0)) (kid (kid (kid x 1) 2) 0).pos) (kid (kid x 1) 2).pos)) (kid x 1).pos) x.pos
 |.tup es,c,x=>.Tuple (toA es c (sub x)) (num x) x.pos
 |.lst es,c,x=>.List (toA es c (sub x)) x.pos
 |.dct es,c,x=>.Dict (Xs (toA es c (sub x))) (Bj (toA es c (sub x))) x.pos
 |.ife t a b,c,x=>.IfExp (toT t c (kid x 0)) (toX a c (kid x 1)) (toX b c (kid x 2)) x.pos
 |.comp caps _ _ it t e,c,x=>.ListComp (toX e (c.blk (scp x) (nmX (kid x 1)) caps) (kid x 0)) [⟨.Name (nmX (kid x 1)) (kid x 1).pos,toI it c (kid x 2),toF t (c.blk (scp x) (nmX (kid x 1)) caps) (kid x 3),0⟩] (scp x) x.pos
 |.fstr es,c,x=>.JoinedStr (toJ es c (sub x)) x.pos
 |.split o a,c,x=>.Call (.Attribute (toX o c (kid (kid x 0) 0)) "split" (kid x 0).pos) [toX a c (kid x 1)] [] x.pos
noncomputable def toA:Own.Es→Md→List Expr→List Expr
 |.nil,_,_=>[]
 |.cons e es,c,xs=>toX e c (xs.headD dE)::toA es c xs.tail
noncomputable def toJ:Own.Es→Md→List Expr→List Expr
 |.nil,_,_=>[]
 |.cons e es,c,xs=>(if OZ e then toX e c (xs.headD dE)else .FormattedValue (toX e c (kid (xs.headD dE) 0)) (-1) none (xs.headD dE).pos)::toJ es c xs.tail
noncomputable def toO:Own.Oe→Md→Expr→Option Expr
 |.none,_,_=>none
 |.some e,c,x=>some (toX e c x)
noncomputable def toT:Own.Tt→Md→Expr→Expr
 |.yes,_,x=>x
 |.val e,c,x=>toX e c x
 |.not t,c,x=>.UnaryOp .Not (toT t c (kid x 0)) x.pos
 |.and a b,c,x=>.BoolOp .And (toT a c (kid x 0)::Xc (Zy b) (toT b c (rest (Zy b) x))) x.pos
 |.or a b,c,x=>.BoolOp .Or (toT a c (kid x 0)::Xc (ZI b) (toT b c (rest (ZI b) x))) x.pos
noncomputable def toF:Own.Tt→Md→Expr→List Expr
 |.yes,_,_=>[]
 |.val e,c,x=>[toX e c x]
 |.not t,c,x=>[.UnaryOp .Not (toT t c (kid x 0)) x.pos]
 |.and a b,c,x=>[.BoolOp .And (toT a c (kid x 0)::Xc (Zy b) (toT b c (rest (Zy b) x))) x.pos]
 |.or a b,c,x=>[.BoolOp .Or (toT a c (kid x 0)::Xc (ZI b) (toT b c (rest (ZI b) x))) x.pos]
noncomputable def toI:Own.It→Md→Expr→Expr
 |.seq e,c,x=>toX e c x
 |.chars e,c,x=>toX e c x
 |.range a,c,x=>.Call (.Name "range" (kid x 0).pos) [toX a c (kid x 1)] [] x.pos
 |.range2 a b,c,x=>.Call (.Name "range" (kid x 0).pos) [toX a c (kid x 1),toX b c (kid x 2)] [] x.pos
 |.enum e,c,x=>.Call (.Name "enumerate" (kid x 0).pos) [toX e c (kid x 1)] [] x.pos
 |.zip a b,c,x=>.Call (.Name "zip" (kid x 0).pos) [toX a c (kid x 1),toX b c (kid x 2)] [] x.pos
 |.items e,c,x=>.Call (.Attribute (toX e c (kid (kid x 0) 0)) "items" (kid x 0).pos) [] [] x.pos
 |.rev e,c,x=>.Call (.Name "reversed" (kid x 0).pos) [toX e c (kid x 1)] [] x.pos
end
noncomputable def blts:List Str:=["isinstance","int","bool","str","list","tuple","dict","max","min","range","len","sorted","set","all","sum","enumerate","zip","reversed","abs","repr","ValueError"]
structure Kls (X:Cx) (i:Inf) (P:Own.Pg) (n:Nat) (c:Md):Prop where
 A:ClsA i
 F:∀ f,c.fl.contains f=true→FldOk i f
 mkc:∀ C,c.cl.contains C=true→∃ a f,i.ins C=true∧i.cl C a∧Mk i.K a f∧X.mg (Str.ofString C)=some (.ref a)∧Dfm X.prog X.w X.mg X.base i P n (C ++ ".__init__") f
 mth:∀ C m,c.ms.contains (C,m)=true→∃ a f,(∀ b,i.cl C b→b=a)∧Cls i.K a∧Meth i.K a (Str.ofString m) f∧Dfm X.prog X.w X.mg X.base i P n (C ++ "." ++ m) f
structure Xls (X:Cx) (i:Inf) (c:Md):Prop where
 xc:∀ C a,i.xc C a→XCls i.K a∧PySem.W.kitOne i.K (.ref a) (.type "ValueError")=some true
 rs:∀ C,c.xs.contains C=true→∃ a,i.xc C a∧PyProof.Rows.OwnCls (Str.ofString C) a [.type "ValueError",.type "Exception",.type "BaseException",.type "object"] "ValueError.__new__" X.mg X.base
 kn:∀ T,(c.xs.contains T||T == "ShutError")=true→∃ D,X.mg (Str.ofString T)=some (.ref D)∧∀ C a,i.xc C a→PySem.W.kitOne i.K (.ref a) (.ref D)=some (Own.excSub C T)∧(Own.excSub C T=true→PySem.W.exmOne i.K (.ref a) (.ref D)=some true)
structure Gd (X:Cx) (i:Inf) (P:Own.Pg) (n:Nat) (c:Md):Prop where
 K:X.K=i.K
 N:X.N=c.N
 sc:X.env.scope=c.sc
 nd:c.N.Nodup
 un:X.A.units+200<cLine
 calm:c.cm=true→X.calm=true
 room:c.cm=true→Room (2*n+1) X.A
 bl:∀ x∈blts,X.mg x=none
 dfs:∀ f,c.fs.contains f=true→Dfo X.prog X.w X.mg X.base i P n f
 cst:∀ x v,c.cs.lookup x=some v→∃ u y,X.mg (Str.ofString x)=some u∧RelV y u∧∀ H,RV i.K H v y
 kl:Kls X i P n c
 xl:c.xs≠[]→Xls X i c
variable {X:Cx}{i:Inf}{P:Own.Pg}{n:Nat}{c:Md}
theorem Gd.gl(g:Gd X i P n c){x:Str}(h:c.gl x=true):Gl X x:=by show X.env.scope.names.lookup x=_;rw[g.sc];exact eq_of_beq h
theorem Gd.vis(g:Gd X i P n c){x:Str}(h:c.vis x=true):Vis X.env.scope x:=by
 unfold Vis;rw[g.sc];unfold Md.vis at h;split at h
 ·exact .inl (by assumption)
 ·exact .inr (.inl (by assumption))
 ·exact .inr (.inr (by assumption))
 ·cases h
theorem Gd.loc(g:Gd X i P n c){x:Str}(h:c.loc x=true):L2.Loc X.env.scope x:=by
 unfold L2.Loc;rw[g.sc];rcases (Bool.or_eq_true ..).mp h with h|h
 ·exact .inl (eq_of_beq h)
 ·exact .inr (eq_of_beq h)
theorem Gd.rm(g:Gd X i P n c)(h:c.cm=true):Room (2*n) X.A:=(g.room h).mono (Nat.le_succ _)
theorem NI {x:Str}(h:nm x=true):(x==("__debug__" : Str))=false∧(x==("__classdict__" : Str))=false∧x≠"__name__":=by simp only[nm,bAq,Bool.not_eq_true']at h;exact⟨h.1.1,h.1.2,by simpa using h.2⟩
theorem ZF(e:Own.E)(c:Md)(x:Expr)(es:List Expr)(env:Env):starEach (toX e c x::es) env=(false,eval (toX e c x) env)::starEach es env:=by cases e<;>rfl
theorem Bc(e:Own.E)(c:Md)(x:Expr):Kv (toX e c x):=by intro o j;cases e<;>rfl
theorem Eg{op:CmpOp}(e:Own.E)(c:Md)(x:Expr):behindInMarks op (toX e c x)=false:=by cases e<;>rfl
theorem E3(e:Own.E)(c:Md)(x:Expr)(env:Env):∀ y,foldedSetIterable (toX e c x) env y=pure y:=by intro y;cases e<;>rfl
noncomputable def Ys:Expr→Bool
 |.Call (.Name _ _) [] _ _=>false
 |_=>true
theorem Yo{e:Expr}(h:Ys e=true)(f:Str)(env:Env):attributeBase e f env (eval e env)=eval e env:=by
 cases e with
 |Call g as ks p =>
  cases as with
  |cons _ _=>cases g<;>rfl
  |nil=>cases g with
   |Name x q=>cases h
   |_=>rfl
 |_=>rfl
noncomputable def Zj:Own.Es→Nat
 |.nil=>0
 |.cons _ es=>Zj es+1
theorem Xw:∀ (es:Own.Es) (c:Md) (xs:List Expr),(toA es c xs).length=Zj es
 |.nil,_,_=>rfl
 |.cons _ es,c,xs=>by show(toA es c xs.tail).length+1=_;rw[Xw es];rfl
theorem Yp(env:Env)(pos:Pos):∀ (es:Own.Es) (c:Md) (xs:List Expr),(backTo pos (starEach (toA es c xs) env)).any (·.1)=false
 |.nil,_,_=>rfl
 |.cons e es,c,xs=>by show(backTo pos (starEach (toX e c (xs.headD dE)::toA es c xs.tail) env)).any (·.1)=false;rw[ZF];show(false||(backTo pos (starEach (toA es c xs.tail) env)).any (·.1))=false;rw[Yp env pos es];rfl
theorem Wu(env:Env)(pos:Pos):∀ (es:Own.Es) (c:Md) (xs:List Expr),(backTo pos (starEach (toA es c xs) env)).all (fun x=>!x.1)=true
 |.nil,_,_=>rfl
 |.cons e es,c,xs=>by show(backTo pos (starEach (toX e c (xs.headD dE)::toA es c xs.tail) env)).all (fun x=>!x.1)=true;rw[ZF];show(true&&(backTo pos (starEach (toA es c xs.tail) env)).all (fun x=>!x.1))=true;rw[Wu env pos es];rfl
theorem Ha(g:Gd X i P n c){Φ:Own.Fs}{o:Own.Bop}{a b:Own.E}{l r:Expr}{pos:Pos}(ha:PE X l (tE X i Φ a))(hb:PE X r (tE X i Φ b)):PE X (.BinOp l (N7 o) r pos) (tE X i Φ (.bin o a b)):=by
 cases o with
 |add=>exact JR Lk (by rw[g.K];exact b_add) ha hb
 |sub=>exact JR Gg b_sub ha hb
 |mul=>exact JR LB b_mul ha hb
 |fdiv=>exact JR Cw b_fdiv ha hb
 |mod=>exact JR Gq b_mod ha hb
 |pow=>exact JR El b_pow ha hb
noncomputable def Xp:Own.Cop→Bool
 |.is=>true
 |.isnot=>true
 |_=>false
theorem M9(g:Gd X i P n c){o:Own.Cop}(h:Xp o=false):∃ r,OpR X (compareOp (XT o)) r∧Z1 i o r:=by
 have u65:X.A.units+65<cLine:=by have:=g.un;omega
 have u64:X.A.units+64<cLine:=by have:=g.un;omega
 have u0:X.A.units<cLine:=by have:=g.un;omega
 cases o with
 |eq=>exact⟨_,Fr u64,by rw[g.K];exact Qx⟩
 |ne=>exact⟨_,Gn u64,by rw[g.K];exact Pd⟩
 |lt=>exact⟨_,LR u0,by rw[g.K];exact c_lt⟩
 |le=>exact⟨_,HP,c_le⟩
 |gt=>exact⟨_,Pf u0,by rw[g.K];exact c_gt⟩
 |ge=>exact⟨_,LA,c_ge⟩
 |isin=>exact⟨_,PV u65,by rw[g.K];exact Qr⟩
 |notin=>exact⟨_,Qf u65,by rw[g.K];exact P8⟩
 |_=>cases h
theorem Gm{Φ:Own.Fs}{v:Own.Val}{j:Nat}{pos:Pos}(h:DZ v=true):PE X (.Constant (LD v) j pos) (tE X i Φ (.cst v)):=by
 cases v with
 |non=>exact XY Ut fun _=>.non
 |bl b=>exact XY Ld fun _=>.bl _
 |int k=>exact XY Bg fun _=>.int _
 |str s=>exact XY pe_str fun _=>.str _
 |_=>cases h
noncomputable def Mo:Own.E→Bool
 |.cst .non=>true
 |_=>false
theorem Cc{e:Own.E}(h:Mo e=true):e=.cst .non:=by
 cases e with
 |cst v=>cases v with
  |non=>rfl
  |_=>cases h
 |_=>cases h
theorem Mm(g:Gd X i P n c){Φ:Own.Fs}{o:Own.Cop}{a b:Own.E}{l x:Expr}{pos:Pos}(h:(!Xp o||Mo b)=true)(ha:PE X l (tE X i Φ a))(hb:PE X (toX b c x) (tE X i Φ b)) :
  PE X (.Compare l [XT o] [toX b c x] pos) (tE X i Φ (.cmp o a b))∧PT X (.Compare l [XT o] [toX b c x] pos) (tTt X i Φ (.val (.cmp o a b))):=by
 cases z:Xp o with
 |false =>obtain⟨r,h1,h2⟩:=M9 g z;exact⟨HG h1 h2 ha hb (Eg _ _ _),Ga h1 h2 ha hb (Eg _ _ _)⟩
 |true =>
  rw[z]at h;cases Cc h;cases o with
  |is=>exact⟨HN ha,FB ha⟩
  |isnot=>exact⟨Fu ha,CC ha⟩
  |_=>cases z
theorem WY(g:Gd X i P n c){Φ:Own.Fs}{o1 o2:Own.Cop}{a b d:Own.E}{l y x:Expr}{pos:Pos}(h1:Xp o1=false)(h2:Xp o2=false)(ha:PE X l (tE X i Φ a))(hb:PE X y (tE X i Φ b))(hd:PE X (toX d c x) (tE X i Φ d)) :
  PE X (.Compare l [XT o1,XT o2] [y,toX d c x] pos) (tE X i Φ (.chain o1 o2 a b d))∧PT X (.Compare l [XT o1,XT o2] [y,toX d c x] pos) (tTt X i Φ (.val (.chain o1 o2 a b d))):=by
 obtain⟨r1,a1,a2⟩:=M9 g h1;obtain⟨r2,b1,b2⟩:=M9 g h2;have hm:lastMarks [XT o1,XT o2] [y,toX d c x]=false:=Eg _ _ _;exact⟨Dw a1 a2 b1 b2 ha hb hd hm,Uv a1 a2 b1 b2 ha hb hd hm⟩
theorem GE{Φ:Own.Fs}{e:Expr}{m:Own.E}(h:PE X e (tE X i Φ m))(he:∀ whole,isTrue e X.env whole=(do let v←whole;standAt e.pos;holding [v] (truthy v)))(hK:X.K=i.K):PT X e (tTt X i Φ (.val m)):=by
 refine(Ab h he).imp fun σ H Q ⟨env,G,Qm,Em,p,w,c⟩=>?_;rw[Own.q_t_val]at w;refine one p w fun v G1 H1 x k1 p1 r q=>?_;obtain⟨d,e1,q2⟩:=go_some q;clear q;refine⟨d,?_,c d G1 H1 k1 p1.hp q2⟩;cases v with
 |non=>cases r;cases e1;rfl
 |bl b=>cases r;cases e1;rfl
 |int b =>
  cases r;cases e1;show decide (b≠0)=(b != 0)
  by_cases e:b=0<;>simp[e]
 |str b =>
  cases r;obtain⟨hl,e1⟩:=ZP e1;cases e1;refine⟨by rw[ZE];exact Nat.le_trans hl ZU,?_⟩;rw[ZE];by_cases e:b.length=0
  ·rw[e];rfl
  ·rw[decide_eq_true e];symm;simpa using (by omega:¬ ((b.length:Int)=0))
 |tup xs =>
  cases e1;cases r with
  |tup hp hr =>refine .inr (.inl ⟨_,by rw[hK];exact ZA hp,?_⟩);cases hr<;>rfl
 |scr ns =>
  cases e1;cases r with
  |scr h =>refine .inl ⟨_,by rw[hK];exact Yi h,?_⟩;cases ns<;>rfl
 |ref a =>
  cases r.ref_inv
  replace e1:(match G1 a with|some (.lst xs)=>some (!xs.isEmpty)|some (.dct kvs)=>some (!kvs.isEmpty)|_=>none)=some d:=e1
  cases z:G1 a with
  |none=>rw[z]at e1;cases e1
  |some o =>
   rw[z]at e1;cases o with
   |lst xs =>cases e1;obtain⟨vs,h1,h2⟩:=p1.hp a _ z;refine .inl ⟨vs,SqL.of h1,?_⟩;cases h2<;>rfl
   |dct kvs =>cases e1;obtain⟨ps,h1,h2⟩:=p1.hp a _ z;refine .inr (.inr ⟨ps,h1,?_⟩);cases h2<;>rfl
   |_=>cases e1
noncomputable def Md.gn (c:Md) (y:String):Bool:=c.gl (Str.ofString y)&&nm (Str.ofString y)
noncomputable def Xy:Own.Bi→Bool
 |.len=>true
 |.int=>true
 |.str=>true
 |.min2=>true
 |.max2=>true
 |.all=>true
 |.sorted=>true
 |_=>false
noncomputable def Dr:Own.Bi→Option String
 |.isi [T]=>some T
 |_=>none
noncomputable def Cp:Own.Bi→Option (List String)
 |_=>none
noncomputable def Xi:Own.Bi→Bool
 |_=>false
noncomputable def X1:Own.Bi→Bool
 |.listRange=>true
 |_=>false
noncomputable def J8:Own.Bi→Bool
 |.minD=>true
 |_=>false
noncomputable def AG:Own.Bi→Option (List String)
 |_=>none
noncomputable def Md.xn (c:Md) (T:String):Bool:=(c.xs.contains T||T == "ShutError")&&c.gn T
noncomputable def XE:Own.Bi→Bool
 |.len=>true
 |.int=>true
 |.str=>true
 |_=>false
noncomputable def Et (c:Md) (Ts:List String):Bool:=match Ts with
 |[T]=>c.xn T||(T == "ValueError" && c.gl (Str.ofString T))
 |Ts=>Ts.all c.xn&&decide (Ts.length≤20)
noncomputable def Bv:Own.Bm→Option Nat
 |.append=>some 1
 |.popAt=>some 1
 |.dget=>some 1
 |.dpop=>some 1
 |.dpopD=>some 2
 |_=>none
noncomputable def K2 (n:Nat) (p:Own.Pt):Bool:=n == 1&&(match p with
  |.one j=>j==0
  | _=>false)
noncomputable def Nx:Own.Tt→Bool
 |.yes=>true
 |_=>false
noncomputable def Mr:Own.E→Bool
 |.var _=>true
 |.call _ _=>true
 |.meth _ _ _ _=>true
 |.bi _ _=>true
 |.bm _ _ _=>true
 |.idx _ _=>true
 |.fld _ _=>true
 |.glob _ _=>true
 |_=>false
noncomputable def IH:Own.E→Bool
 |.cmp _ _ _=>true
 |.chain _ _ _ _ _=>true
 |_=>false
mutual
noncomputable def okE:Own.E→Md→Expr→Bool
 |.cst v,_,_=>DZ v
 |.var j,c,_=>decide (j<c.N.length)&&c.vis (c.nmOf j)&&nm (c.nmOf j)
 |.glob y v,c,_=>c.gn y&&decide (c.cs.lookup y=some v)
 |.bin _ a b,c,x=>okE a c (kid x 0)&&okE b c (kid x 1)
 |.neg a,c,x=>okE a c (kid x 0)
 |.not a,c,x=>okE a c (kid x 0)
 |.and a b,c,x=>okE a c (kid x 0)&&okE b c (rest (ZM b) x)&&(!ZM b||(rest (ZM b) x).pos==x.pos)
 |.or a b,c,x=>okE a c (kid x 0)&&okE b c (rest (Yl b) x)&&(!Yl b||(rest (Yl b) x).pos==x.pos)
 |.cmp o a b,c,x=>okE a c (kid x 0)&&okE b c (kid x 1)&&(!Xp o||Mo b)
 |.chain o1 o2 a b d,c,x=>okE a c (kid x 0)&&okE b c (kid x 1)&&okE d c (kid x 2) && !Xp o1 && !Xp o2
 |.call f as,c,x=>c.gn f&&c.fs.contains f&&c.cm&&okA as c (sub x).tail
 |.make C as,c,x=>c.gn C&&c.cl.contains C&&c.cm&&decide (Zj as≠0)&&okA as c (sub x).tail
 |.meth C m o as,c,x=>c.ms.contains (C,m)&&c.cm&&okE o c (kid (kid x 0) 0)&&Ys (toX o c (kid (kid x 0) 0))&&((kid x 0).pos.endLine==x.pos.line)&&decide (Zj as<20)&&okA as c (sub x).tail
 |.fld o f,c,x=>c.fl.contains f&&okE o c (kid x 0)&&Ys (toX o c (kid x 0))
 | .bi f as,c,x=>(match Dr f with
   |some T=>decide (Zj as=1)&&kinds.contains T&&c.gl "isinstance" && c.gl (Str.ofString T)
   |none=>match Cp f with
     |some Ts=>decide (Zj as=1)&&c.gl "isinstance" && !c.xs.isEmpty&&Et c Ts
     |none=>match AG f with
       |some Ts=>decide (Zj as=1)&&c.gl "isinstance" && Ts.all (fun T=>kinds.contains T&&c.gl (Str.ofString T))&&decide (Ts.length≤20)
       | none=>if Xi f then decide (Zj as=1)&&c.gl "len" && c.gl "set" && c.cm else if X1 f then decide (Zj as=1)&&c.gl "list" && c.gl "range" && c.cm else if J8 f then decide (Zj as=1)&&c.gl "min" && c.cm else Xy f&&c.gl (Y2 f)&&decide (Zj as≠0)&&(c.cm||XE f))&&okA as c (NH f x)
 |.bm m o as,c,x=>decide (Bv m=some (Zj as))&&okE o c (kid (kid x 0) 0)&&Ys (toX o c (kid (kid x 0) 0))&&((kid x 0).pos.endLine==x.pos.line)&&okA as c (sub x).tail
 |.idx a b,c,x=>okE a c (kid x 0)&&okE b c (kid x 1)
 |.slc a lo hi,c,x=>okE a c (kid x 0)&&okO lo c (kid (kid x 1) 0)&&okO hi c (kid (kid x 1) 1)
 |.tup es,c,x=>okA es c (sub x)&&decide (Zj es≤1000)
 |.lst es,c,x=>okA es c (sub x)&&decide (Zj es≤1000)
 |.dct es,c,x=>okA es c (sub x)&&WP es&&decide (esL es≤30)
 |.ife t a b,c,x=>okT t c (kid x 0)&&okE a c (kid x 1)&&okE b c (kid x 2)
 |.comp caps m p it t e,c,x=>K2 m p&&c.cm&&Yw (scp x) c.sc c.N (nmX (kid x 1)) caps&&(scp x).kind == .function&&okI it c (kid x 2) false&&okE e (c.blk (scp x) (nmX (kid x 1)) caps) (kid x 0)&&(Nx t||okT t (c.blk (scp x) (nmX (kid x 1)) caps) (kid x 3))
 |_,_,_=>false
noncomputable def okA:Own.Es→Md→List Expr→Bool
 |.nil,_,_=>true
 |.cons e es,c,xs=>okE e c (xs.headD dE)&&okA es c xs.tail
noncomputable def okJ:Own.Es→Md→List Expr→Bool
 |.nil,_,_=>true
 |.cons e es,c,xs=>(OZ e||okE e c (kid (xs.headD dE) 0))&&okJ es c xs.tail
noncomputable def okO:Own.Oe→Md→Expr→Bool
 |.none,_,_=>true
 |.some e,c,x=>okE e c x
noncomputable def okT:Own.Tt→Md→Expr→Bool
 |.yes,_,_=>false
 |.val e,c,x=>okE e c x&&(Mr e||IH e)
 |.not t,c,x=>okT t c (kid x 0)
 |.and a b,c,x=>okT a c (kid x 0)&&okT b c (rest (Zy b) x)&&(!Zy b||(rest (Zy b) x).pos==x.pos)
 |.or a b,c,x=>okT a c (kid x 0)&&okT b c (rest (ZI b) x)&&(!ZI b||(rest (ZI b) x).pos==x.pos)
noncomputable def okI:Own.It→Md→Expr→Bool→Bool
 |.seq e,c,x,_=>okE e c x
 |.range a,c,x,_=>c.gl "range" && okE a c (kid x 1)
 |.zip a b,c,x,t=>t&&c.gl "zip" && okE a c (kid x 1)&&okE b c (kid x 2)
 |_,_,_,_=>false
end
variable {X:Cx}{i:Inf}{P:Own.Pg}{n:Nat}{c:Md}
theorem DC(g:Gd X i P n c){f:Own.Bi}(hp:Xy f=true)(hcm:(c.cm||XE f)=true){e:Expr}{es:List Expr}{as:Own.Es}{q p:Pos}{l:Nat}(hg:Gl X (Y2 f))(ha:PA X (e::es) (tAr X i (Own.wF P n) as l))
  (he:starEach (e::es) X.env=(false,eval e X.env)::starEach es X.env) (hpl:(backTo p (starEach es X.env)).any (·.1)=false):PE X (.Call (.Name (Y2 f) q) (e::es) [] p) (tE X i (Own.wF P n) (.bi f as)):=by
 have hc:XE f=false→X.calm=true:=fun z=>g.calm (by rw[z,Bool.or_false]at hcm;exact hcm);cases f with
 |len=>exact(Yn ((call_len_seq.or Kd).or Ov) hg (g.bl _ (by simp[blts,Y2])) (by kernel_rfl) ha (he:=he) (hpl:=hpl)).imp (WM (by rw[g.K];exact Ek))
 |int=>exact(JP (call_int1.or Jj) hg (g.bl _ (by simp[blts,Y2])) (by kernel_rfl) ha (he:=he) (hpl:=hpl)).imp (WM Ez)
 |str=>exact(JP (call_str_int.or Kc) hg (g.bl _ (by simp[blts,Y2])) (by kernel_rfl) ha (he:=he) (hpl:=hpl)).imp (WM EH)
 |min2=>exact(Yn (Ot (hc rfl)) hg (g.bl _ (by simp[blts,Y2])) (by kernel_rfl) ha (he:=he) (hpl:=hpl)).imp (WM BG)
 |max2=>exact(Yn (N8 (hc rfl)) hg (g.bl _ (by simp[blts,Y2])) (by kernel_rfl) ha (he:=he) (hpl:=hpl)).imp (WM CH)
 |all=>exact(Yn (Bs (hc rfl)) hg (g.bl _ (by simp[blts,Y2])) (by kernel_rfl) ha (he:=he) (hpl:=hpl)).imp (WM (by rw[g.K];exact Gk))
 |sorted=>exact(Yn (call_sorted.or ((JV (hc rfl)).or Ku)) hg (g.bl _ (by simp[blts,Y2])) (by kernel_rfl) ha (he:=he) (hpl:=hpl)).imp (WM (by rw[g.K];exact Oc))
 |_=>cases hp
theorem GO{f:Own.Bi}{T:String}(h:Dr f=some T):f=.isi [T]:=by
 cases f with
 |isi Ts =>
  cases Ts with
  |nil=>cases h
  |cons a r=>cases r with
   |nil=>cases h;rfl
   |cons _ _=>cases h
 |_=>cases h
theorem AD (g:Gd X i P n c){T:String}{e:Expr}{m:Own.E}{p p2 pos:Pos}(hT:T∈kinds) (h2:c.gl "isinstance" = true) (h5:c.gl (Str.ofString T)=true) (he:PE X e (tE X i (Own.wF P n) m)) (hst:starEach [e,.Name (Str.ofString T) p2] X.env=(false,eval e X.env)::starEach [.Name (Str.ofString T) p2] X.env) :
  PE X (.Call (.Name "isinstance" p) [e,.Name (Str.ofString T) p2] [] pos) (tE X i (Own.wF P n) (.bi (.isi [T]) (.cons m .nil))):=by
 have hT':=hT;simp only[kinds,List.mem_cons,List.not_mem_nil,or_false]at hT';refine Lw hT he g.K (g.gl h2) (g.bl _ (by simp[blts])) (g.gl h5) ?_ ?_ ?_ ?_ hst
 ·rcases hT' with rfl|rfl|rfl|rfl|rfl|rfl<;>exact g.bl _ (by simp[blts])
 ·rcases hT' with rfl|rfl|rfl|rfl|rfl|rfl<;>kernel_rfl
 ·rcases hT' with rfl|rfl|rfl|rfl|rfl|rfl<;>decide
 ·rcases hT' with rfl|rfl|rfl|rfl|rfl|rfl<;>decide
theorem Bf(g:Gd X i P n c){m:Own.Bm}(h:Bv m=some 0){o:Expr}{mo:Own.E}{apos cpos:Pos}(ho:PE X o (tE X i (Own.wF P n) mo))(hb:∀ f,attributeBase o f X.env (eval o X.env)=eval o X.env)(hl:(apos.endLine==cpos.line)=true) :
  PE X (.Call (.Attribute o (GA m) apos) [] [] cpos) (tE X i (Own.wF P n) (.bm m mo .nil)):=by
 cases m with
 |_=>cases h
theorem Dl(g:Gd X i P n c){m:Own.Bm}{k:Nat}(h:Bv m=some (k+1)){o e:Expr}{es:List Expr}{mo:Own.E}{ms:Own.Es}{l:Nat}{apos cpos:Pos}(ho:PE X o (tE X i (Own.wF P n) mo))(ha:PA X (e::es) (tAr X i (Own.wF P n) ms l))(hb:∀ f,attributeBase o f X.env (eval o X.env)=eval o X.env)(hl:(apos.endLine==cpos.line)=true)
  (hfew:((backTo cpos (starEach (e::es) X.env)).all (fun x=>!x.1)&&(backToKw cpos (keywordEach [] X.env)).all (fun x=>x.1.isSome)&&decide ((e::es).length+([]:List Keyword).length+(if([]:List Keyword).isEmpty then 0 else 1)<30))=true)
  (hs:starEach (e::es) X.env=(false,eval e X.env)::starEach es X.env) (hpl:(backTo cpos (starEach es X.env)).any (·.1)=false) :
  PE X (.Call (.Attribute o (GA m) apos) (e::es) [] cpos) (tE X i (Own.wF P n) (.bm m mo ms)):=by
 have u1:X.A.units+1<cLine:=by have:=g.un;omega
 cases m with
 |append=>exact Bb g.K PySem.F.plainAttrs_list PySem.F.slot_list_append PySem.F.type_list_append ON (I0 rfl) FJ ho ha (hb _) hfew hl hs hpl
 |popAt=>exact Bb g.K PySem.F.plainAttrs_list PySem.F.slot_list_pop PySem.F.type_list_pop U4 (I0 rfl) B5 ho ha (hb _) hfew hl hs hpl
 |dget=>exact Bb g.K PySem.F.plainAttrs_dict PySem.F.slot_dict_get PySem.F.type_dict_get (AB u1) (Ep rfl) Gu ho ha (hb _) hfew hl hs hpl
 |dpop=>exact Bb g.K PySem.F.plainAttrs_dict PySem.F.slot_dict_pop PySem.F.type_dict_pop mt_dpop (Ep rfl) FC ho ha (hb _) hfew hl hs hpl
 |dpopD=>exact Bb g.K PySem.F.plainAttrs_dict PySem.F.slot_dict_pop PySem.F.type_dict_pop (mt_dpop.or An) (Ep rfl) Dh ho ha (hb _) hfew hl hs hpl
 |_=>cases h
theorem Gd.blk(g:Gd X i P n c){sc:Scope}{x:Str}{caps:List Nat}(hb:Yw sc c.sc c.N x caps=true)(hk:sc.kind=.function)(cl:List (Str×Addr))(C:Addr)(s:Shared)(H:Hp)(ex:List Addr) :
  Gd (ZQ X sc (Yz X x caps) cl C s H ex) i P n (c.blk sc x caps) where
 K:=g.K
 N:=by show Yz X x caps=_;unfold Yz;rw[g.N];rfl
 sc:=by show relabel sc X.env=_;unfold relabel Env.kindOf;rw[g.sc];rfl
 nd:=by have B:=Uz g.sc g.N hk hb;have:=B.nd;unfold Yz at this;rw[g.N]at this;exact this
 un:=g.un
 calm:=g.calm
 room:=g.room
 bl:=g.bl
 dfs:=g.dfs
 cst:=g.cst
 kl:=⟨g.kl.A,g.kl.F,g.kl.mkc,g.kl.mth⟩
 xl:=fun h=>⟨(g.xl h).xc,(g.xl h).rs,(g.xl h).kn⟩
theorem NN{n:Nat}{p:Own.Pt}(h:K2 n p=true):n=1∧p=.one 0:=by
 unfold K2 at h;rw[bAq]at h;cases p with
 |one j=>exact⟨eq_of_beq h.1,by rw[eq_of_beq h.2]⟩
 |_=>cases h.2
theorem Ny{b:Own.E}(h:ZM b=true):∃ a d,b=.and a d:=by
 cases b with
 |and a d=>exact⟨a,d,rfl⟩
 |_=>cases h
theorem Aq{b:Own.E}(h:Yl b=true):∃ a d,b=.or a d:=by
 cases b with
 |or a d=>exact⟨a,d,rfl⟩
 |_=>cases h
theorem Ui{b:Own.Tt}(h:Zy b=true):∃ a d,b=.and a d:=by
 cases b with
 |and a d=>exact⟨a,d,rfl⟩
 |_=>cases h
theorem Dk{b:Own.Tt}(h:ZI b=true):∃ a d,b=.or a d:=by
 cases b with
 |or a d=>exact⟨a,d,rfl⟩
 |_=>cases h
theorem Kf{b:Bool}{p q:Pos}(h:(!b||p==q)=true)(hb:b=true):p=q:=by rw[hb]at h;exact eq_of_beq h
theorem A7{Φ:Own.Fs}{b:Own.E}{x:Expr}(hp:(!ZM b||(rest (ZM b) x).pos==x.pos)=true)(h:PE X (toX b c (rest (ZM b) x)) (tE X i Φ b)):PE X (.BoolOp .And (Xc (ZM b) (toX b c (rest (ZM b) x))) x.pos) (tE X i Φ b):=by
 cases z:ZM b with
 |false=>rw[z]at h;exact AU h
 |true =>have e:=Kf hp z;rw[z]at e h;obtain⟨a,d,rfl⟩:=Ny z;show PE X (.BoolOp .And (sub (.BoolOp .And _ (rest true x).pos)) x.pos) _;rw[←e];exact h
theorem Da{Φ:Own.Fs}{b:Own.E}{x:Expr}(hp:(!Yl b||(rest (Yl b) x).pos==x.pos)=true)(h:PE X (toX b c (rest (Yl b) x)) (tE X i Φ b)):PE X (.BoolOp .Or (Xc (Yl b) (toX b c (rest (Yl b) x))) x.pos) (tE X i Φ b):=by
 cases z:Yl b with
 |false=>rw[z]at h;exact AU h
 |true =>have e:=Kf hp z;rw[z]at e h;obtain⟨a,d,rfl⟩:=Aq z;show PE X (.BoolOp .Or (sub (.BoolOp .Or _ (rest true x).pos)) x.pos) _;rw[←e];exact h
theorem JC(b:Bool){e:Own.E}{x:Expr}(h:b=ZM e∨b=Yl e):∃ y ys,Xc b (toX e c x)=y::ys:=by
 cases b with
 |false=>exact⟨_,_,rfl⟩
 |true =>
  rcases h with h|h
  ·obtain⟨a,d,rfl⟩:=Ny h.symm;exact⟨_,_,rfl⟩
  ·obtain⟨a,d,rfl⟩:=Aq h.symm;exact⟨_,_,rfl⟩
variable {i:Inf}{P:Own.Pg}{n:Nat}
theorem OT{X:Cx}{c:Md}{Φ:Own.Fs}{b:Own.Tt}{x:Expr}(hp:(!Zy b||(rest (Zy b) x).pos==x.pos)=true)(h:PT X (toT b c (rest (Zy b) x)) (tTt X i Φ b))(h2:(Zy b||ZI b)=true→PW X (toT b c (rest (Zy b) x)) (tTt X i Φ b)) :
  ∃ y ys,Xc (Zy b) (toT b c (rest (Zy b) x))=y::ys∧PW X (.BoolOp .And (y::ys) x.pos) (tTt X i Φ b):=by
 cases z:Zy b with
 |false=>rw[z]at h;exact⟨_,_,rfl,Du h⟩
 |true =>have e:=Kf hp z;rw[z]at e h2;obtain⟨a,d,rfl⟩:=Ui z;refine⟨_,_,rfl,?_⟩;rw[←e];exact h2 rfl
theorem AQ{X:Cx}{c:Md}{Φ:Own.Fs}{b:Own.Tt}{x:Expr}(hp:(!ZI b||(rest (ZI b) x).pos==x.pos)=true)(h:PT X (toT b c (rest (ZI b) x)) (tTt X i Φ b))(h2:(Zy b||ZI b)=true→PW X (toT b c (rest (ZI b) x)) (tTt X i Φ b)) :
  ∃ y ys,Xc (ZI b) (toT b c (rest (ZI b) x))=y::ys∧PW X (.BoolOp .Or (y::ys) x.pos) (tTt X i Φ b):=by
 cases z:ZI b with
 |false=>rw[z]at h;exact⟨_,_,rfl,Eh h⟩
 |true =>have e:=Kf hp z;rw[z]at e h2;obtain⟨a,d,rfl⟩:=Dk z;refine⟨_,_,rfl,?_⟩;rw[←e];exact h2 rfl
theorem QM{e:Own.E}(h:OZ e=true):∃ s,e=.cst (.str s):=by
 cases e with
 |cst v=>cases v with
  |str s=>exact⟨s,rfl⟩
  |_=>cases h
 |_=>cases h
theorem Js{X:Cx}{c:Md}(g:Gd X i P n c){caps:List Nat}{it:Own.It}{mt:Own.Tt}{me:Own.E}{elt iter:Expr}{x:Str}{px pos:Pos}{ifs:List Expr}{sc:Scope}(hcm:c.cm=true)(h1:Yw sc c.sc c.N x caps=true)(hk:sc.kind=.function)
  (hi:PI X (.Name x px) iter (tIt X i (Own.wF P n) it)) (hs:∀ y,foldedSetIterable iter X.env y=pure y)
  (hE:∀ cl C s H ex,PE (ZQ X sc (Yz X x caps) cl C s H ex) elt (tE0 i (Own.wF P n) me)) (hI:∀ cl C s H ex,PIfs (ZQ X sc (Yz X x caps) cl C s H ex) ifs (tT0 i (Own.wF P n) mt)) :
  PE X (.ListComp elt [⟨.Name x px,iter,ifs,0⟩] sc pos) (tE X i (Own.wF P n) (.comp caps 1 (.one 0) it mt me))∧
   ∀ (y:Str) (py spos:Pos) (j:Nat),X.N[j]?=some y→L2.Loc X.env.scope y→(X.fn y=true∨X.env.scope.names.lookup y=some .local)→swapsWith (.ListComp elt [⟨.Name x px,iter,ifs,0⟩] sc pos) (some (.Name y py)) spos.line X.env=pure true→PS X (.Assign [.Name y py] (.ListComp elt [⟨.Name x px,iter,ifs,0⟩] sc pos) spos) (tSt X i (Own.wF P n) (.set (.one j) (.comp caps 1 (.one 0) it mt me))):=by
 have B:=Uz g.sc g.N hk h1;have hc:=g.calm hcm;refine⟨(Us hc B hi hI hE hs).imp NR,fun y py spos j hj hl hf hsw=>?_⟩;refine(UQ (by rw[g.N];exact g.nd) hj hl hc B hi hI hE hs hsw hf).imp fun D σ H ⟨env,G,N,R,Bk,Ct,Xe,p,w,e⟩=>?_;rw[Own.q_s_set]at w;refine NR σ H _ ⟨env,G,_,Xe env,p.pre,w,fun v G1 H1 x k1 g1 r1 w1=>?_⟩;obtain⟨env2,e2,w2⟩:=go_some w1;clear w1;cases e2;exact e.nx _ _ G1 H1 k1 g1 ((p.en.keep k1).set r1 j) w2
theorem BD{X:Cx}{c:Md}{j:Nat}(hN:X.N=c.N)(h:j<c.N.length):X.N[j]?=some (c.nmOf j):=by rw[hN];unfold Md.nmOf;rw[List.getD_eq_getElem?_getD,List.getElem?_eq_getElem h];rfl
theorem Cj{o:Expr}{m:Str}{apos pos:Pos}{args:List Expr}{env:Env}(hb:attributeBase o m env (eval o env)=eval o env)(hfew:methodCallForm (args.length+0) (backTo pos (starEach args env)) (backToKw pos (keywordEach [] env))=true)(hl:(apos.endLine==pos.line)=true) :
  eval (.Call (.Attribute o m apos) args [] pos) env=(do
    let ov←eval o env
    standAt apos.atName
    let (f,first)←holding [ov] (getMethod ov m (do return (←importBound o env).getD true))
    callWith pos f first (backTo pos (starEach args env)) (backToKw pos (keywordEach [] env))):=by
 show(do
   let ov←attributeBase o m env (eval o env)
   standAt apos.atName
   methodCall o m apos pos env ov (args.length+0) (backTo pos (starEach args env)) (backToKw pos (keywordEach [] env)))=_
 rw[hb];unfold methodCall methodCallPos;rw[hfew,hl];rfl
theorem GK(env:Env)(pos:Pos){as:Own.Es}{c:Md}{xs:List Expr}(h:Zj as<20):methodCallForm ((toA as c xs).length+0) (backTo pos (starEach (toA as c xs) env)) (backToKw pos (keywordEach [] env))=true:=by unfold methodCallForm;rw[bAq,bAq,decide_eq_true_eq,Xw];refine⟨⟨Wu env pos as c xs,rfl⟩,?_⟩;show Zj as+0+0<30;omega
theorem Ik{X:Cx}{c:Md}{m:Own.Tt}{x:Expr}(h:Nx m=false→PT X (toT m c x) (tTt X i (Own.wF P n) m)):PIfs X (toF m c x) (tT0 i (Own.wF P n) m):=by
 cases m with
 |yes=>exact Fa
 |val e=>exact Xl (pt0 (h rfl))
 |not t=>exact Xl (pt0 (h rfl))
 |and a b=>exact Xl (pt0 (h rfl))
 |or a b=>exact Xl (pt0 (h rfl))
theorem Mi(c:Md):∀ (es:Own.Es) (xs:List Expr),WP es=true→(Xs (toA es c xs)).all (·.isSome)=true∧(Xs (toA es c xs)).length=(Bj (toA es c xs)).length∧2*(Xs (toA es c xs)).length=esL es
 |.nil,_,_=>⟨rfl,rfl,rfl⟩
 |.cons _ .nil,_,h=>by cases h
 |.cons k (.cons v r),xs,h=>by
  obtain⟨h1,h2,h3⟩:=Mi c r xs.tail.tail h;refine⟨?_,?_,?_⟩
  ·show(true&&(Xs (toA r c xs.tail.tail)).all (·.isSome))=true;rw[h1];rfl
  ·show(Xs (toA r c xs.tail.tail)).length+1=(Bj (toA r c xs.tail.tail)).length+1;rw[h2]
  ·show 2*((Xs (toA r c xs.tail.tail)).length+1)=esL r+1+1;omega
mutual
theorem eE:∀ (m:Own.E) (X:Cx) (c:Md) (x:Expr),Gd X i P n c→okE m c x=true→PE X (toX m c x) (tE X i (Own.wF P n) m)
 |.cst v,X,c,x,g,h=>Gm h
 |.var j,X,c,x,g,h=>by have h:(decide (j<c.N.length)&&c.vis (c.nmOf j)&&nm (c.nmOf j))=true:=h;rw[bAq,bAq,decide_eq_true_eq]at h;obtain⟨q1,q2,_⟩:=NI h.2;exact GT (BD g.N h.1.1) (g.vis h.1.2) q1 q2
 |.glob y v,X,c,x,g,h=>by have h:((c.gl (Str.ofString y)&&nm (Str.ofString y))&&decide (c.cs.lookup y=some v))=true:=h;rw[bAq,bAq,decide_eq_true_eq]at h;obtain⟨q1,q2,_⟩:=NI h.1.2;obtain⟨u,z,e1,e2,e3⟩:=g.cst _ _ h.2;exact EA (Cq (g.gl h.1.1) e1 e2 q1) e3
 |.bin o a b,X,c,x,g,h=>by have h:(okE a c (kid x 0)&&okE b c (kid x 1))=true:=h;rw[bAq]at h;exact Ha g (eE a X c _ g h.1) (eE b X c _ g h.2)
 |.neg a,X,c,x,g,h=>IC (eE a X c _ g h)
 |.not a,X,c,x,g,h=>IU (eE a X c _ g h)
 |.and a b,X,c,x,g,h=>by have h:(okE a c (kid x 0)&&okE b c (rest (ZM b) x)&&(!ZM b||(rest (ZM b) x).pos==x.pos))=true:=h;rw[bAq,bAq]at h;have h2:=A7 h.2 (eE b X c _ g h.1.2);obtain⟨y,ys,e⟩:=JC (c:=c) (ZM b) (e:=b) (x:=rest (ZM b) x) (.inl rfl);show PE X (.BoolOp .And (toX a c (kid x 0)::Xc (ZM b) (toX b c (rest (ZM b) x))) x.pos) _;rw[e]at h2 ⊢;exact IQ (eE a X c _ g h.1.1) h2
 |.or a b,X,c,x,g,h=>by have h:(okE a c (kid x 0)&&okE b c (rest (Yl b) x)&&(!Yl b||(rest (Yl b) x).pos==x.pos))=true:=h;rw[bAq,bAq]at h;have h2:=Da h.2 (eE b X c _ g h.1.2);obtain⟨y,ys,e⟩:=JC (c:=c) (Yl b) (e:=b) (x:=rest (Yl b) x) (.inr rfl);show PE X (.BoolOp .Or (toX a c (kid x 0)::Xc (Yl b) (toX b c (rest (Yl b) x))) x.pos) _;rw[e]at h2 ⊢;exact Pa (eE a X c _ g h.1.1) h2
 |.cmp o a b,X,c,x,g,h=>by have h:(okE a c (kid x 0)&&okE b c (kid x 1)&&(!Xp o||Mo b))=true:=h;rw[bAq,bAq]at h;exact(Mm g h.2 (eE a X c _ g h.1.1) (eE b X c _ g h.1.2)).1
 |.chain o1 o2 a b d,X,c,x,g,h=>by have h:(okE a c (kid x 0)&&okE b c (kid x 1)&&okE d c (kid x 2) && !Xp o1 && !Xp o2)=true:=h;rw[bAq,bAq,bAq,bAq,Bool.not_eq_true',Bool.not_eq_true']at h;obtain⟨⟨⟨⟨h1,h2⟩,h3⟩,h4⟩,h5⟩:=h;exact(WY g h4 h5 (eE a X c _ g h1) (eE b X c _ g h2) (eE d X c _ g h3)).1
 |.call f as,X,c,x,g,h=>by
  have h:((c.gl (Str.ofString f)&&nm (Str.ofString f))&&c.fs.contains f&&c.cm&&okA as c (sub x).tail)=true:=h;rw[bAq,bAq,bAq,bAq]at h;obtain⟨⟨⟨⟨h1,h2⟩,h3⟩,h4⟩,h5⟩:=h;obtain⟨q1,_,_⟩:=NI h2;have ha:=eA as X c _ g h5;cases as with
  |nil=>exact CF g.K (g.dfs _ h3) (g.rm h4) (g.gl h1) q1
  |cons a as=>exact Fo g.K (g.dfs _ h3) (g.rm h4) (g.gl h1) q1 ha (ZF ..) (Yp ..)
 |.make C as,X,c,x,g,h=>by
  have h:((c.gl (Str.ofString C)&&nm (Str.ofString C))&&c.cl.contains C&&c.cm&&decide (Zj as≠0)&&okA as c (sub x).tail)=true:=h;rw[bAq,bAq,bAq,bAq,bAq,decide_eq_true_eq]at h;obtain⟨⟨⟨⟨⟨h1,h2⟩,h3⟩,h4⟩,h6⟩,h5⟩:=h;obtain⟨q1,_,_⟩:=NI h2;have ha:=eA as X c _ g h5;obtain⟨a,f,i1,i2,M,hm,D⟩:=g.kl.mkc C h3;cases as with
  |nil=>exact absurd rfl h6
  |cons b as=>exact FK g.K i1 i2 M D (g.room h4) (g.gl h1) hm q1 ha (ZF ..) (Yp ..)
 |.meth C m o as,X,c,x,g,h=>by
  have h:(c.ms.contains (C,m)&&c.cm&&okE o c (kid (kid x 0) 0)&&Ys (toX o c (kid (kid x 0) 0))&&((kid x 0).pos.endLine==x.pos.line)&&decide (Zj as<20)&&okA as c (sub x).tail)=true:=h;rw[bAq,bAq,bAq,bAq,bAq,bAq,decide_eq_true_eq]at h;obtain⟨⟨⟨⟨⟨⟨h1,h2⟩,h3⟩,h4⟩,h6⟩,h7⟩,h5⟩:=h;have ev:=Cj (m:=Str.ofString m) (Yo h4 _ X.env) (GK X.env x.pos (c:=c) (xs:=(sub x).tail) h7) h6;have ha:=eA as X c _ g h5;have ho:=eE o X c _ g h3;obtain⟨a,f,i1,A,M,D⟩:=g.kl.mth C m h1;cases as with
  |nil=>exact Ci g.K i1 A M D (g.rm h2) ho ev
  |cons b as=>exact E9 g.K i1 A M D (g.rm h2) ho ha (ZF ..) (Yp ..) ev
 |.fld o f,X,c,x,g,h=>by have h:(c.fl.contains f&&okE o c (kid x 0)&&Ys (toX o c (kid x 0)))=true:=h;rw[bAq,bAq]at h;exact HE g.K g.kl.A (g.kl.F _ h.1.1) (eE o X c _ g h.1.2) (Yo h.2 _ _)
 |.bi f as,X,c,x,g,h=>by
  have h:((match Dr f with
    |some T=>decide (Zj as=1)&&kinds.contains T&&c.gl "isinstance" && c.gl (Str.ofString T)
    |none=>match Cp f with
      |some Ts=>decide (Zj as=1)&&c.gl "isinstance" && !c.xs.isEmpty&&Et c Ts
      |none=>match AG f with
        |some Ts=>decide (Zj as=1)&&c.gl "isinstance" && Ts.all (fun T=>kinds.contains T&&c.gl (Str.ofString T))&&decide (Ts.length≤20)
        | none=>if Xi f then decide (Zj as=1)&&c.gl "len" && c.gl "set" && c.cm else if X1 f then decide (Zj as=1)&&c.gl "list" && c.gl "range" && c.cm else if J8 f then decide (Zj as=1)&&c.gl "min" && c.cm else Xy f&&c.gl (Y2 f)&&decide (Zj as≠0)&&(c.cm||XE f))&&okA as c (NH f x))=true:=h
  rw[bAq]at h;cases z:Dr f with
  |some T =>
   have h1:=h.1;rw[z]at h1;rw[bAq,bAq,bAq,decide_eq_true_eq]at h1;obtain⟨⟨⟨h1,h2⟩,h3⟩,h4⟩:=h1;cases GO z;cases as with
   |nil=>cases h1
   |cons a as=>cases as with
    |nil =>have h5:(okE a c _&&true)=true:=h.2;rw[bAq]at h5;exact AD g (List.contains_iff_mem.mp h2) h3 h4 (eE a X c _ g h5.1) (ZF ..)
    |cons b as=>exact absurd h1 (by simp[Zj])
  |none =>
   have h1:=h.1;rw[z]at h1
   replace h1:(match Cp f with
     |some Ts=>decide (Zj as=1)&&c.gl "isinstance" && !c.xs.isEmpty&&Et c Ts
     |none=>match AG f with
       |some Ts=>decide (Zj as=1)&&c.gl "isinstance" && Ts.all (fun T=>kinds.contains T&&c.gl (Str.ofString T))&&decide (Ts.length≤20)
       | none=>if Xi f then decide (Zj as=1)&&c.gl "len" && c.gl "set" && c.cm else if X1 f then decide (Zj as=1)&&c.gl "list" && c.gl "range" && c.cm else if J8 f then decide (Zj as=1)&&c.gl "min" && c.cm else Xy f&&c.gl (Y2 f)&&decide (Zj as≠0)&&(c.cm||XE f))=true:=h1
   cases zx:Cp f with
   |some Ts=>cases zx
   |none =>
    rw[zx]at h1
    replace h1:(match AG f with
      |some Ts=>decide (Zj as=1)&&c.gl "isinstance" && Ts.all (fun T=>kinds.contains T&&c.gl (Str.ofString T))&&decide (Ts.length≤20)
      | none=>if Xi f then decide (Zj as=1)&&c.gl "len" && c.gl "set" && c.cm else if X1 f then decide (Zj as=1)&&c.gl "list" && c.gl "range" && c.cm else if J8 f then decide (Zj as=1)&&c.gl "min" && c.cm else Xy f&&c.gl (Y2 f)&&decide (Zj as≠0)&&(c.cm||XE f))=true:=h1
    cases zl:AG f with
    |some Ts=>cases zl
    |none =>
     rw[zl]at h1;dsimp only at h1;split at h1
     ·rename_i hls;exact absurd (show false=true from hls) (by decide)
     split at h1
     ·rename_i _ hls;have hf:f=.listRange:=by cases f<;>first|rfl|cases hls
      subst hf;rw[bAq,bAq,bAq,decide_eq_true_eq]at h1;obtain⟨⟨⟨h1,h2⟩,h3⟩,h4⟩:=h1;cases as with
      |nil=>cases h1
      |cons a as=>cases as with
       |nil =>have h6:(okE a c _&&true)=true:=h.2;rw[bAq]at h6;exact K9 (g.calm h4) (eE a X c _ g h6.1) (g.gl h2) (g.bl _ (by simp[blts])) (g.gl h3) (g.bl _ (by simp[blts])) (by rw[ZF];rfl)
       |cons b as=>exact absurd h1 (by simp[Zj])
     split at h1
     ·rename_i _ _ hls;have hf:f=.minD:=by cases f<;>first|rfl|cases hls
      subst hf;rw[bAq,bAq,decide_eq_true_eq]at h1;obtain⟨⟨h1,h2⟩,h4⟩:=h1;cases as with
      |nil=>cases h1
      |cons a as=>cases as with
       |nil =>have h6:(okE a c _&&true)=true:=h.2;rw[bAq]at h6;exact Gf (g.calm h4) (by have:=g.un;omega) g.K (g.gl h2) (g.bl _ (by simp[blts])) (eE a X c _ g h6.1) (by rw[ZF];rfl)
       |cons b as=>exact absurd h1 (by simp[Zj])
     rw[bAq,bAq,bAq,decide_eq_true_eq]at h1;obtain⟨⟨⟨h1,h2⟩,h3⟩,h4⟩:=h1;have ha:=eA as X c _ g h.2;cases as with
     |nil=>exact absurd rfl h3
     |cons a as =>
      have e1:toX (.bi f (.cons a as)) c x=.Call (.Name (Y2 f) (kid x 0).pos) (toA (.cons a as) c (NH f x)) [] x.pos:=by cases f<;>first|(cases h1;done)|rfl
      rw[e1];exact DC g h1 h4 (g.gl h2) ha (ZF ..) (Yp ..)
 |.bm m o as,X,c,x,g,h=>by
  have h:(decide (Bv m=some (Zj as))&&okE o c (kid (kid x 0) 0)&&Ys (toX o c (kid (kid x 0) 0))&&((kid x 0).pos.endLine==x.pos.line)&&okA as c (sub x).tail)=true:=h;rw[bAq,bAq,bAq,bAq,decide_eq_true_eq]at h;obtain⟨⟨⟨⟨h1,h2⟩,h3⟩,h4⟩,h5⟩:=h;have ha:=eA as X c _ g h5;have ho:=eE o X c _ g h2;cases as with
  |nil=>exact Bf g h1 ho (fun f=>Yo h3 f _) h4
  |cons a as =>
   refine Dl g h1 ho ha (fun f=>Yo h3 f _) h4 ?_ (ZF ..) (Yp ..);rw[bAq,bAq,decide_eq_true_eq];refine⟨⟨Wu X.env x.pos (.cons a as) c (sub x).tail,rfl⟩,?_⟩;have e2:(toA (.cons a as) c (sub x).tail).length=Zj (.cons a as):=Xw ..;have e3:Zj (.cons a as)≤2:=by
    have:∀ m:Own.Bm,∀ k,Bv m=some k→k≤2:=by intro m k;cases m<;>intro z<;>first|(cases z;done)|(cases z;decide)
    exact this m _ h1
   show(toA (.cons a as) c (sub x).tail).length+0+0<30;omega
 |.idx a b,X,c,x,g,h=>by have h:(okE a c (kid x 0)&&okE b c (kid x 1))=true:=h;rw[bAq]at h;exact HL (ix_seq.or (Dq (by have:=g.un;omega))) (by rw[g.K];exact IV) (eE a X c _ g h.1) (eE b X c _ g h.2) (Bc _ _ _)
 |.slc a lo hi,X,c,x,g,h=>by have h:(okE a c (kid x 0)&&okO lo c (kid (kid x 1) 0)&&okO hi c (kid (kid x 1) 1))=true:=h;rw[bAq,bAq]at h;exact Ip Pe (by rw[g.K];exact Lo) (eE a X c _ g h.1.1) (eO lo X c _ g h.1.2) (eO hi X c _ g h.2)
 |.tup es,X,c,x,g,h=>by have h:(okA es c (sub x)&&decide (Zj es≤1000))=true:=h;rw[bAq,decide_eq_true_eq]at h;exact G7 (by rw[Xw];exact h.2) (eA es X c _ g h.1)
 |.lst es,X,c,x,g,h=>by have h:(okA es c (sub x)&&decide (Zj es≤1000))=true:=h;rw[bAq,decide_eq_true_eq]at h;exact Lj (by rw[Xw];exact h.2) (eA es X c _ g h.1)
 |.dct es,X,c,x,g,h=>by
  have h:(okA es c (sub x)&&WP es&&decide (esL es≤30))=true:=h;rw[bAq,bAq,decide_eq_true_eq]at h;obtain⟨⟨h1,h2⟩,h3⟩:=h;have hp:=eD es X c (sub x) x.pos g h1 h2;cases es with
  |nil=>exact GR
  |cons k r=>cases r with
   |nil=>cases h2
   |cons v r =>obtain⟨q1,q2,q3⟩:=Mi c (.cons k (.cons v r)) (sub x) h2;refine Lr h2 h3 hp q1 q2 (by intro z;cases z) (by rw[←q3]at h3;omega)
 |.ife t a b,X,c,x,g,h=>by have h:(okT t c (kid x 0)&&okE a c (kid x 1)&&okE b c (kid x 2))=true:=h;rw[bAq,bAq]at h;exact Hk (eT t X c _ g h.1.1).1 (eE a X c _ g h.1.2) (eE b X c _ g h.2)
 |.comp caps m p it t e,X,c,x,g,h=>by
  have h:(K2 m p&&c.cm&&Yw (scp x) c.sc c.N (nmX (kid x 1)) caps&&(scp x).kind == .function&&okI it c (kid x 2) false&&okE e (c.blk (scp x) (nmX (kid x 1)) caps) (kid x 0)&&(Nx t||okT t (c.blk (scp x) (nmX (kid x 1)) caps) (kid x 3)))=true:=h;rw[bAq,bAq,bAq,bAq,bAq,bAq]at h;obtain⟨⟨⟨⟨⟨⟨h1,h2⟩,h3⟩,h4⟩,h5⟩,h6⟩,h7⟩:=h;obtain⟨rfl,rfl⟩:=NN h1;have hk:=eq_of_beq h4;exact(Js g h2 h3 hk (eI it X c _ (.Name _ _) g false (by intro z;cases z) (fun _=>⟨_,_,rfl⟩) h5).1 (eI it X c _ (.Name (nmX (kid x 1)) (kid x 1).pos) g false (by intro z;cases z) (fun _=>⟨_,_,rfl⟩) h5).2
    (fun cl C s H ex=>pe0 (eE e _ _ _ (g.blk h3 hk cl C s H ex) h6)) (fun cl C s H ex=>Ik fun z=>(eT t _ _ _ (g.blk h3 hk cl C s H ex) (by rw[z]at h7;exact h7)).1)).1
 |.fstr es,X,c,x,g,h=>nomatch h
 |.split o a,X,c,x,g,h=>nomatch h
 |.rev a,X,c,x,g,h=>nomatch h
theorem eD:∀ (es:Own.Es) (X:Cx) (c:Md) (xs:List Expr) (pos:Pos),Gd X i P n c→okA es c xs=true→WP es=true→PPs X pos (Xs (toA es c xs)) (Bj (toA es c xs)) (NA X i (Own.wF P n) es)
 |.nil,X,c,xs,pos,g,h,he=>CO
 |.cons k .nil,X,c,xs,pos,g,h,he=>by cases he
 |.cons k (.cons v r),X,c,xs,pos,g,h,he=>by have h:(okE k c (xs.headD dE)&&(okE v c (xs.tail.headD dE)&&okA r c xs.tail.tail))=true:=h;rw[bAq,bAq]at h;exact Af (eE k X c _ g h.1) (eE v X c _ g h.2.1) (eD r X c _ pos g h.2.2 he)
theorem eA:∀ (ms:Own.Es) (X:Cx) (c:Md) (xs:List Expr),Gd X i P n c→okA ms c xs=true→PA X (toA ms c xs) (tAr X i (Own.wF P n) ms (toA ms c xs).length)
 |.nil,X,c,xs,g,h=>EG
 |.cons a as,X,c,xs,g,h=>by have h:(okE a c (xs.headD dE)&&okA as c xs.tail)=true:=h;rw[bAq]at h;exact BH (eE a X c _ g h.1) (eA as X c _ g h.2) (ZF ..)
theorem eJ:∀ (ms:Own.Es) (X:Cx) (c:Md) (xs:List Expr),Gd X i P n c→okJ ms c xs=true→PJ X (toJ ms c xs) (tJs X i (Own.wF P n) ms)
 |.nil,X,c,xs,g,h=>FI
 |.cons a as,X,c,xs,g,h=>by
  have h:((OZ a||okE a c (kid (xs.headD dE) 0))&&okJ as c xs.tail)=true:=h;rw[bAq]at h;have hr:=eJ as X c _ g h.2;show PJ X ((if OZ a then toX a c (xs.headD dE)else .FormattedValue (toX a c (kid (xs.headD dE) 0)) (-1) none (xs.headD dE).pos)::toJ as c xs.tail) _;cases z:OZ a with
  |true =>obtain⟨s,rfl⟩:=QM z;exact Nt Fq hr rfl
  |false =>rw[z]at h;exact Nt (FZ (eE a X c _ g h.1)) hr rfl
theorem eO:∀ (m:Own.Oe) (X:Cx) (c:Md) (x:Expr),Gd X i P n c→okO m c x=true→PO X (toO m c x) (tOx X i (Own.wF P n) m)
 |.none,X,c,x,g,h=>Dc
 |.some e,X,c,x,g,h=>CG (eE e X c _ g h)
theorem eT:∀ (m:Own.Tt) (X:Cx) (c:Md) (x:Expr),Gd X i P n c→okT m c x=true→PT X (toT m c x) (tTt X i (Own.wF P n) m)∧((Zy m||ZI m)=true→PW X (toT m c x) (tTt X i (Own.wF P n) m))
 |.yes,X,c,x,g,h=>nomatch h
 |.val e,X,c,x,g,h=>by
  refine⟨?_,fun z=>(by cases z)⟩;have h:(okE e c x&&(Mr e||IH e))=true:=h;rw[bAq]at h;have he:=eE e X c x g h.1;cases z:Mr e with
  |true=>exact GE he (by cases e<;>first|(cases z;done)|exact fun _=>rfl) g.K
  |false =>
   have h2:=h.2;rw[z]at h2;cases e with
   |cmp o a b =>have h:(okE a c (kid x 0)&&okE b c (kid x 1)&&(!Xp o||Mo b))=true:=h.1;rw[bAq,bAq]at h;exact(Mm g h.2 (eE a X c _ g h.1.1) (eE b X c _ g h.1.2)).2
   |chain o1 o2 a b d =>have h:(okE a c (kid x 0)&&okE b c (kid x 1)&&okE d c (kid x 2) && !Xp o1 && !Xp o2)=true:=h.1;rw[bAq,bAq,bAq,bAq,Bool.not_eq_true',Bool.not_eq_true']at h;obtain⟨⟨⟨⟨h1,h2⟩,h3⟩,h4⟩,h5⟩:=h;exact(WY g h4 h5 (eE a X c _ g h1) (eE b X c _ g h2) (eE d X c _ g h3)).2
   |_=>cases h2
 |.not t,X,c,x,g,h=>⟨F9 (eT t X c _ g h).1,fun z=>(by cases z)⟩
 |.and a b,X,c,x,g,h=>by
  have h:(okT a c (kid x 0)&&okT b c (rest (Zy b) x)&&(!Zy b||(rest (Zy b) x).pos==x.pos))=true:=h;rw[bAq,bAq]at h;have h2:=eT b X c _ g h.1.2;obtain⟨y,ys,e,h3⟩:=OT h.2 h2.1 h2.2;have h4:PW X (toT (.and a b) c x) (tTt X i (Own.wF P n) (.and a b)):=by show PW X (.BoolOp .And (toT a c (kid x 0)::Xc (Zy b) (toT b c (rest (Zy b) x))) x.pos) _;rw[e];exact EO (eT a X c _ g h.1.1).1 h3
  exact⟨h4.pt,fun _=>h4⟩
 |.or a b,X,c,x,g,h=>by
  have h:(okT a c (kid x 0)&&okT b c (rest (ZI b) x)&&(!ZI b||(rest (ZI b) x).pos==x.pos))=true:=h;rw[bAq,bAq]at h;have h2:=eT b X c _ g h.1.2;obtain⟨y,ys,e,h3⟩:=AQ h.2 h2.1 h2.2;have h4:PW X (toT (.or a b) c x) (tTt X i (Own.wF P n) (.or a b)):=by show PW X (.BoolOp .Or (toT a c (kid x 0)::Xc (ZI b) (toT b c (rest (ZI b) x))) x.pos) _;rw[e];exact IG (eT a X c _ g h.1.1).1 h3
  exact⟨h4.pt,fun _=>h4⟩
theorem eI:∀ (m:Own.It) (X:Cx) (c:Md) (x tg:Expr),Gd X i P n c→∀ (b:Bool),(b=true→∃ es k p,tg=.Tuple es k p)→(b=false→∃ y p,tg=.Name y p)→okI m c x b=true→PI X tg (toI m c x) (tIt X i (Own.wF P n) m)∧∀ y,foldedSetIterable (toI m c x) X.env y=pure y
 |.seq e,X,c,x,tg,g,b,t1,t2,h=>⟨GI g.K (eE e X c _ g h),E3 _ _ _ _⟩
 |.chars e,X,c,x,tg,g,b,t1,t2,h=>nomatch h
 |.range a,X,c,x,tg,g,b,t1,t2,h=>by have h:(c.gl "range" && okE a c (kid x 1))=true:=h;rw[bAq]at h;exact⟨Uo (g.gl h.1) (g.bl _ (by simp[blts])) (eE a X c _ g h.2) (ZF ..),fun _=>rfl⟩
 |.range2 a d,X,c,x,tg,g,b,t1,t2,h=>nomatch h
 |.zip a d,X,c,x,tg,g,b,t1,t2,h=>by have h:(b&&c.gl "zip" && okE a c (kid x 1)&&okE d c (kid x 2))=true:=h;rw[bAq,bAq,bAq]at h;obtain⟨es,k,p,rfl⟩:=t1 h.1.1.1;exact⟨E4 g.K (g.gl h.1.1.2) (g.bl _ (by simp[blts])) (eE a X c _ g h.1.2) (eE d X c _ g h.2) (ZF ..) (ZF ..),fun _=>rfl⟩
 |.enum e,X,c,x,tg,g,b,t1,t2,h=>nomatch h
 |.items e,_,_,_,_,_,_,_,_,h=>nomatch h
 |.rev e,_,_,_,_,_,_,_,_,h=>nomatch h
end
theorem Ox{X:Cx}{c:Md}(g:Gd X i P n c){caps:List Nat}{m:Nat}{p:Own.Pt}{it:Own.It}{t:Own.Tt}{e:Own.E}{x:Expr}(h:okE (.comp caps m p it t e) c x=true) :
  PE X (toX (.comp caps m p it t e) c x) (tE X i (Own.wF P n) (.comp caps m p it t e))∧
   ∀ (y:Str) (py spos:Pos) (j:Nat),X.N[j]?=some y→L2.Loc X.env.scope y→(X.fn y=true∨X.env.scope.names.lookup y=some .local)→swapsWith (toX (.comp caps m p it t e) c x) (some (.Name y py)) spos.line X.env=pure true→PS X (.Assign [.Name y py] (toX (.comp caps m p it t e) c x) spos) (tSt X i (Own.wF P n) (.set (.one j) (.comp caps m p it t e))):=by
 have h:(K2 m p&&c.cm&&Yw (scp x) c.sc c.N (nmX (kid x 1)) caps&&(scp x).kind == .function&&okI it c (kid x 2) false&&okE e (c.blk (scp x) (nmX (kid x 1)) caps) (kid x 0)&&(Nx t||okT t (c.blk (scp x) (nmX (kid x 1)) caps) (kid x 3)))=true:=h;rw[bAq,bAq,bAq,bAq,bAq,bAq]at h;obtain⟨⟨⟨⟨⟨⟨h1,h2⟩,h3⟩,h4⟩,h5⟩,h6⟩,h7⟩:=h;obtain⟨rfl,rfl⟩:=NN h1;have hk:=eq_of_beq h4;exact Js g h2 h3 hk (eI it X c _ (.Name _ _) g false (by intro z;cases z) (fun _=>⟨_,_,rfl⟩) h5).1 (eI it X c _ (.Name (nmX (kid x 1)) (kid x 1).pos) g false (by intro z;cases z) (fun _=>⟨_,_,rfl⟩) h5).2
  (fun cl C s H ex=>pe0 (eE e _ _ _ (g.blk h3 hk cl C s H ex) h6)) (fun cl C s H ex=>Ik fun z=>(eT t _ _ _ (g.blk h3 hk cl C s H ex) (by rw[z]at h7;exact h7)).1)
noncomputable def dS:Stmt:=.Pass ⟨0,0,0,0⟩
noncomputable def stE:Stmt→List Expr
 |.Assign ts v _=>v::ts
 |.AugAssign t _ v _=>[v,t]
 |.For t it _ _ _=>[t,it]
 |.While t _ _ _=>[t]
 |.If t _ _ _=>[t]
 |.Expr e _=>[e]
 |.Return (some e) _=>[e]
 |.Raise (some e) _ _=>[e]
 |_=>[]
noncomputable def ke (s:Stmt) (j:Nat):Expr:=(stE s).getD j dE
noncomputable def stB:Stmt→List Stmt
 |.For _ _ b _ _=>b
 |.While _ b _ _=>b
 |.If _ b _ _=>b
 |.Try b _ _ _ _=>b
 |_=>[]
noncomputable def stO:Stmt→List Stmt
 |.If _ _ b _=>b
 |_=>[]
noncomputable def stH:Stmt→List ExceptHandler
 |.Try _ hs _ _ _=>hs
 |_=>[]
noncomputable def dH:ExceptHandler:=.ExceptHandler none none [] ⟨0,0,0,0⟩
noncomputable def hT:ExceptHandler→Expr
 |.ExceptHandler (some e) _ _ _=>e
 |_=>dE
noncomputable def hB:ExceptHandler→List Stmt
 |.ExceptHandler _ _ b _=>b
noncomputable def hP:ExceptHandler→Pos
 |.ExceptHandler _ _ _ p=>p
noncomputable def Md.hot (c:Md):Md:={c with cm:=false}
noncomputable def Pm (t:Option Nat) (e:Own.E) (c:Md) (y:Stmt):Stmt:=match t with
 |none=>.Expr (toX e c (ke y 0)) y.pos
 |some j=>.Assign [.Name (c.nmOf j) (ke y 1).pos] (toX e c (ke y 0)) y.pos
mutual
noncomputable def toS:Own.S→Md→Stmt→Stmt
 |.set p a,c,s=>.Assign [toP p c (ke s 1)] (toX a c (ke s 0)) s.pos
 |.setIdx a j e,c,s=>.Assign [.Subscript (toX a c (kid (ke s 1) 0)) (toX j c (kid (ke s 1) 1)) (ke s 1).pos] (toX e c (ke s 0)) s.pos
 |.setFld o f e,c,s=>.Assign [.Attribute (toX o c (kid (ke s 1) 0)) (Str.ofString f) (ke s 1).pos] (toX e c (ke s 0)) s.pos
 |.augVar j op e,c,s=>.AugAssign (.Name (c.nmOf j) (ke s 1).pos) (N7 op) (toX e c (ke s 0)) s.pos
 |.augFld o f op n,c,s=>.AugAssign (.Attribute (toX o c (kid (ke s 1) 0)) (Str.ofString f) (ke s 1).pos) (N7 op) (.Constant (.int n) (num (ke s 0)) (ke s 0).pos) s.pos
 |.augIdx a j op n,c,s=>.AugAssign (.Subscript (toX a c (kid (ke s 1) 0)) (toX j c (kid (ke s 1) 1)) (ke s 1).pos) (N7 op) (.Constant (.int n) (num (ke s 0)) (ke s 0).pos) s.pos
 |.expr e,c,s=>.Expr (toX e c (ke s 0)) s.pos
 |.ret e,c,s=>.Return (some (toX e c (ke s 0))) s.pos
 |.retN,_,s=>.Return none s.pos
 |.ite t a b,c,s=>.If (toT t c (ke s 0)) (toSs a c (stB s)) (toSs b c (stO s)) s.pos
 |.whl t b,c,s=>.While (toT t c (ke s 0)) (toSs b c (stB s)) [] s.pos
 |.for p it b,c,s=>.For (toP p c (ke s 0)) (toI it c (ke s 1)) (toSs b c (stB s)) [] s.pos
 |.forI true p e b,c,s=>.For (toP p c (ke s 0)) (toX e c (ke s 1)) (toSs b c (stB s)) [] s.pos
 |.forI false p e b,c,s=>.For (toP p c (ke s 0)) (.Call (.Attribute (toX e c (kid (kid (ke s 1) 0) 0)) "items" (kid (ke s 1) 0).pos) [] [] (ke s 1).pos) (toSs b c (stB s)) [] s.pos
 |.brk,_,s=>.Break s.pos
 |.cnt,_,s=>.Continue s.pos
 |.pass,_,s=>.Pass s.pos
 |.raise C as,c,s=>.Raise (some (.Call (.Name (Str.ofString C) (kid (ke s 0) 0).pos) (toA as c (sub (ke s 0)).tail) [] (ke s 0).pos)) none s.pos
 |.try t e hs,c,s=>.Try [Pm t e c ((stB s).headD dS)] (toH hs c (stH s)) [] [] s.pos
 |_,_,s=>s
noncomputable def toH:Own.Hn→Md→List ExceptHandler→List ExceptHandler
 |.nil,_,_=>[]
 |.cons K nm b r,c,xs=>.ExceptHandler (some (.Name (Str.ofString K) (hT (xs.headD dH)).pos)) (nm.map c.nmOf) (toSs b c.hot (hB (xs.headD dH))) (hP (xs.headD dH))::toH r c xs.tail
noncomputable def toSs:Own.Ss→Md→List Stmt→List Stmt
 |.nil,_,_=>[]
 |.cons m ms,c,xs=>toS m c (xs.headD dS)::toSs ms c xs.tail
end
noncomputable def DO:Own.E→Bool
 |.idx _ _=>true
 |.var _=>true
 |.fld _ _=>true
 |_=>false
noncomputable def OE (c:Md) (j:Nat):Bool:=decide (j<c.N.length)&&c.loc (c.nmOf j)
noncomputable def okP (p:Own.Pt) (c:Md):Bool:=match p with
 |.one j=>OE c j
 |.many js=>js.all (OE c)
 |.nest _ _=>false
noncomputable def ZR:Own.Pt→Bool
 |.one _=>true
 |_=>false
noncomputable def Ai:Own.E→Bool
 |.tup _=>true
 |_=>false
noncomputable def Mw:Own.E→Bool
 |.comp _ _ _ _ _ _=>true
 |_=>false
noncomputable def swT (c:Md) (tg v:Expr):Bool:=match v,tg with
 |.ListComp _ _ s pos,.Name t p=>(if c.sc.kind.isAnnotationScope then ScopeKind.function else c.sc.kind) == .function&&c.sc.names.lookup t==some .local&&p.line==pos.line && !(s.names.any fun(n,k)=>n==t&&(k == .local||k == .cell))
 |_,_=>false
noncomputable def EL:Own.Bop→Bool
 |.add=>true
 |.sub=>true
 |_=>false
noncomputable def RL:Own.E→Md→Expr→Bool
 |.call f as,c,x=>c.gn f&&c.fs.contains f&&decide (Zj as≠0)&&okA as c (sub x).tail
 |_,_,_=>false
noncomputable def Ql (c:Md) (j:Nat):Bool:=decide (j<c.N.length)&&c.sc.names.lookup (c.nmOf j)==some .local
noncomputable def Qe (c:Md):Option Nat→Bool
 |none=>true
 |some j=>Ql c j
noncomputable def RC (c:Md):Option Nat→Bool
 |none=>true
 |some j=>OE c j
noncomputable def HS:Own.Ss→Bool
 |.nil=>false
 |_=>true
noncomputable def Ht:Own.Hn→Bool
 |.nil=>true
 |_=>false
mutual
noncomputable def okS:Own.S→Md→Stmt→Bool
 |.set p a,c,s=>okP p c&&okE a c (ke s 0)&&(ZR p || !Ai a)&&(ZR p||c.cm)
 |.setIdx a j e,c,s=>okE e c (ke s 0)&&okE a c (kid (ke s 1) 0)&&okE j c (kid (ke s 1) 1)
 |.setFld o f e,c,s=>c.fl.contains f&&okE o c (kid (ke s 1) 0)&&okE e c (ke s 0)
 |.augFld o f op _,c,s=>c.fl.contains f&&okE o c (kid (ke s 1) 0)&&EL op
 |.expr e,c,s=>okE e c (ke s 0) && !Mw e
 |.ret e,c,s=>okE e c (ke s 0)
 |.retN,_,_=>true
 |.ite t a b,c,s=>okT t c (ke s 0)&&okSs a c (stB s)&&okSs b c (stO s)
 |.for p it b,c,s=>okP p c&&okI it c (ke s 1) (!ZR p)&&okSs b c (stB s)&&c.cm
 |.forI true p e b,c,s=>okP p c&&DO e&&okE e c (ke s 1)&&okSs b c (stB s)&&c.cm
 |.forI false p e b,c,s=>okP p c && !ZR p&&okE e c (kid (kid (ke s 1) 0) 0)&&Ys (toX e c (kid (kid (ke s 1) 0) 0))&&((kid (ke s 1) 0).pos.endLine==(ke s 1).pos.line)&&okSs b c (stB s)&&c.cm
 |.never,_,_=>true
 |_,_,_=>false
noncomputable def okH:Own.Hn→Md→List ExceptHandler→Bool
 |.nil,_,_=>false
 |.cons K nm b r,c,xs=>(c.xs.contains K||K == "ShutError")&&c.gn K && !c.xs.isEmpty&&Qe c nm&&HS b&&okSs b c.hot (hB (xs.headD dH))&&Ht r
noncomputable def okSs:Own.Ss→Md→List Stmt→Bool
 |.nil,_,_=>true
 |.cons m ms,c,xs=>okS m c (xs.headD dS)&&okSs ms c xs.tail
end
structure Gs (X:Cx) (i:Inf) (P:Own.Pg) (n:Nat) (c:Md):Prop extends Gd X i P n c where
 fn:∀ x,c.loc x=true→X.fn x=true∨X.env.scope.names.lookup x=some .local
 own:c.cm=true→PassesOwn (model X.prog X.w) X.A X.env X.xe
 stk:c.cm=true→X.stack=X.env::X.outer
variable {X:Cx}{i:Inf}{P:Own.Pg}{n:Nat}{c:Md}
theorem Gs.nm1(g:Gs X i P n c){j:Nat}(h:OE c j=true):X.N[j]?=some (c.nmOf j)∧L2.Loc X.env.scope (c.nmOf j)∧(X.fn (c.nmOf j)=true∨X.env.scope.names.lookup (c.nmOf j)=some .local):=by unfold OE at h;rw[bAq,decide_eq_true_eq]at h;exact⟨BD g.N h.1,g.loc h.2,g.fn _ h.2⟩
theorem Nv(g:Gs X i P n c)(nd:X.N.Nodup)(f:Nat→Pos):∀ (js:List Nat) (k:Nat),js.all (OE c)=true→
  PGs X ((js.zipIdx k).map fun p=>.Name (c.nmOf p.1) (f p.2)) (Av i js)∧(assignEach ((js.zipIdx k).map fun p=>.Name (c.nmOf p.1) (f p.2)) X.env).length=js.length∧(assignEach ((js.zipIdx k).map fun p=>.Name (c.nmOf p.1) (f p.2)) X.env).findIdx? (·.1)=none
 |[],_,_=>⟨Cg,rfl,rfl⟩
 |j::js,k,h=>by
  rw[List.all_cons,bAq]at h;obtain⟨h1,h2,h3⟩:=g.nm1 h.1;obtain⟨a1,a2,a3⟩:=Nv g nd f js (k+1) h.2;rw[List.zipIdx_cons,List.map_cons];refine⟨UW nd h1 h2 h3 a1 rfl,?_,?_⟩
  ·show(assignEach ((js.zipIdx (k+1)).map _) X.env).length+1=js.length+1;rw[a2]
  ·show List.findIdx? (·.1) ((false,assign (.Name (c.nmOf j) (f k)) X.env)::assignEach _ X.env)=none;rw[List.findIdx?_cons];simp[a3]
theorem NM(g:Gs X i P n c)(hcm:c.cm=true){p:Own.Pt}{x:Expr}(h:okP p c=true):PG X (toP p c x) (gPt i p):=by
 have nd:X.N.Nodup:=by rw[g.N];exact g.nd
 cases p with
 |one j =>obtain⟨h1,h2,h3⟩:=g.nm1 h;exact Aw nd h1 h2 h3
 |many js =>obtain⟨a1,a2,a3⟩:=Nv g nd (fun k=>(kid x k).pos) js 0 h;exact CL g.K (g.calm hcm) a1 a2 a3
 |nest j js=>cases h
theorem Wa{l:Nat}{env:Env}{tg:Expr}(a:Own.E)(x:Expr)(hs:env.scope=c.sc):swapsWith (toX a c x) (some tg) l env=pure (swT c tg (toX a c x)):=by
 cases a with
 |comp caps m p it t e =>
  cases tg with
  |Name t q =>unfold swapsWith swT Env.blockKind Env.kindOf;rw[hs];rfl
  |_=>rfl
 |_=>rfl
theorem Fy(p:Own.Pt)(a:Own.E)(x y:Expr)(env:Env)(h:(ZR p || !Ai a)=true):swappedStores [toP p c x] (toX a c y) env=pure none:=by
 cases p with
 |one j=>cases a<;>rfl
 |many js=>cases a<;>first|rfl|cases h
 |nest j js=>cases a<;>first|rfl|cases h
theorem Ue(p:Own.Pt)(x:Expr)(env:Env):(assignEach [toP p c x] env).map (·.2)=[assign (toP p c x) env]:=by cases p<;>rfl
theorem GP{a:Own.E}{tg x:Expr}(h:swT c tg (toX a c x)=true):∃ caps m p it t e,a=.comp caps m p it t e:=by
 cases a with
 |comp caps m p it t e=>exact⟨_,_,_,_,_,_,rfl⟩
 |_=>cases h
theorem Dg(y:Own.E){x b:Expr}{pos:Pos}{env:Env}:∀ v,assign (.Subscript b (toX y c x) pos) env v=(do
    let ov←holding [v] (eval b env)
    let iv←holding [v,ov] (eval (toX y c x) env)
    standAt pos
    holding [v,ov,iv] (setItem ov iv v)
    release [v,ov,iv] []):=by
 intro v;cases y<;>rfl
theorem GX{op:Own.Bop}(h:EL op=true):A1 X (N7 op) (rAS op):=by
 cases op with
 |add =>
  intro pins s σ H x y u v Q I rx ry q;obtain⟨a,b,rfl,rfl,q⟩:=q;rcases q with⟨_,q⟩|⟨z,_⟩
  ·exact Gj pins s σ H _ _ u v Q I rx ry ⟨a,b,rfl,rfl,q⟩
  ·cases z
 |sub =>
  intro pins s σ H x y u v Q I rx ry q;obtain⟨a,b,rfl,rfl,q⟩:=q;rcases q with⟨z,_⟩|⟨_,q⟩
  ·cases z
  ·exact Gw pins s σ H _ _ u v Q I rx ry ⟨a,b,rfl,rfl,q⟩
 |_=>cases h
theorem A5(p:Own.Pt)(x:Expr):((!ZR p)=true→∃ es k q,toP p c x=.Tuple es k q)∧((!ZR p)=false→∃ y q,toP p c x=.Name y q):=by
 cases p with
 |one j=>exact⟨fun z=>(by cases z),fun _=>⟨_,_,rfl⟩⟩
 |many js=>exact⟨fun _=>⟨_,_,_,rfl⟩,fun z=>(by cases z)⟩
 |nest j js=>exact⟨fun _=>⟨_,_,_,rfl⟩,fun z=>(by cases z)⟩
theorem PGet.or{r r':R2}(h:PGet X r)(h':PGet X r'):PGet X (fun x y H Q=>r x y H Q∨r' x y H Q):=fun pins s σ H o j ov jv Q I ro rj q=>by
 rcases q with q|q
 ·exact h pins s σ H o j ov jv Q I ro rj q
 ·exact h' pins s σ H o j ov jv Q I ro rj q
theorem Ce(t v:Expr)(p:Pos)(env:Env)(h:(∃ a b q,t=.Subscript a b q)∨(∃ a b q,t=.Attribute a b q)):swappedStores [t] v env=pure none:=by rcases h with⟨a,b,q,rfl⟩|⟨a,b,q,rfl⟩<;>rfl
theorem De{a:Own.E}{x:Expr}{t:Option Expr}{l:Nat}{env:Env}(h:(!Mw a)=true):swapsWith (toX a c x) t l env=pure false:=by
 cases a with
 |comp caps m p it tt e=>cases h
 |_=>rfl
theorem Be{a:Own.E}{tg x:Expr}(h:∀ y q,tg≠.Name y q):swT c tg (toX a c x)=false:=by
 cases a with
 |comp caps m p it tt e =>
  cases tg with
  |Name y q=>exact absurd rfl (h y q)
  |_=>rfl
 |_=>rfl
theorem GH(g:Gs X i P n c){p:Own.Pt}{x:Expr}(hc:(ZR p||c.cm)=true)(h:okP p c=true):PG X (toP p c x) (gPt i p):=by
 by_cases hcm:c.cm=true
 ·exact NM g hcm h
 ·cases p with
  |one j =>obtain⟨h1,h2,h3⟩:=g.nm1 h;exact Aw (by rw[g.N];exact g.nd) h1 h2 h3
  |many js=>exact absurd hc hcm
  |nest j js=>cases h
def tB0 (i:Inf) (Φ:Own.Fs) (m:Own.Ss):TS:=fun D σ H=>∃ env G N R B C,REn i.K H env σ∧RH i G H∧Own.wSs Φ m env G N R B C (fun _ _ _=>False)∧EOk i H D N R B C
def tCx (i:Inf) (Φ:Own.Fs) (m:Own.E):St→Hp→VK→XK→Prop:=fun σ H Q E=>∃ env G Qm Em,REn i.K H env σ∧RH i G H∧Own.wC Φ m env G Qm Em∧Cn i H Q Qm∧∀ cls d H',XK1 i H Em cls d H'→E cls d H'
theorem Gd.nox(g:Gd X i P n c):Gd X.nox i P n c :=
 ⟨g.K,g.N,g.sc,g.nd,g.un,g.calm,g.room,g.bl,g.dfs,g.cst,⟨g.kl.A,g.kl.F,g.kl.mkc,g.kl.mth⟩,fun h=>⟨(g.xl h).xc,(g.xl h).rs,(g.xl h).kn⟩⟩
theorem Gs.hot(g:Gs X i P n c)(a:Addr):Gs (X.caught a) i P n c.hot :=
 {K:=g.K,N:=g.N,sc:=g.sc,nd:=g.nd,un:=g.un,calm:=fun z=>(by cases z),room:=fun z=>(by cases z),bl:=g.bl,dfs:=g.dfs,cst:=g.cst,kl:=⟨g.kl.A,g.kl.F,g.kl.mkc,g.kl.mth⟩,xl:=fun h=>⟨(g.xl h).xc,(g.xl h).rs,(g.xl h).kn⟩,fn:=g.fn,own:=fun z=>(by cases z),stk:=fun z=>(by cases z)}
mutual
theorem sS:∀ (m:Own.S) (X:Cx) (c:Md) (s:Stmt),Gs X i P n c→okS m c s=true→PS X (toS m c s) (tSt X i (Own.wF P n) m)
 |.set p a,X,c,s,g,h=>by
  have h:(okP p c&&okE a c (ke s 0)&&(ZR p || !Ai a)&&(ZR p||c.cm))=true:=h;rw[bAq,bAq,bAq]at h;obtain⟨⟨⟨h1,h2⟩,h3⟩,h4⟩:=h;by_cases hsw:swT c (toP p c (ke s 1)) (toX a c (ke s 0))=true
  ·obtain⟨caps,k,pt,it,tt,e,rfl⟩:=GP hsw;cases p with
   |one j =>obtain⟨q1,q2,q3⟩:=g.nm1 h1;exact(Ox g.toGd h2).2 _ _ _ j q1 q2 q3 (by rw[←hsw];exact Wa (c:=c) (.comp caps k pt it tt e) (ke s 0) g.sc)
   |many js=>cases hsw
   |nest j js=>cases hsw
  ·have hp:PG X (toP p c (ke s 1)) (gPt i p):=GH g h4 h1;exact ER (eE a X c _ g.toGd h2) hp (by rw[swapsWithSole,Wa a _ g.sc,Bool.eq_false_iff.mpr hsw]) (Fy p a _ _ _ h3) (Ue p _ _)
 |.setIdx a j e,X,c,s,g,h=>by have h:(okE e c (ke s 0)&&okE a c (kid (ke s 1) 0)&&okE j c (kid (ke s 1) 1))=true:=h;rw[bAq,bAq]at h;have ha:=eE a X c _ g.toGd h.1.2;have hj:=eE j X c _ g.toGd h.2;exact Om g.K (eE e X c _ g.toGd h.1.1) ha hj (E2 ha hj (PSet.or UJ (Uj (by have:=g.un;omega))) (Dg j)) (by rw[swapsWithSole,Wa e _ g.sc,Be (fun y q z=>(by cases z))]) (Ce _ _ (ke s 1).pos _ (.inl ⟨_,_,_,rfl⟩)) rfl
 |.setFld o f e,X,c,s,g,h=>by have h:(c.fl.contains f&&okE o c (kid (ke s 1) 0)&&okE e c (ke s 0))=true:=h;rw[bAq,bAq]at h;exact Od g.K g.kl.A (g.kl.F _ h.1.1) (eE o X c _ g.toGd h.1.2) (eE e X c _ g.toGd h.2) (by rw[Wa e _ g.sc,Be (fun y q z=>(by cases z))])
 |.augVar j op e,X,c,s,g,h=>nomatch h
 |.augFld o f op k,X,c,s,g,h=>by have h:(c.fl.contains f&&okE o c (kid (ke s 1) 0)&&EL op)=true:=h;rw[bAq,bAq]at h;exact Ol g.K g.kl.A (g.kl.F _ h.1.1) (GX h.2) (eE o X c _ g.toGd h.1.2)
 |.expr e,X,c,s,g,h=>by have h:(okE e c (ke s 0) && !Mw e)=true:=h;rw[bAq]at h;exact BU (eE e X c _ g.toGd h.1) (De h.2)
 |.ret e,X,c,s,g,h=>EV (eE e X c _ g.toGd h)
 |.retN,X,c,s,g,h=>DE
 |.ite t a b,X,c,s,g,h=>by have h:(okT t c (ke s 0)&&okSs a c (stB s)&&okSs b c (stO s))=true:=h;rw[bAq,bAq]at h;exact Ge (eT t X c _ g.toGd h.1.1).1 (sSs a X c _ g h.1.2) (sSs b X c _ g h.2)
 |.whl t b,X,c,s,g,h=>nomatch h
 |.for p it b,X,c,s,g,h=>by have h:(okP p c&&okI it c (ke s 1) (!ZR p)&&okSs b c (stB s)&&c.cm)=true:=h;rw[bAq,bAq,bAq]at h;obtain⟨⟨⟨h1,h2⟩,h3⟩,h4⟩:=h;obtain⟨t1,t2⟩:=A5 (c:=c) p (ke s 0);obtain⟨a1,a2⟩:=eI it X c (ke s 1) (toP p c (ke s 0)) g.toGd (!ZR p) t1 t2 h2;exact GQ (g.own h4) (g.calm h4) a1 (NM g h4 h1) (sSs b X c _ g h3) a2
 |.forI true p e b,X,c,s,g,h=>by have h:(okP p c&&DO e&&okE e c (ke s 1)&&okSs b c (stB s)&&c.cm)=true:=h;rw[bAq,bAq,bAq,bAq]at h;obtain⟨⟨⟨⟨h1,h2⟩,h3⟩,h6⟩,h7⟩:=h;refine Di (g.own h7) (g.calm h7) (eE e X c _ g.toGd h3) (NM g h7 h1) (sSs b X c _ g h6) fun _=>?_;cases e<;>first|rfl|cases h2
 |.forI false p e b,X,c,s,g,h=>by have h:(okP p c && !ZR p&&okE e c (kid (kid (ke s 1) 0) 0)&&Ys (toX e c (kid (kid (ke s 1) 0) 0))&&((kid (ke s 1) 0).pos.endLine==(ke s 1).pos.line)&&okSs b c (stB s)&&c.cm)=true:=h;rw[bAq,bAq,bAq,bAq,bAq,bAq]at h;obtain⟨⟨⟨⟨⟨⟨h1,h2⟩,h3⟩,h4⟩,h5⟩,h6⟩,h7⟩:=h;obtain⟨es,k,q,et⟩:=(A5 (c:=c) p (ke s 0)).1 h2;have hg:=NM (x:=ke s 0) g h7 h1;show PS X (.For (toP p c (ke s 0)) _ _ _ _) _;rw[et]at hg ⊢;exact BS (g.own h7) (g.calm h7) (eE e X c _ g.toGd h3) hg (sSs b X c _ g h6) (Yo h4 _ _) h5 (fun _=>rfl)
 |.never,X,c,s,g,h=>U6
 |.brk,X,c,s,g,h=>nomatch h
 |.cnt,X,c,s,g,h=>nomatch h
 |.pass,X,c,s,g,h=>nomatch h
 |.raise C as,X,c,s,g,h=>nomatch h
 |.try t e (.cons K nm b .nil),X,c,s,g,h=>nomatch h
 |.try t e (.cons K nm b (.cons _ _ _ _)),X,c,s,g,h=>nomatch h
 |.try t e .nil,X,c,s,g,h=>nomatch h
 |.augIdx a j op k,X,c,s,g,h=>nomatch h
 |.setPair ..,X,c,s,g,h=>nomatch h
theorem sSs:∀ (ms:Own.Ss) (X:Cx) (c:Md) (xs:List Stmt),Gs X i P n c→okSs ms c xs=true→PSs X (toSs ms c xs) (tBl X i (Own.wF P n) ms)
 |.nil,X,c,xs,g,h=>GC
 |.cons m ms,X,c,xs,g,h=>by have h:(okS m c (xs.headD dS)&&okSs ms c xs.tail)=true:=h;rw[bAq]at h;exact Dv (sS m X c _ g h.1) (sSs ms X c _ g h.2)
end
noncomputable def MT (N ps:List Str) (sc:Scope):Bool :=
 sc.kind == .function && !sc.isCoroutine && !sc.isGenerator&&decide N.Nodup&&(N.take ps.length==ps)&&ps.all (fun x=>sc.names.lookup x==some .local||sc.names.lookup x==some .cell)&&sc.names.all fun y=>y.2 != .free
theorem Ii{N ps:List Str}{sc:Scope}(h:MT N ps sc=true):FnScope N ps sc:=by
 simp only[MT,bAq,Bool.not_eq_true',decide_eq_true_eq,List.all_eq_true]at h;obtain⟨⟨⟨⟨⟨⟨h1,h2⟩,h3⟩,h4⟩,h5⟩,h6⟩,h7⟩:=h;refine⟨eq_of_beq h1,h2,h3,h4,eq_of_beq h5,fun x hx=>?_,fun y hy=>?_⟩
 ·simpa using h6 x hx
 ·simpa using h7 y hy
structure Ds where
 st:Stmt
 N:List Str
 ps:List Str
 d:Own.Fn
structure Mt where
 C:String
 m:String
 qual:String
 x:Ds
structure Tb where
 fs:List (String×Ds)
 ms:List Mt
 cs:List (String×Own.Val)
 cl:List String
 fl:List String
 xs:List String
noncomputable def Tb.md (T:Tb) (x:Ds):Md:={N:=x.N,sc:=Zq x.st,cs:=T.cs,fs:=T.fs.map (·.1),cm:=true,cl:=T.cl,ms:=T.ms.map fun y=>(y.C,y.m),fl:=T.fl,xs:=T.xs}
noncomputable def Ds.test (T:Tb) (x:Ds):Bool :=
 MT x.N x.ps (Zq x.st)&&okSs x.d.body (T.md x) (ZK x.st)&&x.ps.length==x.d.ar&&x.N.length==x.d.sz&&decide (x.d.ar≤x.d.sz)
structure Ds.Ok (T:Tb) (x:Ds):Prop where
 ok:x.test T=true
 eq:toSs x.d.body (T.md x) (ZK x.st)=ZK x.st
variable {pr:Program}{wd:World}{mg:Str→Option Value}{base:Heap}{i:Inf}{P:Own.Pg}{T:Tb}
def Dst (K:PySem.W.Frag) (mg:Str→Option Value) (f:String) (x:Ds):Prop:=∃ fa fd qual,Fun K (Str.ofString f) qual x.st fa fd∧mg (Str.ofString f)=some (.ref fa)∧Binds K fd x.ps []
structure Mst (i:Inf) (mg:Str→Option Value) (y:Mt) (a fa:Addr):Prop where
 cl:mg (Str.ofString y.C)=some (.ref a)
 fn:∃ fd,Fun i.K (Str.ofString y.m) (Str.ofString y.qual) y.x.st fa fd∧Binds i.K fd y.x.ps []
 at_:Meth i.K a (Str.ofString y.m) fa
theorem NV{f:String}{fa:Addr}{fd:FuncData}{ps:List Str}:FnOk pr wd i.K mg base (CX1 pr wd) 0 fa fd ps (spF i P 0 f):=by
 refine⟨fun vs H Q E h=>?_,fun A outer s H args us vs Q E hr he hb hv h=>?_⟩
 ·obtain⟨_,_,_,_,_,_,w,_⟩:=h;rw[Own.wF_eq]at w;exact w.elim
 ·obtain⟨_,_,_,_,_,_,w,_⟩:=h;rw[Own.wF_eq]at w;exact w.elim
theorem UK{n:Nat}{f:String}{vs:List Own.Val}{h:Own.Hs}{Q:Own.Q1}{E:Own.XQ}(q:Own.wF P (n+1) f vs h Q E):∃ d,P f=some d∧vs.length=d.ar∧Own.wSs (Own.wF P n) d.body (d.env vs) h (fun _ g=>Q .non g) Q (fun _ _=>False) (fun _ _=>False) fun _ c g=>E c g:=by rw[Own.wF_eq]at q;obtain⟨d,e,q1,q2⟩:=go_some q;exact⟨d,e,q1,by rw[Own.wF_eq];exact q2⟩
structure Modu (mg:Str→Option Value) (base:Heap) (i:Inf) (T:Tb):Prop where
 bl:∀ x∈blts,mg x=none
 cst:∀ x v,T.cs.lookup x=some v→∃ u y,mg (Str.ofString x)=some u∧RelV y u∧∀ H,RV i.K H v y
 A:ClsA i
 F:∀ f,T.fl.contains f=true→FldOk i f
 cl:∀ C a,i.cl C a→mg (Str.ofString C)=some (.ref a)
 mkc:∀ C,T.cl.contains C=true→∃ a y f,i.ins C=true∧i.cl C a∧Mk i.K a f∧y∈T.ms∧y.C=C∧y.m = "__init__"∧Mst i mg y a f
 fs:∀ f x,(f,x)∈T.fs→Dst i.K mg f x
 ms:∀ y,y∈T.ms→∃ a f,Mst i mg y a f∧Cls i.K a
 xc:T.xs≠[]→∀ C a,i.xc C a→XCls i.K a∧PySem.W.kitOne i.K (.ref a) (.type "ValueError")=some true
 rs:T.xs≠[]→∀ C,T.xs.contains C=true→∃ a,i.xc C a∧PyProof.Rows.OwnCls (Str.ofString C) a [.type "ValueError",.type "Exception",.type "BaseException",.type "object"] "ValueError.__new__" mg base
 kn:T.xs≠[]→∀ T',(T.xs.contains T'||T' == "ShutError")=true→∃ D,mg (Str.ofString T')=some (.ref D)∧∀ C a,i.xc C a→PySem.W.kitOne i.K (.ref a) (.ref D)=some (Own.excSub C T')∧(Own.excSub C T'=true→PySem.W.exmOne i.K (.ref a) (.ref D)=some true)
structure Held (pr:Program) (wd:World) (mg:Str→Option Value) (base:Heap) (i:Inf) (P:Own.Pg) (T:Tb) (n:Nat):Prop where
 fs:∀ f x,(f,x)∈T.fs→Dfo pr wd mg base i P n f
 ms:∀ y a f,y∈T.ms→Mst i mg y a f→Dfm pr wd mg base i P n (y.C ++ "." ++ y.m) f
theorem fn_succ{n:Nat}{f:String}{x:Ds}{fa:Addr}{fd:FuncData}{nm qual:Str}(M:Modu mg base i T)(hn:Held pr wd mg base i P T n)(F:Fun i.K nm qual x.st fa fd)(hP:P f=some x.d)(ht:x.Ok T):FnOk pr wd i.K mg base (CX1 pr wd) (2*(n+1)) fa fd x.ps (spF i P (n+1) f):=by
 obtain⟨ht,heq⟩:=ht;simp only[Ds.test,bAq,decide_eq_true_eq]at ht;obtain⟨⟨⟨⟨h1,h2⟩,h3⟩,h4⟩,h5⟩:=ht;have h3:=eq_of_beq h3;have h4:=eq_of_beq h4;have S:=Ii h1;refine F.ok1 (k:=2*n+1) S (fun vs H Q E h=>?_) (fun cdv A outer s H vs Q E hr hsp hw=>?_)
 ·obtain⟨args,G,Qm,Em,r,g,w,_⟩:=h;obtain⟨d,e,q,_⟩:=UK w;rw[hP]at e;cases e;rw[←r.length,q,h3]
 ·obtain⟨args,G,Qm,Em,r,g,w,cn,ex⟩:=hsp;obtain⟨d,e,q,w⟩:=UK w;rw[hP]at e;cases e;have gd:Gs (Jf (CX1 pr wd) pr wd i.K mg base x.N qual (Zq x.st) fa cdv A outer s H E) i P n (T.md x) :=
   { K:=rfl,N:=rfl,sc:=rfl,nd:=S.nd,un:=(by have:=hr.un;show(A.deeper _).units+200<cLine;omega),calm:=fun _=>rfl,room:=fun _=>hr,bl:=M.bl
     dfs:=fun g hg=>(by
       obtain⟨p,hy,e⟩:=List.mem_map.mp (List.contains_iff_mem.mp hg)
       subst e
       exact hn.fs p.1 p.2 hy)
     cst:=M.cst
     kl:=⟨M.A,M.F,fun C hC=>(by
       obtain⟨a,y,f,q1,q2,q3,q4,rfl,q6,q7⟩:=M.mkc C hC
       refine⟨a,f,q1,q2,q3,M.cl _ _ q2,?_⟩
       have:=hn.ms y a f q4 q7
       rw[q6]at this
       rwa [show y.C ++ ".__init__" = y.C ++ "." ++ "__init__" by rw[String.append_assoc];rfl]),fun C m hC=>(by
       obtain⟨y,hy,e⟩:=List.mem_map.mp (List.contains_iff_mem.mp hC)
       cases e
       obtain⟨a,f,q1,q2⟩:=M.ms y hy
       refine⟨a,f,fun b hb=>?_,q2,q1.at_,hn.ms y a f hy q1⟩
       have e1:=M.cl _ _ hb
       rw[q1.cl]at e1
       cases e1
       rfl)⟩
     xl:=fun h=>⟨M.xc h,M.rs h,M.kn h⟩
     fn:=fun _ _=>.inl rfl
     own:=fun _=>PassesOwn.leaving
     stk:=fun _=>rfl }
  have hb:=sSs x.d.body _ _ _ gd h2;rw[heq]at hb;refine⟨_,hb,?_⟩;refine⟨x.d.env args,G,(fun _ g=>Qm .non g),Qm,(fun _ _=>False),(fun _ _=>False),(fun _ c g=>Em c g),?_,w,?_⟩
  ·refine⟨?_,g,?_⟩
   ·have:=REn.start (n:=x.d.sz - x.d.ar) r;unfold L2.start;have e1:x.N.length - vs.length=x.d.sz - x.d.ar:=by rw[h4,←r.length,q]
    rw[e1];exact this
   ·intro pins σ H0 s0 H' a cls s' I fl hx;obtain⟨e,c,G',ad,q1,q2,q3,q4,q5⟩:=hx;exact hw pins σ H0 s0 H' a cls s' I fl (ex _ _ _ ⟨c,G',ad,q1,q2,q3,q4,q5⟩)
  ·refine⟨?_,?_,?_,?_⟩
   ·intro env' σ' G' H' k g' e w';exact cn .non G' H' .non k g' .non w'
   ·intro v G' H' y k g' rv w';exact cn v G' H' y k g' rv w'
   ·intro _ _ _ _ _ _ _ z;exact z.elim
   ·intro _ _ _ _ _ _ _ z;exact z.elim
theorem held_all (M:Modu mg base i T) (hP:∀ f x,(f,x)∈T.fs→P f=some x.d) (hPm:∀ y,y∈T.ms→P (y.C ++ "." ++ y.m)=some y.x.d) (ht:∀ f x,(f,x)∈T.fs→x.Ok T) (htm:∀ y,y∈T.ms→y.x.Ok T):∀ n,Held pr wd mg base i P T n:=by
 intro n;induction n with
 |zero =>
  refine⟨fun f x h=>?_,fun y a f hy S=>?_⟩
  ·obtain⟨fa,fd,qual,F,hm,hb⟩:=M.fs f x h;exact⟨fa,fd,x.ps,NV,hm,F.kp,hb⟩
  ·obtain⟨fd,F,hb⟩:=S.fn;exact⟨fd,y.x.ps,NV,hb⟩
 |succ n ih =>
  refine⟨fun f x h=>?_,fun y a f hy S=>?_⟩
  ·obtain⟨fa,fd,qual,F,hm,hb⟩:=M.fs f x h;exact⟨fa,fd,x.ps,fn_succ M ih F (hP f x h) (ht f x h),hm,F.kp,hb⟩
  ·obtain⟨fd,F,hb⟩:=S.fn;exact⟨fd,y.x.ps,fn_succ M ih F (hPm y hy) (htm y hy),hb⟩
end Snd
namespace Hd
open PySem PySem.W PyProof.Rows
noncomputable def XZ (st:SharedT→Thread→Option (SharedT×Thread)) (ok th:Thread→Bool):Nat→SharedT→Thread→Option SharedT
 |0,_,_=>none
 |n+1,s,t=>match th t with
  |true=>some s
  |false=>match ok t with
   |false=>none
   |true=>match st s t with
    |some (s',t')=>XZ st ok th n s' t'
    |none=>none
theorem WD{tb:String→Option Builtin}{p:Program}{w:World}{n₀:Nat}{ann:Option Value}:∀ {n:Nat}{s s':SharedT}{t:Thread},XZ (stepT (denote tb) p w) (stepOk n₀ ann) through n s t=some s'→topRun tb p w n₀ ann n s.abs t=some s'.abs
 |0,_,_,_,h=>by cases h
 |n+1,s,s',t,h=>by
  unfold XZ at h;unfold topRun;cases ht:through t with
  |true=>rw[ht]at h;cases h;rfl
  |false =>
   rw[ht]at h;dsimp only at h ⊢;cases hk:stepOk n₀ ann t with
   |false=>rw[hk]at h;cases h
   |true =>
    rw[hk]at h;dsimp only at h ⊢;cases hs:stepT (denote tb) p w s t with
    |none=>rw[hs]at h;cases h
    |some r =>obtain⟨s2,t2⟩:=r;rw[hs]at h;rw[stepT_spec hs];exact WD h
noncomputable def Wv (P:Params):BT :=
 .node (boot_o_0 P) (.node (boot_o_1 P) (.node (boot_o_3 P) (.node (boot_o_7 P) .nil .nil) .nil) (.node (boot_o_5 P) (.node (boot_o_9 P) .nil .nil) .nil))
  (.node (boot_o_2 P) (.node (boot_o_4 P) (.node (boot_o_8 P) .nil .nil) .nil) (.node (boot_o_6 P) (.node (boot_o_10 P) .nil .nil) .nil))
theorem UH(P:Params):absHeap (Wv P) 11 {}=boot_heap P:=by kernel_rfl
theorem Oj (P:Params):((boot_heap P).isNs mainGlobals&&(Array.mk []:Array GenState).size==0,(boot_heap P).objs.size,(boot_heap P).nsMap mainGlobals "__annotations__")=(true,11,some (.ref 6)):=by
 rw[show @Heap.nsMap=_ from Fast.te8920871248978507458]
 kernel_rfl
noncomputable def DQ:=Fast.tw10156331382660048174
noncomputable def NT:=Fast.tw11892475500146522536
noncomputable def AV:=Fast.tw14364793385576792824
noncomputable def okY:=Fast.tw6613529449190102663
noncomputable def DJ:=Fast.tw4187177175401517315
noncomputable def A3:=Fast.tw5923862056798008813
noncomputable def Nw {α:Type}(p q:Program) (loose:List Str) (Xt:Shared→Bool) (Yf:Shared→α) (h0:Heap) (s:SharedT) :=
 ((staticsOk (A3 p.main.body) h0 s.abs.heap&&namesBound p s.abs.heap&&gensDone s.abs&&laidKept h0 s.abs.heap),DJ q loose (A3 p.main.body) Xt true s.abs,Yf s.abs)
theorem left_of{p q:Program}{loose:List Str}{Xt:Shared→Bool}{α:Type}{Yf:Shared→α}{Ya:World→α}{N:Nat}(e:opening p=plainProg p.main.scope.names)(hN:Nat.ble 600 N=true)(f:∀ s,fenceModules? p s=some s)
  (one:∀ (w:World) (os:OsState),(XZ (DQ (NT AV) p w) (okY 11 (some (.ref 6))) through N ⟨Wv w.params,11,{},Array.mk [],boot_drawn,boot_toks,os⟩ (topStub p)).map (Nw p q loose Xt Yf (boot_heap w.params))=some (true,openGood q loose,Ya w)) :
  LeftO p q loose Xt Yf Ya N:=by
 intro w;obtain⟨⟨h,gs,d,k,os⟩,e1,e2⟩:=Option.map_eq_some_iff.mp (boot_open e hN f w);obtain⟨rfl,rfl,rfl,rfl⟩:h=boot_heap w.params∧gs=Array.mk []∧d=boot_drawn∧k=boot_toks:=by simpa using e2
 obtain⟨s,r,z⟩:=Option.map_eq_some_iff.mp (one w os);obtain⟨z1,z2,z3⟩:_∧_∧_:=by simpa only[Prod.mk.injEq]using Oj w.params
 obtain⟨l1,l2,l3⟩:_∧_∧_:=by simpa only[Nw,Prod.mk.injEq]using z
 unfold DQ NT AV okY at r;rw[←Fast.te10156331382660048174,←Fast.te11892475500146522536,←Fast.te14364793385576792824,←Fast.te6613529449190102663]at r;unfold A3 at l1 l2;unfold DJ at l2;rw[←Fast.te5923862056798008813]at l1 l2;rw[←Fast.te4187177175401517315]at l2;have r2:=WD r;have ea:(SharedT.mk (Wv w.params) 11 {} (Array.mk []) boot_drawn boot_toks os).abs=⟨boot_heap w.params,Array.mk [],boot_drawn,boot_toks,os⟩:=by show Shared.mk (absHeap _ _ _) _ _ _ _=_;rw[UH]
 rw[ea]at r2;have t:topFrom treeTable p w N ⟨boot_heap w.params,Array.mk [],boot_drawn,boot_toks,os⟩=some s.abs:=by unfold topFrom;dsimp only;rw[z1,z2,z3,r2];show(match staticsOk (importedModules p.main.body) (boot_heap w.params) s.abs.heap&&namesBound p s.abs.heap&&gensDone s.abs&&laidKept (boot_heap w.params) s.abs.heap with|true=>_|false=>_)=_;rw[l1]
 unfold openEnds;rw[e1];show(topFrom treeTable p w N _).map _=_;rw[t];exact congrArg some (Prod.ext l2 l3)
end Hd
namespace Hd
open PySem PySem.W PyProof.Rows L2
noncomputable def Jn:Nat→List Obj→Frag
 |_,[]=>[]
 |i,o::r=>match o with
  |⟨_,_,.freed,_⟩=>Jn (i+1) r
  |o=>(i,o)::Jn (i+1) r
noncomputable def ZD (g:Heap):Frag:=Jn 0 g.objs.toList
theorem K8:∀ (l:List Obj) (i a:Nat) (o:Obj),(Jn i l).lookup a=some o→i≤a∧l[a - i]?=some o∧(match some o with|some ⟨_,_,.freed,_⟩=>none|o=>o)=some o
 |[],_,_,_,h=>by cases h
 |x::r,i,a,o,h=>by
  have rec1:(Jn (i+1) r).lookup a=some o→i≤a∧(x::r)[a - i]?=some o∧(match some o with|some ⟨_,_,.freed,_⟩=>none|o=>o)=some o:=fun q=>by obtain⟨h1,h2,h3⟩:=K8 r (i+1) a o q;refine⟨by omega,?_,h3⟩;rw[show a - i=(a - (i+1))+1 by omega,List.getElem?_cons_succ];exact h2
  unfold Jn at h;split at h
  ·exact rec1 h
  ·rename_i c hne;rw[List.lookup_cons]at h;split at h
   ·rename_i e;cases h;have e:=eq_of_beq e;subst e;refine⟨Nat.le_refl _,by rw[Nat.sub_self];rfl,?_⟩;split
    ·rename_i d1 d2 d3 d4;cases d4;exact(hne _ _ _ rfl).elim
    ·rfl
   ·exact rec1 h
theorem Nc{g:Heap}{a:Addr}{o:Obj}(h:(ZD g).lookup a=some o):g.get? a=some o:=by obtain⟨_,h2,h3⟩:=K8 _ _ _ _ h;unfold Heap.get?;rw[Nat.sub_zero,Array.getElem?_toList]at h2;rw[h2];exact h3
noncomputable def Am (K:Frag) (nm:Str):Option (FuncData×Bool×Bool):=match nsIn K mainGlobals nm with
 |some (some (.ref f))=>match K.lookup f with
  |some ⟨_,_,.func fd,_⟩=>some ({fd with kwdefaults:=.none,doc:=.none,pyModule:=.none,annotations:=none,code:=.none,closureTuple:=.none},codeIn K fd.code fd.qualname,keepIn K (.ref f))
  |_=>none
 |_=>none
noncomputable def Az (nm:Str) (st:Stmt):Option (FuncData×Bool×Bool):=some (fnOf nm nm (Yv st) (ZK st) (Zq st) .none .none .none .none none .none .none,true,true)
theorem Fb{K:Frag}{nm:Str}{st:Stmt}(e:Am K nm=Az nm st):∃ fa fd,Fun K nm nm st fa fd∧nsIn K mainGlobals nm=some (some (.ref fa)):=by
 unfold Am at e;split at e
 ·rename_i f hf;split at e
  ·rename_i oc od fd sl hl;simp only[Az,Option.some.injEq,Prod.mk.injEq]at e;obtain⟨e1,e2,e3⟩:=e;obtain⟨n1,n2,n3,n4,n5,n6,n7,n8,n9,n10,n11,n12,n13,n14,n15⟩:=fd;simp only[fnOf,FuncData.mk.injEq]at e1;obtain⟨rfl,rfl,rfl,rfl,rfl,rfl,rfl,rfl,-,-,-,-,-,-,rfl⟩:=e1;exact⟨f,_,A0 hl e2 e3,hf⟩
  ·cases e
 ·cases e
noncomputable def D5 (K:Frag) (y:Str):Bool:=match nsIn K mainGlobals y with
 |some none=>true
 |_=>false
theorem Dm{l:OpenLaw}{n k:Nat}{q:Program}{loose:List Str}{XP:(Str→Option Value)→Heap→Prop}{YP:World→Heap→Prop}{d:DefRec}{CX:World→CXT}{x:Str}
  (hn:l.most=some n) (hn2:n≤sizeLine) (hdf:d.params.defaults=[]) (hr:Room k callerA)
  (F:∀ (w:World) (mg:Str→Option Value) (fa:Addr) (h:Heap),YP w h→h.Ns mainGlobals mg→mg d.name=some (.ref fa)→∃ (K:Frag) (sp:Sp),K.In h∧
    (∃ fd:FuncData,(∀ (s:Shared) (u:Value),BindsTo s fd ⟨[u],[]⟩ [(x,u)])∧∀ base:Heap,K.In base→base.Ns mainGlobals mg→FnOk l.prog w K mg base (CX w) k fa fd [x] sp)∧
    ∀ (H:Hp) (a:Addr) (ns:List Int),ns.length≤n→En H→SqL K H a (ns.map V.int)→sp [.ref a] H (fun v _=>v=.bl true) fun _ _ _=>False)
  (hCX:∀ (w:World) (H:Hp) (s:Shared) (e:Value) (s':Shared),CX w [] H s (fun _ _ _=>False) e s'→False) :
  WalkO q loose XP YP l.row.toRowW d [] (fun f vs=>PySem.call f vs):=by
 refine Att.attach_call hn hdf fun w s₀ s₁ mg mb fa o pm cd doc a vs ns G Y ho hd hcd hmg hobj hints hlen hg=>?_;obtain⟨K,sp,KX,⟨fd,hb,hF⟩,hsp⟩:=F w mg fa _ Y G.T.g hmg;exact BA KX G.T.g G.T.b G.T.builtins G.T.nolimit hg hobj hints (Nat.le_trans hlen hn2) hr hF hb (fun H hO hS=>hsp H a ns hlen hO hS) fun H e s'=>hCX w H s₁ e s'
noncomputable def Cu (f:Value→Own.Val→Bool):List Value→List Own.Val→Bool
 |[],[]=>true
 |u::us,x::xs=>f u x&&Cu f us xs
 |_,_=>false
noncomputable def DL (K:Frag):Value→Option (List Value)
 |.ref a=>match K.lookup a with
  |some ⟨.type n,_,.seq us _,_⟩=>if n == "tuple" && decide (us.size≤sizeLine)then some us.toList else none
  |_=>none
 |_=>none
noncomputable def C3 (K:Frag):Nat→Value→Own.Val→Bool
 |0,_,_=>false
 |n+1,u,v=>match v with
  |.non=>(match u with|.none=>true|_=>false)
  |.bl b=>(match u with|.bool a=>a==b|_=>false)
  |.int j=>(match u with|.int i _=>i==j|_=>false)
  |.str t=>(match u with|.str s _=>Fast.sEq s (Str.ofString t)|_=>false)
  |.tup xs=>(match DL K u with|some us=>Cu (C3 K n) us xs|none=>false)
  |_=>false
theorem UR{K:Frag}{f:Value→Own.Val→Bool}(hf:∀ u v,f u v=true→∃ z,RelV z u∧∀ H,Snd.RV K H v z):∀ (us:List Value) (xs:List Own.Val),Cu f us xs=true→∃ zs,Vals zs us∧∀ H,Snd.RVs K H xs zs
 |[],[],_=>⟨[],.nil,fun _=>.nil⟩
 |u::us,x::xs,h=>by rw[Cu,bAq]at h;obtain⟨z,r,q⟩:=hf u x h.1;obtain⟨zs,rs,qs⟩:=UR hf us xs h.2;exact⟨z::zs,.cons r rs,fun H=>.cons (q H) (qs H)⟩
 |[],_::_,h=>by cases h
 |_::_,[],h=>by cases h
theorem AA{K:Frag}:∀ (n:Nat) (u:Value) (v:Own.Val),C3 K n u v=true→∃ z,RelV z u∧∀ H,Snd.RV K H v z
 |0,_,_,h=>by cases h
 |n+1,u,v,h=>by
  unfold C3 at h;cases v with
  |non =>
   dsimp only at h;split at h
   ·exact⟨.non,rfl,fun _=>.non⟩
   ·cases h
  |bl b =>
   dsimp only at h;split at h
   ·cases eq_of_beq h;exact⟨.bl b,rfl,fun _=>.bl b⟩
   ·cases h
  |int j =>
   dsimp only at h;split at h
   ·cases eq_of_beq h;exact⟨.int j,⟨_,rfl⟩,fun _=>.int j⟩
   ·cases h
  |str t =>
   dsimp only at h;split at h
   ·cases Fast.sEq_iff.mp h;exact⟨.str (Str.ofString t),⟨_,rfl⟩,fun _=>.str t⟩
   ·cases h
  |tup xs =>
   dsimp only at h;split at h
   ·rename_i us hu;obtain⟨zs,rs,qs⟩:=UR (fun u v=>AA n u v) us xs h;unfold DL at hu;split at hu
    ·rename_i a;split at hu
     ·rename_i nm od its k sl hl;split at hu
      ·rename_i hc;rw[bAq,decide_eq_true_eq]at hc;cases eq_of_beq hc.1;cases hu;exact⟨.ref a,rfl,fun H=>.tup (.inr ⟨_,its,k,hl,rfl,rfl,hc.2,rs⟩) (qs H)⟩
      ·cases hu
     ·cases hu
    ·cases hu
   ·cases h
  |ref a=>cases h
  |scr ns=>cases h
noncomputable def Ur (K:Frag) (p:String×Own.Val):Bool:=match nsIn K mainGlobals (Str.ofString p.1)with
 |some (some u)=>C3 K 4 u p.2
 |_=>false
theorem WC{α β:Type}[BEq α][LawfulBEq α]{a:α}{b:β}:∀ {l:List (α×β)},l.lookup a=some b→(a,b)∈l
 |[],h=>by cases h
 |(x,y)::r,h=>by
  rw[List.lookup_cons]at h;split at h
  ·rename_i e;cases h;cases eq_of_beq e;exact .head _
  ·exact .tail _ (WC h)
theorem EI{K:Frag}{mg:Str→Option Value}{h:Heap}{x:Str}{C:Addr}{bmB:List Value}{id:String}(X:K.In h)(hm:mg x=some (.ref C))(q:excIn K C bmB id=true):PyProof.Rows.OwnCls x C bmB id mg h:=by
 constructor
 ·exact hm
 have z:=q;unfold excIn at z;split at z
 next dd cd sl ho =>
  split at z
  next C1 bm k0 k1 k2 k3 n k5 em es =>
   rw[bAq,bAq,bAq,bAq,bAq]at z;obtain⟨⟨⟨⟨⟨z1,z2⟩,z3⟩,z4⟩,z5⟩,z6⟩:=z;have z1:=eq_of_beq z1;have z2:=eq_of_beq z2;have z6:=eq_of_beq z6;subst z1 z2;have z3b:cd.hasDel=false:=by
    cases e:cd.hasDel with
    |false=>rfl
    |true=>rw[e]at z3;cases z3
   have es':sl=#[k0,k1,k2,k3,some (.builtin n),k5]:=Array.toList_inj.mp es;have nN:=nsMap_none_of_in X z5 z6;have nI:=Heap.Ns.of_isNs (isNs_of_in X z5);have tI:=tail_of_in X z4;cases cd;dsimp only at em z3b nN nI;subst em z3b es';exact⟨bm,_,_,_,_,_,_,_,_,_,dd,k0,k1,k2,k3,k5,_,X _ _ ho,nI,nN,tI⟩
  next=>cases z
 next=>cases z
noncomputable def Eo (K:Frag) (f:Addr):Option (FuncData×Bool×Bool):=match K.lookup f with
 |some ⟨_,_,.func fd,_⟩=>some ({fd with kwdefaults:=.none,doc:=.none,pyModule:=.none,annotations:=none,code:=.none,closureTuple:=.none},codeIn K fd.code fd.qualname,keepIn K (.ref f))
 |_=>none
noncomputable def MC (nm qual:Str) (st:Stmt):Option (FuncData×Bool×Bool):=some (fnOf nm qual (Yv st) (ZK st) (Zq st) .none .none .none .none none .none .none,true,true)
theorem EM{K:Frag}{nm qual:Str}{st:Stmt}{f:Addr}(e:Eo K f=MC nm qual st):∃ fd,Fun K nm qual st f fd:=by
 unfold Eo at e;split at e
 ·rename_i oc od fd sl hl;simp only[MC,Option.some.injEq,Prod.mk.injEq]at e;obtain⟨e1,e2,e3⟩:=e;obtain⟨n1,n2,n3,n4,n5,n6,n7,n8,n9,n10,n11,n12,n13,n14,n15⟩:=fd;simp only[fnOf,FuncData.mk.injEq]at e1;obtain⟨rfl,rfl,rfl,rfl,rfl,rfl,rfl,rfl,-,-,-,-,-,-,rfl⟩:=e1;exact⟨_,A0 hl e2 e3⟩
 ·cases e
noncomputable def Wj (K:Frag) (C:String):Option Addr:=match nsIn K mainGlobals (Str.ofString C)with
 |some (some (.ref a))=>some a
 |_=>none
theorem XU{K:Frag}{C:String}{a:Addr}(h:Wj K C=some a):nsIn K mainGlobals (Str.ofString C)=some (some (.ref a)):=by
 unfold Wj at h;split at h
 ·cases h;assumption
 ·cases h
structure CV where
 pg:Bool
 hd:Bool
 po:Bool
 sa:Option (Option Value)
noncomputable def C5 (K:Frag) (a:Addr):CV:=⟨plainGet K a Str.empty,hasDictIn K a,plainOver K a,findIn K (.ref a) "__setattr__"⟩
noncomputable def Nh:CV:=⟨true,true,true,some (some (.builtin "object.__setattr__"))⟩
theorem AE{K:Frag}{a:Addr}(h:C5 K a=Nh):Cls K a:=by simp only[C5,Nh,CV.mk.injEq]at h;exact⟨h.1,h.2.1,h.2.2.1,h.2.2.2⟩
structure MV where
 fn:Option (FuncData×Bool×Bool)
 isf:Bool
 cv:CV
noncomputable def US (K:Frag) (y:Snd.Mt):Option MV:=match Wj K y.C with
 |some a=>match findIn K (.ref a) (Str.ofString y.m)with
  |some (some (.ref f))=>some ⟨Eo K f,isFn K (.ref f),C5 K a⟩
  |_=>none
 |none=>none
noncomputable def Ax (y:Snd.Mt):Option MV:=some ⟨MC (Str.ofString y.m) (Str.ofString y.qual) y.x.st,true,Nh⟩
theorem GW{K:Frag}{y:Snd.Mt}(e:US K y=Ax y):∃ a f fd,nsIn K mainGlobals (Str.ofString y.C)=some (some (.ref a))∧Fun K (Str.ofString y.m) (Str.ofString y.qual) y.x.st f fd∧Meth K a (Str.ofString y.m) f∧Cls K a:=by
 unfold US at e;split at e
 ·rename_i a ha;split at e
  ·rename_i f hf;simp only[Ax,Option.some.injEq,MV.mk.injEq]at e;obtain⟨e1,e2,e3⟩:=e;obtain⟨fd,F⟩:=EM e1;exact⟨a,f,fd,XU ha,F,⟨hf,e2,F.kp⟩,AE e3⟩
  ·cases e
 ·cases e
structure QV where
 mks:Bool
 kp:Bool
 cv:CV
 fl:List (Option (Option Value))
noncomputable def Uu (K:Frag) (fl:List String) (C:String):Option QV:=match Wj K C with
 |some a=>some ⟨makesIn K a,keepIn K (.ref a),C5 K a,fl.map fun f=>findIn K (.ref a) (Str.ofString f)⟩
 |none=>none
noncomputable def BB (fl:List String):Option QV:=some ⟨true,true,Nh,fl.map fun _=>some none⟩
theorem DT{K:Frag}{fl:List String}{C:String}(e:Uu K fl C=BB fl):∃ a,nsIn K mainGlobals (Str.ofString C)=some (some (.ref a))∧makesIn K a=true∧keepIn K (.ref a)=true∧Cls K a∧∀ f∈fl,NoAttr K a (Str.ofString f):=by
 unfold Uu at e;split at e
 ·rename_i a ha;simp only[BB,Option.some.injEq,QV.mk.injEq]at e;obtain⟨e1,e2,e3,e4⟩:=e;exact⟨a,XU ha,e1,e2,AE e3,fun f hf=>List.map_inj_left.mp e4 f hf⟩
 ·cases e
structure XV where
 ex:Bool
 f1:Option (Option Value)
 f2:Option (Option Value)
 f3:Option (Option Value)
 m1:Option Bool
 m2:Option Bool
 ci:Bool
 ve:Option Bool
 ks:List (Option (Option Bool×Option Bool))
noncomputable def UL (K:Frag) (xs:List String) (C:String):Option XV:=match Wj K C with
 |some a=>some ⟨excIn K a [.type "ValueError",.type "Exception",.type "BaseException",.type "object"] "ValueError.__new__",findIn K (.ref a) "__getattribute__",findIn K (.ref a) "__getattr__",findIn K (.ref a) "__class__",mroIn K a (.type "object"),mroIn K a (.type "BaseException"),(clsIn K a).isSome,kitOne K (.ref a) (.type "ValueError"),("ShutError" :: xs).map fun T=>(Wj K T).map fun D=>(kitOne K (.ref a) (.ref D),exmOne K (.ref a) (.ref D))⟩
 |none=>none
noncomputable def AO (xs:List String) (C:String):Option XV:=some ⟨true,some (some (.builtin "BaseException.__getattribute__")),some none,some (some (.builtin "object.__class__")),some true,some true,true,some true,("ShutError" :: xs).map fun T=>some (some (Own.excSub C T),some (Own.excSub C T))⟩
theorem A4 {K:Frag}{xs:List String}{C:String}(e:UL K xs C=AO xs C):∃ a,nsIn K mainGlobals (Str.ofString C)=some (some (.ref a))∧excIn K a [.type "ValueError",.type "Exception",.type "BaseException",.type "object"] "ValueError.__new__" = true∧XCls K a∧kitOne K (.ref a) (.type "ValueError")=some true∧
  ∀ T∈"ShutError" :: xs,∃ D,nsIn K mainGlobals (Str.ofString T)=some (some (.ref D))∧kitOne K (.ref a) (.ref D)=some (Own.excSub C T)∧exmOne K (.ref a) (.ref D)=some (Own.excSub C T):=by
 unfold UL at e;split at e
 ·rename_i a ha;simp only[AO,Option.some.injEq,XV.mk.injEq]at e;obtain⟨e1,e2,e3,e4,e5,e6,e7,e8,e9⟩:=e;refine⟨a,XU ha,e1,⟨e2,e3,e4,e5,e6,e7⟩,e8,fun T hT=>?_⟩;have:=List.map_inj_left.mp e9 T hT;cases z:Wj K T with
  |none=>rw[z]at this;cases this
  |some D =>rw[z]at this;simp only[Option.map_some,Option.some.injEq,Prod.mk.injEq]at this;exact⟨D,XU z,this.1,this.2⟩
 ·cases e
structure View where
 fs:List (Option (FuncData×Bool×Bool))
 ms:List (Option MV)
 cl:List (Option QV)
 xs:List (Option XV)
 ok:Bool
noncomputable def view (T:Snd.Tb) (K:Frag):View:=⟨T.fs.map fun p=>Am K (Str.ofString p.1),T.ms.map (US K),T.cl.map (Uu K T.fl),T.xs.map (UL K T.xs),T.cs.all (Ur K)&&Snd.blts.all (D5 K)⟩
noncomputable def due (T:Snd.Tb):View:=⟨T.fs.map fun p=>Az (Str.ofString p.1) p.2.st,T.ms.map Ax,T.cl.map fun _=>BB T.fl,T.xs.map (AO T.xs),true⟩
noncomputable def hook (T:Snd.Tb):Hook where
 α:=View
 obs:=fun s=>view T (ZD s.heap)
 val:=fun _=>due T
 says:=fun _ h=>∃ g:Heap,view T (ZD g)=due T∧∀ b o,g.get? b=some o→h.get? b=some o
 of:=fun _ s e=>⟨s.heap,e,fun _ _ x=>x⟩
 keeps:=fun _ _ _ ⟨g,e,k⟩ k2=>⟨g,e,fun b o x=>k2 b o (k b o x)⟩
def Bd (nm qual:Str) (x:Snd.Ds):Prop:=∀ (kV doc pm:Value) (an:Option Addr) (cdv ct:Value) (us:List Value),us.length=x.ps.length→bindArgs (fnOf nm qual (Yv x.st) (ZK x.st) (Zq x.st) .none kV doc pm an cdv ct) ⟨us,[]⟩=pure (x.ps.zip us)
noncomputable def BO (T:Snd.Tb):Bool:=T.cl.all fun C=>T.ms.any fun y=>y.C==C&&y.m == "__init__"
theorem law_walk{l:OpenLaw}{q:Program}{loose:List Str}{XP:(Str→Option Value)→Heap→Prop}{d:DefRec}{T:Snd.Tb}{pg:Own.Pg}{k:Nat}{xl:Snd.Ds}
  (hn:l.most=some 63) (hdf:d.params.defaults=[]) (hdn:d.name=Str.ofString "law") (hr:Room (2*(k+1)) callerA) (hlaw:("law",xl)∈T.fs) (hps:xl.ps=[Str.ofString "script"]) (hin:BO T=true)
  (tab_pg:∀ f x,(f,x)∈T.fs→pg f=some x.d) (tab_pm:∀ y,y∈T.ms→pg (y.C ++ "." ++ y.m)=some y.x.d) (tab_ok:∀ f x,(f,x)∈T.fs→x.Ok T) (tab_om:∀ y,y∈T.ms→y.x.Ok T)
  (tab_bd:∀ f x,(f,x)∈T.fs→Bd (Str.ofString f) (Str.ofString f) x) (tab_bm:∀ y,y∈T.ms→Bd (Str.ofString y.m) (Str.ofString y.qual) y.x)
  (ok:∀ ns:List Int,ns.length≤63→Own.wF pg (k+1) "law" [.scr ns] (fun _=>none) (fun v _=>v=.bl true) fun _ _=>False) :
  WalkO q loose XP (hook T).says l.row.toRowW d [] (fun f vs=>PySem.call f vs):=by
 refine Dm (n:=63) (k:=2*(k+1)) (x:=Str.ofString "script") (CX:=fun w=>CX1 l.prog w) hn (by decide) hdf hr (fun w mg fa h Y G hmg=>?_) fun _ _ _ _ _ ⟨_,_,_,_,_,z⟩=>z;obtain⟨g,e,keep⟩:=Y;have X:(ZD g).In h:=fun a o z=>keep a o (Nc z);simp only[view,due,View.mk.injEq]at e;obtain⟨e1,e3,e4,e5,e2⟩:=e;rw[bAq,List.all_eq_true,List.all_eq_true]at e2
 let i:Snd.Inf:=⟨ZD g,fun C a=>T.cl.contains C=true∧mg (Str.ofString C)=some (.ref a),fun C=>T.cl.contains C,fun C a=>T.xs.contains C=true∧mg (Str.ofString C)=some (.ref a)⟩
 have hF:∀ f x,(f,x)∈T.fs→∃ fa fd,Fun (ZD g) (Str.ofString f) (Str.ofString f) x.st fa fd∧mg (Str.ofString f)=some (.ref fa):=fun f x hx=>by obtain⟨fa,fd,F,z⟩:=Fb (List.map_inj_left.mp e1 (f,x) hx);exact⟨fa,fd,F,mg_of X G z⟩
 have hcl:∀ C a,i.cl C a→makesIn (ZD g) a=true∧keepIn (ZD g) (.ref a)=true∧Cls (ZD g) a∧∀ f∈T.fl,NoAttr (ZD g) a (Str.ofString f):=fun C a ⟨hc,hm⟩=>by obtain⟨b,z,q⟩:=DT (List.map_inj_left.mp e4 C (List.contains_iff_mem.mp hc));have:=mg_of X G z;rw[hm]at this;cases this;exact q
 have hms:∀ y,y∈T.ms→∃ a f,Snd.Mst i mg y a f∧Cls i.K a:=fun y hy=>by obtain⟨a,f,fd,z,F,M,A⟩:=GW (List.map_inj_left.mp e3 y hy);exact⟨a,f,⟨mg_of X G z,⟨fd,F,F.binds (tab_bm y hy)⟩,M⟩,A⟩
 have hxc:∀ C a,i.xc C a→excIn (ZD g) a [.type "ValueError",.type "Exception",.type "BaseException",.type "object"] "ValueError.__new__" = true∧XCls (ZD g) a∧kitOne (ZD g) (.ref a) (.type "ValueError")=some true∧
   ∀ T'∈"ShutError" :: T.xs,∃ D,nsIn (ZD g) mainGlobals (Str.ofString T')=some (some (.ref D))∧kitOne (ZD g) (.ref a) (.ref D)=some (Own.excSub C T')∧exmOne (ZD g) (.ref a) (.ref D)=some (Own.excSub C T'):=fun C a ⟨hc,hm⟩=>by
  obtain⟨b,z,q⟩:=A4 (List.map_inj_left.mp e5 C (List.contains_iff_mem.mp hc));have:=mg_of X G z;rw[hm]at this;cases this;exact q
 have mod:∀ base:Heap,(ZD g).In base→Snd.Modu mg base i T:=fun base Xb =>
  { bl:=fun y hy=>by
      have:=e2.2 y hy
      unfold D5 at this
      split at this
      · rename_i z;exact mg_none_of X G z
      · cases this
    cst:=fun y v hv=>by
      have:=e2.1 _ (WC hv)
      unfold Ur at this
      split at this
      · rename_i u z
        obtain⟨x,r,rv⟩:=AA 4 u v this
        exact⟨u,x,mg_of X G z,r,rv⟩
      · cases this
    A:=⟨fun C a _ z=>(hcl C a z).2.2.1⟩
    F:=fun f hf=>⟨fun C a z=>(hcl C a z).2.2.2 f (List.contains_iff_mem.mp hf)⟩
    cl:=fun C a z=>z.2
    mkc:=fun C hC=>by
      obtain⟨a,z,_⟩:=DT (List.map_inj_left.mp e4 C (List.contains_iff_mem.mp hC))
      have hi:i.cl C a:=⟨hC,mg_of X G z⟩
      obtain⟨y,hy,e⟩:=List.any_eq_true.mp (List.all_eq_true.mp hin C (List.contains_iff_mem.mp hC))
      rw[bAq]at e
      obtain⟨b,f,S,A⟩:=hms y hy
      have h1:=eq_of_beq e.1
      have h2:=eq_of_beq e.2
      have hb:=S.cl
      rw[h1,hi.2]at hb
      cases hb
      refine⟨a,y,f,hC,hi,⟨(hcl C a hi).1,?_,S.at_.fn,(hcl C a hi).2.1⟩,hy,h1,h2,S⟩
      have:=S.at_.at_
      rw[h2]at this
      exact this
    fs:=fun f x hx=>by
      obtain⟨fa,fd,F,m⟩:=hF f x hx
      exact⟨fa,fd,_,F,m,F.binds (tab_bd f x hx)⟩
    ms:=hms
    xc:=fun _ C a z=>⟨(hxc C a z).2.1,(hxc C a z).2.2.1⟩
    rs:=fun _ C hC=>by
      obtain⟨a,z,q1,_⟩:=A4 (List.map_inj_left.mp e5 C (List.contains_iff_mem.mp hC))
      exact⟨a,⟨hC,mg_of X G z⟩,EI Xb (mg_of X G z) q1⟩
    kn:=fun hne T' hT=>by
      have hT2:T'∈"ShutError" :: T.xs:=by
        rcases (Bool.or_eq_true ..).mp hT with z|z
        · exact .tail _ (List.contains_iff_mem.mp z)
        · cases eq_of_beq z;exact .head _
      obtain⟨C0,hC0⟩:=List.exists_mem_of_ne_nil _ hne
      obtain⟨a0,z0,_,_,_,q0⟩:=A4 (List.map_inj_left.mp e5 C0 hC0)
      obtain⟨D,zD,_⟩:=q0 T' hT2
      refine⟨D,mg_of X G zD,fun C a z=>?_⟩
      obtain⟨D2,z2,k1,k2⟩:=(hxc C a z).2.2.2 T' hT2
      rw[zD]at z2
      cases z2
      exact⟨k1,fun e=>by rw[k2,e]⟩ }
 obtain⟨fl,fd,F,m⟩:=hF "law" xl hlaw;have ef:=hmg.symm.trans (hdn▸m);cases ef;refine⟨ZD g,Snd.spF i pg (k+1) "law",X,⟨fd,fun s u=>?_,fun base Xb _=>?_⟩,fun H a ns hl hO hS=>?_⟩
 ·have B:=F.ex;obtain⟨oc,od,kV,dc,pm,an,cdv,ct,sl,rfl,lk,hcd⟩:=B;have:=tab_bd "law" xl hlaw kV dc pm an cdv ct [u] (by rw[hps];rfl);rw[hps]at this;exact .of_eq this
 ·have M:=mod base Xb;have:=Snd.fn_succ (i:=i) (pr:=l.prog) (wd:=w) (base:=base) (mg:=mg) (P:=pg) (n:=k) M (Snd.held_all M tab_pg tab_pm tab_ok tab_om k) F (tab_pg "law" xl hlaw) (tab_ok "law" xl hlaw);rw[hps]at this;exact this
 ·refine⟨[.scr ns],fun _=>none,fun v _=>v=.bl true,fun _ _=>False,.cons (.scr ?_) .nil,fun _ _ e=>(by cases e),ok ns hl,?_,?_⟩
  ·rcases hS with(h|⟨o,h⟩)|h
   ·rcases hO a with z|⟨o,xs,z⟩
    ·rw[h]at z;cases z
    ·rw[h]at z;cases z
   ·exact .inl ⟨o,h⟩
   ·exact .inr h
  ·intro v G' H' x _ _ r e;subst e;exact r.bl_inv
  ·rintro cls d H' ⟨_,_,_,_,_,_,_,z⟩;exact z
end Hd
set_option maxRecDepth 20000
set_option maxHeartbeats 2000000
namespace Own
abbrev B0 (P:Pg) (n:Nat) (d:Fn) (e:Env) (h:Hs) (Q:Q1) (X:XQ):Prop:=wSs (wF P n) d.body e h (fun _ g=>Q .non g) Q (fun _ _=>False) (fun _ _=>False) fun _ c g=>X c g
variable {P:Pg}{n:Nat}{a0 a1 a2 a3 a4 a5 a6 a7:Val}{h:Hs}{Q:Q1}{X:XQ}
noncomputable abbrev SV:Fn:={ ar:=1,sz:=1,body:=(.cons .never
    .nil) }
noncomputable abbrev ST:Fn:={ ar:=2,sz:=2,body:=(.cons (.ret (.cmp .gt (.idx (.var 0) (.glob "NUMBER" (.int 0))) (.idx (.var 1) (.glob "NUMBER" (.int 0)))))
    .nil) }
noncomputable abbrev SZ:Fn:={ ar:=2,sz:=3,body:=(.cons (.set (.one 2) (.comp [0] 1 (.one 0) (.seq (.var 1)) (.val (.cmp .lt (.idx (.var 0) (.cst (.int 0))) (.var 1))) (.var 0)))
    (.cons (.ret (.bi .minD (.cons (.var 2) .nil)))
    .nil)) }
noncomputable abbrev RU:Fn:={ ar:=5,sz:=8,body:=(.cons (.setFld (.var 0) "number" (.var 1))
    (.cons (.setFld (.var 0) "life" (.var 2))
    (.cons (.setFld (.var 0) "age_let_go" (.var 4))
    (.cons (.setFld (.var 0) "ties_by_place" (.dct .nil))
    (.cons (.for (.many [5,6,7]) (.seq (.var 3)) (.cons (.setIdx (.fld (.var 0) "ties_by_place") (.var 5) (.tup (.cons (.var 6) (.cons (.var 7) .nil))))
    .nil))
    (.cons (.setFld (.var 0) "held_by_place" (.dct .nil))
    (.cons (.setFld (.var 0) "label_now" (.tup (.cons (.var 1) (.cons (.cst (.int 0)) (.cons (.cst .non) (.cons (.cst .non) .nil))))))
    (.cons (.setFld (.var 0) "version" (.cst (.int 0)))
    (.cons (.setFld (.var 0) "ticks_had" (.cst (.int 0)))
    .nil))))))))) }
noncomputable abbrev R8:Fn:={ ar:=1,sz:=1,body:=(.cons (.expr (.call "_wall" (.cons (.cst (.int 0)) .nil)))
    .nil) }
noncomputable abbrev R0:Fn:={ ar:=1,sz:=1,body:=(.cons (.ret (.fld (.var 0) "label_now"))
    .nil) }
noncomputable abbrev R5:Fn:={ ar:=1,sz:=1,body:=(.cons (.ret (.tup (.cons (.fld (.var 0) "life") (.cons (.fld (.var 0) "version") .nil))))
    .nil) }
noncomputable abbrev RW:Fn:={ ar:=2,sz:=2,body:=(.cons (.ret (.bm .dget (.fld (.var 0) "held_by_place") (.cons (.var 1) .nil)))
    .nil) }
noncomputable abbrev R9:Fn:={ ar:=4,sz:=4,body:=(.cons (.ite (.val (.cmp .notin (.var 1) (.fld (.var 0) "ties_by_place"))) (.cons (.setIdx (.fld (.var 0) "ties_by_place") (.var 1) (.tup (.cons (.var 2) (.cons (.var 3) .nil))))
    .nil) .nil)
    .nil) }
noncomputable abbrev RZ:Fn:={ ar:=2,sz:=2,body:=(.cons (.expr (.bm .dpopD (.fld (.var 0) "ties_by_place") (.cons (.var 1) (.cons (.cst .non) .nil))))
    (.cons (.expr (.bm .dpopD (.fld (.var 0) "held_by_place") (.cons (.var 1) (.cons (.cst .non) .nil))))
    .nil)) }
noncomputable abbrev RX:Fn:={ ar:=3,sz:=4,body:=(.cons (.ite (.val (.cmp .notin (.var 1) (.fld (.var 0) "ties_by_place"))) (.cons .retN
    .nil) .nil)
    (.cons (.set (.one 3) (.meth "Bridge" "held" (.var 0) (.cons (.var 1) .nil)))
    (.cons (.ite (.or (.val (.cmp .is (.var 3) (.cst .non))) (.val (.call "newer" (.cons (.var 2) (.cons (.idx (.var 3) (.cst (.int 0))) .nil))))) (.cons (.setIdx (.fld (.var 0) "held_by_place") (.var 1) (.tup (.cons (.var 2) (.cons (.idx (.var 2) (.glob "AGE" (.int 4))) .nil))))
    .nil) .nil)
    .nil))) }
noncomputable abbrev R7:Fn:={ ar:=1,sz:=2,body:=(.cons (.expr (.meth "Bridge" "let_grow_older" (.var 0) .nil))
    (.cons (.expr (.meth "Bridge" "take_label" (.var 0) (.cons (.meth "Bridge" "reckon_label" (.var 0) .nil) .nil)))
    (.cons (.set (.one 1) (.comp [0] 1 (.one 0) (.seq (.bi .sorted (.cons (.fld (.var 0) "ties_by_place") .nil))) .yes (.tup (.cons (.var 0) (.cons (.meth "Bridge" "letter_over" (.var 1) (.cons (.var 0) .nil)) .nil)))))
    (.cons (.augFld (.var 0) "ticks_had" .add 1)
    (.cons (.ret (.var 1))
    .nil))))) }
noncomputable abbrev R1:Fn:={ ar:=1,sz:=4,body:=(.cons (.set (.one 1) (.dct .nil))
    (.cons (.forI false (.many [2,3]) (.fld (.var 0) "held_by_place") (.cons (.ite (.val (.cmp .lt (.bin .add (.idx (.var 3) (.cst (.int 1))) (.cst (.int 1))) (.fld (.var 0) "age_let_go"))) (.cons (.setIdx (.var 1) (.var 2) (.tup (.cons (.idx (.var 3) (.cst (.int 0))) (.cons (.bin .add (.idx (.var 3) (.cst (.int 1))) (.cst (.int 1))) .nil))))
    .nil) .nil)
    .nil))
    (.cons (.setFld (.var 0) "held_by_place" (.var 1))
    .nil))) }
noncomputable abbrev R4:Fn:={ ar:=1,sz:=8,body:=(.cons (.set (.one 1) (.lst .nil))
    (.cons (.forI false (.many [2,3]) (.fld (.var 0) "held_by_place") (.cons (.set (.many [4,5]) (.idx (.fld (.var 0) "ties_by_place") (.var 2)))
    (.cons (.expr (.bm .append (.var 1) (.cons (.tup (.cons (.idx (.idx (.var 3) (.cst (.int 0))) (.glob "ROOT" (.int 2))) (.cons (.bin .add (.idx (.idx (.var 3) (.cst (.int 0))) (.glob "COST" (.int 3))) (.var 5)) (.cons (.var 4) (.cons (.var 2) .nil))))) .nil)))
    .nil)))
    (.cons (.set (.one 6) (.call "best_offer" (.cons (.fld (.var 0) "number") (.cons (.var 1) .nil))))
    (.cons (.ite (.val (.cmp .is (.var 6) (.cst .non))) (.cons (.ret (.tup (.cons (.fld (.var 0) "number") (.cons (.cst (.int 0)) (.cons (.cst .non) (.cons (.cst .non) .nil))))))
    .nil) .nil)
    (.cons (.set (.many [7,5,4,2]) (.var 6))
    (.cons (.ret (.tup (.cons (.var 7) (.cons (.var 5) (.cons (.var 2) (.cons (.idx (.idx (.idx (.fld (.var 0) "held_by_place") (.var 2)) (.cst (.int 0))) (.glob "STAMP" (.int 1))) .nil))))))
    .nil)))))) }
noncomputable abbrev R6:Fn:={ ar:=2,sz:=2,body:=(.cons (.ite (.val (.cmp .ne (.var 1) (.fld (.var 0) "label_now"))) (.cons (.setFld (.var 0) "label_now" (.var 1))
    (.cons (.augFld (.var 0) "version" .add 1)
    .nil)) .nil)
    .nil) }
noncomputable abbrev R3:Fn:={ ar:=2,sz:=8,body:=(.cons (.set (.many [2,3,4,5]) (.fld (.var 0) "label_now"))
    (.cons (.set (.one 6) (.ife (.val (.cmp .is (.var 4) (.cst .non))) (.cst (.int 0)) (.bin .add (.idx (.idx (.fld (.var 0) "held_by_place") (.var 4)) (.cst (.int 1))) (.cst (.int 1)))))
    (.cons (.set (.one 7) (.tup (.cons (.tup (.cons (.fld (.var 0) "life") (.cons (.fld (.var 0) "ticks_had") .nil))) (.cons (.meth "Bridge" "stamp" (.var 0) .nil) (.cons (.var 2) (.cons (.var 3) (.cons (.var 6) .nil)))))))
    (.cons (.ite (.val (.cmp .eq (.var 1) (.var 4))) (.cons (.ret (.bin .add (.var 7) (.tup (.cons (.var 5) (.cons (.cst .non) .nil)))))
    .nil) .nil)
    (.cons (.ite (.val (.meth "Bridge" "is_rested_on" (.var 0) (.cons (.var 1) .nil))) (.cons (.ret (.bin .add (.var 7) (.tup (.cons (.cst .non) (.cons (.idx (.idx (.idx (.fld (.var 0) "held_by_place") (.var 1)) (.cst (.int 0))) (.glob "STAMP" (.int 1))) .nil)))))
    .nil) .nil)
    (.cons (.ret (.bin .add (.var 7) (.tup (.cons (.cst .non) (.cons (.cst .non) .nil)))))
    .nil)))))) }
noncomputable abbrev RT:Fn:={ ar:=2,sz:=3,body:=(.cons (.set (.one 2) (.meth "Bridge" "held" (.var 0) (.cons (.var 1) .nil)))
    (.cons (.ret (.and (.cmp .isnot (.var 2) (.cst .non)) (.cmp .eq (.idx (.idx (.var 2) (.cst (.int 0))) (.glob "RESTS" (.int 5))) (.meth "Bridge" "stamp" (.var 0) .nil))))
    .nil)) }
noncomputable abbrev RS:Fn:={ ar:=2,sz:=2,body:=(.cons (.expr (.call "_wall" (.cons (.cst (.int 1)) .nil)))
    .nil) }
noncomputable abbrev RY:Fn:={ ar:=2,sz:=2,body:=(.cons (.expr (.call "_wall" (.cons (.cst (.int 2)) .nil)))
    .nil) }
noncomputable abbrev SS:Fn:={ ar:=1,sz:=1,body:=(.cons (.ite (.val (.cmp .ge (.var 0) (.bin .pow (.cst (.int 10)) (.cst (.int 18))))) (.cons (.ret (.lst (.cons (.var 0) (.cons (.bin .mod (.var 0) (.cst (.int 2147483629))) .nil))))
    .nil) .nil)
    (.cons (.ret (.lst (.cons (.cst (.int 0)) (.cons (.bin .mod (.var 0) (.cst (.int 2147483629))) .nil))))
    .nil)) }
noncomputable abbrev SK:Fn:={ ar:=2,sz:=4,body:=(.cons (.ite (.val (.cmp .gt (.idx (.var 0) (.cst (.int 0))) (.cst (.int 0)))) (.cons (.set (.one 2) (.bin .mod (.idx (.var 0) (.cst (.int 0))) (.var 1)))
    (.cons (.setIdx (.var 0) (.cst (.int 0)) (.bin .fdiv (.idx (.var 0) (.cst (.int 0))) (.var 1)))
    (.cons (.ret (.var 2))
    .nil))) .nil)
    (.cons (.set (.one 3) (.bin .mod (.bin .add (.bin .mul (.idx (.var 0) (.cst (.int 1))) (.cst (.int 48271))) (.cst (.int 11))) (.cst (.int 2147483647))))
    (.cons (.set (.one 3) (.bin .mod (.bin .mul (.var 3) (.var 3)) (.cst (.int 2147483587))))
    (.cons (.setIdx (.var 0) (.cst (.int 1)) (.bin .mod (.bin .add (.bin .mul (.var 3) (.cst (.int 69621))) (.cst (.int 40692))) (.cst (.int 2147483629))))
    (.cons (.ret (.bin .mod (.bin .fdiv (.idx (.var 0) (.cst (.int 1))) (.cst (.int 8))) (.var 1)))
    .nil))))) }
noncomputable abbrev SE:Fn:={ ar:=2,sz:=4,body:=(.cons (.ite (.val (.cmp .is (.var 1) (.cst .non))) (.cons (.ret (.cmp .is (.var 0) (.cst .non)))
    .nil) .nil)
    (.cons (.ite (.val (.bi (.isi ["bool"]) (.cons (.var 1) .nil))) (.cons (.ret (.and (.bi (.isi ["bool"]) (.cons (.var 0) .nil)) (.cmp .eq (.var 0) (.var 1))))
    .nil) .nil)
    (.cons (.ite (.val (.bi (.isi ["int"]) (.cons (.var 1) .nil))) (.cons (.ret (.and (.bi (.isi ["int"]) (.cons (.var 0) .nil)) (.and (.not (.bi (.isi ["bool"]) (.cons (.var 0) .nil))) (.cmp .eq (.var 0) (.var 1)))))
    .nil) .nil)
    (.cons (.ite (.val (.bi (.isi ["str"]) (.cons (.var 1) .nil))) (.cons (.ret (.and (.bi (.isi ["str"]) (.cons (.var 0) .nil)) (.cmp .eq (.var 0) (.var 1))))
    .nil) .nil)
    (.cons (.ite (.and (.val (.bi (.isi ["tuple"]) (.cons (.var 1) .nil))) (.not (.val (.bi (.isi ["tuple"]) (.cons (.var 0) .nil))))) (.cons (.ret (.cst (.bl false)))
    .nil) .nil)
    (.cons (.ite (.and (.val (.bi (.isi ["list"]) (.cons (.var 1) .nil))) (.not (.val (.bi (.isi ["list"]) (.cons (.var 0) .nil))))) (.cons (.ret (.cst (.bl false)))
    .nil) .nil)
    (.cons (.ite (.val (.cmp .ne (.bi .len (.cons (.var 0) .nil)) (.bi .len (.cons (.var 1) .nil)))) (.cons (.ret (.cst (.bl false)))
    .nil) .nil)
    (.cons (.for (.many [2,3]) (.zip (.var 0) (.var 1)) (.cons (.ite (.not (.val (.call "_law_same" (.cons (.var 2) (.cons (.var 3) .nil))))) (.cons (.ret (.cst (.bl false)))
    .nil) .nil)
    .nil))
    (.cons (.ret (.cst (.bl true)))
    .nil))))))))) }
noncomputable abbrev SW:Fn:={ ar:=1,sz:=1,body:=(.cons (.ret (.idx (.lst (.cons (.cst (.int 1)) (.cons (.cst (.int 2)) (.cons (.cst (.int 3)) (.cons (.cst (.int 1000)) (.cons (.bin .add (.cst (.int 1)) (.call "_law_draw" (.cons (.var 0) (.cons (.cst (.int 1000)) .nil)))) .nil)))))) (.call "_law_draw" (.cons (.var 0) (.cons (.cst (.int 5)) .nil)))))
    .nil) }
noncomputable abbrev SL:Fn:={ ar:=2,sz:=3,body:=(.cons (.set (.one 2) (.lst (.cons (.bin .mod (.bin .add (.var 1) (.cst (.int 1))) (.cst (.int 1000))) (.cons (.bin .mod (.bin .add (.var 1) (.cst (.int 7))) (.cst (.int 1000))) (.cons (.bin .mod (.bin .add (.var 1) (.cst (.int 999))) (.cst (.int 1000))) (.cons (.bin .mod (.bin .add (.bin .add (.var 1) (.cst (.int 1))) (.call "_law_draw" (.cons (.var 0) (.cons (.cst (.int 999)) .nil)))) (.cst (.int 1000))) .nil))))))
    (.cons (.ret (.comp [0,2] 1 (.one 0) (.range (.cst (.int 16))) .yes (.tup (.cons (.idx (.var 2) (.call "_law_draw" (.cons (.var 1) (.cons (.cst (.int 4)) .nil)))) (.cons (.call "_law_cost" (.cons (.var 1) .nil)) .nil)))))
    .nil)) }
noncomputable abbrev SR:Fn:={ ar:=1,sz:=4,body:=(.cons (.set (.one 1) (.bi .listRange (.cons (.cst (.int 16)) .nil)))
    (.cons (.set (.one 2) (.lst .nil))
    (.cons (.for (.one 3) (.range (.idx (.lst (.cons (.cst (.int 0)) (.cons (.cst (.int 1)) (.cons (.cst (.int 2)) (.cons (.cst (.int 2)) (.cons (.cst (.int 3)) (.cons (.cst (.int 5)) (.cons (.cst (.int 16)) .nil)))))))) (.call "_law_draw" (.cons (.var 0) (.cons (.cst (.int 7)) .nil))))) (.cons (.expr (.bm .append (.var 2) (.cons (.bm .popAt (.var 1) (.cons (.call "_law_draw" (.cons (.var 0) (.cons (.bi .len (.cons (.var 1) .nil)) .nil))) .nil)) .nil)))
    .nil))
    (.cons (.ret (.var 2))
    .nil)))) }
noncomputable abbrev SG:Fn:={ ar:=1,sz:=4,body:=(.cons (.set (.one 1) (.idx (.lst (.cons (.cst (.int 0)) (.cons (.cst (.int 1)) (.cons (.cst (.int 5)) (.cons (.cst (.int 998)) (.cons (.cst (.int 999)) (.cons (.cst (.int 3)) (.cons (.cst (.int 40)) (.cons (.call "_law_draw" (.cons (.var 0) (.cons (.cst (.int 1000)) .nil))) .nil))))))))) (.call "_law_draw" (.cons (.var 0) (.cons (.cst (.int 8)) .nil)))))
    (.cons (.set (.one 2) (.idx (.lst (.cons (.cst (.int 0)) (.cons (.cst (.int 1)) (.cons (.bin .pow (.cst (.int 10)) (.cst (.int 30))) (.cons (.call "_law_draw" (.cons (.var 0) (.cons (.bin .pow (.cst (.int 10)) (.cst (.int 8))) .nil))) .nil))))) (.call "_law_draw" (.cons (.var 0) (.cons (.cst (.int 4)) .nil)))))
    (.cons (.set (.one 3) (.idx (.lst (.cons (.cst (.int 4)) (.cons (.cst (.int 5)) (.cons (.cst (.int 6)) (.cons (.cst (.int 8)) (.cons (.cst (.int 40)) (.cons (.cst (.int 199)) (.cons (.cst (.int 200)) (.cons (.bin .add (.cst (.int 4)) (.call "_law_draw" (.cons (.var 0) (.cons (.cst (.int 197)) .nil)))) .nil))))))))) (.call "_law_draw" (.cons (.var 0) (.cons (.cst (.int 8)) .nil)))))
    (.cons (.ret (.dct (.cons (.cst (.str "own")) (.cons (.var 1) (.cons (.cst (.str "life")) (.cons (.var 2) (.cons (.cst (.str "most")) (.cons (.var 3) (.cons (.cst (.str "all")) (.cons (.call "_law_ties" (.cons (.var 0) (.cons (.var 1) .nil))) (.cons (.cst (.str "first")) (.cons (.call "_law_up_first" (.cons (.var 0) .nil)) .nil))))))))))))
    .nil)))) }
noncomputable abbrev SM:Fn:={ ar:=1,sz:=1,body:=(.cons (.ret (.comp [0] 1 (.one 0) (.seq (.idx (.var 0) (.cst (.str "first")))) .yes (.tup (.cons (.var 0) (.cons (.idx (.idx (.idx (.var 1) (.cst (.str "all"))) (.var 0)) (.cst (.int 0))) (.cons (.idx (.idx (.idx (.var 1) (.cst (.str "all"))) (.var 0)) (.cst (.int 1))) .nil))))))
    .nil) }
noncomputable abbrev SH:Fn:={ ar:=1,sz:=3,body:=(.cons (.set (.one 1) (.call "_law_start" (.cons (.var 0) .nil)))
    (.cons (.setIdx (.var 1) (.cst (.str "ties")) (.dct .nil))
    (.cons (.for (.one 2) (.seq (.idx (.var 1) (.cst (.str "first")))) (.cons (.setIdx (.idx (.var 1) (.cst (.str "ties"))) (.var 2) (.idx (.idx (.var 1) (.cst (.str "all"))) (.var 2)))
    .nil))
    (.cons (.setIdx (.var 1) (.cst (.str "held")) (.dct .nil))
    (.cons (.setIdx (.var 1) (.cst (.str "label")) (.tup (.cons (.idx (.var 1) (.cst (.str "own"))) (.cons (.cst (.int 0)) (.cons (.cst .non) (.cons (.cst .non) .nil))))))
    (.cons (.setIdx (.var 1) (.cst (.str "version")) (.cst (.int 0)))
    (.cons (.setIdx (.var 1) (.cst (.str "count")) (.cst (.int 0)))
    (.cons (.ret (.var 1))
    .nil)))))))) }
noncomputable abbrev SF:Fn:={ ar:=1,sz:=1,body:=(.cons (.ret (.tup (.cons (.idx (.var 0) (.cst (.str "life"))) (.cons (.idx (.var 0) (.cst (.str "version"))) .nil))))
    .nil) }
noncomputable abbrev SB:Fn:={ ar:=2,sz:=5,body:=(.cons (.set (.many [2,3]) (.var 1))
    (.cons (.set (.one 4) (.lst (.cons (.var 1) (.cons (.tup (.cons (.var 2) (.cons (.bin .add (.var 3) (.cst (.int 1))) .nil))) (.cons (.tup (.cons (.var 2) (.cons (.bi .max2 (.cons (.cst (.int 0)) (.cons (.bin .sub (.var 3) (.cst (.int 1))) .nil))) .nil))) (.cons (.tup (.cons (.bin .add (.var 2) (.cst (.int 1))) (.cons (.call "_law_draw" (.cons (.var 0) (.cons (.cst (.int 3)) .nil))) .nil))) .nil))))))
    (.cons (.set (.one 4) (.bin .add (.var 4) (.lst (.cons (.tup (.cons (.bi .max2 (.cons (.cst (.int 0)) (.cons (.bin .sub (.var 2) (.cst (.int 1))) .nil))) (.cons (.var 3) .nil))) (.cons (.tup (.cons (.call "_law_draw" (.cons (.var 0) (.cons (.cst (.int 3)) .nil))) (.cons (.call "_law_draw" (.cons (.var 0) (.cons (.cst (.int 6)) .nil))) .nil))) .nil)))))
    (.cons (.ret (.idx (.var 4) (.call "_law_draw" (.cons (.var 0) (.cons (.cst (.int 6)) .nil)))))
    .nil)))) }
noncomputable abbrev SU:Fn:={ ar:=3,sz:=13,body:=(.cons (.set (.one 3) (.tup (.cons (.tup (.cons (.cst (.int 0)) (.cons (.cst (.int 0)) .nil))) (.cons (.tup (.cons (.cst (.int 0)) (.cons (.cst (.int 0)) .nil))) .nil))))
    (.cons (.ite (.val (.cmp .isin (.var 2) (.idx (.var 1) (.cst (.str "held"))))) (.cons (.set (.one 3) (.idx (.idx (.idx (.var 1) (.cst (.str "held"))) (.var 2)) (.cst (.int 0))))
    .nil) .nil)
    (.cons (.set (.one 4) (.call "_law_near" (.cons (.var 0) (.cons (.idx (.var 3) (.cst (.int 0))) .nil))))
    (.cons (.ite (.val (.cmp .gt (.call "_law_draw" (.cons (.var 0) (.cons (.cst (.int 3)) .nil))) (.cst (.int 0)))) (.cons (.set (.one 4) (.tup (.cons (.idx (.idx (.var 3) (.cst (.int 0))) (.cst (.int 0))) (.cons (.bin .add (.bin .add (.idx (.idx (.var 3) (.cst (.int 0))) (.cst (.int 1))) (.cst (.int 1))) (.bin .mul (.call "_law_draw" (.cons (.var 0) (.cons (.cst (.int 3)) .nil))) (.idx (.lst (.cons (.cst (.int 1)) (.cons (.cst (.int 1)) (.cons (.cst (.int 1)) (.cons (.bin .pow (.cst (.int 10)) (.cst (.int 30))) .nil))))) (.call "_law_draw" (.cons (.var 0) (.cons (.cst (.int 4)) .nil)))))) .nil))))
    .nil) .nil)
    (.cons (.set (.one 5) (.call "_law_near" (.cons (.var 0) (.cons (.idx (.var 3) (.cst (.int 1))) .nil))))
    (.cons (.ite (.and (.val (.cmp .isnot (.idx (.idx (.var 1) (.cst (.str "label"))) (.cst (.int 3))) (.cst .non))) (.val (.cmp .eq (.call "_law_draw" (.cons (.var 0) (.cons (.cst (.int 2)) .nil))) (.cst (.int 0))))) (.cons (.set (.one 5) (.idx (.idx (.var 1) (.cst (.str "label"))) (.cst (.int 3))))
    .nil) .nil)
    (.cons (.set (.one 6) (.idx (.var 1) (.cst (.str "own"))))
    (.cons (.set (.one 7) (.bi .min2 (.cons (.cst (.int 999)) (.cons (.idx (.lst (.cons (.cst (.int 0)) (.cons (.cst (.int 0)) (.cons (.var 6) (.cons (.bin .fdiv (.var 6) (.cst (.int 2))) (.cons (.bin .add (.var 6) (.cst (.int 1))) (.cons (.call "_law_draw" (.cons (.var 0) (.cons (.cst (.int 1000)) .nil))) .nil))))))) (.call "_law_draw" (.cons (.var 0) (.cons (.cst (.int 6)) .nil)))) .nil))))
    (.cons (.set (.one 8) (.idx (.lst (.cons (.cst (.int 0)) (.cons (.cst (.int 1)) (.cons (.cst (.int 2)) (.cons (.cst (.int 3)) (.cons (.bin .pow (.cst (.int 10)) (.cst (.int 30))) (.cons (.call "_law_draw" (.cons (.var 0) (.cons (.bin .pow (.cst (.int 10)) (.cst (.int 6))) .nil))) .nil))))))) (.call "_law_draw" (.cons (.var 0) (.cons (.cst (.int 6)) .nil)))))
    (.cons (.set (.one 9) (.idx (.var 1) (.cst (.str "most"))))
    (.cons (.set (.one 10) (.idx (.lst (.cons (.cst (.int 0)) (.cons (.cst (.int 0)) (.cons (.cst (.int 1)) (.cons (.bin .sub (.var 9) (.cst (.int 2))) (.cons (.bin .sub (.var 9) (.cst (.int 1))) (.cons (.var 9) (.cons (.call "_law_draw" (.cons (.var 0) (.cons (.cst (.int 250)) .nil))) (.cons (.bin .pow (.cst (.int 10)) (.cst (.int 39))) .nil))))))))) (.call "_law_draw" (.cons (.var 0) (.cons (.cst (.int 8)) .nil)))))
    (.cons (.set (.one 11) (.idx (.lst (.cons (.cst .non) (.cons (.call "_law_stamp" (.cons (.var 1) .nil)) (.cons (.call "_law_near" (.cons (.var 0) (.cons (.call "_law_stamp" (.cons (.var 1) .nil)) .nil))) .nil)))) (.call "_law_draw" (.cons (.var 0) (.cons (.cst (.int 3)) .nil)))))
    (.cons (.set (.one 12) (.idx (.lst (.cons (.cst .non) (.cons (.call "_law_stamp" (.cons (.var 1) .nil)) (.cons (.call "_law_stamp" (.cons (.var 1) .nil)) (.cons (.call "_law_near" (.cons (.var 0) (.cons (.call "_law_stamp" (.cons (.var 1) .nil)) .nil))) .nil))))) (.call "_law_draw" (.cons (.var 0) (.cons (.cst (.int 4)) .nil)))))
    (.cons (.ret (.tup (.cons (.var 4) (.cons (.var 5) (.cons (.var 7) (.cons (.var 8) (.cons (.var 10) (.cons (.var 11) (.cons (.var 12) .nil)))))))))
    .nil)))))))))))))) }
noncomputable abbrev SN:Fn:={ ar:=3,sz:=3,body:=(.cons (.ite (.val (.cmp .isin (.var 1) (.idx (.var 0) (.cst (.str "ties"))))) (.cons (.ite (.or (.val (.cmp .notin (.var 1) (.idx (.var 0) (.cst (.str "held"))))) (.val (.cmp .gt (.idx (.var 2) (.cst (.int 0))) (.idx (.idx (.idx (.idx (.var 0) (.cst (.str "held"))) (.var 1)) (.cst (.int 0))) (.cst (.int 0)))))) (.cons (.setIdx (.idx (.var 0) (.cst (.str "held"))) (.var 1) (.tup (.cons (.var 2) (.cons (.idx (.var 2) (.cst (.int 4))) .nil))))
    .nil) .nil)
    .nil) .nil)
    .nil) }
noncomputable abbrev SD:Fn:={ ar:=1,sz:=10,body:=(.cons (.set (.one 1) (.dct .nil))
    (.cons (.set (.one 2) (.lst (.cons (.tup (.cons (.idx (.var 0) (.cst (.str "own"))) (.cons (.cst (.int 0)) (.cons (.neg (.cst (.int 1))) (.cons (.neg (.cst (.int 1))) .nil))))) .nil)))
    (.cons (.forI true (.one 3) (.idx (.var 0) (.cst (.str "held"))) (.cons (.set (.many [4,5]) (.idx (.idx (.var 0) (.cst (.str "held"))) (.var 3)))
    (.cons (.ite (.val (.cmp .lt (.bin .add (.var 5) (.cst (.int 1))) (.idx (.var 0) (.cst (.str "most"))))) (.cons (.setIdx (.var 1) (.var 3) (.tup (.cons (.var 4) (.cons (.bin .add (.var 5) (.cst (.int 1))) .nil))))
    (.cons (.set (.many [6,7]) (.idx (.idx (.var 0) (.cst (.str "ties"))) (.var 3)))
    (.cons (.expr (.bm .append (.var 2) (.cons (.tup (.cons (.idx (.var 4) (.cst (.int 2))) (.cons (.bin .add (.idx (.var 4) (.cst (.int 3))) (.var 7)) (.cons (.var 6) (.cons (.var 3) .nil))))) .nil)))
    .nil))) .nil)
    .nil)))
    (.cons (.setIdx (.var 0) (.cst (.str "held")) (.var 1))
    (.cons (.set (.many [8,7,6,3]) (.idx (.bi .sorted (.cons (.var 2) .nil)) (.cst (.int 0))))
    (.cons (.set (.one 9) (.tup (.cons (.var 8) (.cons (.var 7) (.cons (.cst .non) (.cons (.cst .non) .nil))))))
    (.cons (.ite (.val (.cmp .ge (.var 3) (.cst (.int 0)))) (.cons (.set (.one 9) (.tup (.cons (.var 8) (.cons (.var 7) (.cons (.var 3) (.cons (.idx (.idx (.idx (.var 1) (.var 3)) (.cst (.int 0))) (.cst (.int 1))) .nil))))))
    .nil) .nil)
    (.cons (.ite (.val (.cmp .ne (.var 9) (.idx (.var 0) (.cst (.str "label"))))) (.cons (.setIdx (.var 0) (.cst (.str "version")) (.bin .add (.idx (.var 0) (.cst (.str "version"))) (.cst (.int 1))))
    .nil) .nil)
    (.cons (.setIdx (.var 0) (.cst (.str "label")) (.var 9))
    .nil))))))))) }
noncomputable abbrev SC:Fn:={ ar:=2,sz:=3,body:=(.cons (.set (.one 2) (.bi .sorted (.cons (.idx (.var 1) (.cst (.str "ties"))) .nil)))
    (.cons (.ite (.and (.val (.cmp .ne (.var 2) (.lst .nil))) (.val (.cmp .gt (.call "_law_draw" (.cons (.var 0) (.cons (.cst (.int 6)) .nil))) (.cst (.int 0))))) (.cons (.ret (.idx (.var 2) (.call "_law_draw" (.cons (.var 0) (.cons (.bi .len (.cons (.var 2) .nil)) .nil)))))
    .nil) .nil)
    (.cons (.ret (.call "_law_draw" (.cons (.var 0) (.cons (.cst (.int 16)) .nil))))
    .nil))) }
noncomputable abbrev SQ:Fn:={ ar:=4,sz:=8,body:=(.cons (.ite (.val (.cmp .eq (.call "_law_draw" (.cons (.var 0) (.cons (.cst (.int 2)) .nil))) (.cst (.int 0)))) (.cons (.set (.one 4) (.meth "Bridge" "down" (.var 2) (.cons (.var 3) .nil)))
    (.cons (.ite (.val (.cmp .isin (.var 3) (.idx (.var 1) (.cst (.str "ties"))))) (.cons (.expr (.bm .dpop (.idx (.var 1) (.cst (.str "ties"))) (.cons (.var 3) .nil)))
    .nil) .nil)
    (.cons (.ite (.val (.cmp .isin (.var 3) (.idx (.var 1) (.cst (.str "held"))))) (.cons (.expr (.bm .dpop (.idx (.var 1) (.cst (.str "held"))) (.cons (.var 3) .nil)))
    .nil) .nil)
    (.cons (.ret (.cmp .is (.var 4) (.cst .non)))
    .nil)))) .nil)
    (.cons (.set (.one 5) (.bin .mod (.bin .add (.var 3) (.bin .mul (.call "_law_draw" (.cons (.var 0) (.cons (.cst (.int 2)) .nil))) (.bin .add (.cst (.int 1)) (.call "_law_draw" (.cons (.var 0) (.cons (.cst (.int 15)) .nil)))))) (.cst (.int 16))))
    (.cons (.set (.many [6,7]) (.idx (.idx (.var 1) (.cst (.str "all"))) (.var 5)))
    (.cons (.ite (.val (.cmp .notin (.var 3) (.idx (.var 1) (.cst (.str "ties"))))) (.cons (.setIdx (.idx (.var 1) (.cst (.str "ties"))) (.var 3) (.tup (.cons (.var 6) (.cons (.var 7) .nil))))
    .nil) .nil)
    (.cons (.ret (.cmp .is (.meth "Bridge" "up" (.var 2) (.cons (.var 3) (.cons (.var 6) (.cons (.var 7) .nil)))) (.cst .non)))
    .nil))))) }
noncomputable abbrev SO:Fn:={ ar:=4,sz:=6,body:=(.cons (.set (.one 4) (.call "_law_letter" (.cons (.var 0) (.cons (.var 1) (.cons (.var 3) .nil)))))
    (.cons (.set (.one 5) (.meth "Bridge" "hear" (.var 2) (.cons (.var 3) (.cons (.var 4) .nil))))
    (.cons (.expr (.call "_law_heard" (.cons (.var 1) (.cons (.var 3) (.cons (.var 4) .nil)))))
    (.cons (.ret (.cmp .is (.var 5) (.cst .non)))
    .nil)))) }
noncomputable abbrev SX:Fn:={ ar:=2,sz:=3,body:=(.cons (.ite (.val (.cmp .notin (.var 1) (.idx (.var 0) (.cst (.str "held"))))) (.cons (.ret (.cst .non))
    .nil) .nil)
    (.cons (.set (.one 2) (.idx (.idx (.idx (.var 0) (.cst (.str "held"))) (.var 1)) (.cst (.int 0))))
    (.cons (.ite (.or (.val (.cmp .is (.idx (.var 2) (.cst (.int 5))) (.cst .non))) (.val (.cmp .ne (.idx (.var 2) (.cst (.int 5))) (.call "_law_stamp" (.cons (.var 0) .nil))))) (.cons (.ret (.cst .non))
    .nil) .nil)
    (.cons (.ret (.idx (.var 2) (.cst (.int 1))))
    .nil)))) }
noncomputable abbrev SA:Fn:={ ar:=1,sz:=10,body:=(.cons (.set (.one 1) (.tup (.cons (.idx (.var 0) (.cst (.str "life"))) (.cons (.idx (.var 0) (.cst (.str "count"))) .nil))))
    (.cons (.set (.many [2,3,4,5]) (.idx (.var 0) (.cst (.str "label"))))
    (.cons (.set (.one 6) (.cst (.int 0)))
    (.cons (.ite (.val (.cmp .isnot (.var 4) (.cst .non))) (.cons (.set (.one 6) (.bin .add (.idx (.idx (.idx (.var 0) (.cst (.str "held"))) (.var 4)) (.cst (.int 1))) (.cst (.int 1))))
    .nil) .nil)
    (.cons (.set (.one 7) (.lst .nil))
    (.cons (.for (.one 8) (.seq (.bi .sorted (.cons (.idx (.var 0) (.cst (.str "ties"))) .nil))) (.cons (.set (.one 9) (.tup (.cons (.var 1) (.cons (.call "_law_stamp" (.cons (.var 0) .nil)) (.cons (.var 2) (.cons (.var 3) (.cons (.var 6) .nil)))))))
    (.cons (.ite (.val (.cmp .eq (.var 8) (.var 4))) (.cons (.expr (.bm .append (.var 7) (.cons (.tup (.cons (.var 8) (.cons (.bin .add (.var 9) (.tup (.cons (.var 5) (.cons (.cst .non) .nil)))) .nil))) .nil)))
    .nil) (.cons (.expr (.bm .append (.var 7) (.cons (.tup (.cons (.var 8) (.cons (.bin .add (.var 9) (.tup (.cons (.cst .non) (.cons (.call "_law_agreed" (.cons (.var 0) (.cons (.var 8) .nil))) .nil)))) .nil))) .nil)))
    .nil))
    .nil)))
    (.cons (.ret (.var 7))
    .nil))))))) }
noncomputable abbrev SI:Fn:={ ar:=4,sz:=6,body:=(.cons (.expr (.call "_law_reckoned" (.cons (.var 1) .nil)))
    (.cons (.set (.one 4) (.call "_law_letters" (.cons (.var 1) .nil)))
    (.cons (.setIdx (.var 1) (.cst (.str "count")) (.bin .add (.idx (.var 1) (.cst (.str "count"))) (.cst (.int 1))))
    (.cons (.set (.one 5) (.meth "Bridge" "tick" (.var 2) .nil))
    (.cons (.ite (.not (.val (.call "_law_same" (.cons (.var 5) (.cons (.var 4) .nil))))) (.cons (.ret (.cst (.bl false)))
    .nil) .nil)
    (.cons (.ite (.val (.cmp .eq (.call "_law_draw" (.cons (.var 0) (.cons (.cst (.int 3)) .nil))) (.cst (.int 0)))) (.cons (.expr (.bm .append (.var 5) (.cons (.cst .non) .nil)))
    (.cons (.expr (.bm .append (.var 4) (.cons (.cst .non) .nil)))
    .nil)) .nil)
    (.cons (.expr (.bm .append (.var 3) (.cons (.tup (.cons (.var 5) (.cons (.var 4) .nil))) .nil)))
    (.cons (.ret (.cst (.bl true)))
    .nil)))))))) }
noncomputable abbrev SJ:Fn:={ ar:=4,sz:=6,body:=(.cons (.for (.one 4) (.range (.call "_law_draw" (.cons (.var 0) (.cons (.cst (.int 4)) .nil)))) (.cons (.ite (.not (.val (.call "_law_hears" (.cons (.var 0) (.cons (.var 1) (.cons (.var 2) (.cons (.call "_law_place" (.cons (.var 0) (.cons (.var 1) .nil))) .nil))))))) (.cons (.ret (.cst (.bl false)))
    .nil) .nil)
    .nil))
    (.cons (.set (.one 5) (.call "_law_place" (.cons (.var 0) (.cons (.var 1) .nil))))
    (.cons (.ite (.and (.val (.cmp .eq (.call "_law_draw" (.cons (.var 0) (.cons (.cst (.int 6)) .nil))) (.cst (.int 0)))) (.not (.val (.call "_law_turned" (.cons (.var 0) (.cons (.var 1) (.cons (.var 2) (.cons (.var 5) .nil)))))))) (.cons (.ret (.cst (.bl false)))
    .nil) .nil)
    (.cons (.ite (.val (.cmp .eq (.call "_law_draw" (.cons (.var 0) (.cons (.cst (.int 4)) .nil))) (.cst (.int 0)))) (.cons (.ret (.cst (.bl true)))
    .nil) .nil)
    (.cons (.ret (.call "_law_tick" (.cons (.var 0) (.cons (.var 1) (.cons (.var 2) (.cons (.var 3) .nil))))))
    .nil))))) }
noncomputable abbrev SY:Fn:={ ar:=1,sz:=10,body:=(.cons (.set (.one 1) (.bin .add (.lst (.cons (.cst (.int 7)) .nil)) (.slc (.var 0) .none (.some (.cst (.int 1))))))
    (.cons (.set (.one 2) (.call "_law_state" (.cons (.call "_law_well" (.cons (.idx (.var 1) (.neg (.cst (.int 1)))) .nil)) .nil)))
    (.cons (.set (.one 3) (.make "Bridge" (.cons (.idx (.var 2) (.cst (.str "own"))) (.cons (.idx (.var 2) (.cst (.str "life"))) (.cons (.call "_law_handed" (.cons (.var 2) .nil)) (.cons (.idx (.var 2) (.cst (.str "most"))) .nil))))))
    (.cons (.set (.one 4) (.make "Bridge" (.cons (.idx (.var 2) (.cst (.str "own"))) (.cons (.idx (.var 2) (.cst (.str "life"))) (.cons (.call "_law_handed" (.cons (.var 2) .nil)) (.cons (.idx (.var 2) (.cst (.str "most"))) .nil))))))
    (.cons (.set (.one 5) (.lst .nil))
    (.cons (.for (.one 6) (.seq (.bin .add (.lst (.cons (.cst (.int 1)) (.cons (.cst (.int 2)) (.cons (.cst (.int 3)) (.cons (.cst (.int 4)) (.cons (.cst (.int 5)) .nil)))))) (.slc (.var 0) (.some (.cst (.int 1))) (.some (.cst (.int 61)))))) (.cons (.ite (.not (.val (.call "_law_done" (.cons (.call "_law_well" (.cons (.var 6) .nil)) (.cons (.var 2) (.cons (.var 3) (.cons (.var 5) .nil))))))) (.cons (.ret (.cst (.bl false)))
    .nil) .nil)
    .nil))
    (.cons (.for (.many [7,8]) (.seq (.var 5)) (.cons (.ite (.not (.val (.call "_law_same" (.cons (.var 7) (.cons (.var 8) .nil))))) (.cons (.ret (.cst (.bl false)))
    .nil) .nil)
    .nil))
    (.cons (.set (.one 9) (.tup (.cons (.tup (.cons (.idx (.var 2) (.cst (.str "life"))) (.cons (.cst (.int 0)) .nil))) (.cons (.tup (.cons (.idx (.var 2) (.cst (.str "life"))) (.cons (.cst (.int 0)) .nil))) (.cons (.idx (.var 2) (.cst (.str "own"))) (.cons (.cst (.int 0)) (.cons (.cst (.int 0)) (.cons (.cst .non) (.cons (.cst .non) .nil)))))))))
    (.cons (.set (.one 8) (.comp [9] 1 (.one 0) (.seq (.bi .sorted (.cons (.idx (.var 2) (.cst (.str "first"))) .nil))) .yes (.tup (.cons (.var 0) (.cons (.var 1) .nil)))))
    (.cons (.ret (.call "_law_same" (.cons (.meth "Bridge" "tick" (.var 4) .nil) (.cons (.var 8) .nil))))
    .nil)))))))))) }
class Al (P:Pg):Prop where
 c0:P "_wall" = some SV
 c1:P "newer" = some ST
 c2:P "best_offer" = some SZ
 c3:P "Bridge.__init__" = some RU
 c4:P "Bridge.twin" = some R8
 c5:P "Bridge.label" = some R0
 c6:P "Bridge.stamp" = some R5
 c7:P "Bridge.held" = some RW
 c8:P "Bridge.up" = some R9
 c9:P "Bridge.down" = some RZ
 c10:P "Bridge.hear" = some RX
 c11:P "Bridge.tick" = some R7
 c12:P "Bridge.let_grow_older" = some R1
 c13:P "Bridge.reckon_label" = some R4
 c14:P "Bridge.take_label" = some R6
 c15:P "Bridge.letter_over" = some R3
 c16:P "Bridge.is_rested_on" = some RT
 c17:P "Bridge.is_agreed_to" = some RS
 c18:P "Bridge.end" = some RY
 c19:P "_law_well" = some SS
 c20:P "_law_draw" = some SK
 c21:P "_law_same" = some SE
 c22:P "_law_cost" = some SW
 c23:P "_law_ties" = some SL
 c24:P "_law_up_first" = some SR
 c25:P "_law_start" = some SG
 c26:P "_law_handed" = some SM
 c27:P "_law_state" = some SH
 c28:P "_law_stamp" = some SF
 c29:P "_law_near" = some SB
 c30:P "_law_letter" = some SU
 c31:P "_law_heard" = some SN
 c32:P "_law_reckoned" = some SD
 c33:P "_law_place" = some SC
 c34:P "_law_turned" = some SQ
 c35:P "_law_hears" = some SO
 c36:P "_law_agreed" = some SX
 c37:P "_law_letters" = some SA
 c38:P "_law_tick" = some SI
 c39:P "_law_done" = some SJ
 c40:P "law" = some SY
theorem DD [I:Al P] (q:B0 P n ST [some a0,some a1] h Q X):wF P (n+1) "newer" [a0,a1] h Q X:=Zp I.c1 rfl q
theorem Kq [I:Al P] (q:B0 P n SZ [some a0,some a1,none] h Q X):wF P (n+1) "best_offer" [a0,a1] h Q X:=Zp I.c2 rfl q
theorem Jl [I:Al P] (q:B0 P n RU [some a0,some a1,some a2,some a3,some a4,none,none,none] h Q X):wF P (n+1) "Bridge.__init__" [a0,a1,a2,a3,a4] h Q X:=Zp I.c3 rfl q
theorem W1 [I:Al P] (q:B0 P n R5 [some a0] h Q X):wF P (n+1) "Bridge.stamp" [a0] h Q X:=Zp I.c6 rfl q
theorem Jd [I:Al P] (q:B0 P n RW [some a0,some a1] h Q X):wF P (n+1) "Bridge.held" [a0,a1] h Q X:=Zp I.c7 rfl q
theorem K6 [I:Al P] (q:B0 P n R9 [some a0,some a1,some a2,some a3] h Q X):wF P (n+1) "Bridge.up" [a0,a1,a2,a3] h Q X:=Zp I.c8 rfl q
theorem Jk [I:Al P] (q:B0 P n RZ [some a0,some a1] h Q X):wF P (n+1) "Bridge.down" [a0,a1] h Q X:=Zp I.c9 rfl q
theorem Ji [I:Al P] (q:B0 P n RX [some a0,some a1,some a2,none] h Q X):wF P (n+1) "Bridge.hear" [a0,a1,a2] h Q X:=Zp I.c10 rfl q
theorem Je [I:Al P] (q:B0 P n R7 [some a0,none] h Q X):wF P (n+1) "Bridge.tick" [a0] h Q X:=Zp I.c11 rfl q
theorem Yr [I:Al P] (q:B0 P n R1 [some a0,none,none,none] h Q X):wF P (n+1) "Bridge.let_grow_older" [a0] h Q X:=Zp I.c12 rfl q
theorem YA [I:Al P] (q:B0 P n R4 [some a0,none,none,none,none,none,none,none] h Q X):wF P (n+1) "Bridge.reckon_label" [a0] h Q X:=Zp I.c13 rfl q
theorem YW [I:Al P] (q:B0 P n R6 [some a0,some a1] h Q X):wF P (n+1) "Bridge.take_label" [a0,a1] h Q X:=Zp I.c14 rfl q
theorem YF [I:Al P] (q:B0 P n R3 [some a0,some a1,none,none,none,none,none,none] h Q X):wF P (n+1) "Bridge.letter_over" [a0,a1] h Q X:=Zp I.c15 rfl q
theorem YB [I:Al P] (q:B0 P n RT [some a0,some a1,none] h Q X):wF P (n+1) "Bridge.is_rested_on" [a0,a1] h Q X:=Zp I.c16 rfl q
theorem M4 [I:Al P] (q:B0 P n SS [some a0] h Q X):wF P (n+1) "_law_well" [a0] h Q X:=Zp I.c19 rfl q
theorem MD [I:Al P] (q:B0 P n SK [some a0,some a1,none,none] h Q X):wF P (n+1) "_law_draw" [a0,a1] h Q X:=Zp I.c20 rfl q
theorem Z3 [I:Al P] (q:B0 P n SE [some a0,some a1,none,none] h Q X):wF P (n+1) "_law_same" [a0,a1] h Q X:=Zp I.c21 rfl q
theorem Mu [I:Al P] (q:B0 P n SW [some a0] h Q X):wF P (n+1) "_law_cost" [a0] h Q X:=Zp I.c22 rfl q
theorem Ng [I:Al P] (q:B0 P n SL [some a0,some a1,none] h Q X):wF P (n+1) "_law_ties" [a0,a1] h Q X:=Zp I.c23 rfl q
theorem Wz [I:Al P] (q:B0 P n SR [some a0,none,none,none] h Q X):wF P (n+1) "_law_up_first" [a0] h Q X:=Zp I.c24 rfl q
theorem K3 [I:Al P] (q:B0 P n SG [some a0,none,none,none] h Q X):wF P (n+1) "_law_start" [a0] h Q X:=Zp I.c25 rfl q
theorem J3 [I:Al P] (q:B0 P n SM [some a0] h Q X):wF P (n+1) "_law_handed" [a0] h Q X:=Zp I.c26 rfl q
theorem Mf [I:Al P] (q:B0 P n SH [some a0,none,none] h Q X):wF P (n+1) "_law_state" [a0] h Q X:=Zp I.c27 rfl q
theorem Ml [I:Al P] (q:B0 P n SF [some a0] h Q X):wF P (n+1) "_law_stamp" [a0] h Q X:=Zp I.c28 rfl q
theorem M6 [I:Al P] (q:B0 P n SB [some a0,some a1,none,none,none] h Q X):wF P (n+1) "_law_near" [a0,a1] h Q X:=Zp I.c29 rfl q
theorem Ki [I:Al P] (q:B0 P n SU [some a0,some a1,some a2,none,none,none,none,none,none,none,none,none,none] h Q X):wF P (n+1) "_law_letter" [a0,a1,a2] h Q X:=Zp I.c30 rfl q
theorem KR [I:Al P] (q:B0 P n SN [some a0,some a1,some a2] h Q X):wF P (n+1) "_law_heard" [a0,a1,a2] h Q X:=Zp I.c31 rfl q
theorem Wx [I:Al P] (q:B0 P n SD [some a0,none,none,none,none,none,none,none,none,none] h Q X):wF P (n+1) "_law_reckoned" [a0] h Q X:=Zp I.c32 rfl q
theorem KU [I:Al P] (q:B0 P n SC [some a0,some a1,none] h Q X):wF P (n+1) "_law_place" [a0,a1] h Q X:=Zp I.c33 rfl q
theorem J4 [I:Al P] (q:B0 P n SQ [some a0,some a1,some a2,some a3,none,none,none,none] h Q X):wF P (n+1) "_law_turned" [a0,a1,a2,a3] h Q X:=Zp I.c34 rfl q
theorem K7 [I:Al P] (q:B0 P n SO [some a0,some a1,some a2,some a3,none,none] h Q X):wF P (n+1) "_law_hears" [a0,a1,a2,a3] h Q X:=Zp I.c35 rfl q
theorem J7 [I:Al P] (q:B0 P n SX [some a0,some a1,none] h Q X):wF P (n+1) "_law_agreed" [a0,a1] h Q X:=Zp I.c36 rfl q
theorem Ja [I:Al P] (q:B0 P n SA [some a0,none,none,none,none,none,none,none,none,none] h Q X):wF P (n+1) "_law_letters" [a0] h Q X:=Zp I.c37 rfl q
theorem Mx [I:Al P] (q:B0 P n SI [some a0,some a1,some a2,some a3,none,none] h Q X):wF P (n+1) "_law_tick" [a0,a1,a2,a3] h Q X:=Zp I.c38 rfl q
theorem MG [I:Al P] (q:B0 P n SJ [some a0,some a1,some a2,some a3,none,none] h Q X):wF P (n+1) "_law_done" [a0,a1,a2,a3] h Q X:=Zp I.c39 rfl q
theorem Ls [I:Al P] (q:B0 P n SY [some a0,none,none,none,none,none,none,none,none,none] h Q X):wF P (n+1) "law" [a0] h Q X:=Zp I.c40 rfl q
local macro_rules | `(tactic| walk_at "ne")=>`(tactic| first | assumption | (apply Ne.symm; assumption) | ((with_reducible apply ne_none'); (· assumption); (· walk_at "look")) | (apply Ne.symm; (with_reducible apply ne_none'); (· assumption); (· walk_at "look")))
local macro_rules | `(tactic| walk_at "look")=>`(tactic| first | assumption | with_reducible exact upd_same | ((with_reducible apply upd_ne'); (· walk_at "ne"); (· walk_at "look")) | ((with_reducible apply Ext.get); (· assumption); (· walk_at "look")) | ((with_reducible apply ExtB.get); (· assumption); (· walk_at "ne"); (· walk_at "look")))
local macro_rules | `(tactic| walk_at "ar")=>`(tactic| first | decide | omega | assumption | (simp only [List.length_cons,List.length_nil]; decide))
local macro_rules | `(tactic| walk_at "mul")=>`(tactic| first | exact .inl (.inr (by omega)) | exact .inl (.inl (by omega)) | exact .inr ⟨by decide,by decide⟩)
local macro_rules | `(tactic| walk_at "setl")=>`(tactic| first | (simp only [List.zip_cons_cons,List.zip_nil_right,List.zip_nil_left,List.foldl_cons,List.foldl_nil,List.set_cons_succ,List.set_cons_zero]; done) | (simp only [List.zip_cons_cons,List.zip_nil_right,List.zip_nil_left,List.foldl_cons,List.foldl_nil,List.set_cons_succ,List.set_cons_zero]; exact rfl) | exact rfl)
local macro_rules | `(tactic| walk_at "py1")=>`(tactic| first
  |(with_reducible first|refine Dx ?_|refine YJ ?_|refine HM ?_|refine Lb ?_|refine O9 ?_|refine Gb ?_|refine Hi ?_|refine Fc ?_|refine Uc ?_|refine AT ?_|refine UU ?_|refine GB ?_|refine HQ ?_|refine FM ?_|refine Ij ?_|refine HK ?_|refine Lf ?_|refine Gv ?_|refine PX ?_|refine Io ?_|refine Hw ?_|refine FA ?_|refine IA ?_|refine PY ?_|refine Ib ?_|refine Ih ?_|refine II ?_|refine Hl ?_|refine Fv ?_|refine E7 ?_|refine DR ?_|refine Hx ?_|refine F3 ?_|refine Gx ?_|refine D9 ?_|refine F2 ?_|refine FX ?_|refine HC ?_|refine Hv ?_|refine Ho ?_|refine LT ?_|refine IN ?_|refine HY ?_|refine BK ?_|refine Ie ?_|refine b_add ?_|refine b_sub ?_|refine Ly ?_|refine Ps ?_|refine DH ?_|refine HB ?_|refine c_lt ?_|refine c_gt ?_|refine c_ge ?_|refine Lx ?_|refine Id ?_|refine H9 ?_|refine Hb ?_|refine FU ?_|refine Gp ?_|refine FQ ?_|refine mn2 ?_|refine mx2 ?_|refine GN ?_)
  |((with_reducible apply IS);(· exact rfl))
  |((with_reducible apply FO);(· walk_at "setl"))|((with_reducible apply EU);(· (simp only[bindL,List.set_cons_succ,List.set_cons_zero];exact rfl)))|((with_reducible apply b_mul);(· walk_at "mul"))|((with_reducible apply b_fdiv);(· walk_at "ar"))|((with_reducible apply b_mod);(· walk_at "ar"))|((with_reducible apply EF);(· walk_at "ar");(· simp only[Int.reduceToNat,Int.reducePow];exact rfl))|((with_reducible apply Kh);(· walk_at "look");(· walk_at "look");(· first|(simp only[List.cons_append,List.nil_append,List.length_cons,List.length_nil];decide)|omega))|((with_reducible apply Xz);(· walk_at "ar"))
  |((with_reducible apply ix_tup);(· exact rfl))|((with_reducible apply ZB);(· walk_at "look");(· exact rfl))
  |((with_reducible apply EN);(· walk_at "look");(· exact rfl))|((with_reducible apply YC);(· walk_at "look");(· walk_at "ar"))|((with_reducible apply FY);(· walk_at "look");(· exact rfl))|((with_reducible apply FE);(· walk_at "look");(· exact rfl))
  |((with_reducible apply FL);(· walk_at "look"))|((with_reducible apply Mv);(· exact rfl))
  | ((with_reducible apply Fz);(· first | exact .inl rfl | exact .inr (.inl rfl) | simp);(· walk_at "look")) | ((with_reducible apply Ei);(· first | exact rfl | simp);(· walk_at "look")) | ((with_reducible apply ZW);(· walk_at "look");(· walk_at "ar")) | ((with_reducible apply it_lst);(· walk_at "look")) | ((with_reducible apply Hg);(· walk_at "look")))
local macro_rules | `(tactic| walk_at "py")=>`(tactic| repeat walk_at "py1")
section
variable {α:Type}(val:α→Val)
noncomputable def Zr (kvs:List (Int×α)):List (Val×Val):=kvs.map fun p=>(.int p.1,val p.2)
noncomputable def Y3 (kvs:List (Int×α)) (k:Int) (v:α):List (Int×α):=if(kvs.lookup k).isSome then kvs.map (fun p=>if p.1=k then(k,v)else p)else kvs++[(k,v)]
noncomputable def ZH (kvs:List (Int×α)) (k:Int):List (Int×α):=kvs.filter fun p=>decide (p.1≠k)
variable {val}
theorem Wb(a b:Int):(Val.int a==Val.int b)=decide (a=b):=by
 by_cases e:a=b
 ·subst e;simp
 ·rw[decide_eq_false e];exact beq_eq_false_iff_ne.mpr fun z=>e (by injection z)
theorem Z6(kvs:List (Int×α))(k:Int):lookK (Zr val kvs) (.int k)=(kvs.lookup k).map val:=by
 induction kvs with
 |nil=>rfl
 |cons p r ih =>
  unfold lookK Zr at ih ⊢;rw[List.map_cons,List.find?_cons,List.lookup_cons,Wb];by_cases e:p.1=k
  ·have:(k==p.1)=true:=by simp[e]
   simp[e]
  ·have h2:(k==p.1)=false:=by simpa using fun z=>e z.symm
   rw[decide_eq_false e,h2];exact ih
theorem WX(kvs:List (Int×α))(k:Int):hasK (Zr val kvs) (.int k)=(kvs.lookup k).isSome:=by
 induction kvs with
 |nil=>rfl
 |cons p r ih =>
  unfold hasK Zr at ih ⊢;rw[List.map_cons,List.any_cons,List.lookup_cons,Wb];by_cases e:p.1=k
  ·simp[e]
  ·have h2:(k==p.1)=false:=by simpa using fun z=>e z.symm
   rw[decide_eq_false e,h2];exact ih
theorem Yh(kvs:List (Int×α))(k:Int)(v:α):putK (Zr val kvs) (.int k) (val v)=Zr val (Y3 kvs k v):=by
 unfold putK Y3;rw[WX];split
 ·unfold Zr;rw[List.map_map,List.map_map];refine List.map_congr_left fun p _=>?_;simp only[Function.comp_apply,Wb];by_cases e:p.1=k
  ·simp[e]
  ·simp[e]
 ·unfold Zr;rw[List.map_append];rfl
theorem YD(kvs:List (Int×α))(k:Int):dropK (Zr val kvs) (.int k)=Zr val (ZH kvs k):=by
 unfold dropK ZH Zr;induction kvs with
 |nil=>rfl
 |cons p r ih =>rw[List.map_cons,List.filter_cons,List.filter_cons,Wb,ih];by_cases e:p.1=k<;>simp[e]
theorem Z5(ns:List Int):intsOf (ns.map Val.int)=some ns:=by
 induction ns with
 |nil=>rfl
 |cons n ns ih=>show(intsOf (ns.map Val.int)).map _=_;rw[ih];rfl
theorem Ao(kvs:List (Int×α)):keysOf (Zr val kvs)=some (kvs.map (·.1)):=by unfold keysOf Zr;rw[List.map_map];exact(congrArg intsOf (List.map_map (f:=fun p:Int×α=>p.1) (g:=Val.int) (l:=kvs)).symm).trans (Z5 _)
theorem Jb(kvs:List (Int×α)):(Zr val kvs).length=kvs.length:=by unfold Zr;rw[List.length_map]
theorem Ym{kvs:List (Int×α)}{k:Int}{v:α}(h:kvs.lookup k=some v):(k,v)∈kvs:=by
 induction kvs with
 |nil=>cases h
 |cons p r ih =>
  rw[List.lookup_cons]at h;by_cases e:k=p.1
  ·have:(k==p.1)=true:=by simp[e]
   rw[this]at h;cases h;rw[e];exact List.mem_cons_self
  ·have:(k==p.1)=false:=by simpa using e
   rw[this]at h;exact List.mem_cons_of_mem _ (ih h)
theorem ZZ{kvs:List (Int×α)}{k:Int}(h:k∈kvs.map (·.1)):∃ v,kvs.lookup k=some v:=by
 induction kvs with
 |nil=>cases h
 |cons p r ih =>
  rw[List.lookup_cons];by_cases e:k=p.1
  ·have:(k==p.1)=true:=by simp[e]
   rw[this];exact⟨_,rfl⟩
  ·have:(k==p.1)=false:=by simpa using e
   rw[this];rw[List.map_cons,List.mem_cons]at h;exact ih (h.resolve_left e)
theorem Jw{kvs:List (Int×α)}{k:Int}(h:kvs.lookup k=none):k∉kvs.map (·.1):=fun m=>by obtain⟨v,e⟩:=ZZ m;rw[h]at e;cases e
theorem C7{kvs:List (Int×α)}(nd:(kvs.map (·.1)).Nodup){k:Int}{v:α}(h:(k,v)∈kvs):kvs.lookup k=some v:=by
 induction kvs with
 |nil=>cases h
 |cons p r ih =>
  rw[List.map_cons,List.nodup_cons]at nd;rw[List.lookup_cons];rcases List.mem_cons.mp h with e|h
  ·subst e;simp
  ·have:k≠p.1:=fun z=>nd.1 (z▸List.mem_map_of_mem (f:=(·.1)) h);have:(k==p.1)=false:=by simpa using this
   rw[this];exact ih nd.2 h
theorem Mg(kvs:List (Int×α))(k:Int)(v:α):(Y3 kvs k v).map (·.1)=if(kvs.lookup k).isSome then kvs.map (·.1)else kvs.map (·.1)++[k]:=by
 unfold Y3;split
 ·rw[List.map_map];refine List.map_congr_left fun p _=>?_;simp only[Function.comp_apply];by_cases e:p.1=k<;>simp[e]
 ·rw[List.map_append];rfl
theorem X3{kvs:List (Int×α)}{k:Int}(v:α)(h:k∉kvs.map (·.1)):Y3 kvs k v=kvs++[(k,v)]:=by
 unfold Y3;have:kvs.lookup k=none:=by
  cases e:kvs.lookup k with
  |none=>rfl
  |some w=>exact absurd (List.mem_map_of_mem (f:=(·.1)) (Ym e)) h
 rw[this];rfl
theorem JO{kvs:List (Int×α)}(nd:(kvs.map (·.1)).Nodup)(k:Int)(v:α):((Y3 kvs k v).map (·.1)).Nodup:=by
 rw[Mg];split
 ·exact nd
 ·rename_i h;have h:kvs.lookup k=none:=Option.not_isSome_iff_eq_none.mp h;rw[List.nodup_append];refine⟨nd,by simp,fun a ha b hb=>?_⟩;rw[List.mem_singleton.mp hb];exact fun e=>Jw h (e▸ha)
theorem X4{kvs:List (Int×α)}{k:Int}{v:α}{p:Int×α}(h:p∈Y3 kvs k v):p=(k,v)∨p∈kvs:=by
 unfold Y3 at h;split at h
 ·obtain⟨q,hq,e⟩:=List.mem_map.mp h;split at e
  ·exact .inl e.symm
  ·exact .inr (e▸hq)
 ·rcases List.mem_append.mp h with h|h
  ·exact .inr h
  ·exact .inl (List.mem_singleton.mp h)
theorem KS(kvs:List (Int×α))(k:Int):(ZH kvs k).Sublist kvs:=List.filter_sublist
theorem WB{kvs:List (Int×α)}(nd:(kvs.map (·.1)).Nodup)(k:Int):((ZH kvs k).map (·.1)).Nodup:=nd.sublist ((KS kvs k).map _)
theorem BZ{kvs:List (Int×α)}{k:Int}{p:Int×α}(h:p∈ZH kvs k):p.1≠k:=by unfold ZH at h;have:=(List.mem_filter.mp h).2;simpa using this
theorem Ka{kvs:List (Int×α)}{k:Int}(h:kvs.lookup k=none):ZH kvs k=kvs:=by unfold ZH;rw[List.filter_eq_self];intro p hp;have:=Jw h;simp only[decide_eq_true_eq];exact fun e=>this (e▸List.mem_map_of_mem (f:=(·.1)) hp)
end
theorem ZX:∀ {m:Nat}{ns:List Int},ns.Nodup→(∀ x∈ns,0≤x∧x<m)→ns.length≤m
 |0,ns,nd,h=>by
  cases ns with
  |nil=>exact Nat.le_refl _
  |cons x xs=>have:=h x List.mem_cons_self;omega
 |m+1,ns,nd,h=>by
  by_cases hm:(m:Int)∈ns
  ·have:=ZX (m:=m) (nd.erase (m:Int)) fun x hx=>by
    have h1:=(nd.mem_erase_iff).mp hx;have h2:=h x h1.2;have:=h1.1;omega
   rw[List.length_erase_of_mem hm]at this;omega
  ·have:=ZX (m:=m) nd fun x hx=>by
    have h2:=h x hx;have:x≠(m:Int):=fun e=>hm (e▸hx);omega
   omega
noncomputable abbrev Pi:=Int×Int
noncomputable abbrev pV (p:Pi):Val:=.tup [.int p.1,.int p.2]
noncomputable def oV:Option Pi→Val
 |none=>.non
 |some p=>pV p
structure L where
 num:Pi
 st:Pi
 root:Int
 cost:Int
 age:Int
 rests:Option Pi
 agrees:Option Pi
noncomputable abbrev L.v (l:L):Val:=.tup [pV l.num,pV l.st,.int l.root,.int l.cost,.int l.age,oV l.rests,oV l.agrees]
noncomputable abbrev Yq (t:Int×Int):Val:=.tup [.int t.1,.int t.2]
noncomputable abbrev hdV (t:L×Int):Val:=.tup [t.1.v,.int t.2]
structure Lab where
 root:Int
 cost:Int
 up:Option (Int×Pi)
 deriving DecidableEq
noncomputable def upV:Option (Int×Pi)→Val
 |none=>.non
 |some p=>.int p.1
noncomputable def rsV:Option (Int×Pi)→Val
 |none=>.non
 |some p=>pV p.2
noncomputable abbrev Lab.v (l:Lab):Val:=.tup [.int l.root,.int l.cost,upV l.up,rsV l.up]
structure Br where
 number:Int
 life:Int
 most:Int
 ties:List (Int×(Int×Int))
 held:List (Int×(L×Int))
 label:Lab
 version:Int
 count:Int
noncomputable def Br.fs (B:Br) (t d:Ad):List (String×Val):=[("number",.int B.number),("life",.int B.life),("age_let_go",.int B.most),("ties_by_place",.ref t),("held_by_place",.ref d),("label_now",B.label.v),("version",.int B.version),("ticks_had",.int B.count)]
structure BrAt (h:Hs) (b t d:Ad) (B:Br):Prop where
 ins:h b=some (.ins "Bridge" [("number",.int B.number),("life",.int B.life),("age_let_go",.int B.most),("ties_by_place",.ref t),("held_by_place",.ref d),("label_now",B.label.v),("version",.int B.version),("ticks_had",.int B.count)])
 ties:h t=some (.dct (Zr Yq B.ties))
 held:h d=some (.dct (Zr hdV B.held))
 ne:t≠d
theorem Zi{h:Hs}{a b:Ad}{o u:Ob}(ha:h a=some o)(hb:h b=some u)(ne:o≠u):a≠b:=fun e=>by subst e;rw[ha]at hb;exact ne (Option.some.inj hb)
theorem BrAt.nbt{h:Hs}{b t d:Ad}{B:Br}(x:BrAt h b t d B):b≠t:=Zi x.ins x.ties nofun
theorem BrAt.nbd{h:Hs}{b t d:Ad}{B:Br}(x:BrAt h b t d B):b≠d:=Zi x.ins x.held nofun
structure Ex (S:List Ad) (h g:Hs):Prop where
 get:∀ {a:Ad}{o:Ob},a∉S→h a=some o→g a=some o
theorem Ex.refl{h:Hs}{S:List Ad}:Ex S h h:=⟨fun _ e=>e⟩
theorem Ex.trans{h g k:Hs}{S:List Ad}(e:Ex S h g)(f:Ex S g k):Ex S h k:=⟨fun n x=>f.get n (e.get n x)⟩
theorem Ex.of{h g:Hs}{S:List Ad}(e:Ext h g):Ex S h g:=⟨fun _ x=>e.get x⟩
theorem Ex.upd{h:Hs}{S:List Ad}{w:Ad}{o:Ob}(m:w∈S):Ex S h (upd h w o):=⟨fun {a _} n x=>by rw[upd_ne (fun e:a=w=>n (by rw[e];exact m))];exact x⟩
theorem Ex.sub{h g:Hs}{S T:List Ad}(e:Ex S h g)(m:∀ a∈S,a∈T):Ex T h g:=⟨fun n x=>e.get (fun z=>n (m _ z)) x⟩
theorem Ex.ext{h g:Hs}(e:Ex [] h g):Ext h g:=⟨fun x=>e.get (by simp) x⟩
theorem Ex.none{h g:Hs}{b p:Ad}(e:Ex [b] h g)(hb:g b≠none)(hp:g p=none):h p=none:=by
 cases z:h p with
 |none=>rfl
 |some o =>
  by_cases hpb:p=b
  ·subst hpb;exact absurd hp hb
  ·rw[e.get (by simpa using hpb) z]at hp;cases hp
theorem Ex.ofB{h g:Hs}{w:Ad}{S:List Ad}(e:ExtB w h g)(m:w∈S):Ex S h g:=⟨fun n x=>e.get (fun z=>n (z▸m)) x⟩
theorem BrAt.keep{h g:Hs}{b t d:Ad}{B:Br}{S:List Ad}(x:BrAt h b t d B)(e:Ex S h g)(hb:b∉S)(ht:t∉S)(hd:d∉S):BrAt g b t d B:=⟨e.get hb x.ins,e.get ht x.ties,e.get hd x.held,x.ne⟩
theorem BrAt.ext{h g:Hs}{b t d:Ad}{B:Br}(x:BrAt h b t d B)(e:Ext h g):BrAt g b t d B:=⟨e.get x.ins,e.get x.ties,e.get x.held,x.ne⟩
theorem nw{h:Hs}{o:Ob}{Q:Q1}(q:∀ p,h p=none→Q (.ref p) (upd h p o)):new h o Q:=Zh q
noncomputable def Zo (most:Int) (held:List (Int×(L×Int))):List (Int×(L×Int)):=held.filterMap fun p=>if p.2.2+1<most then some (p.1,(p.2.1,p.2.2+1))else none
theorem JA{most:Int}{held:List (Int×(L×Int))}{p:Int×(L×Int)}(h:p∈Zo most held):∃ a,(p.1,(p.2.1,a))∈held:=by
 obtain⟨q,hq,e⟩:=List.mem_filterMap.mp h;split at e
 ·cases e;exact⟨_,hq⟩
 ·cases e
theorem Y6(most:Int)(held:List (Int×(L×Int))):((Zo most held).map (·.1)).Sublist (held.map (·.1)):=by
 unfold Zo;induction held with
 |nil=>exact List.Sublist.refl _
 |cons p r ih =>
  rw[List.filterMap_cons];split
  ·exact ih.cons _
  ·rename_i q e;split at e
   ·cases e;exact ih.cons₂ _
   ·cases e
theorem YV(most:Int)(held:List (Int×(L×Int))):(Zo most held).length≤held.length:=List.length_filterMap_le _ _
theorem Z4{α β:Type}{f:α→β}:∀ {xs:List α}{i:Nat}{q:α},(xs.map f).Nodup→xs[i]?=some q→f q∉(xs.take i).map f
 |[],_,_,_,h=>by simp at h
 |x::xs,0,_,_,_=>by simp
 |x::xs,i+1,q,nd,h=>by
  rw[List.map_cons,List.nodup_cons]at nd;have h:xs[i]?=some q:=by simpa using h
  rw[List.take_succ_cons,List.map_cons,List.mem_cons,not_or];exact⟨fun e=>nd.1 (e▸List.mem_map_of_mem (List.mem_of_getElem? h)),Z4 nd.2 h⟩
theorem ZY{α:Type}{xs:List α}{i:Nat}{x:α}(h:xs[i]?=some x):xs.take (i+1)=xs.take i++[x]:=by rw[List.take_add_one,h];rfl
theorem YL{α:Type}{xs:List α}{f:α→Val}{i:Nat}{v:Val}(h:(xs.map f)[i]?=some v):∃ x,xs[i]?=some x∧v=f x:=by rw[List.getElem?_map]at h;obtain⟨x,h1,h2⟩:=Option.map_eq_some_iff.mp h;exact⟨x,h1,h2.symm⟩
theorem Ma{α:Type}{val:α→Val}{kvs:List (Int×α)}{i:Nat}{v:Val}(h:((Zr val kvs).map (itemOf false))[i]?=some v):∃ p,kvs[i]?=some p∧v=.tup [.int p.1,val p.2]:=by obtain⟨q,h1,rfl⟩:=YL h;unfold Zr at h1;rw[List.getElem?_map]at h1;obtain⟨x,h2,rfl⟩:=Option.map_eq_some_iff.mp h1;exact⟨x,h2,rfl⟩
theorem DY{α:Type}{val:α→Val}(kvs:List (Int×α)):((Zr val kvs).map (itemOf false)).length=kvs.length:=by rw[List.length_map,Jb]
variable {P:Pg} [Al P] {n:Nat}{h:Hs}{w b t d st a f tt hh:Ad}{S B:Br}{c:Int}{all:List (Int×Int)}{ps:List Int}{Q:Q1}{X:XQ}
theorem WN (x:BrAt h b t d B) (k:Q (pV (B.life,B.version)) h):wF P (n+1) "Bridge.stamp" [.ref b] h Q X:=by obtain⟨hi,ht,hd,hne⟩:=x;refine W1 ?_;walk_at "py";exact k
noncomputable def hdO:Option (L×Int)→Val
 |none=>.non
 |some p=>hdV p
theorem Nj {p:Int}(x:BrAt h b t d B) (k:Q (hdO (B.held.lookup p)) h):wF P (n+1) "Bridge.held" [.ref b,.int p] h Q X:=by
 obtain⟨hi,ht,hd,hne⟩:=x;refine Jd ?_;walk_at "py";refine FP (v:=.int p) hd rfl ?_;rw[Z6];cases e:B.held.lookup p with
 |none=>rw[e]at k;exact k
 |some q=>rw[e]at k;exact k
theorem C6 (x:BrAt h b t d B) (nd:(B.held.map (·.1)).Nodup) (hl:B.held.length<1000) (k:∀ d' g,h d'=none→BrAt g b t d' {B with held:=Zo B.most B.held}→Ex [b] h g→Q .non g):wF P (n+1) "Bridge.let_grow_older" [.ref b] h Q X:=by
 obtain⟨hi,ht,hd,hne⟩:=id x;refine Yr ?_;walk_at "py";intro p hp;have npd:=Za hd hp;have npb:=Za hi hp;have npt:=Za ht hp;have nbd:=x.nbd;walk_at "py";refine ZJ (fun i e g=>∃ u v,e=[some (.ref b),some (.ref p),u,v]∧g p=some (.dct (Zr hdV (Zo B.most (B.held.take i))))∧g d=some (.frz (Zr hdV B.held))∧Ex [d] h g) ⟨none,none,rfl,by rw[upd_ne npd.symm];exact upd_same,upd_same,?_⟩ ?_ ?_ ?_
 ·exact⟨fun m e=>by rw[upd_ne (fun z=>m (by simp[z])),upd_ne (Za e hp)];exact e⟩
 ·rintro i e g hi2 ⟨u,v,rfl,h1,h2,h3⟩;exact h2
 ·rintro i v e g hv ⟨u,w,rfl,h1,h2,h3⟩ K hK;obtain⟨q,hq,rfl⟩:=Ma hv;have hi1:=h3.get (by simpa using nbd) hi;obtain⟨pl,l,a⟩:=q;have e1:Zo B.most (B.held.take (i+1))=Zo B.most (B.held.take i)++Zo B.most [(pl,(l,a))]:=by
   unfold Zo;rw[ZY hq,List.filterMap_append]
  walk_at "py";refine ifP (fun hc=>?_) (fun hc=>?_)
  ·walk_at "py";refine ZO (k:=.int pl) h1 ⟨rfl,?_⟩ ?_
   ·rw[Jb];have h5:=YV B.most (B.held.take i);have h6:(B.held.take i).length≤B.held.length:=List.length_take_le' _ _;exact Nat.lt_of_le_of_lt (Nat.le_trans h5 h6) (Nat.lt_trans hl (by decide))
   walk_at "py";rw[show Val.tup [l.v,.int (a+1)]=hdV (l,a+1) from rfl,Yh];refine hK _ _ ⟨_,_,rfl,?_,?_,?_⟩
   ·rw[upd_same,e1,X3]
    ·unfold Zo;rw[List.filterMap_cons,if_pos hc];rfl
    ·exact fun m=>Z4 nd hq ((Y6 _ _).subset m)
   ·rw[upd_ne npd];exact h2
   ·exact⟨fun m e=>by rw[upd_ne (Za e hp)];exact h3.get m e⟩
  ·walk_at "py";refine hK _ _ ⟨_,_,rfl,?_,h2,h3⟩;rw[h1,e1];unfold Zo;rw[List.filterMap_cons,if_neg hc];simp
 ·rintro e g ⟨u,v,rfl,h1,h2,h3⟩;have hi1:=h3.get (by simpa using nbd) hi;rw[DY,List.take_length]at h1;refine⟨h2,?_⟩;walk_at "py";refine k p _ hp ⟨upd_same,?_,?_,npt⟩ ?_
  ·rw[upd_ne x.nbt.symm,upd_ne hne];exact h3.get (by simpa using hne) ht
  ·rw[upd_ne npb.symm,upd_ne npd.symm];exact h1
  ·refine⟨fun {c o} m e=>?_⟩;rw[upd_ne (by simpa using m)];by_cases hcd:c=d
   ·subst hcd;rw[upd_same,←e];exact hd.symm
   ·rw[upd_ne hcd];exact h3.get (by simpa using hcd) e
theorem Ko{α:Type}(x:α)(xs:List α):atI (x::xs) 0=some x:=by unfold atI ixN;rw[if_pos (by decide),if_pos (by simp)];rfl
noncomputable def Y4 (r:List Int):Val:=.tup (r.map .int)
theorem Ky(rows:List (List Int)):rowsOf (rows.map Y4)=some rows:=by
 induction rows with
 |nil=>rfl
 |cons r rs ih =>show(intsOf (r.map .int)).bind (fun ns=>(rowsOf (rs.map Y4)).map (ns :: ·))=_;rw[Z5,ih];rfl
noncomputable def ZG (number:Int) (rows:List (List Int)):Option (List Int):=match rows.filter (fun r=>decide (r.headD 0<number))with
 |[]=>none
 |x::r=>some (minR x r)
noncomputable def B6:Option (List Int)→Val
 |none=>.non
 |some r=>Y4 r
theorem WV:∀ (r:List (List Int)) (x:List Int),minR x r∈x::r
 |[],x=>List.mem_cons_self
 |y::r,x=>by
  show minR (if lexI y x then y else x) r∈x::y::r;have h:=WV r (if lexI y x then y else x);rcases List.mem_cons.mp h with e|h
  ·rw[e];split
   ·simp
   ·simp
  ·simp[h]
theorem WL{number:Int}{rows:List (List Int)}{m:List Int}(h:ZG number rows=some m):m∈rows:=by
 unfold ZG at h;split at h
 ·cases h
 ·rename_i x r e;cases h;have:minR x r∈rows.filter (fun r=>decide (r.headD 0<number)):=by rw[e];exact WV r x
  exact(List.mem_filter.mp this).1
theorem Cf {l:Ad}{number:Int}{rows:List (List Int)}(hl:h l=some (.lst (rows.map Y4))) (h0:∀ r∈rows,r≠[]) (hn:rows.length<1000) (k:∀ g,Ext h g→Q (B6 (ZG number rows)) g):wF P (n+1) "best_offer" [.int number,.ref l] h Q X:=by
 refine Kq ?_;walk_at "py";refine⟨by rw[List.length_map];exact Nat.lt_trans hn (by decide),?_⟩;refine YN (fun v=>match v with|.tup (.int i::xs)=>if i<number then some v else none|_=>none) (lsE hl) ?_ ?_
 ·intro v hv K hK;obtain⟨r,hr,rfl⟩:=List.mem_map.mp hv;cases r with
  |nil=>exact absurd rfl (h0 _ hr)
  |cons i xs =>
   have hK:K (if i<number then some (Y4 (i::xs))else none) h:=hK;rw[show Y4 (i::xs)=.tup (.int i::xs.map .int) from rfl]at hK ⊢;walk_at "py";refine ix_tup (Ko _ _) ?_;walk_at "py";refine ifP (fun hc=>?_) (fun hc=>?_)
   ·rw[if_pos hc]at hK;walk_at "py";exact hK
   ·rw[if_neg hc]at hK;exact hK
 ·refine Zh fun p hp=>?_;walk_at "py";have e1:(rows.map Y4).filterMap (fun v=>match v with|.tup (.int i::xs)=>if i<number then some v else none|_=>none)=(rows.filter fun r=>decide (r.headD 0<number)).map Y4:=by
   clear hl k hn;induction rows with
   |nil=>rfl
   |cons r rs ih =>
    have ih:=ih fun r hr=>h0 r (List.mem_cons_of_mem _ hr);cases r with
    |nil=>exact absurd rfl (h0 _ List.mem_cons_self)
    |cons i xs =>
     rw[List.map_cons,List.filterMap_cons,List.filter_cons];by_cases hc:i<number
     ·simp only[Y4,List.map_cons,if_pos hc,List.headD_cons,hc,decide_true,if_true]at ih ⊢;rw[ih]
     ·simp only[Y4,List.map_cons,if_neg hc,List.headD_cons,hc,decide_false,Bool.false_eq_true,if_false]at ih ⊢;rw[ih]
  rw[e1];have hx:Ext h (upd h p (.lst ((rows.filter fun r=>decide (r.headD 0<number)).map Y4))):=Ext.new hp;cases e2:rows.filter fun r=>decide (r.headD 0<number)with
  |nil =>rw[e2]at hx;refine F8 upd_same ?_;have:=k _ hx;unfold ZG at this;rw[e2]at this;exact this
  |cons x r =>rw[e2]at hx;refine BE upd_same (Ky (x::r)) ?_;have:=k _ hx;unfold ZG at this;rw[e2]at this;exact this
noncomputable def YK (ties:List (Int×(Int×Int))) (p:Int):Int×Int:=(ties.lookup p).getD (0,0)
noncomputable def Xa (ties:List (Int×(Int×Int))) (q:Int×(L×Int)):List Int:=[q.2.1.root,q.2.1.cost+(YK ties q.1).2,(YK ties q.1).1,q.1]
noncomputable def ZN (ties:List (Int×(Int×Int))) (held:List (Int×(L×Int))):List (List Int):=held.map (Xa ties)
noncomputable def KD (held:List (Int×(L×Int))) (p:Int):Pi:=((held.lookup p).map (·.1.st)).getD (0,0)
noncomputable def reck (B:Br):Lab:=match ZG B.number (ZN B.ties B.held)with
 |none=>⟨B.number,0,none⟩
 |some m=>⟨m.getD 0 0,m.getD 1 0,some (m.getD 3 0,KD B.held (m.getD 3 0))⟩
theorem MJ{ties:List (Int×(Int×Int))}{p:Int}(h:(ties.lookup p).isSome=true):ties.lookup p=some (YK ties p):=by
 unfold YK;cases e:ties.lookup p with
 |none=>rw[e]at h;cases h
 |some v=>rfl
theorem O0 (x:BrAt h b t d B) (sub:∀ q∈B.held,(B.ties.lookup q.1).isSome=true) (hn:B.held.length<1000) (k:∀ g,Ext h g→Q (reck B).v g):wF P (n+2) "Bridge.reckon_label" [.ref b] h Q X:=by
 obtain⟨hi,ht,hd,hne⟩:=id x;refine YA ?_;walk_at "py";refine Zh fun p hp=>?_;have npd:=Za hd hp;have npb:=Za hi hp;have npt:=Za ht hp;have nbd:=x.nbd;walk_at "py";refine ZJ (fun i e g=>∃ u v w z,e=[some (.ref b),some (.ref p),u,v,w,z,none,none]∧g p=some (.lst ((ZN B.ties (B.held.take i)).map Y4))∧g d=some (.frz (Zr hdV B.held))∧Ex [d] h g) ⟨none,none,none,none,rfl,by rw[upd_ne npd.symm];exact upd_same,upd_same,?_⟩ ?_ ?_ ?_
 ·exact⟨fun m e=>by rw[upd_ne (fun z=>m (by simp[z])),upd_ne (Za e hp)];exact e⟩
 ·rintro i e g hi2 ⟨u,v,w,z,rfl,h1,h2,h3⟩;exact h2
 ·rintro i v e g hv ⟨u,v,w,z,rfl,h1,h2,h3⟩ K hK;obtain⟨q,hq,rfl⟩:=Ma hv;have hi1:=h3.get (by simpa using nbd) hi;have ht1:=h3.get (by simpa using hne) ht;have hs:=MJ (sub q (List.mem_of_getElem? hq));obtain⟨pl,l,a⟩:=q;generalize htt:YK B.ties pl=tt at hs;obtain⟨nb,c⟩:=tt;walk_at "py";refine Zb ht1 rfl (by rw[Z6,hs];rfl) ?_;walk_at "py";refine ZW h1 ?_ ?_
  ·rw[List.length_map];unfold ZN;rw[List.length_map];exact Nat.lt_of_le_of_lt (List.length_take_le' _ _) (Nat.lt_trans hn (by decide))
  dsimp only;walk_at "py";refine hK _ _ ⟨_,_,_,_,rfl,?_,?_,?_⟩
  ·rw[upd_same,ZY hq];unfold ZN Xa;rw[List.map_append,List.map_append,List.map_cons,htt];rfl
  ·rw[upd_ne npd];exact h2
  ·exact⟨fun m e=>by rw[upd_ne (Za e hp)];exact h3.get m e⟩
 ·rintro e g ⟨u,v,w,z,rfl,h1,h2,h3⟩;have hi1:=h3.get (by simpa using nbd) hi;have hi2:upd g d (.dct (Zr hdV B.held)) b=_:=upd_ne' nbd hi1;rw[DY,List.take_length]at h1;have h1':upd g d (.dct (Zr hdV B.held)) p=_:=upd_ne' npd.symm h1;have hx:Ext h (upd g d (.dct (Zr hdV B.held))):=⟨fun {c o} e=>by
    by_cases hcd:c=d
    · subst hcd;rw[upd_same,←e];exact hd.symm
    · rw[upd_ne hcd];exact h3.get (by simpa using hcd) e⟩
  have hd2:upd g d (.dct (Zr hdV B.held)) d=_:=upd_same;refine⟨h2,?_⟩;generalize upd g d (.dct (Zr hdV B.held))=g2 at hi2 h1' hx hd2 ⊢;walk_at "py";refine Cf h1' ?_ ?_ fun g3 h3=>?_
  ·intro r hr;unfold ZN at hr;obtain⟨q,_,rfl⟩:=List.mem_map.mp hr;unfold Xa;simp
  ·unfold ZN;rw[List.length_map];exact hn
  have hi3:=h3.get hi2;have hd3:=h3.get hd2;have kk:=k g3 (hx.trans h3);unfold reck at kk;walk_at "py";cases e:ZG B.number (ZN B.ties B.held)with
  |none =>rw[e]at kk;simp only[B6];refine ifP (fun hc=>?_) (fun hc=>absurd trivial hc);walk_at "py";exact kk
  |some m =>rw[e]at kk;have hm:=WL e;unfold ZN at hm;obtain⟨q,hq,rfl⟩:=List.mem_map.mp hm;refine ifP (fun hc=>(by simp[B6,Y4]at hc)) (fun hc=>?_);have hlk:∃ y,B.held.lookup q.1=some y:=ZZ (List.mem_map_of_mem (f:=(·.1)) hq);obtain⟨y,hy⟩:=hlk;unfold Xa at kk ⊢;simp only[B6,Y4,List.map_cons,List.map_nil];walk_at "py";refine Zb hd3 rfl (by rw[Z6,hy];rfl) ?_;walk_at "py";unfold KD at kk;simp only[List.getD_cons_succ,List.getD_cons_zero]at kk;rw[hy]at kk;exact kk
noncomputable def C9 (l:Lab):D:=.tup [.int l.root,.int l.cost,(match l.up with|none=>.non|some p=>.int p.1),(match l.up with|none=>.non|some p=>.tup [.int p.2.1,.int p.2.2])]
theorem Nu(h:Hs)(l:Lab):dat h deep l.v=some (C9 l):=by obtain⟨r,c,u⟩:=l;cases u<;>rfl
theorem UP(h:Hs)(l m:Lab):eqV h l.v m.v=some (decide (l=m)):=by
 unfold eqV;rw[Nu,Nu];show some (D.eqv (C9 l) (C9 m))=_;congr 1;obtain⟨r,c,u⟩:=l;obtain⟨r',c',u'⟩:=m;unfold C9;cases u with
 |none=>cases u' with
  |none=>simp only[D.eqv,D.eqvs,Bool.and_true];by_cases h1:r=r'<;>by_cases h2:c=c'<;>simp[h1,h2]
  |some q=>simp[D.eqv,D.eqvs]
 |some p=>cases u' with
  |none=>simp[D.eqv,D.eqvs]
  |some q =>obtain⟨p1,p2,p3⟩:=p;obtain⟨q1,q2,q3⟩:=q;simp only[D.eqv,D.eqvs,Bool.and_true];by_cases h1:r=r'<;>by_cases h2:c=c'<;>by_cases h3:p1=q1<;>by_cases h4:p2=q2<;>by_cases h5:p3=q3<;>simp[h1,h2,h3,h4,h5]
noncomputable def Zw (B:Br) (l:Lab):Br:=if l=B.label then B else {B with label:=l,version:=B.version+1}
theorem Np{v u:Val}{c:Bool}{KB:Bool→Prop}(e:eqV h v u=some c)(q:KB (!c)):go (cmpV h .ne v u) KB:=go_of (by show(eqV h v u).map _=_;rw[e];rfl) q
theorem Bo{v u:Val}{c:Bool}{KB:Bool→Prop}(e:eqV h v u=some c)(q:KB c):go (cmpV h .eq v u) KB:=go_of e q
theorem BV {l:Lab}(x:BrAt h b t d B) (k:∀ g,BrAt g b t d (Zw B l)→Ex [b] h g→Q .non g):wF P (n+1) "Bridge.take_label" [.ref b,l.v] h Q X:=by
 obtain⟨hi,ht,hd,hne⟩:=id x;refine YW ?_;walk_at "py";refine Np (UP h l B.label) ?_;walk_at "py";unfold Zw at k;refine KC (fun hc=>?_) (fun hc=>?_)
 ·rw[if_neg hc]at k;walk_at "py";refine YC upd_same (show(8:Nat)<900 by decide) ?_;walk_at "py";refine k _ ⟨?_,?_,?_,hne⟩ ?_
  ·rw[upd_upd,upd_same];rfl
  ·rw[upd_ne x.nbt.symm,upd_ne x.nbt.symm];exact ht
  ·rw[upd_ne x.nbd.symm,upd_ne x.nbd.symm];exact hd
  ·exact(Ex.upd (by simp)).trans (Ex.upd (by simp))
 ·rw[if_pos hc]at k;walk_at "py";exact k h x Ex.refl
theorem Hm(h:Hs)(r:Option Pi)(s:Pi):eqV h (oV r) (pV s)=some (decide (r=some s)):=by
 obtain⟨s1,s2⟩:=s;cases r with
 |none =>show some (D.eqv .non (.tup [.int s1,.int s2]))=_;simp[D.eqv]
 |some p =>obtain⟨p1,p2⟩:=p;show some (D.eqv (.tup [.int p1,.int p2]) (.tup [.int s1,.int s2]))=_;congr 1;simp only[D.eqv,D.eqvs,Bool.and_true];by_cases h1:p1=s1<;>by_cases h2:p2=s2<;>simp[h1,h2]
noncomputable def Y1 (B:Br) (p:Int):Bool:=match B.held.lookup p with
 |none=>false
 |some q=>decide (q.1.rests=some (B.life,B.version))
theorem OW {p:Int}(x:BrAt h b t d B) (k:Q (.bl (Y1 B p)) h):wF P (n+2) "Bridge.is_rested_on" [.ref b,.int p] h Q X:=by
 obtain⟨hi,ht,hd,hne⟩:=id x;refine YB ?_;walk_at "py";refine Nj x ?_;unfold Y1 at k;walk_at "py";cases e:B.held.lookup p with
 |none =>rw[e]at k;refine KC (fun hc=>absurd rfl hc) (fun hc=>?_);exact k
 |some q =>rw[e]at k;obtain⟨l,a⟩:=q;refine KC (fun hc=>?_) (fun hc=>by simp[hdO]at hc);simp only[hdO];walk_at "py";refine WN x ?_;refine Bo (Hm h _ _) ?_;exact k
noncomputable def B2 (u:Option (Int×Pi)) (p:Int):Bool:=match u with
 |none=>false
 |some q=>decide (p=q.1)
noncomputable def Ye (B:Br):Int:=match B.label.up with
 |none=>0
 |some q=>((B.held.lookup q.1).map (·.2)).getD 0+1
noncomputable def Zx (B:Br) (p:Int):L where
 num:=(B.life,B.count)
 st:=(B.life,B.version)
 root:=B.label.root
 cost:=B.label.cost
 age:=Ye B
 rests:=if B2 B.label.up p then B.label.up.map (·.2)else none
 agrees:=if B2 B.label.up p then none else if Y1 B p then some (KD B.held p)else none
theorem DK(h:Hs)(p:Int)(u:Option (Int×Pi)):eqV h (.int p) (upV u)=some (B2 u p):=by
 cases u with
 |none=>rfl
 |some q =>show some (D.eqv (.int p) (.int q.1))=_;rw[A6];rfl
theorem Dt {p:Int}(x:BrAt h b t d B) (hu:∀ q,B.label.up=some q→(B.held.lookup q.1).isSome=true) (k:Q (Zx B p).v h):wF P (n+3) "Bridge.letter_over" [.ref b,.int p] h Q X:=by
 obtain⟨hi,ht,hd,hne⟩:=id x;refine YF ?_;walk_at "py";have main:wSs (wF P (n+2)) (.cons (.ite (.val (.cmp .eq (.var 1) (.var 4))) (.cons (.ret (.bin .add (.var 7) (.tup (.cons (.var 5) (.cons (.cst .non) .nil))))) .nil) .nil)
   (.cons (.ite (.val (.meth "Bridge" "is_rested_on" (.var 0) (.cons (.var 1) .nil))) (.cons (.ret (.bin .add (.var 7) (.tup (.cons (.cst .non) (.cons (.idx (.idx (.idx (.fld (.var 0) "held_by_place") (.var 1)) (.cst (.int 0))) (.glob "STAMP" (.int 1))) .nil)))))
   .nil) .nil) (.cons (.ret (.bin .add (.var 7) (.tup (.cons (.cst .non) (.cons (.cst .non) .nil))))) .nil)))
   [some (.ref b),some (.int p),some (.int B.label.root),some (.int B.label.cost),some (upV B.label.up),some (rsV B.label.up),some (.int (Ye B)),some (.tup [pV (B.life,B.count),pV (B.life,B.version),.int B.label.root,.int B.label.cost,.int (Ye B)])] h (fun _ g=>Q .non g) Q (fun _ _=>False) (fun _ _=>False) fun _ c g=>X c g:=by
  walk_at "py";refine Bo (DK h p B.label.up) ?_;walk_at "py";refine ifD (fun hc=>?_) (fun hc=>?_)
  ·walk_at "py";refine Xz ⟨by simp,(show(7:Nat)≤lim by decide)⟩ ?_;unfold Zx at k;rw[hc]at k;cases e:B.label.up with
   |none=>rw[e]at hc;cases hc
   |some q=>rw[e]at k;exact k
  ·walk_at "py";refine OW x ?_;walk_at "py";unfold Zx at k;rw[hc]at k;refine ifD (fun hr=>?_) (fun hr=>?_)
   ·rw[hr]at k;unfold Y1 at hr;cases e:B.held.lookup p with
    |none=>rw[e]at hr;cases hr
    |some q =>obtain⟨l,a⟩:=q;walk_at "py";refine Zb hd rfl (by rw[Z6,e];rfl) ?_;walk_at "py";refine Xz ⟨by simp,(show(7:Nat)≤lim by decide)⟩ ?_;unfold KD at k;rw[e]at k;exact k
   ·rw[hr]at k;walk_at "py";refine Xz ⟨by simp,(show(7:Nat)≤lim by decide)⟩ ?_;exact k
 cases e:B.label.up with
 |none =>
  have ea:Ye B=0:=by unfold Ye;rw[e]
  rw[e,ea]at main;refine ifP (fun hc=>?_) (fun hc=>absurd rfl hc);walk_at "py";refine WN x ?_
  iterate 8 walk_at "py1"
  exact main
 |some q =>
  obtain⟨y,hy⟩:=Option.isSome_iff_exists.mp (hu q e);have ea:Ye B=y.2+1:=by unfold Ye;rw[e];dsimp only;rw[hy];rfl
  rw[e,ea]at main;refine ifP (fun hc=>by cases hc) (fun hc=>?_);simp only[upV];walk_at "py";refine Zb hd rfl (by rw[Z6,hy];rfl) ?_;walk_at "py";refine WN x ?_
  iterate 8 walk_at "py1"
  exact main
theorem NZ{B:Br}{q:Int×Pi}(hq:(reck B).up=some q):(B.held.lookup q.1).isSome=true:=by
 unfold reck at hq;split at hq
 ·cases hq
 ·rename_i m e;have hm:=WL e;unfold ZN at hm;obtain⟨y,hy,rfl⟩:=List.mem_map.mp hm;cases hq;obtain⟨v,hv⟩:=ZZ (List.mem_map_of_mem (f:=(·.1)) hy);show(B.held.lookup y.1).isSome=true;rw[hv];rfl
noncomputable def Br.grown (B:Br):Br:={B with held:=Zo B.most B.held}
noncomputable def Br.told (B:Br):Br:=Zw B.grown (reck B.grown)
noncomputable def Br.ticked (B:Br):Br:={B.told with count:=B.count+1}
noncomputable def Zn (B:Br):List Val:=(sortI (B.ties.map (·.1))).map fun p=>.tup [.int p,(Zx B p).v]
theorem Yu(B:Br)(l:Lab):(Zw B l).held=B.held∧(Zw B l).ties=B.ties∧(Zw B l).count=B.count∧(Zw B l).label=l∧(Zw B l).number=B.number∧(Zw B l).life=B.life∧(Zw B l).most=B.most:=by
 unfold Zw;split
 ·rename_i e;exact⟨rfl,rfl,rfl,e.symm,rfl,rfl,rfl⟩
 ·exact⟨rfl,rfl,rfl,rfl,rfl,rfl,rfl⟩
structure Br.ok (B:Br):Prop where
 nd:(B.held.map (·.1)).Nodup
 sub:∀ q∈B.held,(B.ties.lookup q.1).isSome=true
 nt:(B.ties.map (·.1)).Nodup
 rg:∀ q∈B.ties,0≤q.1∧q.1<16
theorem Br.ok.tlen{B:Br}(o:B.ok):B.ties.length≤16:=by
 have:=ZX (m:=16) o.nt fun x hx=>by obtain⟨q,hq,rfl⟩:=List.mem_map.mp hx;exact o.rg q hq
 simpa using this
theorem Br.ok.hlen{B:Br}(o:B.ok):B.held.length≤16:=by
 have:=ZX (m:=16) o.nd fun x hx=>by obtain⟨q,hq,rfl⟩:=List.mem_map.mp hx;obtain⟨v,hv⟩:=Option.isSome_iff_exists.mp (o.sub q hq);exact o.rg _ (Ym hv)
 simpa using this
theorem Br.ok.grown{B:Br}(o:B.ok):B.grown.ok where
 nd:=o.nd.sublist (Y6 _ _)
 sub:=fun q hq=>by obtain⟨a,ha⟩:=JA hq;exact o.sub (q.1,(q.2.1,a)) ha
 nt:=o.nt
 rg:=o.rg
theorem Br.ok.told{B:Br}(o:B.ok):B.told.ok:=by
 obtain⟨h1,h2,_⟩:=Yu B.grown (reck B.grown);have g:=o.grown;refine⟨?_,?_,?_,?_⟩
 ·show((Zw B.grown (reck B.grown)).held.map (·.1)).Nodup;rw[h1];exact g.nd
 ·show ∀ q∈(Zw B.grown (reck B.grown)).held,((Zw B.grown (reck B.grown)).ties.lookup q.1).isSome=true;rw[h1,h2];exact g.sub
 ·show((Zw B.grown (reck B.grown)).ties.map (·.1)).Nodup;rw[h2];exact g.nt
 ·show ∀ q∈(Zw B.grown (reck B.grown)).ties,_;rw[h2];exact g.rg
theorem Br.ok.ticked{B:Br}(o:B.ok):B.ticked.ok:=⟨o.told.nd,o.told.sub,o.told.nt,o.told.rg⟩
theorem Nr (x:BrAt h b t d B) (o:B.ok) (k:∀ p d' g,h p=none→h d'=none→BrAt g b t d' B.ticked→g p=some (.lst (Zn B.told))→Ex [b] h g→p≠d'→Q (.ref p) g):wF P (n+4) "Bridge.tick" [.ref b] h Q X:=by
 obtain⟨hi,ht,hd,hne⟩:=id x;have hlen:=o.hlen;refine Je ?_;walk_at "py";refine C6 x o.nd (by omega) fun d' g hd' x1 e1=>?_;obtain⟨hi1,ht1,hd1,hne1⟩:=id x1;have og:=o.grown;have x1':BrAt g b t d' B.grown:=x1;walk_at "py";refine O0 x1' og.sub (by have:=og.hlen;omega) fun g2 e2=>?_;have x2:=x1'.ext e2;walk_at "py";refine BV x2 fun g3 x3 e3=>?_;obtain⟨hi3,ht3,hd3,hne3⟩:=id x3;obtain⟨c1,c2,c3,c4,c5,c6,c7⟩:=Yu B.grown (reck B.grown);have hties:B.told.ties=B.ties:=c2;walk_at "py";refine MS ht3 (Ao _) ?_ (Zh fun p1 hp1=>?_)
 ·rw[List.length_map];have:=o.tlen;show B.told.ties.length<64;rw[hties];omega
 walk_at "py";refine⟨?_,?_⟩
 ·rw[List.length_map,sortI,List.length_mergeSort,List.length_map];have:=o.tlen;show B.told.ties.length<lim;rw[hties];exact Nat.lt_of_le_of_lt this (by decide)
 have x4:=x3.ext (Ext.new (o:=.lst ((sortI ((Zw B.grown (reck B.grown)).ties.map (·.1))).map Val.int)) hp1);have up:∀ q,(Zw B.grown (reck B.grown)).label.up=some q→((Zw B.grown (reck B.grown)).held.lookup q.1).isSome=true:=fun q hq=>by rw[c4]at hq;rw[c1];exact NZ hq
 refine YN (fun v=>match v with|.int i=>some (.tup [.int i,(Zx B.told i).v])|_=>none) (lsE upd_same) ?_ ?_
 ·intro v hv K hK;obtain⟨i,hi,rfl⟩:=List.mem_map.mp hv;obtain⟨hi4,ht4,hd4,hne4⟩:=id x4;walk_at "py";rw[if_pos rfl];change wE _ _ [some (.int i),some (.ref b)] _ _ _;walk_at "py";refine Dt x4 up ?_;walk_at "py";exact hK
 ·refine Zh fun p hp=>?_;have x5:=x4.ext (Ext.new (o:=.lst (Zn B.told)) hp);have e0:((sortI ((Zw B.grown (reck B.grown)).ties.map (·.1))).map Val.int).filterMap (fun v=>match v with|.int i=>some (.tup [.int i,(Zx B.told i).v])|_=>none)=Zn B.told:=by
   rw[List.filterMap_map];unfold Zn;exact congrFun (List.filterMap_eq_map (f:=fun i:Int=>Val.tup [.int i,(Zx B.told i).v])) _
  rw[e0];obtain⟨hi5,ht5,hd5,hne5⟩:=id x5;walk_at "py";have c3':(Zw B.grown (reck B.grown)).count=B.count:=c3;rw[c3'];have eg:Ex [b] h (upd g3 p1 (.lst ((sortI ((Zw B.grown (reck B.grown)).ties.map (·.1))).map Val.int))):=((e1.trans (.of e2)).trans e3).trans (.of (Ext.new hp1));have hpn:h p=none:=eg.none (by rw[x4.ins];intro z;cases z) hp;have npb:b≠p:=Za x4.ins hp;refine k p d' _ hpn hd' ⟨upd_same,?_,?_,x5.ne⟩ ?_ ?_ (Za x4.held hp).symm
  ·rw[upd_ne x5.nbt.symm];exact x5.ties
  ·rw[upd_ne x5.nbd.symm];exact x5.held
  ·rw[upd_ne npb.symm];exact upd_same
  ·exact(eg.trans (.of (Ext.new hp))).trans (Ex.upd (by simp))
def Well (h:Hs) (w:Ad):Prop:=∃ a b,h w=some (.lst [.int a,.int b])
theorem Well.ne{h:Hs}{w p:Ad}(x:Well h w)(e:h p=none):w≠p:=by obtain⟨_,_,x⟩:=x;exact Za x e
theorem Well.ext{h g:Hs}{w:Ad}(x:Well h w)(e:Ext h g):Well g w:=by obtain⟨_,_,x⟩:=x;exact⟨_,_,e.get x⟩
theorem Well.exb{h g:Hs}{w:Ad}{S:List Ad}(x:Well h w)(e:Ex S h g)(n:w∉S):Well g w:=by obtain⟨_,_,x⟩:=x;exact⟨_,_,e.get n x⟩
theorem KJ(ns:List Int)(lo hi:Option Int):cut (ns.map Val.int) lo hi=(cut ns lo hi).map Val.int:=by unfold cut;rw[List.length_map,List.map_take,List.map_drop]
theorem Nq{α:Type}(xs:List α)(lo hi:Option Int):(cut xs lo hi).length≤xs.length:=by unfold cut;rw[List.length_take,List.length_drop];omega
theorem two{r:Int}(h0:0≤r)(h1:r<2):r=0∨r=1:=by omega
theorem Lv{r:Int}(h0:0≤r)(h1:r<3):r=0∨r=1∨r=2:=by omega
theorem four{r:Int}(h0:0≤r)(h1:r<4):r=0∨r=1∨r=2∨r=3:=by omega
theorem PU{r:Int}(h0:0≤r)(h1:r<5):r=0∨r=1∨r=2∨r=3∨r=4:=by omega
theorem FR{α:Type}{xs:List α}{i:Int}(h0:0≤i)(h1:i<xs.length):∃ x,x∈xs∧atI xs i=some x:=by
 have h2:i.toNat<xs.length:=by omega
 refine⟨xs[i.toNat],List.getElem_mem h2,?_⟩;unfold atI ixN;rw[if_pos h0,if_pos h1,Option.bind_some,List.getElem?_eq_getElem h2]
def Pl:Nat→Val→Prop
 |_,.non=>True
 |_,.int _=>True
 |_,.str s=>True
 |d+1,.tup xs=>∀ x∈xs,Pl d x
 |_,_=>False
theorem K0(xs:List Val):∀ {i:Nat}{v:Val},(zipL xs xs)[i]?=some v→∃ x,x∈xs∧v=.tup [x,x]:=by
 induction xs with
 |nil=>intro i v h;simp[zipL]at h
 |cons x xs ih =>
  intro i v h;cases i with
  |zero=>simp[zipL]at h;exact⟨x,by simp,h.symm⟩
  |succ i =>obtain⟨y,hy,e⟩:=ih (i:=i) (v:=v) (by simpa[zipL]using h);exact⟨y,by simp[hy],e⟩
theorem NJ {c:Int}(k:∀ p g,h p=none→Ext h g→Well g p→Q (.ref p) g):wF P (n+1) "_law_well" [.int c] h Q X:=by
 refine M4 ?_;walk_at "py";refine ifP (fun hc=>?_) (fun hc=>?_)<;>walk_at "py"<;>refine Zh fun p hp=>?_
 ·exact k p _ hp (Ext.new hp) ⟨_,_,upd_same⟩
 ·exact k p _ hp (Ext.new hp) ⟨_,_,upd_same⟩
theorem Zg{m:Int}(hw:Well h w)(h1:0<m)(h2:m<1073741824)
  (k:∀ r g,0≤r→r<m→ExtB w h g→Well g w→Q (.int r) g):wF P (n+1) "_law_draw" [.ref w,.int m] h Q X:=by
 obtain⟨a,b,hw⟩:=hw;refine MD ?_;walk_at "py";refine ifP (fun hc=>?_) (fun hc=>?_)<;>walk_at "py"
 ·exact k _ _ (Int.emod_nonneg _ (by omega)) (Int.emod_lt_of_pos _ h1) ExtB.upd ⟨_,_,upd_same⟩
 ·exact k _ _ (Int.emod_nonneg _ (by omega)) (Int.emod_lt_of_pos _ h1) ExtB.upd ⟨_,_,upd_same⟩
theorem KF (k:Q (.bl true) h):wF P (n+1) "_law_same" [.non,.non] h Q X:=by refine Z3 ?_;walk_at "py";refine ifT (by decide) ?_;walk_at "py";exact k
theorem K1 {i:Int}(k:Q (.bl true) h):wF P (n+1) "_law_same" [.int i,.int i] h Q X:=by refine Z3 ?_;walk_at "py";refine ifF (by simp) ?_;walk_at "py";refine ifF rfl ?_;walk_at "py";refine ifT rfl ?_;walk_at "py";refine ifT rfl ?_;walk_at "py";refine ifT rfl ?_;walk_at "py";rw[decide_eq_true rfl];exact k
theorem KW {s:String}(k:Q (.bl true) h):wF P (n+1) "_law_same" [.str s,.str s] h Q X:=by refine Z3 ?_;walk_at "py";refine ifF (by simp) ?_;walk_at "py";refine ifF rfl ?_;walk_at "py";refine ifF rfl ?_;walk_at "py";refine ifT rfl ?_;walk_at "py";refine ifT rfl ?_;walk_at "py";rw[decide_eq_true rfl];exact k
theorem Cy:∀ (d:Nat){v:Val}{h:Hs}{Q:Q1},Pl d v→Q (.bl true) h→wF P (n+d+1) "_law_same" [v,v] h Q X:=by
 intro d;induction d with
 |zero =>
  intro v h Q hv k;cases v with
  |non=>exact KF k
  |int i=>exact K1 k
  |str s=>exact KW k
  |_=>exact hv.elim
 |succ d ih =>
  intro v h Q hv k;cases v with
  |tup xs =>
   refine Z3 ?_;walk_at "py";refine ifF (by simp) ?_;walk_at "py";refine ifF rfl ?_;walk_at "py";refine ifF rfl ?_;walk_at "py";refine ifF rfl ?_;walk_at "py";refine ifT rfl ?_;walk_at "py";refine ifF rfl ?_;walk_at "py";refine ifF rfl ?_;refine ifF rfl ?_;walk_at "py";refine ifF (by simp) ?_;walk_at "py";refine GG ?_;refine ZJ (fun i e g=>g=h∧∃ v u,e=[some (.tup xs),some (.tup xs),v,u]) ⟨rfl,none,none,rfl⟩ (fun _ _ _ _ _=>trivial) ?_ ?_
   ·rintro i v e g hvi ⟨rfl,v1,v2,rfl⟩ K hK;obtain⟨x,hx,rfl⟩:=K0 _ hvi;walk_at "py";refine ih (hv x hx) ?_;walk_at "py";refine ifF rfl ?_;walk_at "py";exact hK _ _ ⟨rfl,_,_,rfl⟩
   ·rintro e g ⟨rfl,v1,v2,rfl⟩;walk_at "py";exact k
  |non=>exact KF k
  |int i=>exact K1 k
  |str s=>exact KW k
  |_=>exact hv.elim
theorem YT {a:Ad}{xs:List Val}(e:h a=some (.lst xs)) (T:String):isiAny h (.ref a) [T]=some (T == "list"):=by
 unfold isiAny isiV kindV;simp only[e,Option.map_some,Option.bind_some,isiAny];by_cases z:T = "list"
 ·subst z;rfl
 ·have e1:("list" == T)=false:=beq_eq_false_iff_ne.mpr fun y=>z y.symm;have e2:(T == "list")=false:=beq_eq_false_iff_ne.mpr z;rw[e1,e2];rfl
theorem WE {d:Nat}{a b:Ad}{xs:List Val}(ha:h a=some (.lst xs)) (hb:h b=some (.lst xs)) (hx:∀ x∈xs,Pl d x) (k:Q (.bl true) h):wF P (n+d+2) "_law_same" [.ref a,.ref b] h Q X:=by
 refine Z3 ?_;walk_at "py";refine ifF (by simp) ?_;walk_at "py";refine Mv (YT hb _) ?_;walk_at "py";refine ifF rfl ?_;walk_at "py";refine Mv (YT hb _) ?_;walk_at "py";refine ifF rfl ?_;walk_at "py";refine Mv (YT hb _) ?_;walk_at "py";refine ifF rfl ?_;walk_at "py";refine Mv (YT hb _) ?_;walk_at "py";refine ifF rfl ?_;refine ifF rfl ?_;walk_at "py";refine Mv (YT hb _) ?_;walk_at "py";refine ifT rfl ?_;walk_at "py";refine Mv (YT ha _) ?_;walk_at "py";refine ifF rfl ?_;walk_at "py";refine ifF (by simp) ?_;walk_at "py";refine Ff ha hb ?_;refine ZJ (fun i e g=>g=h∧∃ v u,e=[some (.ref a),some (.ref b),v,u]) ⟨rfl,none,none,rfl⟩ (fun _ _ _ _ ⟨e,_⟩=>by subst e;exact⟨lsE ha,lsE hb⟩) ?_ ?_
 ·rintro i v e g hvi ⟨rfl,v1,v2,rfl⟩ K hK;obtain⟨x,hx1,rfl⟩:=K0 _ hvi;walk_at "py";refine Cy d (hx x hx1) ?_;walk_at "py";refine ifF rfl ?_;walk_at "py";exact hK _ _ ⟨rfl,_,_,rfl⟩
 ·rintro e g ⟨rfl,v1,v2,rfl⟩;walk_at "py";exact k
theorem CJ (hw:Well h w) (k:∀ c g,1≤c→c≤1000→ExtB w h g→Well g w→Q (.int c) g):wF P (n+2) "_law_cost" [.ref w] h Q X:=by
 refine Mu ?_;walk_at "py";refine Zg hw (by decide) (by decide) fun r g r0 r1 e1 w1=>?_;walk_at "py";refine Zh fun p hp=>?_;have hne:=w1.ne hp;walk_at "py";refine Zg (w1.ext (Ext.new hp)) (by decide) (by decide) fun s g2 s0 s1 e2 w2=>?_;have hl:=e2.get hne.symm upd_same;have ee:=(e1.trans (.of (Ext.new hp))).trans e2;rcases PU s0 s1 with rfl|rfl|rfl|rfl|rfl
 all_goals
  refine ZB hl (by rfl) ?_;exact k _ _ (by omega) (by omega) ee w2
theorem BX {own:Int}(hw:Well h w) (h0:0≤own) (k:∀ (all:List (Int×Int)) a g,h a=none→g a=some (.lst (all.map Yq))→all.length=16→(∀ t∈all,0≤t.1∧1≤t.2)→ExtB w h g→Well g w→a≠w→Q (.ref a) g):wF P (n+3) "_law_ties" [.ref w,.int own] h Q X:=by
 refine Ng ?_;walk_at "py";refine Zg hw (by decide) (by decide) fun r g r0 r1 e1 w1=>?_;walk_at "py";refine Zh fun p hp=>?_;have hne:=w1.ne hp;walk_at "py";refine⟨by decide,?_⟩;refine⟨by decide,?_⟩;refine Ap (fun i ys g2=>∃ all:List (Int×Int),ys=all.map Yq∧all.length=i∧(∀ t∈all,0≤t.1∧1≤t.2)∧g2 p=some (.lst [.int ((own+1) % 1000),.int ((own+7) % 1000),.int ((own+999) % 1000),.int ((own+1+r) % 1000)])∧ExtB w (upd g p (.lst [.int ((own+1) % 1000),.int ((own+7) % 1000),.int ((own+999) % 1000),.int ((own+1+r) % 1000)])) g2∧Well g2 w) ⟨[],rfl,rfl,(fun _ m=>nomatch m),upd_same,ExtB.refl,w1.ext (Ext.new hp)⟩ (fun _ _ _ _ _=>trivial) ?_ ?_
 ·rintro i v ys g2 hv ⟨all,rfl,hl,ha,hg2,x2,w2⟩ K hK;walk_at "py";rw[if_pos rfl];obtain⟨j,rfl⟩:∃ j,v=.int j:=by
   obtain⟨x,_,rfl⟩:=YL (xs:=List.range (16 - 0:Int).toNat) hv;exact⟨_,rfl⟩
  change wE _ _ [some (.int j),some (.ref w),some (.ref p)] _ _ _;walk_at "py";refine Zg w2 (by decide) (by decide) fun s g3 s0 s1 e3 w3=>?_;have hg3:=e3.get hne.symm hg2;obtain⟨y,hy,ey⟩:∃ y:Int,0≤y∧atI [Val.int ((own+1) % 1000),.int ((own+7) % 1000),.int ((own+999) % 1000),.int ((own+1+r) % 1000)] s=some (.int y):=by
   rcases four s0 s1 with rfl|rfl|rfl|rfl
   ·exact⟨_,Int.emod_nonneg _ (by decide),rfl⟩
   ·exact⟨_,Int.emod_nonneg _ (by decide),rfl⟩
   ·exact⟨_,Int.emod_nonneg _ (by decide),rfl⟩
   ·exact⟨_,Int.emod_nonneg _ (by decide),rfl⟩
  refine ZB hg3 ey ?_;walk_at "py";refine CJ w3 fun c g4 c0 c1 e4 w4=>?_;walk_at "py";refine hK _ _ ⟨all++[(y,c)],?_,?_,?_,e4.get hne.symm hg3,(x2.trans e3).trans e4,w4⟩
  ·rw[List.map_append];rfl
  ·rw[List.length_append,hl];rfl
  ·intro t ht;rcases List.mem_append.mp ht with ht|ht
   ·exact ha t ht
   ·rw[List.mem_singleton.mp ht];exact⟨hy,c0⟩
 ·rintro ys g2 ⟨all,rfl,hl,ha,hg2,x2,w2⟩;refine Zh fun q hq=>?_;have hqw:=w2.ne hq;refine k all q _ ?_ upd_same hl ha (((e1.trans (.of (Ext.new hp))).trans x2).trans (.of (Ext.new hq))) (w2.ext (Ext.new hq)) hqw.symm;cases z:h q with
  |none=>rfl
  |some o =>have:=x2.get hqw.symm ((Ext.new hp).get (e1.get hqw.symm z));rw[hq]at this;cases this
theorem Cd{a:Ad}{xs:List Val}{i:Int}{j:Nat}{v:Val}{K:Val×Hs→Prop}(e1:h a=some (.lst xs))(hi:0≤i)(hj:j=i.toNat)(hx:xs[j]?=some v)(h62:i<2 ^ 62)(q:K (v,upd h a (.lst (xs.eraseIdx j)))):go (bmV h .popAt (.ref a) [.int i]) K:=by refine go_of (a:=(v,upd h a (.lst (xs.eraseIdx j)))) ?_ q;show(lsOf (h a)).bind (bmPopAt h [.int i] a)=_;rw[lsE e1];show(if -(2 ^ 62)<i∧i<2 ^ 62 then(ixN xs.length i).bind fun k=>(xs[k]?).map fun v=>(v,upd h a (.lst (xs.eraseIdx k)))else none)=_;have hl:=(List.getElem?_eq_some_iff.mp hx).1;rw[if_pos ⟨by omega,h62⟩];unfold ixN;rw[if_pos hi,if_pos (by omega),Option.bind_some,←hj,hx];rfl
theorem Ws{α:Type}:∀ (xs:List α) (i:Nat) (hi:i<xs.length),xs.Perm (xs[i]::xs.eraseIdx i)
 |[],_,hi=>absurd hi (Nat.not_lt_zero _)
 |x::xs,0,_=>List.Perm.refl _
 |x::xs,i+1,hi=>by have:=Ws xs i (by simpa using hi);rw[List.eraseIdx_cons_succ,List.getElem_cons_succ];exact(this.cons x).trans (List.Perm.swap ..)
theorem JH{α β:Type}(f:α→β):∀ (xs:List α) (i:Nat),(xs.map f).eraseIdx i=(xs.eraseIdx i).map f
 |[],_=>rfl
 |x::xs,0=>rfl
 |x::xs,i+1=>by rw[List.map_cons,List.eraseIdx_cons_succ,List.eraseIdx_cons_succ,List.map_cons,JH f xs i]
theorem Dj:rangeL (.int 16)=.new (.lst ((List.range 16).map fun n=>.int (n:Nat))):=rfl
theorem MN (hw:Well h w) (k:∀ (ps:List Int) a g,h a=none→g a=some (.lst (ps.map .int))→ps.Nodup→(∀ p∈ps,0≤p∧p<16)→ExtB w h g→Well g w→a≠w→Q (.ref a) g):wF P (n+2) "_law_up_first" [.ref w] h Q X:=by
 refine Wz ?_;walk_at "py";refine wp_new Dj (Zh fun p hp=>?_);have hpw:=hw.ne hp;walk_at "py";refine Zh fun q hq=>?_;have w1:=(hw.ext (Ext.new (o:=.lst ((List.range 16).map fun n=>.int (n:Nat))) hp))
 have hqw:=w1.ne hq;have hqp:p≠q:=Za upd_same hq;have w2:=w1.ext (Ext.new (o:=.lst []) hq);walk_at "py";refine Zh fun z hz=>?_;have hzw:=w2.ne hz;have hzq:q≠z:=Za upd_same hz;have hzp:p≠z:=Za (upd_ne' hqp upd_same) hz;walk_at "py";refine Zg (w2.ext (Ext.new hz)) (by decide) (by decide) fun r g r0 r1 e1 w3=>?_;have hzl:=e1.get hzw.symm upd_same;have hql:g q=some (.lst []):=e1.get hqw.symm (upd_ne' hzq upd_same);have hpl:g p=some (.lst ((List.range 16).map fun n=>.int (n:Nat))):=e1.get hpw.symm (upd_ne' hzp (upd_ne' hqp upd_same));obtain⟨m,hm,em⟩:∃ m:Nat,m≤16∧atI [Val.int 0,.int 1,.int 2,.int 2,.int 3,.int 5,.int 16] r=some (.int m):=by
  have:r=0∨r=1∨r=2∨r=3∨r=4∨r=5∨r=6:=by omega
  rcases this with rfl|rfl|rfl|rfl|rfl|rfl|rfl
  ·exact⟨0,by decide,rfl⟩
  ·exact⟨1,by decide,rfl⟩
  ·exact⟨2,by decide,rfl⟩
  ·exact⟨2,by decide,rfl⟩
  ·exact⟨3,by decide,rfl⟩
  ·exact⟨5,by decide,rfl⟩
  ·exact⟨16,by decide,rfl⟩
 refine ZB hzl em ?_;walk_at "py";refine⟨⟨by omega,by omega⟩,?_⟩;have hex:ExtB w h g:=((((ExtB.of (Ext.new hp)).trans (.of (Ext.new hq))).trans (.of (Ext.new hz))).trans e1)
 have hnq:h q=none:=by
  cases y:h q with
  |none=>rfl
  |some o=>rw[(Ext.new hp).get y]at hq;cases hq
 refine ZJ (fun i e g2=>∃ u,∃ ls ps:List Int,e=[some (.ref w),some (.ref p),some (.ref q),u]∧g2 p=some (.lst (ls.map .int))∧g2 q=some (.lst (ps.map .int))∧ls.length+i=16∧ps.length=i∧(ps++ls).Nodup∧(∀ x∈ps++ls,0≤x∧x<16)∧ExtB w h g2∧Well g2 w) ⟨none,(List.range 16).map fun n=>((n:Nat):Int),[],rfl,by rw[hpl,List.map_map];rfl,hql,rfl,rfl,by decide,by decide,hex,w3⟩ (fun _ _ _ _ _=>trivial) ?_ ?_
 ·rintro i v e g2 hv ⟨u,ls,ps,rfl,h1,h2,h3,h4,h5,h6,h7,h8⟩ K hK;have hi:i<m:=by
   have:=(List.getElem?_eq_some_iff.mp hv).1;simpa[rangeV]using this
  walk_at "py";refine Zg h8 (by rw[List.length_map];omega) (by rw[List.length_map];omega) fun s g3 s0 s1 e3 w4=>?_;rw[List.length_map]at s1;have h1':=e3.get hpw.symm h1;have h2':=e3.get hqw.symm h2;have hlt:s.toNat<ls.length:=by omega
  walk_at "py";refine Cd h1' s0 rfl (v:=.int ls[s.toNat]) (by rw[List.getElem?_map,List.getElem?_eq_getElem hlt];rfl) (by omega) ?_;have h2'':upd g3 p (.lst ((ls.map Val.int).eraseIdx s.toNat)) q=_:=upd_ne' hqp.symm h2';dsimp only;walk_at "py";refine ZW h2'' (by rw[List.length_map];exact Nat.lt_of_lt_of_le (Nat.lt_of_lt_of_le (by omega:ps.length<17) (by decide)) (Nat.le_refl lim)) ?_;dsimp only;walk_at "py";have perm:(ps++ls).Perm ((ps++[ls[s.toNat]])++ls.eraseIdx s.toNat):=by rw[List.append_assoc];refine List.Perm.append_left ps ?_;exact Ws _ _ hlt
  refine hK _ _ ⟨_,ls.eraseIdx s.toNat,ps++[ls[s.toNat]],rfl,?_,?_,?_,?_,perm.nodup h5,fun x hx=>h6 x (perm.mem_iff.mpr hx),?_,?_⟩
  ·rw[upd_ne hqp,upd_same,JH]
  ·rw[upd_same,List.map_append];rfl
  ·rw[List.length_eraseIdx_of_lt hlt];omega
  ·rw[List.length_append,h4];rfl
  ·refine⟨fun {a o} na e=>?_⟩;have ha:=h7.get na e;have hap:a≠p:=Za e hp;have haq:a≠q:=Za e hnq;rw[upd_ne haq,upd_ne hap];exact e3.get na ha
  ·obtain⟨c,d,w5⟩:=w4;exact⟨c,d,by rw[upd_ne hqw,upd_ne hpw];exact w5⟩
 ·rintro e g2 ⟨u,ls,ps,rfl,h1,h2,h3,h4,h5,h6,h7,h8⟩;walk_at "py";exact k ps q g2 hnq h2 (List.nodup_append.mp h5).1 (fun x hx=>h6 x (List.mem_append_left _ hx)) h7 h8 hqw.symm
noncomputable def stV (own life most:Int) (a f:Ad):List (Val×Val):=[(.str "own",.int own),(.str "life",.int life),(.str "most",.int most),(.str "all",.ref a),(.str "first",.ref f)]
theorem U0{r:Int}(h0:0≤r)(h1:r<8):r=0∨r=1∨r=2∨r=3∨r=4∨r=5∨r=6∨r=7:=by omega
theorem UA(hw:Well h w) (k:∀ (own life most:Int) (all:List (Int×Int)) (ps:List Int) st a f g,h st=none→h a=none→h f=none→g st=some (.dct (stV own life most a f))→g a=some (.lst (all.map Yq))→g f=some (.lst (ps.map .int))→
    0≤own→own<1000→0≤life→4≤most→all.length=16→(∀ t∈all,0≤t.1∧1≤t.2)→ps.Nodup→(∀ p∈ps,0≤p∧p<16)→ExtB w h g→Well g w→st≠w→a≠w→f≠w→a≠f→Q (.ref st) g):wF P (n+4) "_law_start" [.ref w] h Q X:=by
 refine K3 ?_;walk_at "py";refine Zg hw (by decide) (by decide) fun r1 g1 a1 b1 e1 w1=>?_;walk_at "py";refine Zh fun q1 hq1=>?_;have n1:=w1.ne hq1;walk_at "py";refine Zg (w1.ext (Ext.new hq1)) (by decide) (by decide) fun s1 g2 c1 d1 e2 w2=>?_;have l1:=e2.get n1.symm upd_same;obtain⟨own,o0,o1,eo⟩:∃ y:Int,0≤y∧y<1000∧atI [Val.int 0,.int 1,.int 5,.int 998,.int 999,.int 3,.int 40,.int r1] s1=some (.int y):=by
  rcases U0 c1 d1 with rfl|rfl|rfl|rfl|rfl|rfl|rfl|rfl
  ·exact⟨0,by decide,by decide,rfl⟩
  ·exact⟨1,by decide,by decide,rfl⟩
  ·exact⟨5,by decide,by decide,rfl⟩
  ·exact⟨998,by decide,by decide,rfl⟩
  ·exact⟨999,by decide,by decide,rfl⟩
  ·exact⟨3,by decide,by decide,rfl⟩
  ·exact⟨40,by decide,by decide,rfl⟩
  ·exact⟨r1,a1,b1,rfl⟩
 refine ZB l1 eo ?_;have x2:ExtB w h g2:=(e1.trans (.of (Ext.new hq1))).trans e2;walk_at "py";refine Zg w2 (by decide) (by decide) fun r2 g3 a2 b2 e3 w3=>?_;walk_at "py";refine Zh fun q2 hq2=>?_;have n2:=w3.ne hq2;walk_at "py";refine Zg (w3.ext (Ext.new hq2)) (by decide) (by decide) fun s2 g4 c2 d2 e4 w4=>?_;have l2:=e4.get n2.symm upd_same;obtain⟨life,p0,el⟩:∃ y:Int,0≤y∧atI [Val.int 0,.int 1,.int 1000000000000000000000000000000,.int r2] s2=some (.int y):=by
  rcases four c2 d2 with rfl|rfl|rfl|rfl
  ·exact⟨0,by decide,rfl⟩
  ·exact⟨1,by decide,rfl⟩
  ·exact⟨_,by decide,rfl⟩
  ·exact⟨r2,a2,rfl⟩
 refine ZB l2 el ?_;have x4:ExtB w h g4:=((x2.trans e3).trans (.of (Ext.new hq2))).trans e4;walk_at "py";refine Zg w4 (by decide) (by decide) fun r3 g5 a3 b3 e5 w5=>?_;walk_at "py";refine Zh fun q3 hq3=>?_;have n3:=w5.ne hq3;walk_at "py";refine Zg (w5.ext (Ext.new hq3)) (by decide) (by decide) fun s3 g6 c3 d3 e6 w6=>?_;have l3:=e6.get n3.symm upd_same;obtain⟨most,m0,em⟩:∃ y:Int,4≤y∧atI [Val.int 4,.int 5,.int 6,.int 8,.int 40,.int 199,.int 200,.int (4+r3)] s3=some (.int y):=by
  rcases U0 c3 d3 with rfl|rfl|rfl|rfl|rfl|rfl|rfl|rfl
  ·exact⟨4,by decide,rfl⟩
  ·exact⟨5,by decide,rfl⟩
  ·exact⟨6,by decide,rfl⟩
  ·exact⟨8,by decide,rfl⟩
  ·exact⟨40,by decide,rfl⟩
  ·exact⟨199,by decide,rfl⟩
  ·exact⟨200,by decide,rfl⟩
  ·exact⟨4+r3,by omega,rfl⟩
 refine ZB l3 em ?_;have x6:ExtB w h g6:=((x4.trans e5).trans (.of (Ext.new hq3))).trans e6;walk_at "py";refine Zh fun st hst=>?_;have ns:=w6.ne hst;have w7:=w6.ext (Ext.new (o:=.dct []) hst);walk_at "py";refine BX w7 o0 fun all a g8 ha hga hal hat e8 w8 nw=>?_;walk_at "py";refine MN w8 fun ps f g9 hf hgf hnd hrg e9 w9 nf=>?_;walk_at "py";have hs8:g8 st=some (.dct []):=e8.get ns.symm upd_same;have hs9:g9 st=some (.dct []):=e9.get ns.symm hs8;refine go_of (a:=[(.str "own",.int own),(.str "life",.int life),(.str "most",.int most),(.str "all",.ref a),(.str "first",.ref f)]) rfl ⟨hs9,?_⟩;walk_at "py";have nsa:a≠st:=Zi hga hs8 nofun;have nsf:f≠st:=Zi hgf hs9 nofun;have hga9:=e9.get nw hga;have old:∀ q,q≠w→(∀ o,g6 q≠some o)→h q=none:=fun q hq hn=>by
  cases z:h q with
  |none=>rfl
  |some o=>exact absurd (x6.get hq z) (hn o)
 have old7:∀ q,(upd g6 st (.dct [])) q=none→∀ o,g6 q≠some o:=fun q hq o z=>by rw[(Ext.new hst).get z]at hq;cases hq
 have x8:ExtB w h g8:=(x6.trans (.of (Ext.new hst))).trans e8;refine k own life most all ps st a f _ (old st ns.symm fun o z=>by rw[hst]at z;cases z) (old a nw (old7 a ha)) ?_ upd_same (upd_ne' nsa hga9) (upd_ne' nsf hgf) o0 o1 p0 m0 hal hat hnd hrg ?_ ?_ ns.symm nw nf ?_
 ·cases z:h f with
  |none=>rfl
  |some o=>rw[x8.get nf z]at hf;cases hf
 ·refine⟨fun {c o} nc e=>?_⟩;have hc:c≠st:=by
   intro z;subst z;have:=x6.get nc e;rw[hst]at this;cases this
  rw[upd_ne hc];exact(x8.trans e9).get nc e
 ·obtain⟨c,d,w10⟩:=w9;exact⟨c,d,by rw[upd_ne ns];exact w10⟩
 ·exact Za hga hf
noncomputable def Yy (all:List (Int×Int)) (p:Int):Int×Int:=all.getD p.toNat (0,0)
noncomputable def Y9 (all:List (Int×Int)) (p:Int):Val:=.tup [.int p,.int (Yy all p).1,.int (Yy all p).2]
theorem Kk{all:List (Int×Int)}{p:Int}(hl:all.length=16)(h0:0≤p)(h1:p<16):atI (all.map Yq) p=some (Yq (Yy all p))∧Yy all p∈all:=by
 have h2:p.toNat<all.length:=by omega
 have e:Yy all p=all[p.toNat]:=by unfold Yy;rw[List.getD_eq_getElem?_getD,List.getElem?_eq_getElem h2];rfl
 refine⟨?_,by rw[e];exact List.getElem_mem h2⟩;unfold atI ixN;rw[if_pos h0,List.length_map,if_pos (by omega),Option.bind_some,List.getElem?_map,List.getElem?_eq_getElem h2,e];rfl
theorem JM {st a f:Ad}{kvs:List (Val×Val)}{all:List (Int×Int)}{ps:List Int}(hs:h st=some (.dct kvs)) (ka:lookK kvs (.str "all")=some (.ref a)) (kf:lookK kvs (.str "first")=some (.ref f)) (ha:h a=some (.lst (all.map Yq))) (hf:h f=some (.lst (ps.map .int)))
  (hl:all.length=16) (hp:∀ p∈ps,0≤p∧p<16) (h16:ps.length≤16) (k:∀ q,h q=none→Q (.ref q) (upd h q (.lst (ps.map (Y9 all))))):wF P (n+1) "_law_handed" [.ref st] h Q X:=by
 refine J3 ?_;walk_at "py";refine Zb hs rfl kf ?_;walk_at "py";refine⟨by rw[List.length_map];exact Nat.lt_of_le_of_lt h16 (by decide),?_⟩;refine YN (fun v=>match v with|.int p=>some (Y9 all p)|_=>none) (lsE hf) ?_ ?_
 ·intro v hv K hK;obtain⟨p,hp1,rfl⟩:=List.mem_map.mp hv;obtain⟨h0,h1⟩:=hp p hp1;obtain⟨e1,_⟩:=Kk hl h0 h1;walk_at "py";rw[if_pos rfl];change wE _ _ [some (.int p),some (.ref st)] _ _ _;walk_at "py";refine Zb hs rfl ka ?_;walk_at "py";refine ZB ha e1 ?_;walk_at "py";refine Zb hs rfl ka ?_;walk_at "py";refine ZB ha e1 ?_;walk_at "py";exact hK
 ·refine Zh fun q hq=>?_;rw[show((ps.map Val.int).filterMap fun v=>match v with | .int p=>some (Y9 all p) | _=>none)=ps.map (Y9 all) from by
    rw[List.filterMap_map]
    exact congrFun (List.filterMap_eq_map (f:=fun p:Int=>Y9 all p)) _]
  exact k q hq
noncomputable def Yj (all:List (Int×Int)) (ps:List Int):List (Int×(Int×Int)):=ps.map fun p=>(p,Yy all p)
theorem YM(all:List (Int×Int))(ps:List Int):(Yj all ps).map (·.1)=ps:=by unfold Yj;rw[List.map_map];exact(List.map_congr_left fun p _=>rfl).trans (List.map_id _)
noncomputable def Xf (own life most:Int) (all:List (Int×Int)) (ps:List Int):Br:=⟨own,life,most,Yj all ps,[],⟨own,0,none⟩,0,0⟩
theorem BW {b l:Ad}{own life most:Int}{all:List (Int×Int)}{ps:List Int}(hb:h b=some (.ins "Bridge" [])) (hl:h l=some (.lst (ps.map (Y9 all)))) (nd:ps.Nodup) (h16:ps.length≤16)
  (k:∀ t d g,h t=none→h d=none→BrAt g b t d (Xf own life most all ps)→Ex [b] h g→Q .non g):wF P (n+1) "Bridge.__init__" [.ref b,.int own,.int life,.ref l,.int most] h Q X:=by
 have nlb:b≠l:=Zi hb hl nofun;refine Jl ?_;walk_at "py";refine YC upd_same (show(1:Nat)<900 by decide) ?_;walk_at "py";refine YC upd_same (show(2:Nat)<900 by decide) ?_;walk_at "py";intro t ht;rw[upd_upd,upd_upd]at ht ⊢;have ntb:b≠t:=Za upd_same ht;have nht:h t=none:=by rw[upd_ne ntb.symm]at ht;exact ht
 have ntl:l≠t:=Za hl nht;walk_at "py";refine YC (upd_ne' ntb upd_same) (show(3:Nat)<900 by decide) ?_;walk_at "py";have hl1:∀ {o1 o2 o3:Ob},upd (upd (upd h b o1) t o2) b o3 l=some (.lst (ps.map (Y9 all))):=fun {_ _ _}=>by rw[upd_ne nlb.symm,upd_ne ntl,upd_ne nlb.symm];exact hl
 refine ZJ (fun i e g=>∃ u v w,e=[some (.ref b),some (.int own),some (.int life),some (.ref l),some (.int most),u,v,w]∧g b=some (.ins "Bridge" [("number",.int own),("life",.int life),("age_let_go",.int most),("ties_by_place",.ref t)])∧g t=some (.dct (Zr Yq (Yj all (ps.take i))))∧Ex [b] h g) ⟨none,none,none,rfl,upd_same,by rw[upd_ne ntb.symm];exact upd_same,?_⟩ ?_ ?_ ?_
 ·refine⟨fun {a o} na e=>?_⟩;have nab:a≠b:=by simpa using na
  rw[upd_ne nab,upd_ne (Za e nht),upd_ne nab];exact e
 ·rintro i e g _ ⟨u,v,w,rfl,h1,h2,h3⟩;exact lsE (h3.get (by simpa using nlb.symm) hl)
 ·rintro i v e g hv ⟨u,v,w,rfl,h1,h2,h3⟩ K hK;obtain⟨p,hp,rfl⟩:=YL hv;unfold Y9;walk_at "py";refine ZO (k:=.int p) h2 ⟨rfl,?_⟩ ?_
  ·rw[Jb];unfold Yj;rw[List.length_map];exact Nat.lt_of_le_of_lt (Nat.le_trans (List.length_take_le' _ _) h16) (by decide)
  rw[show Val.tup [.int (Yy all p).1,.int (Yy all p).2]=Yq (Yy all p) from rfl,Yh];walk_at "py";refine hK _ _ ⟨_,_,_,rfl,by rw[upd_ne ntb];exact h1,?_,?_⟩
  ·rw[upd_same,X3,ZY hp]
   ·unfold Yj;rw[List.map_append];rfl
   ·rw[YM];have:=Z4 (f:=id) (by rw[List.map_id];exact nd) hp;rw[List.map_id]at this;exact this
  ·exact⟨fun na e=>by rw[upd_ne (Za e nht)];exact h3.get na e⟩
 ·rintro e g ⟨u,v,w,rfl,h1,h2,h3⟩;rw[List.length_map,List.take_length]at h2;walk_at "py";intro d hd;have ndb:b≠d:=Za h1 hd;have ndt:t≠d:=Za h2 hd;have nhd:h d=none:=h3.none (by rw[h1];intro z;cases z) hd;walk_at "py";refine YC upd_same (show(5:Nat)<900 by decide) ?_;walk_at "py";refine YC upd_same (show(6:Nat)<900 by decide) ?_;walk_at "py";refine YC upd_same (show(7:Nat)<900 by decide) ?_;walk_at "py";rw[upd_upd,upd_upd,upd_upd];refine k t d _ nht nhd ⟨upd_same,?_,?_,ndt⟩ ?_
  ·rw[upd_ne ntb.symm,upd_ne ndt];exact h2
  ·rw[upd_ne ndb.symm];exact upd_same
  ·exact(h3.trans (.of (Ext.new hd))).trans (Ex.upd (by simp))
noncomputable def stL (S:Br) (a f tt hh:Ad):List (Val×Val):=[(.str "own",.int S.number),(.str "life",.int S.life),(.str "most",.int S.most),(.str "all",.ref a),(.str "first",.ref f),(.str "ties",.ref tt),(.str "held",.ref hh),(.str "label",S.label.v),(.str "version",.int S.version),(.str "count",.int S.count)]
structure StAt (h:Hs) (st a f tt hh:Ad) (S:Br) (all:List (Int×Int)) (ps:List Int):Prop where
 s1:h st=some (.dct (stL S a f tt hh))
 s2:h a=some (.lst (all.map Yq))
 s3:h f=some (.lst (ps.map .int))
 s4:h tt=some (.dct (Zr Yq S.ties))
 s5:h hh=some (.dct (Zr hdV S.held))
 n1:st≠tt
 n2:st≠hh
 n3:tt≠hh
theorem StAt.keep{h g:Hs}{st a f tt hh:Ad}{S:Br}{all:List (Int×Int)}{ps:List Int}{D:List Ad}(x:StAt h st a f tt hh S all ps)(e:Ex D h g)(h1:st∉D)(h2:a∉D)(h3:f∉D)(h4:tt∉D)(h5:hh∉D):StAt g st a f tt hh S all ps :=
 ⟨e.get h1 x.s1,e.get h2 x.s2,e.get h3 x.s3,e.get h4 x.s4,e.get h5 x.s5,x.n1,x.n2,x.n3⟩
theorem StAt.ext{h g:Hs}{st a f tt hh:Ad}{S:Br}{all:List (Int×Int)}{ps:List Int}(x:StAt h st a f tt hh S all ps)(e:Ext h g):StAt g st a f tt hh S all ps:=x.keep (D:=[]) (.of e) (by simp) (by simp) (by simp) (by simp) (by simp)
theorem Ub{h:Hs}{w c:Ad}{kvs:List (Val×Val)}(hw:Well h w)(e:h c=some (.dct kvs)):c≠w:=by obtain⟨x,y,hw⟩:=hw;exact Zi e hw nofun
theorem StAt.exb{h g:Hs}{w st a f tt hh:Ad}{S:Br}{all:List (Int×Int)}{ps:List Int}(x:StAt h st a f tt hh S all ps)(hw:Well h w)(na:a≠w)(nf:f≠w)(e:ExtB w h g):StAt g st a f tt hh S all ps :=
 ⟨e.get (Ub hw x.s1) x.s1,e.get na x.s2,e.get nf x.s3,e.get (Ub hw x.s4) x.s4,e.get (Ub hw x.s5) x.s5,x.n1,x.n2,x.n3⟩
theorem BrAt.exb{h g:Hs}{w b t d:Ad}{B:Br}(x:BrAt h b t d B)(hw:Well h w)(e:ExtB w h g):BrAt g b t d B:=by
 have n:b≠w:=by obtain⟨_,_,hw⟩:=hw;exact Zi x.ins hw nofun
 exact⟨e.get n x.ins,e.get (Ub hw x.ties) x.ties,e.get (Ub hw x.held) x.held,x.ne⟩
theorem WA{h:Hs}{a:Ad}{kvs:List (Val×Val)}{k v:Val}{K:Hs→Prop}(e1:h a=some (.dct kvs))(m:isKey k=true∧kvs.length<lim)(e2:putK kvs k v=kvs++[(k,v)])(q:K (upd h a (.dct (kvs++[(k,v)])))):go (putV h (.ref a) k v) K:=ZO e1 m (by rw[e2];exact q)
theorem BC(hw:Well h w) (k:∀ (own life most:Int) (all:List (Int×Int)) (ps:List Int) st a f tt hh g,StAt g st a f tt hh (Xf own life most all ps) all ps→h st=none→h a=none→h f=none→h tt=none→h hh=none→
    0≤own→own<1000→0≤life→4≤most→all.length=16→(∀ t∈all,0≤t.1∧1≤t.2)→ps.Nodup→(∀ p∈ps,0≤p∧p<16)→ExtB w h g→Well g w→a≠w→f≠w→Q (.ref st) g):wF P (n+5) "_law_state" [.ref w] h Q X:=by
 refine Mf ?_;walk_at "py";refine UA hw fun own life most all ps st a f g1 hst ha hf gst ga gf o0 o1 l0 m0 hal hat nd hrg x1 w1 ns na nf naf=>?_;have h16:ps.length≤16:=ZX nd hrg;walk_at "py";intro tt htt;have n1:st≠tt:=Za gst htt;have na1:a≠tt:=Za ga htt;have nf1:f≠tt:=Za gf htt;have nw1:w≠tt:=w1.ne htt;have hst0:=(Ext.new (o:=.dct []) htt).get gst;walk_at "py";refine WA hst0 ⟨rfl,show(5:Nat)<lim by decide⟩ rfl ?_;walk_at "py";have nsa:a≠st:=Zi ga gst nofun;have nsf:f≠st:=Zi gf gst nofun;refine Zb upd_same rfl (v:=.ref f) rfl ?_;walk_at "py";have nht:h tt=none:=by
  cases z:h tt with
  |none=>rfl
  |some o=>rw[x1.get nw1.symm z]at htt;cases htt
 refine ZJ (fun i e g=>∃ u,e=[some (.ref w),some (.ref st),u]∧g st=some (.dct (stV own life most a f++[(.str "ties",.ref tt)]))∧g tt=some (.dct (Zr Yq (Yj all (ps.take i))))∧g a=some (.lst (all.map Yq))∧g f=some (.lst (ps.map .int))∧ExtB w h g∧Well g w) ⟨none,rfl,upd_same,by rw[upd_ne n1.symm];exact upd_same,by rw[upd_ne nsa,upd_ne na1];exact ga,by rw[upd_ne nsf,upd_ne nf1];exact gf,?_,?_⟩ ?_ ?_ ?_
 ·refine⟨fun {c o} nc e=>?_⟩;rw[upd_ne (Za e hst),upd_ne (Za e nht)];exact x1.get nc e
 ·obtain⟨c,d,w2⟩:=w1;exact⟨c,d,by rw[upd_ne ns.symm,upd_ne nw1];exact w2⟩
 ·rintro i e g _ ⟨u,rfl,h1,h2,h3,h4,h5,h6⟩;exact lsE h4
 ·rintro i v e g hv ⟨u,rfl,h1,h2,h3,h4,h5,h6⟩ K hK;obtain⟨p,hp,rfl⟩:=YL hv;obtain⟨p0,p1⟩:=hrg p (List.mem_of_getElem? hp);obtain⟨e1,_⟩:=Kk hal p0 p1;walk_at "py";refine Zb h1 rfl (v:=.ref a) rfl ?_;walk_at "py";refine ZB h3 e1 ?_;walk_at "py";refine Zb h1 rfl (v:=.ref tt) rfl ?_;walk_at "py";refine ZO (k:=.int p) h2 ⟨rfl,?_⟩ ?_
  ·rw[Jb];unfold Yj;rw[List.length_map];exact Nat.lt_of_le_of_lt (Nat.le_trans (List.length_take_le' _ _) h16) (by decide)
  rw[Yh];walk_at "py";refine hK _ _ ⟨_,rfl,by rw[upd_ne n1];exact h1,?_,by rw[upd_ne na1];exact h3,by rw[upd_ne nf1];exact h4,?_,?_⟩
  ·rw[upd_same,X3,ZY hp]
   ·unfold Yj;rw[List.map_append];rfl
   ·rw[YM];have:=Z4 (f:=id) (by rw[List.map_id];exact nd) hp;rw[List.map_id]at this;exact this
  ·exact⟨fun nc e=>by rw[upd_ne (Za e nht)];exact h5.get nc e⟩
  ·obtain⟨c,d,w2⟩:=h6;exact⟨c,d,by rw[upd_ne nw1];exact w2⟩
 ·rintro e g ⟨u,rfl,h1,h2,h3,h4,h5,h6⟩;rw[List.length_map,List.take_length]at h2;walk_at "py";intro hh hhh;have m1:st≠hh:=Za h1 hhh;have m2:tt≠hh:=Za h2 hhh;have m3:a≠hh:=Za h3 hhh;have m4:f≠hh:=Za h4 hhh;have m5:w≠hh:=h6.ne hhh;have nhh:h hh=none:=by
   cases z:h hh with
   |none=>rfl
   |some o=>rw[h5.get m5.symm z]at hhh;cases hhh
  have hst1:=(Ext.new (o:=.dct []) hhh).get h1;walk_at "py";refine WA hst1 ⟨rfl,show(6:Nat)<lim by decide⟩ rfl ?_;walk_at "py";refine Zb upd_same rfl (v:=.int own) rfl ?_;walk_at "py";refine WA upd_same ⟨rfl,show(7:Nat)<lim by decide⟩ rfl ?_;walk_at "py";refine WA upd_same ⟨rfl,show(8:Nat)<lim by decide⟩ rfl ?_;walk_at "py";refine WA upd_same ⟨rfl,show(9:Nat)<lim by decide⟩ rfl ?_;rw[upd_upd,upd_upd,upd_upd];walk_at "py";refine k own life most all ps st a f tt hh _ ⟨upd_same,by rw[upd_ne nsa,upd_ne m3];exact h3,by rw[upd_ne nsf,upd_ne m4];exact h4,by rw[upd_ne n1.symm,upd_ne m2];exact h2,by rw[upd_ne m1.symm];exact upd_same,n1,m1,m2⟩ hst ha hf nht nhh o0 o1 l0 m0 hal hat nd hrg ?_ ?_ na nf
  ·refine⟨fun {c o} nc e=>?_⟩;rw[upd_ne (Za e hst),upd_ne (Za e nhh)];exact h5.get nc e
  ·obtain⟨c,d,w2⟩:=h6;exact⟨c,d,by rw[upd_ne ns.symm,upd_ne m5];exact w2⟩
theorem ZT (s:StAt h st a f tt hh S all ps) (k:Q (pV (S.life,S.version)) h):wF P (n+1) "_law_stamp" [.ref st] h Q X:=by have hs:=s.s1;refine Ml ?_;walk_at "py";refine Zb hs rfl (v:=.int S.life) rfl ?_;walk_at "py";refine Zb hs rfl (v:=.int S.version) rfl ?_;walk_at "py";exact k
theorem six{r:Int}(h0:0≤r)(h1:r<6):r=0∨r=1∨r=2∨r=3∨r=4∨r=5:=by omega
theorem Wc {p:Pi}(hw:Well h w) (k:∀ q g,ExtB w h g→Well g w→Q (pV q) g):wF P (n+2) "_law_near" [.ref w,pV p] h Q X:=by
 obtain⟨l,c⟩:=p;refine M6 ?_;walk_at "py";refine Zg hw (by decide) (by decide) fun r1 g1 _ _ e1 w1=>?_;walk_at "py";refine Zh fun p1 hp1=>?_;have n1:=w1.ne hp1;walk_at "py";refine Zg (w1.ext (Ext.new hp1)) (by decide) (by decide) fun r2 g2 _ _ e2 w2=>?_;walk_at "py";refine Zg w2 (by decide) (by decide) fun r3 g3 _ _ e3 w3=>?_;walk_at "py";refine Zh fun p2 hp2=>?_;have n2:=w3.ne hp2;have l1:=(Ext.new (o:=.lst [.tup [.int (if l - 1 > 0 then l - 1 else 0),.int c],.tup [.int r2,.int r3]]) hp2).get (e3.get n1.symm (e2.get n1.symm upd_same));refine Kh l1 upd_same (show(6:Nat)≤lim by decide) (Zh fun p3 hp3=>?_);have w4:=w3.ext (Ext.new (o:=.lst [.tup [.int (if l - 1 > 0 then l - 1 else 0),.int c],.tup [.int r2,.int r3]]) hp2);have n3:=w4.ne hp3;walk_at "py";refine Zg (w4.ext (Ext.new hp3)) (by decide) (by decide) fun r4 g4 a4 b4 e4 w5=>?_;have l3:=e4.get n3.symm upd_same;have ee:=(((((e1.trans (.of (Ext.new hp1))).trans e2).trans e3).trans (.of (Ext.new hp2))).trans (.of (Ext.new hp3))).trans e4;rcases six a4 b4 with rfl|rfl|rfl|rfl|rfl|rfl
 all_goals
  refine ZB l3 rfl ?_
  first|exact k (l,c) _ ee w5|exact k (l,c+1) _ ee w5|exact k (l,_) _ ee w5|exact k (l+1,r1) _ ee w5|exact k (_,c) _ ee w5|exact k (r2,r3) _ ee w5
noncomputable def tlS:Nat→Ss→Ss
 |0,s=>s
 |k+1,.cons _ s=>tlS k s
 |_,.nil=>.nil
theorem OP {p:Int}(hw:Well h w) (s:StAt h st a f tt hh S all ps) (na:a≠w) (nf:f≠w) (k:∀ l g,0≤L.cost l→ExtB w h g→Well g w→Q l.v g):wF P (n+3) "_law_letter" [.ref w,.ref st,.int p] h Q X:=by
 have hs:=s.s1;have hhh:=s.s5;have T6:∀ (last:Val) (num stp:Pi) g,ExtB w h g→Well g w→wSs (wF P (n+2)) (tlS 6 SU.body) [some (.ref w),some (.ref st),some (.int p),some last,some (pV num),some (pV stp),none,none,none,none,none,none,none] g (fun _ g=>Q .non g) Q (fun _ _=>False) (fun _ _=>False) fun _ c g=>X c g:=by
  intro last num stp g0 x0 w0;change wSs _ (.cons _ _) _ _ _ _ _ _ _;have s0:=s.exb hw na nf x0;have hs0:=s0.s1;walk_at "py";refine Zb hs0 rfl (v:=.int S.number) rfl ?_;walk_at "py";refine Zg w0 (by decide) (by decide) fun r1 g1 a1 b1 e1 w1=>?_;walk_at "py";refine Zh fun p1 hp1=>?_;have n1:=w1.ne hp1;walk_at "py";refine Zg (w1.ext (Ext.new hp1)) (by decide) (by decide) fun i1 g2 c1 d1 e2 w2=>?_;have l1:=e2.get n1.symm upd_same;obtain⟨root,er⟩:∃ y:Int,atI [Val.int 0,.int 0,.int S.number,.int (S.number / 2),.int (S.number+1),.int r1] i1=some (.int y):=by rcases six c1 d1 with rfl|rfl|rfl|rfl|rfl|rfl<;>exact⟨_,rfl⟩
  refine ZB l1 er ?_;have x2:ExtB w h g2:=((x0.trans e1).trans (.of (Ext.new hp1))).trans e2;walk_at "py";refine Zg w2 (by decide) (by decide) fun r2 g3 a2 b2 e3 w3=>?_;walk_at "py";refine Zh fun p2 hp2=>?_;have n2:=w3.ne hp2;walk_at "py";refine Zg (w3.ext (Ext.new hp2)) (by decide) (by decide) fun i2 g4 c2 d2 e4 w4=>?_;have l2:=e4.get n2.symm upd_same;obtain⟨cost,hc,ec⟩:∃ y:Int,0≤y∧atI [Val.int 0,.int 1,.int 2,.int 3,.int 1000000000000000000000000000000,.int r2] i2=some (.int y):=by
   rcases six c2 d2 with rfl|rfl|rfl|rfl|rfl|rfl
   ·exact⟨0,by decide,rfl⟩
   ·exact⟨1,by decide,rfl⟩
   ·exact⟨2,by decide,rfl⟩
   ·exact⟨3,by decide,rfl⟩
   ·exact⟨_,by decide,rfl⟩
   ·exact⟨r2,a2,rfl⟩
  refine ZB l2 ec ?_;have x4:ExtB w h g4:=((x2.trans e3).trans (.of (Ext.new hp2))).trans e4;have s4:=s.exb hw na nf x4;have hs4:=s4.s1;walk_at "py";refine Zb hs4 rfl (v:=.int S.most) rfl ?_;walk_at "py";refine Zg w4 (by decide) (by decide) fun r3 g5 a3 b3 e5 w5=>?_;walk_at "py";refine Zh fun p3 hp3=>?_;have n3:=w5.ne hp3;walk_at "py";refine Zg (w5.ext (Ext.new hp3)) (by decide) (by decide) fun i3 g6 c3 d3 e6 w6=>?_;have l3:=e6.get n3.symm upd_same;obtain⟨age,ea⟩:∃ y:Int,atI [Val.int 0,.int 0,.int 1,.int (S.most - 2),.int (S.most - 1),.int S.most,.int r3,.int 1000000000000000000000000000000000000000] i3=some (.int y):=by rcases U0 c3 d3 with rfl|rfl|rfl|rfl|rfl|rfl|rfl|rfl<;>exact⟨_,rfl⟩
  refine ZB l3 ea ?_;have x6:ExtB w h g6:=((x4.trans e5).trans (.of (Ext.new hp3))).trans e6;have s6:=s.exb hw na nf x6;walk_at "py";refine ZT s6 ?_;walk_at "py";refine ZT s6 ?_;walk_at "py";refine Wc w6 fun q1 g7 e7 w7=>?_;walk_at "py";refine Zh fun p4 hp4=>?_;have n4:=w7.ne hp4;walk_at "py";refine Zg (w7.ext (Ext.new hp4)) (by decide) (by decide) fun i4 g8 c4 d4 e8 w8=>?_;have l4:=e8.get n4.symm upd_same;obtain⟨rests,es⟩:∃ y:Option Pi,atI [Val.non,pV (S.life,S.version),pV q1] i4=some (oV y):=by
   rcases Lv c4 d4 with rfl|rfl|rfl
   ·exact⟨none,rfl⟩
   ·exact⟨some _,rfl⟩
   ·exact⟨some _,rfl⟩
  refine ZB l4 es ?_;have x8:ExtB w h g8:=((x6.trans e7).trans (.of (Ext.new hp4))).trans e8;have s8:=s.exb hw na nf x8;walk_at "py";refine ZT s8 ?_;walk_at "py";refine ZT s8 ?_;walk_at "py";refine ZT s8 ?_;walk_at "py";refine Wc w8 fun q2 g9 e9 w9=>?_;walk_at "py";refine Zh fun p5 hp5=>?_;have n5:=w9.ne hp5;walk_at "py";refine Zg (w9.ext (Ext.new hp5)) (by decide) (by decide) fun i5 ga c5 d5 ea5 wa=>?_;have l5:=ea5.get n5.symm upd_same;obtain⟨agrees,eg⟩:∃ y:Option Pi,atI [Val.non,pV (S.life,S.version),pV (S.life,S.version),pV q2] i5=some (oV y):=by
   rcases four c5 d5 with rfl|rfl|rfl|rfl
   ·exact⟨none,rfl⟩
   ·exact⟨some _,rfl⟩
   ·exact⟨some _,rfl⟩
   ·exact⟨some _,rfl⟩
  refine ZB l5 eg ?_;walk_at "py";exact k ⟨num,stp,_,cost,age,rests,agrees⟩ ga hc (((x8.trans e9).trans (.of (Ext.new hp5))).trans ea5) wa
 have T4:∀ (x y:Pi) (rest:List Val) (num:Pi) g,ExtB w h g→Well g w→wSs (wF P (n+2)) (tlS 4 SU.body) [some (.ref w),some (.ref st),some (.int p),some (.tup (pV x::pV y::rest)),some (pV num),none,none,none,none,none,none,none,none] g (fun _ g=>Q .non g) Q (fun _ _=>False) (fun _ _=>False) fun _ c g=>X c g:=by
  intro x y rest num g0 x0 w0;change wSs _ (.cons _ _) _ _ _ _ _ _ _;walk_at "py";refine ix_tup (v:=pV y) (by unfold atI ixN;rw[if_pos (by decide),if_pos (by simp only[List.length_cons];omega)];rfl) ?_;walk_at "py";refine Wc w0 fun stp g1 e1 w1=>?_;have x1:=x0.trans e1;have s1:=s.exb hw na nf x1;have hs1:=s1.s1;walk_at "py";refine Zb hs1 rfl (v:=S.label.v) rfl ?_;walk_at "py";cases e:S.label.up with
  |none =>
   refine KC (fun hc=>absurd rfl hc) (fun hc=>?_);refine ifF rfl ?_
   repeat (first|exact T6 _ num stp g1 x1 w1|walk_at "py1")
  |some q =>
   refine KC (fun hc=>?_) (fun hc=>by simp[rsV]at hc);walk_at "py";refine Zg w1 (by decide) (by decide) fun r g2 _ _ e2 w2=>?_;walk_at "py";have x2:=x1.trans e2;have s2:=s.exb hw na nf x2;have hs2:=s2.s1;refine ifP (fun hc=>?_) (fun hc=>?_)
   ·walk_at "py";refine Zb hs2 rfl (v:=S.label.v) rfl ?_;have er:rsV S.label.up=pV q.2:=by rw[e];rfl
    repeat (first|(rw[er];exact T6 _ num q.2 g2 x2 w2)|walk_at "py1")
   ·repeat (first|exact T6 _ num stp g2 x2 w2|walk_at "py1")
 have T2:∀ (x y:Pi) (rest:List Val),wSs (wF P (n+2)) (tlS 2 SU.body) [some (.ref w),some (.ref st),some (.int p),some (.tup (pV x::pV y::rest)),none,none,none,none,none,none,none,none,none] h (fun _ g=>Q .non g) Q (fun _ _=>False) (fun _ _=>False) fun _ c g=>X c g:=by
  intro x y rest;have at0:atI (pV x::pV y::rest) 0=some (pV x):=Ko _ _;change wSs _ (.cons _ _) _ _ _ _ _ _ _;walk_at "py";refine ix_tup at0 ?_;walk_at "py";refine Wc hw fun num g1 e1 w1=>?_;walk_at "py";refine Zg w1 (by decide) (by decide) fun r g2 a2 b2 e2 w2=>?_;walk_at "py";refine ifP (fun hc=>?_) (fun hc=>?_)
  ·walk_at "py";refine ix_tup at0 ?_;walk_at "py";refine ix_tup at0 ?_;walk_at "py";refine Zg w2 (by decide) (by decide) fun r3 g3 a3 b3 e3 w3=>?_;walk_at "py";refine Zh fun p1 hp1=>?_;have n1:=w3.ne hp1;walk_at "py";refine Zg (w3.ext (Ext.new hp1)) (by decide) (by decide) fun i1 g4 c1 d1 e4 w4=>?_;have l1:=e4.get n1.symm upd_same;obtain⟨m,em⟩:∃ y:Int,atI [Val.int 1,.int 1,.int 1,.int 1000000000000000000000000000000] i1=some (.int y):=by
    rcases four c1 d1 with rfl|rfl|rfl|rfl<;>exact⟨_,rfl⟩
   refine ZB l1 em ?_;refine b_mul (.inl (.inl (by omega))) ?_
   repeat (first|exact T4 x y rest (x.1,x.2+1+r3*m) g4 ((((e1.trans e2).trans e3).trans (.of (Ext.new hp1))).trans e4) w4|walk_at "py1")
  ·repeat (first|exact T4 x y rest num g2 (e1.trans e2) w2|walk_at "py1")
 refine Ki ?_;walk_at "py";refine Zb hs rfl (v:=.ref hh) rfl ?_;refine Mb hhh rfl ?_;rw[WX];walk_at "py";cases e:S.held.lookup p with
 |none =>
  refine ifF rfl ?_
  repeat (first|exact T2 (0,0) (0,0) []|walk_at "py1")
 |some q =>
  obtain⟨l,ag⟩:=q;refine ifT rfl ?_;walk_at "py";refine Zb hs rfl (v:=.ref hh) rfl ?_;walk_at "py";refine Zb hhh rfl (by rw[Z6,e];rfl) ?_
  repeat (first|exact T2 l.num l.st _|walk_at "py1")
noncomputable def Yk (S:Br) (p:Int) (l:L):Bool:=match S.held.lookup p with
 |none=>true
 |some q=>lexI [q.1.num.1,q.1.num.2] [l.num.1,l.num.2]
noncomputable def Z9 (S:Br) (p:Int) (l:L):Br:=if(S.ties.lookup p).isSome then(if Yk S p l then {S with held:=Y3 S.held p (l,l.age)} else S)else S
noncomputable def XI (S:Br) (p:Int):Br:={S with ties:=ZH S.ties p,held:=ZH S.held p}
noncomputable def upB (S:Br) (p:Int) (c:Int×Int):Br:=if(S.ties.lookup p).isSome then S else {S with ties:=Y3 S.ties p c}
structure Br.gd (B:Br):Prop where
 ok:B.ok
 lc:∀ q∈B.held,0≤q.2.1.cost
 tc:∀ q∈B.ties,0≤q.2.1∧0≤q.2.2
theorem Ua{α:Type}{kvs:List (Int×α)}{k:Int}{v:α}{q:Int}:(kvs.lookup q).isSome=true→((Y3 kvs k v).lookup q).isSome=true:=fun h=>by
 obtain⟨x,hx⟩:=Option.isSome_iff_exists.mp h;have hm:q∈kvs.map (·.1):=List.mem_map_of_mem (f:=(·.1)) (Ym hx);have:q∈(Y3 kvs k v).map (·.1):=by
  rw[Mg];split
  ·exact hm
  ·exact List.mem_append_left _ hm
 obtain⟨y,hy⟩:=ZZ this;rw[hy];rfl
theorem Br.gd.heard{S:Br}(o:S.gd){p:Int}{l:L}(hc:0≤l.cost):(Z9 S p l).gd:=by
 unfold Z9;split
 ·rename_i h1;split
  ·refine⟨⟨JO o.ok.nd _ _,fun q hq=>?_,o.ok.nt,o.ok.rg⟩,fun q hq=>?_,o.tc⟩
   ·rcases X4 hq with e|hq
    ·rw[e];exact h1
    ·exact o.ok.sub q hq
   ·rcases X4 hq with e|hq
    ·rw[e];exact hc
    ·exact o.lc q hq
  ·exact o
 ·exact o
theorem Xm{α:Type}{kvs:List (Int×α)}{k:Int}{q:Int×α}(h:q∈ZH kvs k):q∈kvs:=(KS kvs k).subset h
theorem Oq{α:Type}{kvs:List (Int×α)}{k q:Int}(h:(kvs.lookup q).isSome=true)(n:q≠k):((ZH kvs k).lookup q).isSome=true:=by
 obtain⟨x,hx⟩:=Option.isSome_iff_exists.mp h;have:q∈(ZH kvs k).map (·.1):=by refine List.mem_map.mpr ⟨(q,x),?_,rfl⟩;unfold ZH;exact List.mem_filter.mpr ⟨Ym hx,by simpa using n⟩
 obtain⟨y,hy⟩:=ZZ this;rw[hy];rfl
theorem Br.gd.down{S:Br}(o:S.gd)(p:Int):(XI S p).gd :=
 ⟨⟨WB o.ok.nd _,fun q hq=>Oq (o.ok.sub q (Xm hq)) (BZ hq),WB o.ok.nt _,fun q hq=>o.ok.rg q (Xm hq)⟩,fun q hq=>o.lc q (Xm hq),fun q hq=>o.tc q (Xm hq)⟩
theorem Br.gd.up{S:Br}(o:S.gd){p:Int}{c:Int×Int}(h0:0≤p)(h1:p<16)(hc:0≤c.1∧0≤c.2):(upB S p c).gd:=by
 unfold upB;split
 ·exact o
 ·refine⟨⟨o.ok.nd,fun q hq=>Ua (o.ok.sub q hq),JO o.ok.nt _ _,fun q hq=>?_⟩,o.lc,fun q hq=>?_⟩
  ·rcases X4 hq with e|hq
   ·rw[e];exact⟨h0,h1⟩
   ·exact o.ok.rg q hq
  ·rcases X4 hq with e|hq
   ·rw[e];exact hc
   ·exact o.tc q hq
theorem Br.gd.grown{B:Br}(o:B.gd):B.grown.gd:=⟨o.ok.grown,fun q hq=>by
  obtain⟨a,ha⟩:=JA hq
  exact o.lc (q.1,(q.2.1,a)) ha,o.tc⟩
theorem Br.gd.told{B:Br}(o:B.gd):B.told.gd:=by
 obtain⟨h1,h2,_⟩:=Yu B.grown (reck B.grown);refine⟨o.ok.told,?_,?_⟩
 ·show ∀ q∈(Zw B.grown (reck B.grown)).held,_;rw[h1];exact o.grown.lc
 ·show ∀ q∈(Zw B.grown (reck B.grown)).ties,_;rw[h2];exact o.tc
theorem Br.gd.new{own life most:Int}{all:List (Int×Int)}{ps:List Int}(hal:all.length=16)(hat:∀ t∈all,0≤t.1∧1≤t.2)(nd:ps.Nodup)(hp:∀ p∈ps,0≤p∧p<16):(Xf own life most all ps).gd:=by
 refine⟨⟨List.nodup_nil,(fun _ m=>nomatch m),?_,?_⟩,(fun _ m=>nomatch m),?_⟩
 ·show((Yj all ps).map (·.1)).Nodup;rw[YM];exact nd
 ·intro q hq;obtain⟨p,h1,rfl⟩:=List.mem_map.mp hq;exact hp p h1
 ·intro q hq;obtain⟨p,h1,rfl⟩:=List.mem_map.mp hq;have:=hat _ (Kk hal (hp p h1).1 (hp p h1).2).2;exact⟨this.1,by show 0≤(Yy all p).2;omega⟩
theorem DB {p:Int}{l:L}(x:BrAt h b t d B) (o:B.gd) (k:∀ g,BrAt g b t d (Z9 B p l)→Ex [d] h g→Q .non g):wF P (n+2) "Bridge.hear" [.ref b,.int p,l.v] h Q X:=by
 obtain⟨hi,ht,hd,hne⟩:=id x;have hlen:=o.ok.hlen;refine Ji ?_;walk_at "py";refine Me ht rfl ?_;rw[WX];walk_at "py";unfold Z9 at k;cases e:(B.ties.lookup p).isSome with
 |false =>rw[e]at k;refine ifT rfl ?_;walk_at "py";exact k h x Ex.refl
 |true =>
  rw[e,if_pos rfl]at k;refine ifF rfl ?_;walk_at "py";refine Nj x ?_;have put:(∀ g,BrAt g b t d {B with held:=Y3 B.held p (l,l.age)}→Ex [d] h g→Q .non g)→go (putV h (.ref d) (.int p) (.tup [l.v,.int l.age])) fun g=>Q .non g:=fun k=>by refine ZO hd ⟨rfl,by rw[Jb];exact Nat.lt_of_le_of_lt hlen (by decide)⟩ ?_;rw[show Val.tup [l.v,.int l.age]=hdV (l,l.age) from rfl,Yh];exact k _ ⟨by rw[upd_ne x.nbd];exact hi,by rw[upd_ne hne];exact ht,upd_same,hne⟩ (Ex.upd (by simp))
  walk_at "py";cases e2:B.held.lookup p with
  |none =>
   have et:Yk B p l=true:=by unfold Yk;rw[e2]
   rw[et,if_pos rfl]at k;refine ifP (fun hc=>?_) (fun hc=>absurd rfl hc);refine ifT rfl ?_;walk_at "py";exact YS (put k) fun g q=>by walk_at "py";exact q
  |some q =>
   obtain⟨m,ag⟩:=q;have et:Yk B p l=lexI [m.num.1,m.num.2] [l.num.1,l.num.2]:=by unfold Yk;rw[e2]
   rw[et]at k;refine ifP (fun hc=>by simp[hdO]at hc) (fun hc=>?_);simp only[hdO];walk_at "py";refine DD ?_;walk_at "py";refine AJ (Z5 [l.num.1,l.num.2]) (Z5 [m.num.1,m.num.2]) ?_;walk_at "py";refine ifD (fun hc=>?_) (fun hc=>?_)
   ·rw[if_pos hc]at k;walk_at "py";exact YS (put k) fun g q=>by walk_at "py";exact q
   ·rw[if_neg (by rw[hc];decide)]at k;walk_at "py";exact k h x Ex.refl
theorem Og {p:Int}{l:L}(s:StAt h st a f tt hh S all ps) (o:S.gd) (k:∀ g,StAt g st a f tt hh (Z9 S p l) all ps→Ex [hh] h g→Q .non g):wF P (n+1) "_law_heard" [.ref st,.int p,l.v] h Q X:=by
 obtain⟨s1,s2,s3,s4,s5,n1,n2,n3⟩:=id s;have hlen:=o.ok.hlen;refine KR ?_;walk_at "py";refine Zb s1 rfl (v:=.ref tt) rfl ?_;refine Mb s4 rfl ?_;rw[WX];walk_at "py";unfold Z9 at k;cases e:(S.ties.lookup p).isSome with
 |false =>rw[e]at k;refine ifF rfl ?_;walk_at "py";exact k h s Ex.refl
 |true =>
  rw[e,if_pos rfl]at k;refine ifT rfl ?_;have put:(∀ g,StAt g st a f tt hh {S with held:=Y3 S.held p (l,l.age)} all ps→Ex [hh] h g→Q .non g)→go (putV h (.ref hh) (.int p) (.tup [l.v,.int l.age])) fun g=>Q .non g:=fun k=>by refine ZO s5 ⟨rfl,by rw[Jb];exact Nat.lt_of_le_of_lt hlen (by decide)⟩ ?_;rw[show Val.tup [l.v,.int l.age]=hdV (l,l.age) from rfl,Yh];exact k _ ⟨by rw[upd_ne n2];exact s1,by rw[upd_ne (Zi s2 s5 nofun)];exact s2,by rw[upd_ne (Zi s3 s5 nofun)];exact s3,by rw[upd_ne n3];exact s4,upd_same,n1,n2,n3⟩ (Ex.upd (by simp))
  walk_at "py";refine Zb s1 rfl (v:=.ref hh) rfl ?_;refine Me s5 rfl ?_;rw[WX];walk_at "py";cases e2:S.held.lookup p with
  |none =>
   have et:Yk S p l=true:=by unfold Yk;rw[e2]
   rw[et,if_pos rfl]at k;refine ifT rfl ?_;refine ifT rfl ?_;walk_at "py";refine Zb s1 rfl (v:=.ref hh) rfl ?_;walk_at "py";exact YS (put k) fun g q=>by walk_at "py";exact q
  |some q =>
   obtain⟨m,ag⟩:=q;have et:Yk S p l=lexI [m.num.1,m.num.2] [l.num.1,l.num.2]:=by unfold Yk;rw[e2]
   rw[et]at k;refine ifF rfl ?_;walk_at "py";refine Zb s1 rfl (v:=.ref hh) rfl ?_;walk_at "py";refine Zb s5 rfl (by rw[Z6,e2];rfl) ?_;walk_at "py";refine AJ (Z5 [l.num.1,l.num.2]) (Z5 [m.num.1,m.num.2]) ?_;walk_at "py";refine ifD (fun hc=>?_) (fun hc=>?_)
   ·rw[if_pos hc]at k;walk_at "py";refine Zb s1 rfl (v:=.ref hh) rfl ?_;walk_at "py";exact YS (put k) fun g q=>by walk_at "py";exact q
   ·rw[if_neg (by rw[hc];decide)]at k;walk_at "py";exact k h s Ex.refl
theorem B9 {p:Int}(x:BrAt h b t d B) (k:∀ g,BrAt g b t d (XI B p)→Ex [t,d] h g→Q .non g):wF P (n+1) "Bridge.down" [.ref b,.int p] h Q X:=by obtain⟨hi,ht,hd,hne⟩:=id x;refine Jk ?_;walk_at "py";refine NX ht rfl ?_;dsimp only;rw[YD];have hi2:upd h t (.dct (Zr Yq (ZH B.ties p))) b=_:=upd_ne' x.nbt hi;have hd2:upd h t (.dct (Zr Yq (ZH B.ties p))) d=_:=upd_ne' hne.symm hd;walk_at "py";refine NX hd2 rfl ?_;dsimp only;rw[YD];walk_at "py";exact k _ ⟨by rw[upd_ne x.nbd];exact hi2,by rw[upd_ne hne];exact upd_same,upd_same,hne⟩ ((Ex.upd (by simp)).trans (Ex.upd (by simp)))
theorem Hy {p nb c:Int}(x:BrAt h b t d B) (o:B.gd) (k:∀ g,BrAt g b t d (upB B p (nb,c))→Ex [t] h g→Q .non g):wF P (n+1) "Bridge.up" [.ref b,.int p,.int nb,.int c] h Q X:=by
 obtain⟨hi,ht,hd,hne⟩:=id x;have hlen:=o.ok.tlen;refine K6 ?_;walk_at "py";refine Me ht rfl ?_;rw[WX];walk_at "py";unfold upB at k;cases e:(B.ties.lookup p).isSome with
 |true =>rw[e,if_pos rfl]at k;refine ifF rfl ?_;walk_at "py";exact k h x Ex.refl
 |false =>rw[e,if_neg (by decide)]at k;refine ifT rfl ?_;walk_at "py";refine ZO ht ⟨rfl,by rw[Jb];exact Nat.lt_of_le_of_lt hlen (by decide)⟩ ?_;rw[show Val.tup [.int nb,.int c]=Yq (nb,c) from rfl,Yh];walk_at "py";exact k _ ⟨by rw[upd_ne x.nbt];exact hi,upd_same,by rw[upd_ne hne.symm];exact hd,hne⟩ (Ex.upd (by simp))
theorem Yc:∀ {a b:List Int},lexI a b=true→lexI b a=false
 |[],[],h=>by cases h
 |[],_::_,_=>rfl
 |_::_,[],h=>by cases h
 |x::xs,y::ys,h=>by
  rw[lexI]at h ⊢;by_cases e:x=y
  ·subst e;rw[if_pos rfl]at h ⊢;exact Yc h
  ·rw[if_neg e]at h;have h:x<y:=by simpa using h
   rw[if_neg (Ne.symm e)];simp;omega
theorem XX:∀ {a b c:List Int},lexI b a=false→lexI c b=false→lexI c a=false
 |[],[],[],_,_=>rfl
 |[],_,_::_,_,_=>rfl
 |[],_::_,[],_,h=>by cases h
 |_::_,[],_,h,_=>by cases h
 |_::_,_::_,[],_,h=>by cases h
 |x::xs,y::ys,z::zs,h1,h2=>by
  rw[lexI]at h1 h2 ⊢;by_cases e1:y=x
  ·subst e1;rw[if_pos rfl]at h1;by_cases e2:z=y
   ·subst e2;rw[if_pos rfl]at h2 ⊢;exact XX h1 h2
   ·rw[if_neg e2]at h2 ⊢;exact h2
  ·rw[if_neg e1]at h1;have h1:¬ y<x:=by simpa using h1
   by_cases e2:z=y
   ·subst e2;rw[if_neg e1];simpa using h1
   ·rw[if_neg e2]at h2;have h2:¬ z<y:=by simpa using h2
    rw[if_neg (by omega)];simp;omega
theorem NY:∀ {a b:List Int},lexI a b=false→lexI b a=false→a=b
 |[],[],_,_=>rfl
 |[],_::_,h,_=>by cases h
 |_::_,[],_,h=>by cases h
 |x::xs,y::ys,h1,h2=>by
  rw[lexI]at h1 h2;by_cases e:x=y
  ·subst e;rw[if_pos rfl]at h1 h2;rw[NY h1 h2]
  ·rw[if_neg e]at h1;rw[if_neg (Ne.symm e)]at h2;have h1:¬ x<y:=by simpa using h1
   have h2:¬ y<x:=by simpa using h2
   omega
def Least (m:List Int) (rows:List (List Int)):Prop:=m∈rows∧∀ y∈rows,lexI y m=false
theorem Least.uniq{m k:List Int}{rows:List (List Int)}(a:Least m rows)(b:Least k rows):m=k:=NY (b.2 m a.1) (a.2 k b.1)
theorem MO{rows:List (List Int)}(h:rows≠[]):∃ m rest,sortR rows=m::rest∧Least m rows:=by
 have hp:(sortR rows).Perm rows:=List.mergeSort_perm rows _;have hu:(sortR rows).Pairwise (fun a b=>(!lexI b a)=true):=List.pairwise_mergeSort (le:=fun a b:List Int=>!lexI b a) (fun a b c h1 h2=>by
   simp only[Bool.not_eq_true']at *
   exact XX h1 h2) (fun a b=>by
   cases z:lexI b a with
   |false=>simp
   | true=>simp[Yc z]) rows
 cases e:sortR rows with
 |nil=>rw[e]at hp;exact absurd hp.symm.eq_nil h
 |cons m rest =>
  rw[e]at hp hu;rw[List.pairwise_cons]at hu;refine⟨m,rest,rfl,hp.mem_iff.mp List.mem_cons_self,fun y hy=>?_⟩;rcases List.mem_cons.mp (hp.mem_iff.mpr hy)with z|z
  ·subst z;cases q:lexI y y with
   |false=>rfl
   |true=>have:=Yc q;rw[q]at this;cases this
  ·simpa using hu.1 y z
theorem Wr:∀ (r:List (List Int)) (x:List Int),Least (minR x r) (x::r)
 | [],x=>⟨List.mem_cons_self,fun y hy=>by
   rw[List.mem_singleton.mp hy]
   cases q:lexI x x with
   |false=>exact q
   | true=>have:=Yc q;rw[q]at this;cases this⟩
 |z::r,x=>by
  obtain⟨h1,h2⟩:=Wr r (if lexI z x then z else x);refine⟨WV (z::r) x,fun y hy=>?_⟩;show lexI y (minR (if lexI z x then z else x) r)=false;have hb:=h2 _ List.mem_cons_self;have hx:lexI x (if lexI z x then z else x)=false:=by
   cases q:lexI z x with
   |false =>
    simp only[Bool.false_eq_true,if_false];cases q2:lexI x x with
    |false=>rfl
    |true=>have:=Yc q2;rw[q2]at this;cases this
   |true=>simp only[if_true];exact Yc q
  have hz:lexI z (if lexI z x then z else x)=false:=by
   cases q:lexI z x with
   |false=>simp only[Bool.false_eq_true,if_false];exact q
   |true =>
    simp only[if_true];cases q2:lexI z z with
    |false=>rfl
    |true=>have:=Yc q2;rw[q2]at this;cases this
  rcases List.mem_cons.mp hy with e|hy
  ·rw[e];exact XX hb hx
  ·rcases List.mem_cons.mp hy with e|hy
   ·rw[e];exact XX hb hz
   ·exact h2 y (List.mem_cons_of_mem _ hy)
theorem Ms{S:Br}(o:S.gd):Least ((ZG S.number (ZN S.ties S.held)).getD [S.number,0,-1,-1]) ([S.number,0,-1,-1]::ZN S.ties S.held):=by
 have hrow:∀ y∈ZN S.ties S.held,∃ r c nb p,y=[r,c,nb,p]∧0≤c∧0≤nb:=by intro y hy;unfold ZN at hy;obtain⟨q,hq,rfl⟩:=List.mem_map.mp hy;have ht:=MJ (o.ok.sub q hq);have h1:0≤(YK S.ties q.1).1∧0≤(YK S.ties q.1).2:=o.tc _ (Ym ht);have h2:=o.lc q hq;exact⟨_,_,_,_,rfl,by omega,h1.1⟩
 have irr:∀ y:List Int,lexI y y=false:=fun y=>by
  cases q:lexI y y with
  |false=>rfl
  |true=>have:=Yc q;rw[q]at this;cases this
 unfold ZG;cases e:(ZN S.ties S.held).filter (fun r=>decide (r.headD 0<S.number))with
 |nil =>
  refine⟨List.mem_cons_self,fun y hy=>?_⟩;rcases List.mem_cons.mp hy with z|hy
  ·rw[z];exact irr _
  ·obtain⟨r,c,nb,p,rfl,hc,hn⟩:=hrow y hy;have:¬ r<S.number:=fun z=>by
    have:[r,c,nb,p]∈(ZN S.ties S.held).filter (fun r=>decide (r.headD 0<S.number)):=List.mem_filter.mpr ⟨hy,by simpa using z⟩;rw[e]at this;cases this
   show lexI [r,c,nb,p] [S.number,0,-1,-1]=false;rw[lexI];by_cases h1:r=S.number
   ·rw[if_pos h1,lexI];by_cases h2:c=0
    ·rw[if_pos h2,lexI,if_neg (by omega)];simp;omega
    ·rw[if_neg h2];simp;omega
   ·rw[if_neg h1];simp;omega
 |cons x r =>
  obtain⟨h1,h2⟩:=Wr r x;rw[←e]at h1 h2;have h3:=List.mem_filter.mp h1;refine⟨List.mem_cons_of_mem _ h3.1,fun y hy=>?_⟩;show lexI y (minR x r)=false;obtain⟨r0,c0,nb0,p0,em,_,_⟩:=hrow _ h3.1;have hlt:r0<S.number:=by have:=h3.2;rw[em]at this;simpa using this
  have big:∀ (y0:Int) (ys:List Int),S.number≤y0→lexI (y0::ys) (minR x r)=false:=fun y0 ys hy0=>by rw[em,lexI,if_neg (by omega)];simp;omega
  rcases List.mem_cons.mp hy with z|hy
  ·rw[z];exact big _ _ (Int.le_refl _)
  ·by_cases hf:y∈(ZN S.ties S.held).filter (fun r=>decide (r.headD 0<S.number))
   ·exact h2 y hf
   ·obtain⟨r1,c1,nb1,p1,rfl,_,_⟩:=hrow y hy;refine big _ _ ?_;have:¬ r1<S.number:=fun z=>hf (List.mem_filter.mpr ⟨hy,by simpa using z⟩);omega
theorem BF{α:Type}{val:α→Val}{kvs:List (Int×α)}{i:Nat}{v:Val}(h:((Zr val kvs).map (itemOf true))[i]?=some v):∃ p,kvs[i]?=some p∧v=.int p.1:=by obtain⟨q,h1,rfl⟩:=YL h;unfold Zr at h1;rw[List.getElem?_map]at h1;obtain⟨x,h2,rfl⟩:=Option.map_eq_some_iff.mp h1;exact⟨x,h2,rfl⟩
noncomputable def RP (S:Br):List Int:=(ZG S.grown.number (ZN S.grown.ties S.grown.held)).getD [S.number,0,-1,-1]
theorem Gi (s:StAt h st a f tt hh S all ps) (o:S.gd) (k:∀ hh' g,h hh'=none→StAt g st a f tt hh' S.told all ps→Ex [st] h g→Q .non g):wF P (n+1) "_law_reckoned" [.ref st] h Q X:=by
 obtain⟨s1,s2,s3,s4,s5,n1,n2,n3⟩:=id s;have hlen:=o.ok.hlen;have nsa:a≠st:=Zi s2 s1 nofun;have nsf:f≠st:=Zi s3 s1 nofun;refine Wx ?_;walk_at "py";intro p hp;have pst:=Za s1 hp;have pa:=Za s2 hp;have pf:=Za s3 hp;have ptt:=Za s4 hp;have phh:=Za s5 hp;have s1':=(Ext.new (o:=.dct []) hp).get s1;walk_at "py";refine Zb s1' rfl (v:=.int S.number) rfl ?_;walk_at "py";refine Zh fun r hr=>?_;have hpr:p≠r:=Za upd_same hr;have hrn:h r=none:=by
  cases z:h r with
  |none=>rfl
  |some v=>rw[(Ext.new hp).get z]at hr;cases hr
 have rst:=Za s1 hrn;have rhh:=Za s5 hrn;walk_at "py";have s1'':upd (upd h p (.dct [])) r (.lst [.tup [.int S.number,.int 0,.int (-1),.int (-1)]]) st=_:=upd_ne' rst s1';have s5'':upd (upd h p (.dct [])) r (.lst [.tup [.int S.number,.int 0,.int (-1),.int (-1)]]) hh=_:=upd_ne' rhh ((Ext.new (o:=.dct []) hp).get s5);refine Zb s1'' rfl (v:=.ref hh) rfl ?_;walk_at "py";refine ZJ (fun i e g=>∃ u3 u4 u5 u6 u7,e=[some (.ref st),some (.ref p),some (.ref r),u3,u4,u5,u6,u7,none,none]∧g p=some (.dct (Zr hdV (Zo S.most (S.held.take i))))∧g r=some (.lst (([S.number,0,-1,-1]::ZN S.ties (Zo S.most (S.held.take i))).map Y4))∧g hh=some (.frz (Zr hdV S.held))∧Ex [hh] h g) ⟨none,none,none,none,none,rfl,by rw[upd_ne phh.symm,upd_ne hpr];exact upd_same,by rw[upd_ne rhh.symm];exact upd_same,upd_same,?_⟩ ?_ ?_ ?_
 ·refine⟨fun {c v} m e=>?_⟩;rw[upd_ne (by simpa using m),upd_ne (Za e hrn),upd_ne (Za e hp)];exact e
 ·rintro i e g _ ⟨u3,u4,u5,u6,u7,rfl,h1,h2,h3,h4⟩;exact h3
 ·rintro i v e g hv ⟨u3,u4,u5,u6,u7,rfl,h1,h2,h3,h4⟩ K hK;obtain⟨q,hq,rfl⟩:=BF hv;obtain⟨pl,l,ag⟩:=q;have hm:=List.mem_of_getElem? hq;have g1:=h4.get (by simpa using n2) s1;have g4:=h4.get (by simpa using n3) s4;have hl:=C7 o.ok.nd hm;have e1:Zo S.most (S.held.take (i+1))=Zo S.most (S.held.take i)++Zo S.most [(pl,(l,ag))]:=by
   unfold Zo;rw[ZY hq,List.filterMap_append]
  walk_at "py";refine Zb g1 rfl (v:=.ref hh) rfl ?_;walk_at "py";refine E8 h3 rfl (by rw[Z6,hl];rfl) ?_;walk_at "py";refine Zb g1 rfl (v:=.int S.most) rfl ?_;walk_at "py";refine ifP (fun hc=>?_) (fun hc=>?_)
  ·have e2:Zo S.most [(pl,(l,ag))]=[(pl,(l,ag+1))]:=by
    unfold Zo;rw[List.filterMap_cons,if_pos hc];rfl
   have hs:=MJ (o.ok.sub _ hm);generalize htt:YK S.ties pl=ttv at hs;obtain⟨nb,c⟩:=ttv;walk_at "py";refine ZO (k:=.int pl) h1 ⟨rfl,?_⟩ ?_
   ·rw[Jb];have h5:=YV S.most (S.held.take i);have h6:(S.held.take i).length≤S.held.length:=List.length_take_le' _ _;exact Nat.lt_of_le_of_lt (Nat.le_trans h5 (Nat.le_trans h6 hlen)) (by decide)
   rw[show Val.tup [l.v,.int (ag+1)]=hdV (l,ag+1) from rfl,Yh,X3 _ (fun m=>Z4 o.ok.nd hq ((Y6 _ _).subset m)),←e2,←e1];have j1:upd g p (.dct (Zr hdV (Zo S.most (S.held.take (i+1))))) st=_:=upd_ne' pst g1;have j4:upd g p (.dct (Zr hdV (Zo S.most (S.held.take (i+1))))) tt=_:=upd_ne' ptt g4;have j2:upd g p (.dct (Zr hdV (Zo S.most (S.held.take (i+1))))) r=_:=upd_ne' hpr.symm h2;walk_at "py";refine Zb j1 rfl (v:=.ref tt) rfl ?_;walk_at "py";refine Zb j4 rfl (by rw[Z6,hs];rfl) ?_;walk_at "py";refine ZW j2 ?_ ?_
   ·rw[List.length_map,List.length_cons];unfold ZN;rw[List.length_map];have h5:=YV S.most (S.held.take i);have h6:(S.held.take i).length≤S.held.length:=List.length_take_le' _ _;exact Nat.lt_of_le_of_lt (by omega:_≤17) (by decide)
   dsimp only;walk_at "py";refine hK _ _ ⟨_,_,_,_,_,rfl,?_,?_,?_,?_⟩
   ·rw[upd_ne hpr];exact upd_same
   ·rw[upd_same,e1,e2];unfold ZN;simp only[List.map_append,List.map_cons,List.map_nil,List.cons_append];rw[show Xa S.ties (pl,l,ag+1)=[l.root,l.cost+c,nb,pl] from by unfold Xa;rw[htt]];rfl
   ·rw[upd_ne rhh,upd_ne phh];exact h3
   ·exact⟨fun m e=>by rw[upd_ne (Za e hrn),upd_ne (Za e hp)];exact h4.get m e⟩
  ·have e2:Zo S.most [(pl,(l,ag))]=[]:=by
    unfold Zo;rw[List.filterMap_cons,if_neg hc];rfl
   rw[e2,List.append_nil]at e1;walk_at "py";exact hK _ _ ⟨_,_,_,_,_,rfl,by rw[e1];exact h1,by rw[e1];exact h2,h3,h4⟩
 ·rintro e g ⟨u3,u4,u5,u6,u7,rfl,h1,h2,h3,h4⟩;refine⟨h3,?_⟩;rw[show((Zr hdV S.held).map (itemOf true)).length=S.held.length by rw[List.length_map,Jb],List.take_length]at h1 h2;have g1:upd g hh (.dct (Zr hdV S.held)) st=_:=upd_ne' n2 (h4.get (by simpa using n2) s1);have g1p:upd g hh (.dct (Zr hdV S.held)) p=_:=upd_ne' phh.symm h1;have g1r:upd g hh (.dct (Zr hdV S.held)) r=_:=upd_ne' rhh.symm h2;have hx:Ext h (upd g hh (.dct (Zr hdV S.held))):=⟨fun {c v} e=>by
    by_cases hc:c=hh
    · subst hc;rw[upd_same,←e];exact s5.symm
    · rw[upd_ne hc];exact h4.get (by simpa using hc) e⟩
  generalize upd g hh (.dct (Zr hdV S.held))=g2 at g1 g1p g1r hx ⊢;have hst2:∀ {v:Ob},Ex [st] h (upd g2 st v):=fun {v}=>(Ex.of hx).trans (Ex.upd (by simp));have og:=o.grown;have T7:∀ (g4:Hs) u3 u4 u5 u6 u7 u8,g4 st=some (.dct (stL S a f tt p))→g4 p=some (.dct (Zr hdV (Zo S.most S.held)))→Ex [st] h g4→
    wSs (wF P n) (tlS 7 SD.body) [some (.ref st),some (.ref p),some (.ref r),u3,u4,u5,u6,u7,u8,some (reck S.grown).v] g4 (fun _ g=>Q .non g) Q (fun _ _=>False) (fun _ _=>False) fun _ c g=>X c g:=by
   intro g4 u3 u4 u5 u6 u7 u8 a1 a2 a3;have fin:∀ (T:Br) g5,g5 st=some (.dct (stL T a f tt p))→T.ties=S.ties→T.held=Zo S.most S.held→g5 p=some (.dct (Zr hdV (Zo S.most S.held)))→Ex [st] h g5→T=S.told→Q .non g5:=fun T g5 b1 b2 b3 b4 b5 b6=>by refine k p g5 hp ?_ b5;rw[←b6];exact⟨b1,b5.get (by simpa using nsa) s2,b5.get (by simpa using nsf) s3,by rw[b2];exact b5.get (by simpa using n1.symm) s4,by rw[b3];exact b4,n1,pst,ptt⟩
   change wSs _ (.cons _ _) _ _ _ _ _ _ _;walk_at "py";refine Zb a1 rfl (v:=S.label.v) rfl ?_;refine Np (UP g4 _ _) ?_;walk_at "py";refine KC (fun hc=>?_) (fun hc=>?_)
   ·walk_at "py";refine Zb a1 rfl (v:=.int S.version) rfl ?_;walk_at "py";refine ZO (k:=.str "version") a1 ⟨rfl,show(10:Nat)<lim by decide⟩ ?_;walk_at "py";refine ZO (k:=.str "label") upd_same ⟨rfl,show(10:Nat)<lim by decide⟩ ?_;rw[upd_upd];walk_at "py";refine fin {S.grown with label:=reck S.grown,version:=S.version+1} _ upd_same rfl rfl (by rw[upd_ne pst.symm];exact a2) (a3.trans (Ex.upd (by simp))) ?_;unfold Br.told Zw;rw[if_neg (show ¬ reck S.grown=S.grown.label from hc)];rfl
   ·walk_at "py";refine ZO (k:=.str "label") a1 ⟨rfl,show(10:Nat)<lim by decide⟩ ?_;walk_at "py";refine fin {S.grown with label:=reck S.grown} _ upd_same rfl rfl (by rw[upd_ne pst.symm];exact a2) (a3.trans (Ex.upd (by simp))) ?_;unfold Br.told Zw;rw[if_pos (show reck S.grown=S.grown.label from hc),hc];rfl
  walk_at "py";refine ZO (k:=.str "held") g1 ⟨rfl,show(10:Nat)<lim by decide⟩ ?_;have i1:upd g2 st (.dct (putK (stL S a f tt hh) (.str "held") (.ref p))) st=some (.dct (stL S a f tt p)):=upd_same;have i2:upd g2 st (.dct (putK (stL S a f tt hh) (.str "held") (.ref p))) p=_:=upd_ne' pst.symm g1p;have i3:upd g2 st (.dct (putK (stL S a f tt hh) (.str "held") (.ref p))) r=_:=upd_ne' rst.symm g1r;have i4:Ex [st] h (upd g2 st (.dct (putK (stL S a f tt hh) (.str "held") (.ref p)))):=hst2;generalize upd g2 st (.dct (putK (stL S a f tt hh) (.str "held") (.ref p)))=g3 at i1 i2 i3 i4 ⊢;have hrl:([S.number,0,-1,-1]::ZN S.ties (Zo S.most S.held)).length<64:=by rw[List.length_cons];unfold ZN;rw[List.length_map];have:=YV S.most S.held;omega
  have hre:(([S.number,0,-1,-1]::ZN S.ties (Zo S.most S.held)).all fun r=>!r.isEmpty)=true:=by
   rw[List.all_eq_true];intro y hy;rcases List.mem_cons.mp hy with e|hy
   ·rw[e];rfl
   ·unfold ZN at hy;obtain⟨q,_,rfl⟩:=List.mem_map.mp hy;rfl
  obtain⟨m,rest,em,lm⟩:=MO (rows:=[S.number,0,-1,-1]::ZN S.ties (Zo S.most S.held)) (by simp);have emb:=lm.uniq (Ms og);walk_at "py";refine CQ i3 rfl (Ky _) ⟨hrl,hre⟩ (Zh fun z hz=>?_);rw[em];have y1:=(Ext.new (o:=.lst ((m::rest).map fun r=>.tup (r.map .int))) hz).get i1;have y2:=(Ext.new (o:=.lst ((m::rest).map fun r=>.tup (r.map .int))) hz).get i2;have y4:Ex [st] h (upd g3 z (.lst ((m::rest).map fun r=>.tup (r.map .int)))):=i4.trans (.of (Ext.new hz));walk_at "py";refine ZB upd_same (Ko _ _) ?_;generalize upd g3 z (.lst ((m::rest).map fun r=>.tup (r.map .int)))=g4 at y1 y2 y4 ⊢;have hgo:ZG S.grown.number (ZN S.grown.ties S.grown.held)=ZG S.number (ZN S.ties (Zo S.most S.held)):=rfl;cases e:ZG S.number (ZN S.ties (Zo S.most S.held))with
  |none =>
   have em2:m=[S.number,0,-1,-1]:=by rw[emb,hgo,e];rfl
   have el:reck S.grown=⟨S.number,0,none⟩:=by unfold reck;rw[hgo,e];rfl
   subst em2;simp only[List.map_cons,List.map_nil];walk_at "py";refine ifP (fun hc=>by omega) (fun hc=>?_);refine YJ ?_;have:=T7 g4 (some (.int (-1))) u4 u5 (some (.int (-1))) (some (.int 0)) (some (.int S.number)) y1 y2 y4;rw[el]at this;exact this
  |some x =>
   have em2:m=x:=by rw[emb,hgo,e];rfl
   subst em2;have hm:=WL e;unfold ZN at hm;obtain⟨q,hq,rfl⟩:=List.mem_map.mp hm;have hq0:0≤q.1:=by obtain⟨y,hy⟩:=Option.isSome_iff_exists.mp (og.ok.sub q hq);exact(og.ok.rg _ (Ym hy)).1
   obtain⟨y,hy⟩:=ZZ (List.mem_map_of_mem (f:=(·.1)) hq);have el:reck S.grown=⟨q.2.1.root,q.2.1.cost+(YK S.ties q.1).2,some (q.1,y.1.st)⟩:=by unfold reck;rw[hgo,e];show(⟨_,_,some (q.1,KD (Zo S.most S.held) q.1)⟩:Lab)=_;unfold KD;rw[hy];rfl
   unfold Xa;simp only[List.map_cons,List.map_nil];walk_at "py";refine ifP (fun hc=>?_) (fun hc=>absurd hq0 hc);walk_at "py";refine Zb y2 rfl (by rw[Z6,hy];rfl) ?_;have:=T7 g4 (some (.int q.1)) u4 u5 (some (.int (YK S.ties q.1).1)) (some (.int (q.2.1.cost+(YK S.ties q.1).2))) (some (.int q.2.1.root)) y1 y2 y4;rw[el]at this
   repeat (first|exact this|walk_at "py1")
noncomputable def Br.wc (S:Br) (c:Int):Br:={S with count:=c}
theorem AK(S:Br)(c p:Int)(l:L):Z9 (S.wc c) p l=(Z9 S p l).wc c:=by
 unfold Z9 Yk Br.wc;dsimp only;split
 ·split<;>rfl
 ·rfl
theorem BI(S:Br)(c p:Int):XI (S.wc c) p=(XI S p).wc c:=rfl
theorem Hu(S:Br)(c p:Int)(v:Int×Int):upB (S.wc c) p v=(upB S p v).wc c:=by unfold upB Br.wc;dsimp only;split<;>rfl
theorem NS(S:Br)(c:Int):(S.wc c).told=S.told.wc c:=by
 have e1:reck (S.wc c).grown=reck S.grown:=rfl;unfold Br.told Zw;rw[e1];by_cases h:reck S.grown=S.grown.label
 ·rw[if_pos h,if_pos (show reck S.grown=(S.wc c).grown.label from h)];rfl
 ·rw[if_neg h,if_neg (show ¬ reck S.grown=(S.wc c).grown.label from h)];rfl
theorem N2(S:Br)(c:Int):(S.wc c).ticked=S.told.wc (c+1):=by unfold Br.ticked;rw[NS];rfl
theorem Br.gd.wc{S:Br}(o:S.gd)(c:Int):(S.wc c).gd:=⟨⟨o.ok.nd,o.ok.sub,o.ok.nt,o.ok.rg⟩,o.lc,o.tc⟩
noncomputable def Br.key (S:Br):Int×Int×Int:=(S.number,S.life,S.count)
theorem OO(S:Br)(p:Int)(l:L):(Z9 S p l).key=S.key:=by
 unfold Z9;split
 ·split<;>rfl
 ·rfl
theorem F1(S:Br)(p:Int)(v:Int×Int):(upB S p v).key=S.key:=by unfold upB;split<;>rfl
theorem UO(S:Br):S.told.key=S.key:=by unfold Br.told Zw;split<;>rfl
structure Wd (h:Hs) (st a f tt hh b t d:Ad) (S:Br) (c:Int) (all:List (Int×Int)) (ps:List Int):Prop where
 s:StAt h st a f tt hh S all ps
 x:BrAt h b t d (S.wc c)
 g:S.gd
 n1:st≠t
 n2:st≠d
 n3:tt≠t
 n4:tt≠d
 n5:hh≠t
 n6:hh≠d
theorem Wd.exb{h g:Hs}{w st a f tt hh b t d:Ad}{S:Br}{c:Int}{all:List (Int×Int)}{ps:List Int}(x:Wd h st a f tt hh b t d S c all ps)(hw:Well h w)(na:a≠w)(nf:f≠w)(e:ExtB w h g):Wd g st a f tt hh b t d S c all ps :=
 ⟨x.s.exb hw na nf e,x.x.exb hw e,x.g,x.n1,x.n2,x.n3,x.n4,x.n5,x.n6⟩
theorem Wd.ext{h g:Hs}{st a f tt hh b t d:Ad}{S:Br}{c:Int}{all:List (Int×Int)}{ps:List Int}(x:Wd h st a f tt hh b t d S c all ps)(e:Ext h g):Wd g st a f tt hh b t d S c all ps :=
 ⟨x.s.ext e,x.x.ext e,x.g,x.n1,x.n2,x.n3,x.n4,x.n5,x.n6⟩
theorem OH{h:Hs}(ps:List Int)(m:Nat):(ps.map Val.int).mapM (dat h m)=some (ps.map D.int):=by
 induction ps with
 |nil=>rfl
 |cons p ps ih =>rw[List.map_cons,List.mapM_cons,ih];cases m<;>rfl
theorem eq_nil{h:Hs}{p q:Ad}{ns:List Int}(hp:h p=some (.lst (ns.map .int)))(hq:h q=some (.lst [])):eqV h (.ref p) (.ref q)=some (decide (ns=[])):=by
 unfold eqV;have e1:dat h deep (.ref p)=some (.lst (ns.map D.int)):=by show(lsOf (h p)).bind (fun xs=>(xs.mapM (dat h 11)).map D.lst)=_;rw[hp];show((ns.map Val.int).mapM (dat h 11)).map D.lst=_;rw[OH];rfl
 have e2:dat h deep (.ref q)=some (.lst []):=by show(lsOf (h q)).bind (fun xs=>(xs.mapM (dat h 11)).map D.lst)=_;rw[hq];rfl
 rw[e1,e2];cases ns with
 |nil=>rfl
 |cons x xs=>simp[D.eqv,D.eqvs]
theorem KH (hw:Well h w) (s:StAt h st a f tt hh S all ps) (o:S.gd) (k:∀ p g,0≤p→p<16→ExtB w h g→Well g w→Q (.int p) g):wF P (n+2) "_law_place" [.ref w,.ref st] h Q X:=by
 obtain⟨s1,s2,s3,s4,s5,n1,n2,n3⟩:=id s;have hlen:=o.ok.tlen;refine KU ?_;walk_at "py";refine Zb s1 rfl (v:=.ref tt) rfl ?_;walk_at "py";refine MS s4 (Ao _) (by rw[List.length_map];omega) (Zh fun p hp=>?_);have hl:(sortI (S.ties.map (·.1))).length=S.ties.length:=by rw[sortI,List.length_mergeSort,List.length_map]
 have hmem:∀ x∈sortI (S.ties.map (·.1)),0≤x∧x<16:=fun x hx=>by have:=(List.mergeSort_perm (S.ties.map (·.1)) _).mem_iff.mp hx;obtain⟨q,hq,rfl⟩:=List.mem_map.mp this;exact o.ok.rg q hq
 generalize sortI (S.ties.map (·.1))=zs at hl hmem;have npw:=hw.ne hp;have w1:=hw.ext (Ext.new (o:=.lst (zs.map .int)) hp);walk_at "py";refine Zh fun q hq=>?_;have nqw:=w1.ne hq;have npq:p≠q:=Za upd_same hq;have w2:=w1.ext (Ext.new (o:=.lst []) hq);have hp2:upd (upd h p (.lst (zs.map .int))) q (.lst []) p=_:=upd_ne' npq upd_same;refine Np (eq_nil hp2 upd_same) ?_;walk_at "py";have e2:ExtB w h (upd (upd h p (.lst (zs.map .int))) q (.lst [])):=(ExtB.of (Ext.new hp)).trans (.of (Ext.new hq));generalize upd (upd h p (.lst (zs.map .int))) q (.lst [])=g2 at w2 hp2 e2 ⊢;refine KC (fun hc=>?_) (fun hc=>?_)
 ·walk_at "py";refine Zg w2 (by decide) (by decide) fun r g3 _ _ e3 w3=>?_;walk_at "py";have hp3:=e3.get npw.symm hp2;refine ifP (fun hd=>?_) (fun hd=>?_)
  ·walk_at "py";have hpos:0<zs.length:=List.length_pos_iff.mpr hc;refine Zg w3 (by rw[List.length_map];omega) (by rw[List.length_map];omega) fun i g4 i0 i1 e4 w4=>?_;rw[List.length_map]at i1;have hp4:=e4.get npw.symm hp3;obtain⟨x,hx,ex⟩:=FR (xs:=zs) i0 i1;refine ZB hp4 (v:=.int x) ?_ ?_
   ·unfold atI ixN at ex ⊢;rw[List.length_map];rw[if_pos i0,if_pos i1,Option.bind_some]at ex ⊢;rw[List.getElem?_map,ex];rfl
   ·exact k x g4 (hmem x hx).1 (hmem x hx).2 ((e2.trans e3).trans e4) w4
  ·walk_at "py";exact Zg w3 (by decide) (by decide) fun i g4 i0 i1 e4 w4=>k i g4 i0 i1 ((e2.trans e3).trans e4) w4
 ·refine ifF rfl ?_;walk_at "py";exact Zg w2 (by decide) (by decide) fun i g4 i0 i1 e4 w4=>k i g4 i0 i1 (e2.trans e4) w4
theorem AF {p:Int}(hw:Well h w) (x:Wd h st a f tt hh b t d S c all ps) (na:a≠w) (nf:f≠w) (k:∀ S' g,S'.key=S.key→Wd g st a f tt hh b t d S' c all ps→Ex [w,hh,d] h g→Well g w→Q (.bl true) g):wF P (n+4) "_law_hears" [.ref w,.ref st,.ref b,.int p] h Q X:=by
 refine K7 ?_;walk_at "py";refine OP hw x.s na nf fun l g1 hc e1 w1=>?_;have x1:=x.exb hw na nf e1;obtain⟨xs,xx,xg,m1,m2,m3,m4,m5,m6⟩:=id x1;have hi:=xx.ins;walk_at "py";refine DB xx (xg.wc c) fun g2 y2 e2=>?_;rw[AK]at y2;have ld:∀ {g:Hs}{c1 d1:Ad} {xs ys},g c1=some (.lst xs)→g d1=some (.dct ys)→c1∉[d1]:=fun h1 h2=>by simpa using Zi h1 h2 nofun
 have s2:=xs.keep e2 (by simpa using m2) (ld xs.s2 xx.held) (ld xs.s3 xx.held) (by simpa using m4) (by simpa using m6);walk_at "py";refine Og s2 xg fun g3 s3 e3=>?_;have y3:=y2.keep e3 (by simpa using (Zi s2.s5 y2.ins nofun).symm) (by simpa using m5.symm) (by simpa using m6.symm);walk_at "py";rw[decide_eq_true rfl];have hww:w∉[d]:=by obtain⟨_,_,w1⟩:=w1;exact ld w1 xx.held
 have w2:=w1.exb e2 hww;have hww2:w∉[hh]:=by obtain⟨_,_,w2⟩:=w2;exact ld w2 s2.s5
 exact k _ g3 (OO _ _ _) ⟨s3,y3,xg.heard hc,m1,m2,m3,m4,m5,m6⟩ (((Ex.ofB e1 (by simp)).trans (e2.sub (by simp))).trans (e3.sub (by simp))) (w2.exb e3 hww2)
theorem J9(p:Pi):Pl 1 (pV p):=by intro x hx;simp only[List.mem_cons,List.not_mem_nil,or_false]at hx;rcases hx with rfl|rfl<;>trivial
theorem Aa(o:Option Pi):Pl 1 (oV o):=by
 cases o with
 |none=>trivial
 |some p=>exact J9 p
theorem FV(l:L):Pl 2 l.v:=by
 intro x hx;simp only[List.mem_cons,List.not_mem_nil,or_false]at hx;rcases hx with rfl|rfl|rfl|rfl|rfl|rfl|rfl
 ·exact J9 _
 ·exact J9 _
 ·trivial
 ·trivial
 ·trivial
 ·exact Aa _
 ·exact Aa _
theorem At(l:L)(p:Int):Pl 3 (.tup [.int p,l.v]):=by
 intro x hx;simp only[List.mem_cons,List.not_mem_nil,or_false]at hx;rcases hx with rfl|rfl
 ·trivial
 ·exact FV l
theorem Wd.keep{h g:Hs}{st a f tt hh b t d:Ad}{S:Br}{c:Int}{all:List (Int×Int)}{ps:List Int}{D:List Ad}(x:Wd h st a f tt hh b t d S c all ps)(e:Ex D h g)(q:∀ y∈[st,a,f,tt,hh,b,t,d],y∉D):Wd g st a f tt hh b t d S c all ps :=
 ⟨x.s.keep e (q _ (by simp)) (q _ (by simp)) (q _ (by simp)) (q _ (by simp)) (q _ (by simp)),x.x.keep e (q _ (by simp)) (q _ (by simp)) (q _ (by simp)),x.g,x.n1,x.n2,x.n3,x.n4,x.n5,x.n6⟩
theorem FH{xs:List Int}(h:xs≠[]):∃ c:Int,atI (xs.map Val.int) (-1)=some (.int c):=by refine⟨xs.getLast h,?_⟩;have hl:0<xs.length:=List.length_pos_iff.mpr h;unfold atI ixN;rw[if_neg (by decide),List.length_map,if_pos (by omega),Option.bind_some,List.getElem?_map,List.getLast_eq_getElem,show(-1+(xs.length:Int)).toNat=xs.length - 1 by omega,List.getElem?_eq_getElem (by omega)];rfl
theorem NU{l p:Ad}{own life most:Int}{all:List (Int×Int)}{ps:List Int}(hp:h p=none)(hl:h l=some (.lst (ps.map (Y9 all))))(nd:ps.Nodup)(h16:ps.length≤16)(k:∀ t d g,h t=none→h d=none→BrAt g p t d (Xf own life most all ps)→Ext h g→Q .non g) :
  wF P (n+1) "Bridge.__init__" [.ref p,.int own,.int life,.ref l,.int most] (upd h p (.ins "Bridge" [])) Q X:=by
 refine BW upd_same ((Ext.new hp).get hl) nd h16 fun t d g ht hd x e=>k t d g ?_ ?_ x ⟨fun {a o} y=>?_⟩
 ·cases z:h t with
  |none=>rfl
  |some o=>rw[(Ext.new hp).get z]at ht;cases ht
 ·cases z:h d with
  |none=>rfl
  |some o=>rw[(Ext.new hp).get z]at hd;cases hd
 ·have:=(Ext.new (o:=.ins "Bridge" []) hp).get y;exact e.get (by simpa using Za y hp) this
theorem StAt.dropT{p:Int}(s:StAt h st a f tt hh S all ps):StAt (upd h tt (.dct (Zr Yq (ZH S.ties p)))) st a f tt hh {S with ties:=ZH S.ties p} all ps:=by obtain⟨s1,s2,s3,s4,s5,n1,n2,n3⟩:=s;exact⟨upd_ne' n1 s1,upd_ne' (Zi s2 s4 nofun) s2,upd_ne' (Zi s3 s4 nofun) s3,upd_same,upd_ne' n3.symm s5,n1,n2,n3⟩
theorem StAt.dropH{p:Int}(s:StAt h st a f tt hh S all ps):StAt (upd h hh (.dct (Zr hdV (ZH S.held p)))) st a f tt hh {S with held:=ZH S.held p} all ps:=by obtain⟨s1,s2,s3,s4,s5,n1,n2,n3⟩:=s;exact⟨upd_ne' n2 s1,upd_ne' (Zi s2 s5 nofun) s2,upd_ne' (Zi s3 s5 nofun) s3,upd_ne' n3 s4,upd_same,n1,n2,n3⟩
theorem OB {p:Int}(hw:Well h w) (x:Wd h st a f tt hh b t d S c all ps) (na:a≠w) (nf:f≠w) (hal:all.length=16) (hat:∀ t∈all,0≤t.1∧1≤t.2) (p0:0≤p) (p1:p<16) (k:∀ S' g,S'.key=S.key→Wd g st a f tt hh b t d S' c all ps→Ex [w,tt,hh,t,d] h g→Well g w→Q (.bl true) g):wF P (n+2) "_law_turned" [.ref w,.ref st,.ref b,.int p] h Q X:=by
 refine J4 ?_;walk_at "py";refine Zg hw (by decide) (by decide) fun r g1 _ _ e1 w1=>?_;have x1:=x.exb hw na nf e1;obtain⟨xs,xx,xg,m1,m2,m3,m4,m5,m6⟩:=id x1;have hi:=xx.ins;have ld:∀ {g:Hs}{c1 d1:Ad} {xs ys},g c1=some (.lst xs)→g d1=some (.dct ys)→c1≠d1:=fun h1 h2=>Zi h1 h2 nofun;walk_at "py";refine ifP (fun hc=>?_) (fun hc=>?_)
 ·walk_at "py";refine B9 xx fun g2 y2 e2=>?_;rw[BI]at y2;have s2:=xs.keep e2 (by simp[m1,m2]) (by simp[ld xs.s2 xx.ties,ld xs.s2 xx.held]) (by simp[ld xs.s3 xx.ties,ld xs.s3 xx.held]) (by simp[m3,m4]) (by simp[m5,m6]);have w2:=w1.exb e2 (by obtain⟨_,_,w1⟩:=w1;simp[ld w1 xx.ties,ld w1 xx.held]);have fin:∀ g3,StAt g3 st a f tt hh (XI S p) all ps→Ex [tt,hh] g2 g3→Q (.bl true) g3:=fun g3 s3 e3=>by
   have nb:∀ {d1:Ad} {ys},g2 d1=some (.dct ys)→b≠d1:=fun h1=>Zi y2.ins h1 nofun;have y3:=y2.keep e3 (by simp[nb s2.s4,nb s2.s5]) (by simp[m3.symm,m5.symm]) (by simp[m4.symm,m6.symm]);exact k (XI S p) g3 rfl ⟨s3,y3,xg.down p,m1,m2,m3,m4,m5,m6⟩ (((Ex.ofB e1 (by simp)).trans (e2.sub (by simp))).trans (e3.sub (by simp))) (w2.exb e3 (by obtain⟨_,_,w2⟩:=w2;simp[ld w2 s2.s4,ld w2 s2.s5]))
  walk_at "py";refine Zb s2.s1 rfl (v:=.ref tt) rfl ?_;refine Mb s2.s4 rfl ?_;rw[WX];walk_at "py";cases e:S.ties.lookup p with
  |none =>
   have s3:StAt g2 st a f tt hh {S with ties:=ZH S.ties p} all ps:=by rw[Ka e];exact s2
   refine ifF rfl ?_;walk_at "py";refine Zb s3.s1 rfl (v:=.ref hh) rfl ?_;refine Mb s3.s5 rfl ?_;rw[WX];walk_at "py";cases e5:S.held.lookup p with
   |none =>refine ifF rfl ?_;walk_at "py";rw[decide_eq_true rfl];refine fin g2 ?_ Ex.refl;unfold XI;rw[Ka e5];exact s3
   |some y =>refine ifT rfl ?_;walk_at "py";refine Zb s3.s1 rfl (v:=.ref hh) rfl ?_;have q5:=s3.s5;walk_at "py";refine MX s3.s5 rfl (by rw[Z6];show(S.held.lookup p).map hdV=_;rw[e5];rfl) ?_;dsimp only;rw[YD];walk_at "py";rw[decide_eq_true rfl];exact fin _ s3.dropH (Ex.upd (by simp))
  |some y =>
   refine ifT rfl ?_;walk_at "py";refine Zb s2.s1 rfl (v:=.ref tt) rfl ?_;have q4:=s2.s4;walk_at "py";refine MX s2.s4 rfl (by rw[Z6,e];rfl) ?_;dsimp only;rw[YD];have s3:=s2.dropT (p:=p);have e3:Ex [tt,hh] g2 (upd g2 tt (.dct (Zr Yq (ZH S.ties p)))):=Ex.upd (by simp);generalize upd g2 tt (.dct (Zr Yq (ZH S.ties p)))=g3 at s3 e3 ⊢;walk_at "py";refine Zb s3.s1 rfl (v:=.ref hh) rfl ?_;refine Mb s3.s5 rfl ?_;rw[WX];walk_at "py";cases e5:S.held.lookup p with
   |none =>refine ifF rfl ?_;walk_at "py";rw[decide_eq_true rfl];refine fin g3 ?_ e3;unfold XI;rw[Ka e5];exact s3
   |some y =>refine ifT rfl ?_;walk_at "py";refine Zb s3.s1 rfl (v:=.ref hh) rfl ?_;have q5:=s3.s5;walk_at "py";refine MX s3.s5 rfl (by rw[Z6];show(S.held.lookup p).map hdV=_;rw[e5];rfl) ?_;dsimp only;rw[YD];walk_at "py";rw[decide_eq_true rfl];exact fin _ s3.dropH (e3.trans (Ex.upd (by simp)))
 ·walk_at "py";refine Zg w1 (by decide) (by decide) fun r2 g2 _ _ e2 w2=>?_;walk_at "py";refine Zg w2 (by decide) (by decide) fun r3 g3 _ _ e3 w3=>?_;have e13:ExtB w h g3:=(e1.trans e2).trans e3;have x3:=x.exb hw na nf e13;obtain⟨xs,xx,xg,m1,m2,m3,m4,m5,m6⟩:=id x3;obtain⟨ea,ma⟩:=Kk (p:=(p+r2*(1+r3)) % 16) hal (Int.emod_nonneg _ (by decide)) (Int.emod_lt_of_pos _ (by decide));have hc:=hat _ ma;walk_at "py";refine Zb xs.s1 rfl (v:=.ref a) rfl ?_;walk_at "py";refine ZB xs.s2 ea ?_;generalize Yy all ((p+r2*(1+r3)) % 16)=v at hc ⊢;obtain⟨nb,co⟩:=v;walk_at "py";refine Zb xs.s1 rfl (v:=.ref tt) rfl ?_;refine Me xs.s4 rfl ?_;rw[WX];have fin:∀ g4,StAt g4 st a f tt hh (upB S p (nb,co)) all ps→Ex [tt] g3 g4→BrAt g4 b t d (S.wc c)∧∀ {Q':Q1},(∀ g,Q (.bl true) g→Q' .non g)→wF P (n+1) "Bridge.up" [.ref b,.int p,.int nb,.int co] g4 Q' X:=fun g4 s4 e4=>by
   have y4:=xx.keep e4 (by simpa using Zi xx.ins xs.s4 nofun) (by simpa using m3.symm) (by simpa using m4.symm);have w4:=w3.exb e4 (by obtain⟨_,_,w3⟩:=w3;simpa using ld w3 xs.s4);refine⟨y4,fun {Q'} qq=>Hy y4 (xg.wc c) fun g5 y5 e5=>qq _ ?_⟩;rw[Hu]at y5;have s5:=s4.keep e5 (by simpa using m1) (by simpa using ld s4.s2 y4.ties) (by simpa using ld s4.s3 y4.ties) (by simpa using m3) (by simpa using m5);exact k _ g5 (F1 _ _ _) ⟨s5,y5,xg.up p0 p1 ⟨hc.1,by omega⟩,m1,m2,m3,m4,m5,m6⟩ (((Ex.ofB e13 (by simp)).trans (e4.sub (by simp))).trans (e5.sub (by simp))) (w4.exb e5 (by obtain⟨_,_,w4⟩:=w4;simpa using ld w4 y4.ties))
  walk_at "py";unfold upB at fin;cases e:(S.ties.lookup p).isSome with
  |true =>rw[e,if_pos rfl]at fin;refine ifF rfl ?_;obtain⟨y4,fin⟩:=fin g3 xs Ex.refl;have hi:=y4.ins;walk_at "py";refine fin fun g q=>?_;walk_at "py";exact q
  |false =>rw[e,if_neg (by decide)]at fin;refine ifT rfl ?_;walk_at "py";refine Zb xs.s1 rfl (v:=.ref tt) rfl ?_;walk_at "py";refine ZO xs.s4 ⟨rfl,by rw[Jb];exact Nat.lt_of_le_of_lt xg.ok.tlen (by decide)⟩ ?_;rw[show Val.tup [.int nb,.int co]=Yq (nb,co) from rfl,Yh];obtain⟨y4,fin⟩:=fin _ ⟨upd_ne' xs.n1 xs.s1,upd_ne' (Zi xs.s2 xs.s4 nofun) xs.s2,upd_ne' (Zi xs.s3 xs.s4 nofun) xs.s3,upd_same,upd_ne' xs.n3.symm xs.s5,xs.n1,xs.n2,xs.n3⟩ (Ex.upd (by simp));have hi:=y4.ins;walk_at "py";refine fin fun g q=>?_;walk_at "py";exact q
noncomputable def agr (B:Br) (p:Int):Option Pi:=if Y1 B p then some (KD B.held p)else none
theorem M0 {p:Int}(s:StAt h st a f tt hh S all ps) (k:Q (oV (agr S p)) h):wF P (n+2) "_law_agreed" [.ref st,.int p] h Q X:=by
 obtain⟨s1,s2,s3,s4,s5,n1,n2,n3⟩:=id s;refine J7 ?_;walk_at "py";refine Zb s1 rfl (v:=.ref hh) rfl ?_;refine Me s5 rfl ?_;rw[WX];walk_at "py";unfold agr Y1 KD at k;cases e:S.held.lookup p with
 |none =>rw[e]at k;refine ifT rfl ?_;walk_at "py";exact k
 |some q =>
  obtain⟨l,ag⟩:=q;rw[e]at k;refine ifF rfl ?_;walk_at "py";refine Zb s1 rfl (v:=.ref hh) rfl ?_;walk_at "py";refine Zb s5 rfl (by rw[Z6,e];rfl) ?_;walk_at "py";change Q (oV (if decide (l.rests=some (S.life,S.version))=true then some l.st else none)) h at k;cases er:l.rests with
  |none =>rw[er]at k;refine ifT rfl ?_;refine ifT rfl ?_;walk_at "py";exact k
  |some r =>
   refine ifF (by simp[oV]) ?_;walk_at "py";refine ZT s ?_;walk_at "py";refine Np (Hm h l.rests _) ?_;rw[er]at k ⊢;walk_at "py";refine KC (fun hc=>?_) (fun hc=>?_)
   ·walk_at "py";rw[if_neg (by simpa using hc)]at k;exact k
   ·walk_at "py";rw[if_pos (by simpa using hc)]at k;exact k
theorem Mc (s:StAt h st a f tt hh S all ps) (o:S.gd) (hu:∀ q,S.label.up=some q→(S.held.lookup q.1).isSome=true) (k:∀ q g,h q=none→g q=some (.lst (Zn S))→Ext h g→Q (.ref q) g):wF P (n+3) "_law_letters" [.ref st] h Q X:=by
 obtain⟨s1,s2,s3,s4,s5,n1,n2,n3⟩:=id s;have hlen:=o.ok.tlen;refine Ja ?_;walk_at "py";refine Zb s1 rfl (v:=.int S.life) rfl ?_;walk_at "py";refine Zb s1 rfl (v:=.int S.count) rfl ?_;walk_at "py";refine Zb s1 rfl (v:=S.label.v) rfl ?_;have main:wSs (wF P (n+2)) (tlS 4 SA.body) [some (.ref st),some (pV (S.life,S.count)),some (.int S.label.root),some (.int S.label.cost),some (upV S.label.up),some (rsV S.label.up),some (.int (Ye S)),none,none,none] h (fun _ g=>Q .non g) Q (fun _ _=>False) (fun _ _=>False) fun _ c g=>X c g:=by
  change wSs _ (.cons _ _) _ _ _ _ _ _ _;walk_at "py";refine Zh fun q hq=>?_;have e1:=Ext.new (o:=.lst []) hq;have q1:upd h q (.lst []) q=_:=upd_same;have sq:=s.ext e1;generalize upd h q (.lst [])=g1 at e1 q1 sq ⊢;walk_at "py";refine Zb sq.s1 rfl (v:=.ref tt) rfl ?_;walk_at "py";refine MS sq.s4 (Ao _) (by rw[List.length_map];omega) (Zh fun p hp=>?_);have hl:(sortI (S.ties.map (·.1))).length=S.ties.length:=by rw[sortI,List.length_mergeSort,List.length_map]
  unfold Zn at k;generalize sortI (S.ties.map (·.1))=zs at hl k;have e2:=Ext.new (o:=.lst (zs.map .int)) hp;have npq:p≠q:=(Za q1 hp).symm;have hpn:∀ {c:Ad}{o:Ob},h c=some o→c≠q:=fun z=>Za z hq;walk_at "py";refine ZJ (fun i e g=>∃ u v,e=[some (.ref st),some (pV (S.life,S.count)),some (.int S.label.root),some (.int S.label.cost),some (upV S.label.up),some (rsV S.label.up),some (.int (Ye S)),some (.ref q),u,v]∧g p=some (.lst (zs.map .int))∧g q=some (.lst ((zs.take i).map fun p=>.tup [.int p,(Zx S p).v]))∧Ext h g) ⟨none,none,rfl,upd_same,by rw[upd_ne npq.symm];exact q1,e1.trans e2⟩ (fun i e g _ ⟨_,_,_,z,_⟩=>lsE z) ?_ ?_
  ·rintro i v e g hv ⟨u,v,rfl,h1,h2,h3⟩ K hK;obtain⟨m,hm,rfl⟩:=YL hv;have sg:=s.ext h3;walk_at "py";refine ZT sg ?_;walk_at "py";refine Bo (DK g m S.label.up) ?_;walk_at "py";have fin:∀ v,v=(Zx S m).v→g q=some (.lst ((zs.take i).map fun p=>.tup [.int p,(Zx S p).v]))→go (bmV g .append (.ref q) [.tup [.int m,v]]) fun r=>r.1=.non∧r.2 p=some (.lst (zs.map .int))∧r.2 q=some (.lst ((zs.take (i+1)).map fun p=>.tup [.int p,(Zx S p).v]))∧Ext h r.2:=by
    rintro v rfl hq2;refine ZW hq2 (by rw[List.length_map];exact Nat.lt_of_le_of_lt (Nat.le_trans (List.length_take_le' _ _) (by omega:zs.length≤16)) (by decide)) ?_;dsimp only;refine⟨rfl,by rw[upd_ne npq];exact h1,?_,⟨fun z=>by rw[upd_ne (hpn z)];exact h3.get z⟩⟩;rw[upd_same,ZY hm,List.map_append];rfl
   refine ifD (fun hc=>?_) (fun hc=>?_)
   ·walk_at "py";refine Xz ⟨by simp,(show(7:Nat)≤lim by decide)⟩ ?_;walk_at "py";refine YS (fin _ ?_ h2) fun r q=>?_
    ·unfold Zx;rw[hc];cases e:S.label.up with
     |none=>rw[e]at hc;cases hc
     |some q=>rfl
    ·obtain⟨_,g2⟩:=r;obtain⟨rfl,q2,q3,q4⟩:=q;walk_at "py";exact hK _ _ ⟨_,_,rfl,q2,q3,q4⟩
   ·walk_at "py";refine M0 sg ?_;walk_at "py";refine Xz ⟨by simp,(show(7:Nat)≤lim by decide)⟩ ?_;walk_at "py";refine YS (fin _ ?_ h2) fun r q=>?_
    ·unfold Zx;rw[hc];rfl
    ·obtain⟨_,g2⟩:=r;obtain⟨rfl,q2,q3,q4⟩:=q;walk_at "py";exact hK _ _ ⟨_,_,rfl,q2,q3,q4⟩
  ·rintro e g ⟨u,v,rfl,h1,h2,h3⟩;rw[List.length_map,List.take_length]at h2;walk_at "py";exact k q g hq h2 h3
 iterate 6 walk_at "py1"
 cases e:S.label.up with
 |none =>
  have ea:Ye S=0:=by unfold Ye;rw[e]
  rw[e,ea]at main;refine O9 ?_;walk_at "py";refine ifF rfl ?_;refine YJ ?_;exact main
 |some q =>
  obtain⟨y,hy⟩:=Option.isSome_iff_exists.mp (hu q e);have ea:Ye S=y.2+1:=by unfold Ye;rw[e];dsimp only;rw[hy];rfl
  rw[e,ea]at main;refine O9 ?_;walk_at "py";refine ifT rfl ?_;walk_at "py";refine Zb s1 rfl (v:=.ref hh) rfl ?_;simp only[upV];walk_at "py";refine Zb s5 rfl (by rw[Z6,hy];rfl) ?_
  iterate 5 walk_at "py1"
  refine YJ ?_;exact main
structure TAt (h:Hs) (tl:Ad) (rs:List (Ad×Ad)):Prop where
 l:h tl=some (.lst (rs.map fun r=>.tup [.ref r.1,.ref r.2]))
 m:∀ r∈rs,(r.1≠tl∧r.2≠tl)∧∃ xs,h r.1=some (.lst xs)∧h r.2=some (.lst xs)∧∀ x∈xs,Pl 3 x
theorem TAt.keep{g:Hs}{D:List Ad}{rs:List (Ad×Ad)}(x:TAt h tl rs)(e:Ex D h g)(n1:tl∉D)(n2:∀ r∈rs,r.1∉D∧r.2∉D):TAt g tl rs :=
 ⟨e.get n1 x.l,fun r hr=>⟨(x.m r hr).1,by
   obtain⟨_,xs,h1,h2,h3⟩:=x.m r hr
   exact⟨xs,e.get (n2 r hr).1 h1,e.get (n2 r hr).2 h2,h3⟩⟩⟩
theorem J0(B:Br):∀ x∈Zn B,Pl 3 x:=fun x hx=>by obtain⟨p,_,rfl⟩:=List.mem_map.mp hx;exact At _ p
theorem KK(o:S.gd):(Zn S).length<lim:=by unfold Zn;rw[List.length_map,sortI,List.length_mergeSort,List.length_map];exact Nat.lt_of_le_of_lt o.ok.tlen (by decide)
theorem Do(S:Br):∀ q,S.told.label.up=some q→(S.told.held.lookup q.1).isSome=true:=fun q hq=>by obtain⟨c1,c2,c3,c4,c5,c6,c7⟩:=Yu S.grown (reck S.grown);change(Zw S.grown (reck S.grown)).label.up=some q at hq;rw[c4]at hq;show((Zw S.grown (reck S.grown)).held.lookup q.1).isSome=true;rw[c1];exact NZ hq
theorem Bw {rs:List (Ad×Ad)}(hw:Well h w) (x:Wd h st a f tt hh b t d S S.count all ps) (na:a≠w) (nf:f≠w) (ta:TAt h tl rs) (hl:rs.length<1000) (n1:a≠tl) (n2:f≠tl) (n3:tl≠w) (n4:∀ r∈rs,r.1≠w∧r.2≠w) (k:∀ S' hh' d' rs' g,Wd g st a f tt hh' b t d' S' S'.count all ps→S'.number=S.number→S'.life=S.life→TAt g tl rs'→rs'.length≤rs.length+1→h hh'=none→h d'=none→Ex [w,st,b,tl] h g→Well g w→Q (.bl true) g):wF P (n+6) "_law_tick" [.ref w,.ref st,.ref b,.ref tl] h Q X:=by
 obtain⟨xs,xx,xg,m1,m2,m3,m4,m5,m6⟩:=id x;refine Mx ?_;walk_at "py";refine Gi xs xg fun hh' g1 hn s1 e1=>?_;have y1:=xx.keep e1 (by simpa using Zi xx.ins xs.s1 nofun) (by simpa using m1.symm) (by simpa using m2.symm);walk_at "py";refine Mc s1 xg.told (Do S) fun q g2 hq hlq e2=>?_;have s2:=s1.ext e2;have y2:=y1.ext e2;walk_at "py";refine Zb s2.s1 rfl (v:=.int S.told.count) rfl ?_;walk_at "py";refine ZO (k:=.str "count") s2.s1 ⟨rfl,show(10:Nat)<lim by decide⟩ ?_;have kt:=UO S;obtain⟨k1,kt⟩:=Prod.mk.inj kt;obtain⟨k2,k3⟩:=Prod.mk.inj kt;have ob:∀ {c:Ad}{o:Ob},g2 c=some o→(∀ ys,o≠.dct ys)→c≠st:=fun z zn=>Zi z s2.s1 (zn _);have s3:StAt (upd g2 st (.dct (putK (stL S.told a f tt hh') (.str "count") (.int (S.told.count+1))))) st a f tt hh' (S.told.wc (S.told.count+1)) all ps:=⟨upd_same,upd_ne' (ob s2.s2 nofun) s2.s2,upd_ne' (ob s2.s3 nofun) s2.s3,upd_ne' s2.n1.symm s2.s4,upd_ne' s2.n2.symm s2.s5,s2.n1,s2.n2,s2.n3⟩
 have e3:Ex [st] g2 (upd g2 st (.dct (putK (stL S.told a f tt hh') (.str "count") (.int (S.told.count+1))))):=Ex.upd (by simp);generalize upd g2 st (.dct (putK (stL S.told a f tt hh') (.str "count") (.int (S.told.count+1))))=g3 at s3 e3 ⊢;have y3:=y2.keep e3 (by simpa using ob y2.ins nofun) (by simpa using m1.symm) (by simpa using m2.symm);have hlq3:=e3.get (by simpa using ob hlq nofun) hlq;have hi3:=y3.ins;walk_at "py";refine Nr y3 (xg.wc _).ok fun p d' g4 hp hd' y4 hlp e4 np=>?_;rw[N2]at y4;rw[NS]at hlp;have nb:∀ {d1:Ad}{o:Ob},g3 d1=some o→(∀ C fs,o≠.ins C fs)→d1∉[b]:=fun h1 h2=>by simpa using Zi h1 y3.ins (h2 _ _)
 have s4:=s3.keep e4 (nb s3.s1 nofun) (nb s3.s2 nofun) (nb s3.s3 nofun) (nb s3.s4 nofun) (nb s3.s5 nofun);have hlq4:=e4.get (nb hlq3 nofun) hlq3;have W4:Wd g4 st a f tt hh' b t d' (S.told.wc (S.told.count+1)) (S.count+1) all ps:=⟨s4,y4,xg.told.wc _,m1,Za s3.s1 hd',m3,Za s3.s4 hd',(Za xx.ties hn).symm,Za s3.s5 hd'⟩
 rw[k3]at W4;have eq:Zn (S.told.wc S.count)=Zn S.told:=by rw[←k3];rfl
 rw[eq]at hlp;have npq:q≠p:=Za hlq3 hp;have wl:∀ {g:Hs}{c:Ad}{o:Ob},Well g w→g c=some o→(∀ xs,Ob.lst xs≠o)→w≠c:=fun hz z zn=>by obtain⟨_,_,hz⟩:=hz;exact Zi hz z (zn _)
 have w1:=hw.exb e1 (by simpa using wl hw xs.s1 nofun);have w2:=w1.ext e2;have w3:=w2.exb e3 (by simpa using wl w2 s2.s1 nofun);have w4:=w3.exb e4 (by simpa using wl w3 y3.ins nofun);have nqw:q≠w:=(w1.ne hq).symm;have npw:p≠w:=(w3.ne hp).symm;have e14:Ex [w,st,b] h g4:=(((e1.sub (by simp)).trans (Ex.of e2)).trans (e3.sub (by simp))).trans (e4.sub (by simp));have lD:∀ {c:Ad}{ys:List Val},h c=some (.lst ys)→c≠w→c∉[w,st,b]:=fun z zn=>by simp[zn,Zi z xs.s1 nofun,Zi z xx.ins nofun]
 have ntl:tl∉[st]:=by simpa using Zi ta.l xs.s1 nofun
 have htl1:=e1.get ntl ta.l;have ntq:tl≠q:=Za htl1 hq;have ntp:tl≠p:=Za (e3.get ntl (e2.get htl1)) hp;have fin:∀ ys g6,g6 p=some (.lst ys)→g6 q=some (.lst ys)→(∀ x∈ys,Pl 3 x)→TAt g6 tl rs→Wd g6 st a f tt hh' b t d' (S.told.wc (S.count+1)) (S.count+1) all ps→Ex [w,st,b] h g6→Well g6 w→wSs (wF P (n+5)) (tlS 6 SI.body) [some (.ref w),some (.ref st),some (.ref b),some (.ref tl),some (.ref q),some (.ref p)] g6 (fun _ g=>Q .non g) Q (fun _ _=>False) (fun _ _=>False) fun _ c g=>X c g:=by
  intro ys g6 f1 f2 f3 T6 W6 e6 w6;change wSs _ (.cons _ _) _ _ _ _ _ _ _;have l6:=T6.l;walk_at "py";refine ZW T6.l (by rw[List.length_map];exact Nat.lt_trans hl (by decide)) ?_;dsimp only;walk_at "py";have e7:Ex [tl] g6 (upd g6 tl (.lst ((rs.map fun r=>Val.tup [.ref r.1,.ref r.2])++[.tup [.ref p,.ref q]]))):=Ex.upd (by simp);have nl:∀ {c:Ad}{o:Ob},g6 c=some o→(∀ xs,o≠.lst xs)→c≠tl:=fun z zn=>Zi z T6.l (zn _);refine k _ hh' d' (rs++[(p,q)]) _ (W6.keep e7 ?_) k1 k2 ⟨?_,?_⟩ (by simp) ?_ ?_ ((e6.sub (by simp)).trans (e7.sub (by simp))) (w6.exb e7 (by simpa using n3.symm))
  ·intro y hy;simp only[List.mem_cons,List.not_mem_nil,or_false]at hy ⊢;rcases hy with rfl|rfl|rfl|rfl|rfl|rfl|rfl|rfl
   ·exact nl W6.s.s1 nofun
   ·exact n1
   ·exact n2
   ·exact nl W6.s.s4 nofun
   ·exact nl W6.s.s5 nofun
   ·exact nl W6.x.ins nofun
   ·exact nl W6.x.ties nofun
   ·exact nl W6.x.held nofun
  ·rw[upd_same,List.map_append];rfl
  ·intro r hr;rcases List.mem_append.mp hr with hr|hr
   ·obtain⟨⟨a1,a2⟩,xs,b1,b2,b3⟩:=T6.m r hr;exact⟨⟨a1,a2⟩,xs,upd_ne' a1 b1,upd_ne' a2 b2,b3⟩
   ·rw[List.mem_singleton.mp hr];exact⟨⟨ntp.symm,ntq.symm⟩,ys,upd_ne' ntp.symm f1,upd_ne' ntq.symm f2,f3⟩
  ·exact hn
  ·cases z:h d' with
   |none=>rfl
   |some o =>
    have z3:d'∉[st]:=by have:=Za s3.s1 hd';simpa using this.symm
    have:g3 d'=some o:=e3.get z3 (e2.get (e1.get z3 z));rw[hd']at this;cases this
 walk_at "py";refine WE (n:=n) (d:=3) hlp hlq4 (J0 S.told) ?_;walk_at "py";refine ifF rfl ?_;walk_at "py";refine Zg w4 (by decide) (by decide) fun r g5 _ _ e5 w5=>?_;have W5:=W4.exb w4 na nf e5;have p5:=e5.get npw hlp;have q5:=e5.get nqw hlq4;have e15:Ex [w,st,b] h g5:=e14.trans (Ex.ofB e5 (by simp));have T5:=ta.keep e15 (lD ta.l n3) fun r hr=>by obtain⟨_,ys,b1,b2,_⟩:=ta.m r hr;exact⟨lD b1 (n4 r hr).1,lD b2 (n4 r hr).2⟩
 walk_at "py";refine ifP (fun hc=>?_) (fun hc=>?_)
 ·walk_at "py";refine ZW p5 (KK xg.told) ?_;dsimp only;have q6:upd g5 p (.lst (Zn S.told++[.non])) q=_:=upd_ne' npq q5;walk_at "py";refine ZW q6 (KK xg.told) ?_;dsimp only;refine YJ ?_;have e67:Ex [p,q] g5 (upd (upd g5 p (.lst (Zn S.told++[.non]))) q (.lst (Zn S.told++[.non]))):=(Ex.upd (by simp)).trans (Ex.upd (by simp));have old:∀ {c:Ad}{o:Ob},h c=some o→c∉[st]→c∉[p,q]:=fun {c o} z zn=>by
   have z1:=e1.get zn z;have z3:=e3.get zn (e2.get z1);simp[Za z3 hp,Za z1 hq]
  have nl:∀ {c:Ad}{o:Ob},g5 c=some o→(∀ xs,o≠.lst xs)→c∉[p,q]:=fun z zn=>by simp[Zi z p5 (zn _),Zi z q5 (zn _)]
  refine fin _ _ (upd_ne' npq.symm upd_same) upd_same ?_ (T5.keep e67 (old ta.l ntl) fun r hr=>?_) (W5.keep e67 ?_) ⟨fun {c o} zn z=>?_⟩ (w5.exb e67 (by simp[npw.symm,nqw.symm]))
  ·intro x hx;rcases List.mem_append.mp hx with hx|hx
   ·exact J0 _ x hx
   ·rw[List.mem_singleton.mp hx];trivial
  ·obtain⟨_,ys,b1,b2,_⟩:=ta.m r hr;exact⟨old b1 (by simpa using Zi b1 xs.s1 nofun),old b2 (by simpa using Zi b2 xs.s1 nofun)⟩
  ·intro y hy;simp only[List.mem_cons,List.not_mem_nil,or_false]at hy;rcases hy with rfl|rfl|rfl|rfl|rfl|rfl|rfl|rfl
   ·exact nl W5.s.s1 nofun
   ·exact old xs.s2 (by simpa using Zi xs.s2 xs.s1 nofun)
   ·exact old xs.s3 (by simpa using Zi xs.s3 xs.s1 nofun)
   ·exact nl W5.s.s4 nofun
   ·exact nl W5.s.s5 nofun
   ·exact nl W5.x.ins nofun
   ·exact nl W5.x.ties nofun
   ·exact nl W5.x.held nofun
  ·exact e67.get (old z (by simp at zn ⊢;exact zn.2.1)) (e15.get zn z)
 ·refine YJ ?_;exact fin _ g5 p5 q5 (J0 _) T5 W5 e15 w5
structure Br.still (B:Br):Prop where
 held:B.held=[]
 label:B.label=⟨B.number,0,none⟩
 version:B.version=0
theorem Br.still.grown{B:Br}(s:B.still):B.grown=B:=by obtain⟨h1,h2,h3⟩:=s;unfold Br.grown Zo;rw[h1];cases B;simp only at h1;subst h1;rfl
theorem Br.still.reck{B:Br}(s:B.still):reck B=B.label:=by unfold Own.reck ZN ZG;rw[s.held,s.label];rfl
theorem Br.still.told{B:Br}(s:B.still):B.told=B:=by unfold Br.told;rw[s.grown,s.reck];unfold Zw;rw[if_pos rfl]
noncomputable def Z8 (own life count:Int):L:=⟨(life,count),(life,0),own,0,0,none,none⟩
theorem Br.still.letters{B:Br}(s:B.still):Zn B=(sortI (B.ties.map (·.1))).map fun p=>.tup [.int p,(Z8 B.number B.life B.count).v]:=by
 unfold Zn;refine List.map_congr_left fun p _=>?_;congr 1;have:Zx B p=Z8 B.number B.life B.count:=by unfold Zx Z8 Ye B2 Y1;rw[s.label,s.held,s.version];rfl
 rw[this]
theorem Jo(own life most:Int)(all:List (Int×Int))(ps:List Int):(Xf own life most all ps).still:=⟨rfl,rfl,rfl⟩
theorem BQ {rs:List (Ad×Ad)}(hw:Well h w) (x:Wd h st a f tt hh b t d S S.count all ps) (na:a≠w) (nf:f≠w) (hal:all.length=16) (hat:∀ t∈all,0≤t.1∧1≤t.2) (ta:TAt h tl rs) (hl:rs.length<1000) (n1:a≠tl) (n2:f≠tl) (n3:tl≠w) (n4:∀ r∈rs,r.1≠w∧r.2≠w) (k:∀ S' hh' d' rs' g,Wd g st a f tt hh' b t d' S' S'.count all ps→S'.number=S.number→S'.life=S.life→TAt g tl rs'→rs'.length≤rs.length+1→(hh'=hh∨h hh'=none)→(d'=d∨h d'=none)→Ex [w,st,tt,hh,b,t,d,tl] h g→Well g w→Q (.bl true) g):wF P (n+7) "_law_done" [.ref w,.ref st,.ref b,.ref tl] h Q X:=by
 refine MG ?_;walk_at "py";refine Zg hw (by decide) (by decide) fun r g1 _ _ e1 w1=>?_;have x1:=x.exb hw na nf e1;walk_at "py";refine⟨by omega,?_⟩;refine ZJ (fun i e g=>∃ S' u,Wd g st a f tt hh b t d S' S.count all ps∧S'.key=S.key∧Ex [w,st,tt,hh,b,t,d] h g∧Well g w∧e=[some (.ref w),some (.ref st),some (.ref b),some (.ref tl),u,none]) ⟨S,none,x1,rfl,Ex.ofB e1 (by simp),w1,rfl⟩ (fun _ _ _ _ _=>trivial) ?_ ?_
 ·rintro i v e g hv ⟨S',u,x2,ky,e2,w2,rfl⟩ K hK;walk_at "py";refine KH w2 x2.s x2.g fun p g3 p0 p1 e3 w3=>?_;have x3:=x2.exb w2 na nf e3;walk_at "py";refine AF w3 x3 na nf fun S2 g4 ky2 x4 e4 w4=>?_;walk_at "py";refine ifF rfl ?_;walk_at "py";exact hK _ _ ⟨S2,_,x4,ky2.trans ky,(e2.trans (Ex.ofB e3 (by simp))).trans (e4.sub (by simp)),w4,rfl⟩
 ·rintro e g ⟨S',u,x2,ky,e2,w2,rfl⟩;walk_at "py";refine KH w2 x2.s x2.g fun p g3 p0 p1 e3 w3=>?_;have x3:=x2.exb w2 na nf e3;walk_at "py";refine Zg w3 (by decide) (by decide) fun r2 g4 _ _ e4 w4=>?_;have x4:=x3.exb w3 na nf e4;have e24:Ex [w,st,tt,hh,b,t,d] h g4:=(e2.trans (Ex.ofB e3 (by simp))).trans (Ex.ofB e4 (by simp));have fin:∀ S2 g5,Wd g5 st a f tt hh b t d S2 S.count all ps→S2.key=S.key→Ex [w,st,tt,hh,b,t,d] h g5→Well g5 w→wSs (wF P (n+6)) (tlS 3 SJ.body) [some (.ref w),some (.ref st),some (.ref b),some (.ref tl),u,some (.int p)] g5 (fun _ g=>Q .non g) Q (fun _ _=>False) (fun _ _=>False) fun _ c g=>X c g:=by
   intro S2 g5 x5 ky e5 w5;change wSs _ (.cons _ _) _ _ _ _ _ _ _;obtain⟨k1,k23⟩:=Prod.mk.inj ky;obtain⟨k2,k3⟩:=Prod.mk.inj k23;rw[←k3]at x5;walk_at "py";refine Zg w5 (by decide) (by decide) fun r3 g7 _ _ e7 w7=>?_;have x7:=x5.exb w5 na nf e7;have e17:Ex [w,st,tt,hh,b,t,d] h g7:=e5.trans (Ex.ofB e7 (by simp));have lD:∀ {c:Ad}{ys:List Val},h c=some (.lst ys)→c≠w→c∉[w,st,tt,hh,b,t,d]:=fun z zn=>by simp[zn,Zi z x.s.s1 nofun,Zi z x.s.s4 nofun,Zi z x.s.s5 nofun,Zi z x.x.ins nofun,Zi z x.x.ties nofun,Zi z x.x.held nofun]
   have T7:=ta.keep e17 (lD ta.l n3) fun r hr=>by obtain⟨_,ys,b1,b2,_⟩:=ta.m r hr;exact⟨lD b1 (n4 r hr).1,lD b2 (n4 r hr).2⟩
   walk_at "py";refine ifP (fun hc=>?_) (fun hc=>?_)
   ·walk_at "py";exact k S2 hh d rs g7 x7 k1 k2 T7 (by omega) (.inl rfl) (.inl rfl) (e17.sub (by intro y hy;simp at hy ⊢;rcases hy with rfl|rfl|rfl|rfl|rfl|rfl|rfl<;>simp)) w7
   ·walk_at "py";refine Bw w7 x7 na nf T7 hl n1 n2 n3 n4 fun S3 hh' d' rs' g8 x8 j1 j2 T8 l8 hn hd e8 w8=>?_;have old7:∀ {q:Ad},g7 q=none→h q=none:=fun {q} hq=>by
     cases z:h q with
     |none=>rfl
     |some o2 =>
      have hm:q∉[w,st,tt,hh,b,t,d]:=fun m=>by
       obtain⟨_,_,gw⟩:=w7;simp only[List.mem_cons,List.not_mem_nil,or_false]at m;rcases m with rfl|rfl|rfl|rfl|rfl|rfl|rfl
       ·rw[gw]at hq;cases hq
       ·rw[x7.s.s1]at hq;cases hq
       ·rw[x7.s.s4]at hq;cases hq
       ·rw[x7.s.s5]at hq;cases hq
       ·rw[x7.x.ins]at hq;cases hq
       ·rw[x7.x.ties]at hq;cases hq
       ·rw[x7.x.held]at hq;cases hq
      rw[e17.get hm z]at hq;cases hq
    exact k S3 hh' d' rs' g8 x8 (j1.trans k1) (j2.trans k2) T8 l8 (.inr (old7 hn)) (.inr (old7 hd)) ((e17.sub (by intro y hy;simp at hy ⊢;rcases hy with rfl|rfl|rfl|rfl|rfl|rfl|rfl<;>simp)).trans (e8.sub (by intro y hy;simp at hy ⊢;rcases hy with rfl|rfl|rfl|rfl<;>simp))) w8
  walk_at "py";refine ifP (fun hc=>?_) (fun hc=>?_)
  ·walk_at "py";refine OB w4 x4 na nf hal hat p0 p1 fun S2 g5 ky2 x5 e5 w5=>?_;walk_at "py";refine ifF rfl ?_;refine YJ ?_;exact fin S2 g5 x5 (ky2.trans ky) (e24.trans (e5.sub (by simp))) w5
  ·refine ifF rfl ?_;refine YJ ?_;exact fin S' g4 x4 ky e24 w4
theorem law_ok {ns:List Int}(h63:ns.length≤63) (k:∀ g,Q (.bl true) g):wF P (n+8) "law" [.scr ns] h Q X:=by
 refine Ls ?_;walk_at "py";refine Zh fun p hp=>?_;walk_at "py";refine Zh fun q hq=>?_;have hpq:p≠q:=by walk_at "ne"
 rw[KJ];have hl:=Nq ns none (some 1);refine Kh (xs:=[.int 7]) (by walk_at "look") upd_same (by simp[lim];omega) ?_;refine Zh fun z0 hz0=>?_;have ez:([Val.int 7]++(cut ns none (some 1)).map Val.int:List Val)=(7::cut ns none (some 1)).map Val.int:=rfl;rw[ez];obtain⟨c0,ec⟩:∃ c0:Int,atI ((7::cut ns none (some 1)).map Val.int) (-1)=some (.int c0):=FH (by simp);walk_at "py";refine ZB upd_same ec ?_;walk_at "py";refine NJ fun w g1 hw0 e1 w1=>?_;walk_at "py";refine BC w1 fun own life most all ps st a f tt hh g2 s2 nst na' nf' ntt nhh o0 o1 l0 m0 hal hat nd hrg e2 w2 na nf=>?_;have h16:ps.length≤16:=ZX nd hrg;walk_at "py";refine Zb s2.s1 rfl (v:=.int own) rfl ?_;walk_at "py";refine Zb s2.s1 rfl (v:=.int life) rfl ?_;walk_at "py";refine JM s2.s1 rfl rfl s2.s2 s2.s3 hal hrg h16 fun l1 hl1=>?_;have s3:=s2.ext (Ext.new (o:=.lst (ps.map (Y9 all))) hl1);have q3:upd g2 l1 (.lst (ps.map (Y9 all))) l1=_:=upd_same;generalize upd g2 l1 (.lst (ps.map (Y9 all)))=g3 at s3 q3 ⊢;walk_at "py";refine Zb s3.s1 rfl (v:=.int most) rfl ?_;walk_at "py";intro b hb;refine NU hb q3 nd h16 fun t d g4 ht hd x4 e4=>⟨rfl,?_⟩
 have s4:=s3.ext e4;walk_at "py";refine Zb s4.s1 rfl (v:=.int own) rfl ?_;walk_at "py";refine Zb s4.s1 rfl (v:=.int life) rfl ?_;walk_at "py";refine JM s4.s1 rfl rfl s4.s2 s4.s3 hal hrg h16 fun l2 hl2=>?_;have e5:=Ext.new (o:=.lst (ps.map (Y9 all))) hl2;have s5:=s4.ext e5;have x5:=x4.ext e5;have q5:upd g4 l2 (.lst (ps.map (Y9 all))) l2=_:=upd_same;generalize upd g4 l2 (.lst (ps.map (Y9 all)))=g5 at s5 x5 q5 ⊢;walk_at "py";refine Zb s5.s1 rfl (v:=.int most) rfl ?_;walk_at "py";intro b2 hb2;refine NU hb2 q5 nd h16 fun t2 d2 g6 ht2 hd2 y6 e6=>⟨rfl,?_⟩
 have W:Wd g6 st a f tt hh b t d (Xf own life most all ps) 0 all ps:=⟨s5.ext e6,x5.ext e6,Br.gd.new hal hat nd hrg,Za s3.s1 ht,Za s3.s1 hd,Za s3.s4 ht,Za s3.s4 hd,Za s3.s5 ht,Za s3.s5 hd⟩
 have a1:b≠b2:=Za x5.ins hb2;have a2:st≠t2:=Za s5.s1 ht2;have a3:st≠d2:=Za s5.s1 hd2;have a4:tt≠t2:=Za s5.s4 ht2;have a5:tt≠d2:=Za s5.s4 hd2;have a6:t≠t2:=Za x5.ties ht2;have a7:t≠d2:=Za x5.ties hd2;have a8:hh≠t2:=Za s5.s5 ht2;have a9:hh≠d2:=Za s5.s5 hd2;have aa:d≠t2:=Za x5.held ht2;have ab:d≠d2:=Za x5.held hd2;walk_at "py";refine Zh fun tl htl=>?_;have et:=Ext.new (o:=.lst []) htl;have gt0:upd g6 tl (.lst []) tl=_:=upd_same;have W:=W.ext et;have y6:=y6.ext et;generalize upd g6 tl (.lst [])=g6 at et gt0 W y6 ⊢;have ntl:∀ {c:Ad}{o:Ob},g5 c=some o→c≠tl:=fun z=>Za (e6.get z) htl;have nat:=ntl s5.s2;have nft:=ntl s5.s3;walk_at "py";refine Zh fun p2 hp2=>?_;walk_at "py";refine Zh fun q2 hq2=>?_;have hpq2:p2≠q2:=by walk_at "ne"
 rw[KJ];have hl2:=Nq ns (some 1) (some 61);refine Kh (xs:=[.int 1,.int 2,.int 3,.int 4,.int 5]) (by walk_at "look") upd_same (by simp[lim];omega) ?_;refine Zh fun z hz=>?_;have ez2:([Val.int 1,.int 2,.int 3,.int 4,.int 5]++(cut ns (some 1) (some 61)).map Val.int:List Val)=(1::2::3::4::5::cut ns (some 1) (some 61)).map Val.int:=rfl;rw[ez2];have hzl:(1::2::3::4::5::cut ns (some 1) (some 61)).length≤68:=by simp only[List.length_cons];omega
 generalize 1::2::3::4::5::cut ns (some 1) (some 61)=zs at hzl;have e7:=((Ext.new (o:=.lst [.int 1,.int 2,.int 3,.int 4,.int 5]) hp2).trans (Ext.new (o:=.lst ((cut ns (some 1) (some 61)).map .int)) hq2)).trans (Ext.new (o:=.lst (zs.map .int)) hz);have W7:=W.ext e7;have y7:=y6.ext e7;have nzt:z≠tl:=(Za (((Ext.new (o:=.lst [.int 1,.int 2,.int 3,.int 4,.int 5]) hp2).trans (Ext.new (o:=.lst ((cut ns (some 1) (some 61)).map .int)) hq2)).get gt0) hz).symm;walk_at "py";refine ZJ (fun i en g=>∃ v1 hh d S rs,en=[some (.scr ns),some (.ref z0),some (.ref st),some (.ref b),some (.ref b2),some (.ref tl),v1,none,none,none]∧g z=some (.lst (zs.map Val.int))∧Wd g st a f tt hh b t d S S.count all ps∧BrAt g b2 t2 d2 (Xf own life most all ps)∧S.number=own∧S.life=life∧TAt g tl rs∧rs.length≤i∧hh≠t2∧hh≠d2∧d≠t2∧d≠d2) ⟨_,hh,d,Xf own life most all ps,[],rfl,upd_same,W7,y7,rfl,rfl,⟨e7.get gt0,nofun⟩,by simp,a8,a9,aa,ab⟩ (fun i en g _ ⟨_,_,_,_,_,_,e,_⟩=>lsE e) ?_ ?_
 ·rintro i v en g hv ⟨v1,hh,d,S,rs,rfl,gz,W,y,so,sl,T,hrl,a8,a9,aa,ab⟩ K hK;have hi:i<zs.length:=by
   have:=(List.getElem?_eq_some_iff.mp hv).1;simpa using this
  obtain⟨c1,_,rfl⟩:=YL hv;walk_at "py";refine NJ fun w g2 w0 x2 w2=>?_;have W2:=W.ext x2;have y2:=y.ext x2;have naw:a≠w:=Za W.s.s2 w0;have nfw:f≠w:=Za W.s.s3 w0;have nzw:z≠w:=Za gz w0;have ntw:tl≠w:=Za T.l w0;have gz2:=x2.get gz;have T2:=T.keep (D:=[]) (.of x2) (by simp) (by simp);have n4:∀ r∈rs,r.1≠w∧r.2≠w:=fun r hr=>by obtain⟨_,ys,b1,b2,_⟩:=T.m r hr;exact⟨Za b1 w0,Za b2 w0⟩
  walk_at "py";refine BQ w2 W2 naw nfw hal hat T2 (by omega) nat nft ntw n4 fun S' hh' d' rs' g3 W3 so' sl' T3 hr3 f1 f2 e3 w3=>?_;have dd:∀ {c1 d1:Ad}{o1 o2:Ob},g2 c1=some o1→g2 d1=some o2→o1≠o2→c1≠d1:=fun h1 h2 h3=>Zi h1 h2 h3;obtain⟨xs,xx,_,_,_,_,_,_,_⟩:=id W2;have gz3:=e3.get (by simp[nzw,nzt,dd gz2 xs.s1 nofun,dd gz2 xs.s4 nofun,dd gz2 xs.s5 nofun,dd gz2 xx.ins nofun,dd gz2 xx.ties nofun,dd gz2 xx.held nofun]) gz2;have hlw:=id w2;obtain⟨_,_,hlw⟩:=hlw;have y3:=y2.keep e3 (by simp[a1.symm,dd y2.ins T2.l nofun,dd y2.ins hlw nofun,dd y2.ins xs.s1 nofun,dd y2.ins xs.s4 nofun,dd y2.ins xs.s5 nofun,dd y2.ins xx.ties nofun,dd y2.ins xx.held nofun])
   (by simp[dd y2.ties T2.l nofun,dd y2.ties hlw nofun,dd y2.ties xx.ins nofun,a2.symm,a4.symm,a6.symm,a8.symm,aa.symm])
   (by simp[dd y2.held T2.l nofun,dd y2.held hlw nofun,dd y2.held xx.ins nofun,a3.symm,a5.symm,a7.symm,a9.symm,ab.symm])
  have r:∀ {u u' v:Ad}{o:Ob},(u'=u∨g2 u'=none)→g2 v=some o→u≠v→u'≠v:=fun h1 h2 h3=>by
   rcases h1 with rfl|h1
   ·exact h3
   ·exact(Za h2 h1).symm
  walk_at "py";refine ifF rfl ?_;walk_at "py";exact hK _ _ ⟨_,hh',d',S',rs',rfl,gz3,W3,y3,so'.trans so,sl'.trans sl,T3,by omega,r f1 y2.ties a8,r f1 y2.held a9,r f2 y2.ties aa,r f2 y2.held ab⟩
 ·rintro en g ⟨v1,hh,d,S,rs,rfl,gz,W,y,so,sl,T,hrl,a8,a9,aa,ab⟩;have gtl:=T.l;walk_at "py";refine ZJ (fun i en g'=>g'=g∧∃ v2 v3,en=[some (.scr ns),some (.ref z0),some (.ref st),some (.ref b),some (.ref b2),some (.ref tl),v1,v2,v3,none]) ⟨rfl,_,_,rfl⟩ (fun i en g' _ ⟨e,_⟩=>by rw[e];exact lsE gtl) ?_ ?_
  ·rintro i v en g' hv ⟨rfl,v2,v3,rfl⟩ K hK;obtain⟨r,hr,rfl⟩:=YL hv;obtain⟨_,ys,b1,b2',b3⟩:=T.m r (List.mem_of_getElem? hr);walk_at "py";refine WE (n:=n+2) (d:=3) b1 b2' b3 ?_;walk_at "py";refine ifF rfl ?_;walk_at "py";exact hK _ _ ⟨rfl,_,_,rfl⟩
  ·rintro en g' ⟨rfl,v2,v3,rfl⟩;walk_at "py";refine Zb W.s.s1 rfl (v:=.int S.life) rfl ?_;walk_at "py";refine Zb W.s.s1 rfl (v:=.int S.life) rfl ?_;walk_at "py";refine Zb W.s.s1 rfl (v:=.int S.number) rfl ?_;rw[so,sl];walk_at "py";refine Zb W.s.s1 rfl (v:=.ref f) rfl ?_;walk_at "py";refine FD W.s.s3 (Z5 ps) (by omega) (Zh fun p3 hp3=>?_);have y8:=y.ext (Ext.new (o:=.lst ((sortI ps).map .int)) hp3);walk_at "py";refine⟨by rw[List.length_map,sortI,List.length_mergeSort];exact Nat.lt_of_le_of_lt h16 (by decide),?_⟩;refine YN (fun v=>match v with|.int i=>some (.tup [.int i,(Z8 own life 0).v])|_=>none) (lsE upd_same) ?_ ?_
   ·intro v hv K hK;obtain⟨i,hi,rfl⟩:=List.mem_map.mp hv;walk_at "py";rw[if_pos rfl];change wE _ _ [some (.int i),some (Z8 own life 0).v] _ _ _;walk_at "py";exact hK
   ·refine Zh fun q3 hq3=>?_;rw[show((sortI ps).map Val.int).filterMap (fun v=>match v with | .int i=>some (.tup [.int i,(Z8 own life 0).v]) | _=>none)=(sortI ps).map (fun p=>Val.tup [.int p,(Z8 own life 0).v]) from by
      rw[List.filterMap_map]
      exact congrFun (List.filterMap_eq_map (f:=fun i:Int=>Val.tup [.int i,(Z8 own life 0).v])) _]
    have y9:=y8.ext (Ext.new (o:=.lst ((sortI ps).map (fun p=>Val.tup [.int p,(Z8 own life 0).v]))) hq3);have hi9:=y9.ins;have q9:upd (upd g' p3 (.lst ((sortI ps).map .int))) q3 (.lst ((sortI ps).map (fun p=>Val.tup [.int p,(Z8 own life 0).v]))) q3=_:=upd_same;generalize upd (upd g' p3 (.lst ((sortI ps).map .int))) q3 (.lst ((sortI ps).map (fun p=>Val.tup [.int p,(Z8 own life 0).v])))=g9 at y9 hi9 q9 ⊢;walk_at "py";refine Nr y9 (Br.gd.new hal hat nd hrg).ok fun p4 d4 ga hp4 hd4 ya hla ea np=>?_;rw[(Jo own life most all ps).told,(Jo own life most all ps).letters]at hla;walk_at "py";have hk:(Xf own life most all ps).ties.map (·.1)=ps:=YM all ps;rw[hk]at hla;refine WE (n:=n+2) (d:=3) hla (ea.get (by simpa using Zi q9 hi9 nofun) q9) ?_ ?_
    ·intro x hx;obtain⟨p,_,rfl⟩:=List.mem_map.mp hx;exact At _ p
    ·exact k _
end Own
set_option maxRecDepth 1000000
set_option maxHeartbeats 0
namespace My
open PySem L2 Snd PySem.W
noncomputable def top (i:Nat):Stmt:=PySem.Challenge.pw_shutways_k19_letters_sent.main.body.getD i (.Pass ⟨0,0,0,0⟩)
noncomputable def inC:Stmt→Nat→Stmt
 |.ClassDef _ _ _ b _ _ _ _ _ _ _,j=>b.getD j (.Pass ⟨0,0,0,0⟩)
 |s,_=>s
noncomputable def x0:Ds:=⟨top 0,["k"],["k"],Own.SV⟩
noncomputable def x1:Ds:=⟨top 8,["one","other"],["one","other"],Own.ST⟩
noncomputable def x2:Ds:=⟨top 10,["bridge","offers","better"],["bridge","offers"],Own.SZ⟩
noncomputable def x3:Ds:=⟨top 14,["cell"],["cell"],Own.SS⟩
noncomputable def x4:Ds:=⟨top 15,["well","many","got","stirred"],["well","many"],Own.SK⟩
noncomputable def x5:Ds:=⟨top 16,["got","due","one","other"],["got","due"],Own.SE⟩
noncomputable def x6:Ds:=⟨top 17,["well"],["well"],Own.SW⟩
noncomputable def x7:Ds:=⟨top 18,["well","own","others"],["well","own"],Own.SL⟩
noncomputable def x8:Ds:=⟨top 19,["well","left","places","k"],["well"],Own.SR⟩
noncomputable def x9:Ds:=⟨top 20,["well","own","life","most"],["well"],Own.SG⟩
noncomputable def x10:Ds:=⟨top 21,["state"],["state"],Own.SM⟩
noncomputable def x11:Ds:=⟨top 22,["well","state","place"],["well"],Own.SH⟩
noncomputable def x12:Ds:=⟨top 23,["state"],["state"],Own.SF⟩
noncomputable def x13:Ds:=⟨top 24,["well","pair","life","count","some"],["well","pair"],Own.SB⟩
noncomputable def x14:Ds:=⟨top 25,["well","state","place","last","number","stamp","own","root","cost","most","age","rests","agrees"],["well","state","place"],Own.SU⟩
noncomputable def x15:Ds:=⟨top 26,["state","place","letter"],["state","place","letter"],Own.SN⟩
noncomputable def x16:Ds:=⟨top 27,["state","left","rows","place","letter","age","neighbour","cost","root","label"],["state"],Own.SD⟩
noncomputable def x17:Ds:=⟨top 28,["well","state","places"],["well","state"],Own.SC⟩
noncomputable def x18:Ds:=⟨top 29,["well","state","bridge","place","told","like","neighbour","cost"],["well","state","bridge","place"],Own.SQ⟩
noncomputable def x19:Ds:=⟨top 30,["well","state","bridge","place","letter","told"],["well","state","bridge","place"],Own.SO⟩
noncomputable def x20:Ds:=⟨top 31,["state","place","letter"],["state","place"],Own.SX⟩
noncomputable def x21:Ds:=⟨top 32,["state","number","root","cost","up","rests","age","told","place","head"],["state"],Own.SA⟩
noncomputable def x22:Ds:=⟨top 33,["well","state","bridge","told","due","got"],["well","state","bridge","told"],Own.SI⟩
noncomputable def x23:Ds:=⟨top 34,["well","state","bridge","told","k","place"],["well","state","bridge","told"],Own.SJ⟩
noncomputable def x24:Ds:=⟨top 35,["script","cells","state","bridge","beside","told","cell","got","due","first"],["script"],Own.SY⟩
noncomputable def z0:Ds:=⟨inC (top 12) 0,["self","number","life","ties","greatest","place","neighbour","cost"],["self","number","life","ties","greatest"],Own.RU⟩
noncomputable def z1:Ds:=⟨inC (top 12) 1,["self"],["self"],Own.R8⟩
noncomputable def z2:Ds:=⟨inC (top 12) 2,["self"],["self"],Own.R0⟩
noncomputable def z3:Ds:=⟨inC (top 12) 3,["self"],["self"],Own.R5⟩
noncomputable def z4:Ds:=⟨inC (top 12) 4,["self","place"],["self","place"],Own.RW⟩
noncomputable def z5:Ds:=⟨inC (top 12) 5,["self","place","neighbour","cost"],["self","place","neighbour","cost"],Own.R9⟩
noncomputable def z6:Ds:=⟨inC (top 12) 6,["self","place"],["self","place"],Own.RZ⟩
noncomputable def z7:Ds:=⟨inC (top 12) 7,["self","place","letter","held"],["self","place","letter"],Own.RX⟩
noncomputable def z8:Ds:=⟨inC (top 12) 8,["self","letters"],["self"],Own.R7⟩
noncomputable def z9:Ds:=⟨inC (top 12) 9,["self","older","place","held"],["self"],Own.R1⟩
noncomputable def z10:Ds:=⟨inC (top 12) 10,["self","offers","place","held","neighbour","cost","best","root"],["self"],Own.R4⟩
noncomputable def z11:Ds:=⟨inC (top 12) 11,["self","label"],["self","label"],Own.R6⟩
noncomputable def z12:Ds:=⟨inC (top 12) 12,["self","place","root","cost","over","rests","age","ahead"],["self","place"],Own.R3⟩
noncomputable def z13:Ds:=⟨inC (top 12) 13,["self","place","held"],["self","place"],Own.RT⟩
noncomputable def z14:Ds:=⟨inC (top 12) 14,["self","place"],["self","place"],Own.RS⟩
noncomputable def z15:Ds:=⟨inC (top 12) 15,["self","place"],["self","place"],Own.RY⟩
noncomputable def tb:Tb where
 fs:=[("_wall",x0),("newer",x1),("best_offer",x2),("_law_well",x3),("_law_draw",x4),("_law_same",x5),("_law_cost",x6),("_law_ties",x7),("_law_up_first",x8),("_law_start",x9),("_law_handed",x10),("_law_state",x11),("_law_stamp",x12),("_law_near",x13),("_law_letter",x14),("_law_heard",x15),("_law_reckoned",x16),("_law_place",x17),("_law_turned",x18),("_law_hears",x19),("_law_agreed",x20),("_law_letters",x21),("_law_tick",x22),("_law_done",x23),("law",x24)]
 ms:=[⟨"Bridge","__init__","Bridge.__init__",z0⟩,⟨"Bridge","twin","Bridge.twin",z1⟩,⟨"Bridge","label","Bridge.label",z2⟩,⟨"Bridge","stamp","Bridge.stamp",z3⟩,⟨"Bridge","held","Bridge.held",z4⟩,⟨"Bridge","up","Bridge.up",z5⟩,⟨"Bridge","down","Bridge.down",z6⟩,⟨"Bridge","hear","Bridge.hear",z7⟩,⟨"Bridge","tick","Bridge.tick",z8⟩,⟨"Bridge","let_grow_older","Bridge.let_grow_older",z9⟩,⟨"Bridge","reckon_label","Bridge.reckon_label",z10⟩,⟨"Bridge","take_label","Bridge.take_label",z11⟩,⟨"Bridge","letter_over","Bridge.letter_over",z12⟩,⟨"Bridge","is_rested_on","Bridge.is_rested_on",z13⟩,⟨"Bridge","is_agreed_to","Bridge.is_agreed_to",z14⟩,⟨"Bridge","end","Bridge.end",z15⟩]
 cs:=[("NUMBER",(.int 0)),("STAMP",(.int 1)),("ROOT",(.int 2)),("COST",(.int 3)),("AGE",(.int 4)),("RESTS",(.int 5))]
 cl:=["Bridge"]
 fl:=["age_let_go","held_by_place","label_now","life","number","ticks_had","ties_by_place","version"]
 xs:=[]
noncomputable def pg:Own.Pg:=fun f=>(([("_wall",Own.SV),("newer",Own.ST),("best_offer",Own.SZ),("_law_well",Own.SS),("_law_draw",Own.SK),("_law_same",Own.SE),("_law_cost",Own.SW),("_law_ties",Own.SL),("_law_up_first",Own.SR),("_law_start",Own.SG),("_law_handed",Own.SM),("_law_state",Own.SH),("_law_stamp",Own.SF),("_law_near",Own.SB),("_law_letter",Own.SU),("_law_heard",Own.SN),("_law_reckoned",Own.SD),("_law_place",Own.SC),("_law_turned",Own.SQ),("_law_hears",Own.SO),("_law_agreed",Own.SX),("_law_letters",Own.SA),("_law_tick",Own.SI),("_law_done",Own.SJ),("law",Own.SY),("Bridge.__init__",Own.RU),("Bridge.twin",Own.R8),("Bridge.label",Own.R0),("Bridge.stamp",Own.R5),("Bridge.held",Own.RW),("Bridge.up",Own.R9),("Bridge.down",Own.RZ),("Bridge.hear",Own.RX),("Bridge.tick",Own.R7),("Bridge.let_grow_older",Own.R1),("Bridge.reckon_label",Own.R4),("Bridge.take_label",Own.R6),("Bridge.letter_over",Own.R3),("Bridge.is_rested_on",Own.RT),("Bridge.is_agreed_to",Own.RS),("Bridge.end",Own.RY)]:List (String×Own.Fn)).lookup f)
instance:Own.Al pg:=⟨rfl,rfl,rfl,rfl,rfl,rfl,rfl,rfl,rfl,rfl,rfl,rfl,rfl,rfl,rfl,rfl,rfl,rfl,rfl,rfl,rfl,rfl,rfl,rfl,rfl,rfl,rfl,rfl,rfl,rfl,rfl,rfl,rfl,rfl,rfl,rfl,rfl,rfl,rfl,rfl,rfl⟩
theorem ok0:x0.Ok tb:=⟨by kernel_rfl,by kernel_rfl⟩
theorem ok1:x1.Ok tb:=⟨by kernel_rfl,by kernel_rfl⟩
theorem ok2:x2.Ok tb:=⟨by kernel_rfl,by kernel_rfl⟩
theorem ok3:x3.Ok tb:=⟨by kernel_rfl,by kernel_rfl⟩
theorem ok4:x4.Ok tb:=⟨by kernel_rfl,by kernel_rfl⟩
theorem ok5:x5.Ok tb:=⟨by kernel_rfl,by kernel_rfl⟩
theorem ok6:x6.Ok tb:=⟨by kernel_rfl,by kernel_rfl⟩
theorem ok7:x7.Ok tb:=⟨by kernel_rfl,by kernel_rfl⟩
theorem ok8:x8.Ok tb:=⟨by kernel_rfl,by kernel_rfl⟩
theorem ok9:x9.Ok tb:=⟨by kernel_rfl,by kernel_rfl⟩
theorem Qu:x10.Ok tb:=⟨by kernel_rfl,by kernel_rfl⟩
theorem QN:x11.Ok tb:=⟨by kernel_rfl,by kernel_rfl⟩
theorem Qt:x12.Ok tb:=⟨by kernel_rfl,by kernel_rfl⟩
theorem PP:x13.Ok tb:=⟨by kernel_rfl,by kernel_rfl⟩
theorem Qq:x14.Ok tb:=⟨by kernel_rfl,by kernel_rfl⟩
theorem L8:x15.Ok tb:=⟨by kernel_rfl,by kernel_rfl⟩
theorem Qo:x16.Ok tb:=⟨by kernel_rfl,by kernel_rfl⟩
theorem LZ:x17.Ok tb:=⟨by kernel_rfl,by kernel_rfl⟩
theorem Qn:x18.Ok tb:=⟨by kernel_rfl,by kernel_rfl⟩
theorem L0:x19.Ok tb:=⟨by kernel_rfl,by kernel_rfl⟩
theorem P2:x20.Ok tb:=⟨by kernel_rfl,by kernel_rfl⟩
theorem Qw:x21.Ok tb:=⟨by kernel_rfl,by kernel_rfl⟩
theorem Pu:x22.Ok tb:=⟨by kernel_rfl,by kernel_rfl⟩
theorem LV:x23.Ok tb:=⟨by kernel_rfl,by kernel_rfl⟩
theorem Qz:x24.Ok tb:=⟨by kernel_rfl,by kernel_rfl⟩
theorem om0:z0.Ok tb:=⟨by kernel_rfl,by kernel_rfl⟩
theorem om1:z1.Ok tb:=⟨by kernel_rfl,by kernel_rfl⟩
theorem om2:z2.Ok tb:=⟨by kernel_rfl,by kernel_rfl⟩
theorem om3:z3.Ok tb:=⟨by kernel_rfl,by kernel_rfl⟩
theorem om4:z4.Ok tb:=⟨by kernel_rfl,by kernel_rfl⟩
theorem om5:z5.Ok tb:=⟨by kernel_rfl,by kernel_rfl⟩
theorem om6:z6.Ok tb:=⟨by kernel_rfl,by kernel_rfl⟩
theorem om7:z7.Ok tb:=⟨by kernel_rfl,by kernel_rfl⟩
theorem om8:z8.Ok tb:=⟨by kernel_rfl,by kernel_rfl⟩
theorem om9:z9.Ok tb:=⟨by kernel_rfl,by kernel_rfl⟩
theorem Qh:z10.Ok tb:=⟨by kernel_rfl,by kernel_rfl⟩
theorem Qk:z11.Ok tb:=⟨by kernel_rfl,by kernel_rfl⟩
theorem Qi:z12.Ok tb:=⟨by kernel_rfl,by kernel_rfl⟩
theorem Qv:z13.Ok tb:=⟨by kernel_rfl,by kernel_rfl⟩
theorem Qj:z14.Ok tb:=⟨by kernel_rfl,by kernel_rfl⟩
theorem Pk:z15.Ok tb:=⟨by kernel_rfl,by kernel_rfl⟩
theorem tab_ok:∀ f x,(f,x)∈tb.fs→x.Ok tb:=by
 intro f x h;simp only[tb,List.mem_cons,List.not_mem_nil,or_false,Prod.mk.injEq]at h;rcases h with⟨rfl,rfl⟩|⟨rfl,rfl⟩|⟨rfl,rfl⟩|⟨rfl,rfl⟩|⟨rfl,rfl⟩|⟨rfl,rfl⟩|⟨rfl,rfl⟩|⟨rfl,rfl⟩|⟨rfl,rfl⟩|⟨rfl,rfl⟩|⟨rfl,rfl⟩|⟨rfl,rfl⟩|⟨rfl,rfl⟩|⟨rfl,rfl⟩|⟨rfl,rfl⟩|⟨rfl,rfl⟩|⟨rfl,rfl⟩|⟨rfl,rfl⟩|⟨rfl,rfl⟩|⟨rfl,rfl⟩|⟨rfl,rfl⟩|⟨rfl,rfl⟩|⟨rfl,rfl⟩|⟨rfl,rfl⟩|⟨rfl,rfl⟩
 ·exact ok0
 ·exact ok1
 ·exact ok2
 ·exact ok3
 ·exact ok4
 ·exact ok5
 ·exact ok6
 ·exact ok7
 ·exact ok8
 ·exact ok9
 ·exact Qu
 ·exact QN
 ·exact Qt
 ·exact PP
 ·exact Qq
 ·exact L8
 ·exact Qo
 ·exact LZ
 ·exact Qn
 ·exact L0
 ·exact P2
 ·exact Qw
 ·exact Pu
 ·exact LV
 ·exact Qz
theorem tab_pg:∀ f x,(f,x)∈tb.fs→pg f=some x.d:=by intro f x h;simp only[tb,List.mem_cons,List.not_mem_nil,or_false,Prod.mk.injEq]at h;rcases h with⟨rfl,rfl⟩|⟨rfl,rfl⟩|⟨rfl,rfl⟩|⟨rfl,rfl⟩|⟨rfl,rfl⟩|⟨rfl,rfl⟩|⟨rfl,rfl⟩|⟨rfl,rfl⟩|⟨rfl,rfl⟩|⟨rfl,rfl⟩|⟨rfl,rfl⟩|⟨rfl,rfl⟩|⟨rfl,rfl⟩|⟨rfl,rfl⟩|⟨rfl,rfl⟩|⟨rfl,rfl⟩|⟨rfl,rfl⟩|⟨rfl,rfl⟩|⟨rfl,rfl⟩|⟨rfl,rfl⟩|⟨rfl,rfl⟩|⟨rfl,rfl⟩|⟨rfl,rfl⟩|⟨rfl,rfl⟩|⟨rfl,rfl⟩<;>rfl
theorem tab_bd:∀ f x,(f,x)∈tb.fs→Hd.Bd (Str.ofString f) (Str.ofString f) x:=by
 intro f x h;simp only[tb,List.mem_cons,List.not_mem_nil,or_false,Prod.mk.injEq]at h;rcases h with⟨rfl,rfl⟩|⟨rfl,rfl⟩|⟨rfl,rfl⟩|⟨rfl,rfl⟩|⟨rfl,rfl⟩|⟨rfl,rfl⟩|⟨rfl,rfl⟩|⟨rfl,rfl⟩|⟨rfl,rfl⟩|⟨rfl,rfl⟩|⟨rfl,rfl⟩|⟨rfl,rfl⟩|⟨rfl,rfl⟩|⟨rfl,rfl⟩|⟨rfl,rfl⟩|⟨rfl,rfl⟩|⟨rfl,rfl⟩|⟨rfl,rfl⟩|⟨rfl,rfl⟩|⟨rfl,rfl⟩|⟨rfl,rfl⟩|⟨rfl,rfl⟩|⟨rfl,rfl⟩|⟨rfl,rfl⟩|⟨rfl,rfl⟩
 ·exact fun _ _ _ _ _ _ us hl=>match us,hl with|[_],_=>rfl
 ·exact fun _ _ _ _ _ _ us hl=>match us,hl with|[_,_],_=>rfl
 ·exact fun _ _ _ _ _ _ us hl=>match us,hl with|[_,_],_=>rfl
 ·exact fun _ _ _ _ _ _ us hl=>match us,hl with|[_],_=>rfl
 ·exact fun _ _ _ _ _ _ us hl=>match us,hl with|[_,_],_=>rfl
 ·exact fun _ _ _ _ _ _ us hl=>match us,hl with|[_,_],_=>rfl
 ·exact fun _ _ _ _ _ _ us hl=>match us,hl with|[_],_=>rfl
 ·exact fun _ _ _ _ _ _ us hl=>match us,hl with|[_,_],_=>rfl
 ·exact fun _ _ _ _ _ _ us hl=>match us,hl with|[_],_=>rfl
 ·exact fun _ _ _ _ _ _ us hl=>match us,hl with|[_],_=>rfl
 ·exact fun _ _ _ _ _ _ us hl=>match us,hl with|[_],_=>rfl
 ·exact fun _ _ _ _ _ _ us hl=>match us,hl with|[_],_=>rfl
 ·exact fun _ _ _ _ _ _ us hl=>match us,hl with|[_],_=>rfl
 ·exact fun _ _ _ _ _ _ us hl=>match us,hl with|[_,_],_=>rfl
 ·exact fun _ _ _ _ _ _ us hl=>match us,hl with|[_,_,_],_=>rfl
 ·exact fun _ _ _ _ _ _ us hl=>match us,hl with|[_,_,_],_=>rfl
 ·exact fun _ _ _ _ _ _ us hl=>match us,hl with|[_],_=>rfl
 ·exact fun _ _ _ _ _ _ us hl=>match us,hl with|[_,_],_=>rfl
 ·exact fun _ _ _ _ _ _ us hl=>match us,hl with|[_,_,_,_],_=>rfl
 ·exact fun _ _ _ _ _ _ us hl=>match us,hl with|[_,_,_,_],_=>rfl
 ·exact fun _ _ _ _ _ _ us hl=>match us,hl with|[_,_],_=>rfl
 ·exact fun _ _ _ _ _ _ us hl=>match us,hl with|[_],_=>rfl
 ·exact fun _ _ _ _ _ _ us hl=>match us,hl with|[_,_,_,_],_=>rfl
 ·exact fun _ _ _ _ _ _ us hl=>match us,hl with|[_,_,_,_],_=>rfl
 ·exact fun _ _ _ _ _ _ us hl=>match us,hl with|[_],_=>rfl
theorem tab_om:∀ y,y∈tb.ms→y.x.Ok tb:=by
 intro y h;simp only[tb,List.mem_cons,List.not_mem_nil,or_false]at h;rcases h with rfl|rfl|rfl|rfl|rfl|rfl|rfl|rfl|rfl|rfl|rfl|rfl|rfl|rfl|rfl|rfl
 ·exact om0
 ·exact om1
 ·exact om2
 ·exact om3
 ·exact om4
 ·exact om5
 ·exact om6
 ·exact om7
 ·exact om8
 ·exact om9
 ·exact Qh
 ·exact Qk
 ·exact Qi
 ·exact Qv
 ·exact Qj
 ·exact Pk
theorem tab_pm:∀ y,y∈tb.ms→pg (y.C ++ "." ++ y.m)=some y.x.d:=by intro y h;simp only[tb,List.mem_cons,List.not_mem_nil,or_false]at h;rcases h with rfl|rfl|rfl|rfl|rfl|rfl|rfl|rfl|rfl|rfl|rfl|rfl|rfl|rfl|rfl|rfl<;>rfl
theorem tab_bm:∀ y,y∈tb.ms→Hd.Bd (Str.ofString y.m) (Str.ofString y.qual) y.x:=by
 intro y h;simp only[tb,List.mem_cons,List.not_mem_nil,or_false]at h;rcases h with rfl|rfl|rfl|rfl|rfl|rfl|rfl|rfl|rfl|rfl|rfl|rfl|rfl|rfl|rfl|rfl
 ·exact fun _ _ _ _ _ _ us hl=>match us,hl with|[_,_,_,_,_],_=>rfl
 ·exact fun _ _ _ _ _ _ us hl=>match us,hl with|[_],_=>rfl
 ·exact fun _ _ _ _ _ _ us hl=>match us,hl with|[_],_=>rfl
 ·exact fun _ _ _ _ _ _ us hl=>match us,hl with|[_],_=>rfl
 ·exact fun _ _ _ _ _ _ us hl=>match us,hl with|[_,_],_=>rfl
 ·exact fun _ _ _ _ _ _ us hl=>match us,hl with|[_,_,_,_],_=>rfl
 ·exact fun _ _ _ _ _ _ us hl=>match us,hl with|[_,_],_=>rfl
 ·exact fun _ _ _ _ _ _ us hl=>match us,hl with|[_,_,_],_=>rfl
 ·exact fun _ _ _ _ _ _ us hl=>match us,hl with|[_],_=>rfl
 ·exact fun _ _ _ _ _ _ us hl=>match us,hl with|[_],_=>rfl
 ·exact fun _ _ _ _ _ _ us hl=>match us,hl with|[_],_=>rfl
 ·exact fun _ _ _ _ _ _ us hl=>match us,hl with|[_,_],_=>rfl
 ·exact fun _ _ _ _ _ _ us hl=>match us,hl with|[_,_],_=>rfl
 ·exact fun _ _ _ _ _ _ us hl=>match us,hl with|[_,_],_=>rfl
 ·exact fun _ _ _ _ _ _ us hl=>match us,hl with|[_,_],_=>rfl
 ·exact fun _ _ _ _ _ _ us hl=>match us,hl with|[_,_],_=>rfl
theorem law_in:("law",x24)∈tb.fs:=List.mem_of_getElem? (i:=24) rfl
noncomputable abbrev pr:Program:=PySem.Challenge.rw_shutways_k19_letters_sent.row.prog
noncomputable abbrev vw:Program:=PySem.W.view pr [0,2,3,4,5,6,7,8,10,12,14,15,16,17,18,19,20,21,22,23,24,25,26,27,28,29,30,31,32,33,34,35]
noncomputable abbrev xt (s:Shared):Bool:=xlAt vw [] s&&recOk (RowW.records PySem.Challenge.rw_shutways_k19_letters_sent.row.toRowW) s
theorem said:PySem.Challenge.rw_shutways_k19_letters_sent.wellSaid=true:=by rw[Fast.te9446332074065402090];kernel_rfl
theorem left:LeftO pr vw [] xt (Hd.hook tb).obs (Hd.hook tb).val 12000:=Hd.left_of (by kernel_rfl) rfl (fun s=>by kernel_rfl) fun w os=>by kernel_rfl
end My
open PySem PySem.W PyProof.Rows
theorem PySem.Challenge.cw_shutways_k19_letters_sent_holds : PySem.Challenge.rw_shutways_k19_letters_sent.Holds := by
 refine holds_law My.said fun said=>?_;refine holds_open (q:=My.vw) (loose:=[]) (Xt:=My.xt) (XP:=XL My.vw []) (YP:=(Hd.hook My.tb).says) My.left (Hook.of _) (Hook.keeps _) (fun s e=>xl_of s (Bool.and_eq_true_iff.mp e).1) XL.keeps (by rfl) (by rfl) (by rfl) (fun s e=>recFacts_of (Bool.and_eq_true_iff.mp e).2) (by rfl) said (by decide +kernel) ⟨rfl,rfl,rfl,rfl,rfl,by decide +kernel⟩ ?hw ?hc
 case hw=>w_on;w_witness2
 case hc=>exact Hd.law_walk (k:=7) rfl rfl rfl ⟨rfl,by decide,by decide⟩ My.law_in rfl rfl My.tab_pg My.tab_pm My.tab_ok My.tab_om My.tab_bd My.tab_bm fun ns hl=>Own.law_ok (n:=0) hl fun _=>rfl
