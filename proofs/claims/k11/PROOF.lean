import PyProof.Rows.All
import Wide.All
import OpenK.AllK
import Wide.FinOn
import PyProof.EqAt
import PyProof.EqKinds
import PyProof.TupleCall
import Lean
import PySem.Challenge.RW_shutways_k11_what_a_letter_is
set_option Elab.async false
set_option linter.all false
set_option maxRecDepth 100000
theorem bAq(a b:Bool):((a&&b)=true)=(a=true∧b=true):=Bool.and_eq_true a b
namespace L2
open PySem PySem.Spec PyProof.Rows
abbrev Key:=Sum Int Str
def Wg:Key→Value→Bool
 |.inl k,v=>Value.isInt k v
 |.inr x,v=>Value.isStrOf x v
def EH (w:World):Key→Int
 |.inl k=>hashInt k
 |.inr x=>hashStr w x
theorem Zk:∀ {k:Key}{v:Value},Wg k v=true→(∃ i t,k=Sum.inl i∧v=Value.int i t)∨(∃ x t,k=Sum.inr x∧v=Value.str x t)
 |.inl i,v,h=>by obtain⟨t,e⟩:=Value.isInt_shape (k:=i) (v:=v) h;exact .inl ⟨i,t,rfl,e⟩
 |.inr x,v,h=>by obtain⟨t,e⟩:=Value.isStrOf_shape (x:=x) (v:=v) h;exact .inr ⟨x,t,rfl,e⟩
theorem X5(i:Int)(t:Tok):Wg (.inl i) (.int i t)=true:=by simp[Wg,Value.isInt]
theorem Me(x:Str)(t:Tok):Wg (.inr x) (.str x t)=true:=by simp[Wg,Value.isStrOf]
theorem Cd(a b:Int):decide ((Sum.inl a:Key)=Sum.inl b)=(a==b):=by
 by_cases e:a=b
 ·subst e;simp
 ·have h:¬ (Sum.inl a:Key)=Sum.inl b:=fun q=>e (Sum.inl.inj q);rw[decide_eq_false h];exact(beq_eq_false_iff_ne.mpr e).symm
theorem BP(a b:Str):decide ((Sum.inr a:Key)=Sum.inr b)=decide (a=b):=by
 by_cases e:a=b
 ·subst e;simp
 ·have h:¬ (Sum.inr a:Key)=Sum.inr b:=fun q=>e (Sum.inr.inj q);rw[decide_eq_false h,decide_eq_false e]
theorem Bt(a:Int)(b:Str):decide ((Sum.inl a:Key)=Sum.inr b)=false:=decide_eq_false (fun q=>nomatch q)
theorem AO(a:Str)(b:Int):decide ((Sum.inr a:Key)=Sum.inl b)=false:=decide_eq_false (fun q=>nomatch q)
def Zh (prog:Program) (w:World):PySem.KeyKind prog w Key where
 is:=Wg
 hash:=EH w
 inj:=fun v a b ha hb=>by
  rcases Zk ha with⟨i,t,rfl,rfl⟩|⟨x,t,rfl,rfl⟩
  ·rcases Zk hb with⟨j,u,rfl,e⟩|⟨y,u,rfl,e⟩
   ·injection e with e1 _;rw[e1]
   ·exact nomatch e
  ·rcases Zk hb with⟨j,u,rfl,e⟩|⟨y,u,rfl,e⟩
   ·exact nomatch e
   ·injection e with e1 _;rw[e1]
 byValue:=fun k v h=>by rcases Zk h with⟨i,t,rfl,rfl⟩|⟨x,t,rfl,rfl⟩<;>rfl
 pyHash:=fun hv h=>by
  rcases Zk hv with⟨i,t,rfl,rfl⟩|⟨x,t,rfl,rfl⟩
  ·exact wpAny_pyHash_int h
  ·exact wpAny_pyHash_str h
 eqBool:=fun hu hv h=>by
  rcases Zk hu with⟨i,t,rfl,rfl⟩|⟨x,t,rfl,rfl⟩
  ·rcases Zk hv with⟨j,u,rfl,rfl⟩|⟨y,u,rfl,rfl⟩
   ·rw[Cd]at h;exact wpAny_eqBool_int h
   ·rw[Bt]at h;exact SeqAt.EqAt.int_str i t y u _ _ _ _ h
  ·rcases Zk hv with⟨j,u,rfl,rfl⟩|⟨y,u,rfl,rfl⟩
   ·rw[AO]at h;exact SeqAt.EqAt.str_int x t j u _ _ _ _ h
   ·rw[BP]at h;exact wpAny_eqBool_str h
 «strs»:=fun k x t v h=>by
  rcases Zk h with⟨i,u,rfl,e⟩|⟨y,u,rfl,e⟩
  ·exact nomatch e
  ·injection e with e1 _;subst e1;cases v<;>rfl
theorem Jj(prog:Program)(w:World)(i:Int)(t:Tok):(Zh prog w).is (.inl i) (.int i t)=true:=X5 i t
theorem W0(prog:Program)(w:World)(x:Str)(t:Tok):(Zh prog w).is (.inr x) (.str x t)=true:=Me x t
end L2
namespace L2
open PySem PySem.Spec PyProof.Rows
inductive V where
 |non|bl (b:Bool)|int (i:Int)|str (x:Str)|byt (b:Array UInt8)|flt (b:UInt64)|ref (a:Addr)|ty (n:String)
 deriving DecidableEq
def RelV:V→Value→Prop
 |.non,u=>u=Value.none
 |.bl b,u=>u=Value.bool b
 |.int i,u=>∃ t,u=Value.int i t
 |.str x,u=>∃ t,u=Value.str x t
 |.byt b,u=>∃ t,u=Value.bytes b t
 |.flt b,u=>∃ t,u=Value.float b t
 |.ref a,u=>u=Value.ref a
 |.ty n,u=>u=Value.type n
abbrev Vals:List V→List Value→Prop:=Paired RelV
theorem Vals.length{xs:List V}{us:List Value}(r:Vals xs us):xs.length=us.length:=Paired.length r
theorem Vals.get:∀ {xs:List V}{us:List Value}{i:Nat}{x:V},Vals xs us→xs[i]?=some x→∃ u,us[i]?=some u∧RelV x u
 |_,_,_,_,.nil,e=>by simp at e
 |_,_,0,_,.cons r _,e=>by simp at e;subst e;exact⟨_,rfl,r⟩
 |_,_,i+1,x,.cons _ t,e=>by obtain⟨u,h1,h2⟩:=Vals.get (i:=i) (x:=x) t (by simpa using e);exact⟨u,by simpa using h1,h2⟩
theorem Vals.set{x:V}{u:Value}(r:RelV x u):∀ {xs:List V}{us:List Value}(i:Nat),Vals xs us→Vals (xs.set i x) (us.set i u)
 |_,_,_,.nil=>.nil
 |_,_,0,.cons _ t=>.cons r t
 |_,_,i+1,.cons q t=>.cons q (Vals.set r i t)
theorem Vals.append:∀ {xs ys:List V}{us ws:List Value},Vals xs us→Vals ys ws→Vals (xs++ys) (us++ws)
 |_,_,_,_,.nil,s=>s
 |_,_,_,_,.cons r t,s=>.cons r (Vals.append t s)
theorem Vals.take:∀ {xs:List V}{us:List Value}(n:Nat),Vals xs us→Vals (xs.take n) (us.take n)
 |_,_,0,_=>.nil
 |_,_,_+1,.nil=>.nil
 |_,_,n+1,.cons r t=>.cons r (Vals.take n t)
theorem Vals.drop:∀ {xs:List V}{us:List Value}(n:Nat),Vals xs us→Vals (xs.drop n) (us.drop n)
 |_,_,0,r=>r
 |_,_,_+1,.nil=>.nil
 |_,_,n+1,.cons _ t=>Vals.drop n t
def RelO:Option V→Option Value→Prop
 |some v,some u=>RelV v u
 |none,none=>True
 |_,_=>False
def KV {κ:Type}:List (κ×V)→List (κ×Value)→Prop:=Paired fun(p:κ×V) (q:κ×Value)=>p.1=q.1∧RelV p.2 q.2
def kV:Key→V
 |.inl i=>.int i
 |.inr x=>.str x
inductive HO where
 |lst (xs:List V)
 |tup (xs:List V)
 |dK (kvs:List (Key×V))|dT (kvs:List (List Key×V))
 |set (S:Int→Bool) (n:Nat)
 |ins (C dx:Addr) (fs:List (Str×V))
 |own (x:Addr)
 |xd (fs:List (Str×V))
 |met (f x:Addr)
 |rng (lo hi:Int)
 |frz (o:Obj) (u:HO)
 |tbl (ps:Array Value)
 |ext (φ:Heap→Prop)
abbrev Hp:=Addr→Option HO
def upd (H:Hp) (a:Addr) (o:HO):Hp:=fun b=>if b=a then some o else H b
theorem upd_same{H:Hp}{a:Addr}{o:HO}:upd H a o a=some o:=by unfold upd;rw[if_pos rfl]
theorem upd_ne{H:Hp}{a b:Addr}{o:HO}(h:b≠a):upd H a o b=H b:=by unfold upd;rw[if_neg h]
theorem upd_upd{H:Hp}{a:Addr}{o u:HO}:upd (upd H a o) a u=upd H a u:=by funext b;unfold upd;split<;>rfl
theorem MJ{H:Hp}{a b:Addr}{o u:HO}(h:H a=some o)(h':H b=some u)(d:o≠u):a≠b:=by intro e;subst e;rw[h]at h';exact d (Option.some.inj h')
theorem Ze{H:Hp}{a b:Addr}{o:HO}(h:H a=some o)(h':H b=none):a≠b:=by intro e;subst e;rw[h]at h';cases h'
section
variable (P:Program) (w:World)
def ObjOk (H:Hp) (h:Heap) (a:Addr):HO→Prop
 |.lst xs=>xs.length≤sizeLine∧∃ (its:List Value) (n:Nat),Vals xs its∧h.get? a=some {cls:=.type "list",data:=.seq its.toArray n}
 |.tup xs=>xs.length≤sizeLine∧∃ its:List Value,Vals xs its∧IsTup h a its.toArray
 |.dK kvs=>kvs.length≤sizeLine∧(a==sysModules)=false∧∃ vs,KV kvs vs∧h.DictOf (Zh P w) a vs
 |.dT kvs=>kvs.length≤sizeLine∧(a==sysModules)=false∧∃ xs:List (List Key×Addr×Value),
   Paired (fun(p:List Key×V) (q:List Key×Addr×Value)=>p.1=q.1∧H q.2.1=some (.tup (p.1.map kV))∧RelV p.2 q.2.2) kvs xs∧
   ∃ o es ep,h.get? a=some o∧o.ExactDict∧o.data=.dict es ep∧es.toList=xs.map (entryOfKey (tupleKind (Zh P w)))∧(xs.map (·.1)).Nodup
 |.set S n=>h.SetOf (intKind P w) a S n
 |.ins C dx fs=>H dx=some (.own a)∧fs.length≤1000∧dx≠a∧h.get? a=some (PySem.W.instObj C dx)∧
   ∃ mA,h.Ns1 dx mA∧(∀ f,RelO (fs.lookup f) (mA f))∧PySem.Within mA (fs.map (·.1))
 |.own _=>∃ o,h.get? a=some o
 |.xd fs=>∃ mA,h.Ns1 a mA∧∀ f,RelO (fs.lookup f) (mA f)
 |.rng lo hi=>∃ t u v,h.get? a=some {cls:=.type "range",data:=.fields #[.int lo t,.int hi u,.int 1 v]}
 |.frz o u=>h.get? a=some o∧ObjOk H h a u
 |.tbl ps=>h.get? a=some {cls:=.none,data:=.fields ps}
 |.met f x=>h.get? a=some (PySem.W.methodObj (.ref f) (.ref x))
 |.ext φ=>φ h∧(∃ o,h.get? a=some o)∧∀ h1 h2:Heap,φ h1→(∀ o,h1.get? a=some o→h2.get? a=some o)→φ h2
def HOk (H:Hp) (h:Heap):Prop:=∀ a o,H a=some o→ObjOk P w H h a o
end
section
variable {P:Program}{w:World}{H H':Hp}{h h':Heap}{a:Addr}{o:HO}
theorem ObjOk.lt(x:ObjOk P w H h a o):a<h.objs.size:=by
 cases o with
 |lst xs=>obtain⟨_,_,_,_,e⟩:=x;exact Heap.lt_size e
 |tup xs=>obtain⟨_,_,_,p⟩:=x;exact p.lt
 |dK kvs=>obtain⟨_,_,_,_,o,_,_,e,_⟩:=x;exact Heap.lt_size e
 |dT kvs=>obtain⟨_,_,_,_,o,_,_,e,_⟩:=x;exact Heap.lt_size e
 |set S n=>obtain⟨o,_,_,_,e,_⟩:=x;exact Heap.lt_size e
 |ins C dx fs=>obtain⟨_,_,_,e,_⟩:=x;exact Heap.lt_size e
 |own y=>obtain⟨_,e⟩:=x;exact Heap.lt_size e
 |xd fs=>obtain⟨_,⟨_,_,_,e,_⟩,_⟩:=x;exact Heap.lt_size e
 |rng lo hi=>obtain⟨_,_,_,e⟩:=x;exact Heap.lt_size e
 |frz ob u=>obtain⟨e,_⟩:=x;exact Heap.lt_size e
 |tbl ps=>exact Heap.lt_size (show h.get? a=some _ from x)
 |met f y=>exact Heap.lt_size (show h.get? a=some _ from x)
 |ext φ=>obtain⟨_,⟨_,e⟩,_⟩:=x;exact Heap.lt_size e
theorem Paired.mapP{α β:Type}{F G:α→β→Prop}:∀ {l₁:List α}{l₂:List β},Paired F l₁ l₂→(∀ a b,F a b→G a b)→Paired G l₁ l₂
 |_,_,.nil,_=>.nil
 |_,_,.cons r t,f=>.cons (f _ _ r) (Paired.mapP t f)
theorem ObjOk.stay(x:ObjOk P w H h a o)(k:∀ b u,(b=a∨H b=some (.own a))→h.get? b=some u→h'.get? b=some u)
  (ho:∀ b,H b=some (.own a)→H' b=some (.own a)) (ht:∀ b xs,H b=some (.tup xs)→H' b=some (.tup xs)):ObjOk P w H' h' a o:=by
 induction o with
 |lst xs=>obtain⟨z,its,n,r,e⟩:=x;exact⟨z,its,n,r,k _ _ (.inl rfl) e⟩
 |tup xs=>obtain⟨z,its,r,ob,e,c⟩:=x;exact⟨z,its,r,ob,k _ _ (.inl rfl) e,c⟩
 |dK kvs=>obtain⟨z,y,vs,r,ob,es,ep,e,c⟩:=x;exact⟨z,y,vs,r,ob,es,ep,k _ _ (.inl rfl) e,c⟩
 |dT kvs =>obtain⟨z,y,xs,r,ob,es,ep,e,c⟩:=x;exact⟨z,y,xs,Paired.mapP r fun p q z=>⟨z.1,ht _ _ z.2.1,z.2.2⟩,ob,es,ep,k _ _ (.inl rfl) e,c⟩
 |set S n=>obtain⟨ob,es,ep,t,e,c⟩:=x;exact⟨ob,es,ep,t,k _ _ (.inl rfl) e,c⟩
 |ins C dx fs =>obtain⟨d,z,ne,e,mA,⟨od,es,ep,e2,c⟩,r⟩:=x;exact⟨ho _ d,z,ne,k _ _ (.inl rfl) e,mA,⟨od,es,ep,k _ _ (.inr d) e2,c⟩,r⟩
 |own y=>obtain⟨ob,e⟩:=x;exact⟨ob,k _ _ (.inl rfl) e⟩
 |xd fs=>obtain⟨mA,⟨od,es,ep,e,c⟩,r⟩:=x;exact⟨mA,⟨od,es,ep,k _ _ (.inl rfl) e,c⟩,r⟩
 |rng lo hi=>obtain⟨t,u,v,e⟩:=x;exact⟨t,u,v,k _ _ (.inl rfl) e⟩
 |frz ob u ih=>obtain⟨e,q⟩:=x;exact⟨k _ _ (.inl rfl) e,ih q⟩
 |tbl ps =>have e:h.get? a=some {cls:=.none,data:=.fields ps}:=x;show h'.get? a=some {cls:=.none,data:=.fields ps};exact k a _ (.inl rfl) e
 |met f y =>have e:h.get? a=some (PySem.W.methodObj (.ref f) (.ref y)):=x;show h'.get? a=some (PySem.W.methodObj (.ref f) (.ref y));exact k a _ (.inl rfl) e
 |ext φ=>obtain⟨p,⟨o,e⟩,st⟩:=x;exact⟨st _ _ p fun o q=>k _ _ (.inl rfl) q,⟨o,k _ _ (.inl rfl) e⟩,st⟩
theorem HOk.lt(x:HOk P w H h)(e:H a=some o):a<h.objs.size:=(x a o e).lt
theorem HOk.fresh(x:HOk P w H h)(e:h.objs.size≤a):H a=none:=by
 cases q:H a with
 |none=>rfl
 |some u=>exact absurd (Nat.lt_of_lt_of_le (x.lt q) e) (Nat.lt_irrefl _)
theorem HOk.kept(x:HOk P w H h)(k:∀ b u,h.get? b=some u→h'.get? b=some u):HOk P w H h':=fun a o e =>
 (x a o e).stay (fun b u _ q=>k b u q) (fun _ q=>q) fun _ _ q=>q
theorem HOk.laid(x:HOk P w H h)(k:∀ b u,h.get? b=some u→h'.get? b=some u)(hp:h.objs.size≤a)(new:ObjOk P w (upd H a o) h' a o):HOk P w (upd H a o) h':=fun b u e=>by
 have hn:=x.fresh hp;by_cases hb:b=a
 ·subst hb;rw[upd_same]at e;cases e;exact new
 ·rw[upd_ne hb]at e;exact(x b u e).stay (fun c v _ q=>k c v q) (fun c q=>by rw[upd_ne (Ze q hn)];exact q) fun c xs q=>by rw[upd_ne (Ze q hn)];exact q
end
def Rd (H:Hp) (a:Addr) (u:HO):Prop:=H a=some u∨∃ o,H a=some (.frz o u)
theorem Rd.of{H:Hp}{a:Addr}{u:HO}(h:H a=some u):Rd H a u:=.inl h
theorem Rd.ok{P:Program}{w:World}{H:Hp}{h:Heap}{a:Addr}{u:HO}(r:Rd H a u)(x:HOk P w H h):ObjOk P w H h a u:=by
 rcases r with r|⟨o,r⟩
 ·exact x a u r
 ·obtain⟨_,q⟩:=x a _ r;exact q
def Mut:Option HO→Prop
 |some (.lst _)=>True
 |some (.dK _)=>True
 |some (.dT _)=>True
 |some (.set _ _)=>True
 |some (.ins _ _ _)=>True
 |some (.ext _)=>True
 |_=>False
section
variable {P:Program}{w:World}{H:Hp}{h h':Heap}{x e:Addr}{o':HO}
theorem HOk.write(ok:HOk P w H h)(mu:Mut (H x))(he:e=x∨H e=some (.own x))(k:∀ b u,b≠e→h.get? b=some u→h'.get? b=some u)(heo:∃ u,h'.get? e=some u)
  (new:ObjOk P w (upd H x o') h' x o'):HOk P w (upd H x o') h':=fun b u q=>by
 have nown:∀ c y,H c=some (.own y)→c≠x:=fun c y r z=>by subst z;rw[r]at mu;exact mu
 have ntup:∀ c xs,H c=some (.tup xs)→c≠x:=fun c xs r z=>by subst z;rw[r]at mu;exact mu
 by_cases hb:b=x
 ·subst hb;rw[upd_same]at q;cases q;exact new
 ·rw[upd_ne hb]at q;by_cases hbe:b=e
  ·have q':H b=some (.own x):=by
    rcases he with z|z
    ·exact absurd (hbe.trans z) hb
    ·rw[hbe];exact z
   rw[q]at q';cases q';obtain⟨v,hv⟩:=heo;exact⟨v,by rw[hbe];exact hv⟩
  ·refine(ok b u q).stay (fun c v hc r=>k c v ?_ r) (fun c r=>by rw[upd_ne (nown c b r)];exact r) fun c xs r=>by rw[upd_ne (ntup c xs r)];exact r
   rcases hc with rfl|hc
   ·exact hbe
   ·rintro rfl;rcases he with z|z
    ·exact nown c b hc z
    ·rw[hc]at z;cases z;exact hb rfl
end
structure Un (fs ex:List Addr) (H H':Hp) (h h':Heap):Prop where
 keep:∀ b o,h.get? b=some o→H b=none→b∉fs→b∉ex→h'.get? b=some o
 slot:∀ b o,h.get? b=some o→H b=none→b∈fs→b∉ex→∃ sl,h'.get? b=some {o with slots:=sl}
 free:∀ b o,h.get? b=some o→H b=none→b∉ex→H' b=none
 there:∀ b o,h.get? b=some o→b∉ex→∃ o',h'.get? b=some o'
 tups:∀ b xs,H b=some (.tup xs)→H' b=some (.tup xs)
 frzs:∀ b o u,H b=some (.frz o u)→H' b=some (.frz o u)
 tbls:∀ b ps,H b=some (.tbl ps)→∃ more,H' b=some (.tbl (ps++more))
section
variable {fs fs' ex ex':List Addr}{H H1 H2:Hp}{h h1 h2 h':Heap}{a x e:Addr}{o:HO}
theorem Un.any(u:Un fs ex H H1 h h1){b:Addr}{ob:Obj}(q:h.get? b=some ob)(n:H b=none)(hx:b∉ex):∃ sl,h1.get? b=some {ob with slots:=sl}:=by
 by_cases hb:b∈fs
 ·exact u.slot b ob q n hb hx
 ·exact⟨ob.slots,u.keep b ob q n hb hx⟩
theorem Un.trans(a:Un fs ex H H1 h h1)(b:Un fs ex H1 H2 h1 h2):Un fs ex H H2 h h2 where
 keep:=fun c ob q n hc hx=>b.keep c ob (a.keep c ob q n hc hx) (a.free c ob q n hx) hc hx
 slot:=fun c ob q n hc hx=>by obtain⟨sl,e1⟩:=a.slot c ob q n hc hx;obtain⟨sl',e2⟩:=b.slot c _ e1 (a.free c ob q n hx) hc hx;exact⟨sl',e2⟩
 free:=fun c ob q n hx=>by obtain⟨o',e1⟩:=a.there c ob q hx;exact b.free c o' e1 (a.free c ob q n hx) hx
 there:=fun c ob q hx=>by obtain⟨o',e1⟩:=a.there c ob q hx;exact b.there c o' e1 hx
 tups:=fun c xs q=>b.tups c xs (a.tups c xs q)
 frzs:=fun c ob xs q=>b.frzs c ob xs (a.frzs c ob xs q)
 tbls:=fun c ps q=>by obtain⟨m1,e1⟩:=a.tbls c ps q;obtain⟨m2,e2⟩:=b.tbls c _ e1;exact⟨m1++m2,by rw[e2,Array.append_assoc]⟩
theorem Un.kept(k:∀ b u,h.get? b=some u→h'.get? b=some u):Un fs ex H H h h' :=
 ⟨fun b ob q _ _ _=>k b ob q,fun b ob q _ _ _=>⟨ob.slots,k b ob q⟩,fun _ _ _ n _=>n,fun b ob q _=>⟨ob,k b ob q⟩,fun _ _ q=>q,fun _ _ _ q=>q,fun _ ps q=>⟨#[],by rw[q];simp⟩⟩
theorem Un.refl:Un fs ex H H h h:=Un.kept fun _ _ q=>q
theorem Un.laid(k:∀ b u,h.get? b=some u→h'.get? b=some u)(hp:h.objs.size≤a)(hn:H a=none):Un fs ex H (upd H a o) h h' where
 keep:=fun b u q _ _ _=>k b u q
 slot:=fun b u q _ _ _=>⟨u.slots,k b u q⟩
 free:=fun b u q n _=>by rw[upd_ne (Nat.ne_of_lt (Nat.lt_of_lt_of_le (Heap.lt_size q) hp))];exact n
 there:=fun b u q _=>⟨u,k b u q⟩
 tups:=fun b xs q=>by rw[upd_ne (Ze q hn)];exact q
 frzs:=fun b u xs q=>by rw[upd_ne (Ze q hn)];exact q
 tbls:=fun b ps q=>⟨#[],by rw[upd_ne (Ze q hn),q];simp⟩
theorem Un.write(mu:Mut (H x))(he:e=x∨H e=some (.own x))(k:∀ b u,b≠e→h.get? b=some u→h'.get? b=some u)(heo:∃ u,h'.get? e=some u):Un fs ex H (upd H x o) h h':=by
 have hx:∀ b,H b=none→b≠x:=fun b n z=>by subst z;rw[n]at mu;exact mu
 have hb:∀ b,H b=none→b≠e:=fun b n z=>by
  subst z;rcases he with r|r
  ·exact hx b n r
  ·rw[n]at r;cases r
 have hm:∀ b u,H b=some u→¬ Mut (some u)→b≠x:=fun b u q nm z=>by subst z;rw[q]at mu;exact nm mu
 refine⟨fun b u q n _ _=>k b u (hb b n) q,fun b u q n _ _=>⟨u.slots,k b u (hb b n) q⟩,fun b u q n _=>by rw[upd_ne (hx b n)];exact n,fun b u q _=>?_,
   fun b xs q=>by rw[upd_ne (hm b _ q fun z=>z)];exact q,fun b u xs q=>by rw[upd_ne (hm b _ q fun z=>z)];exact q,fun b ps q=>⟨#[],by rw[upd_ne (hm b _ q fun z=>z),q];simp⟩⟩
 by_cases hbe:b=e
 ·subst hbe;exact heo
 ·exact⟨u,k b u hbe q⟩
theorem Un.mono(u:Un fs ex H H1 h h1)(hs:∀ b∈fs,b∈fs')(hx:∀ b∈ex,b∈ex'):Un fs' ex' H H1 h h1 :=
 ⟨fun b ob q n hb he=>u.keep b ob q n (fun z=>hb (hs b z)) fun z=>he (hx b z),fun _ _ q n _ he=>u.any q n fun z=>he (hx _ z),fun b ob q n he=>u.free b ob q n fun z=>he (hx b z),fun b ob q he=>u.there b ob q fun z=>he (hx b z),u.tups,u.frzs,u.tbls⟩
end
def trk (h:Heap) (H:Hp):List Addr:=(List.range h.objs.size).filter fun a=>(H a).isSome
def WO (h:Heap) (H:Hp):Heap:=PySem.W.hideAll h (trk h H)
theorem Mf(h:Heap)(H:Hp):(WO h H).objs.size=h.objs.size:=PySem.W.hideAll_size _ _
theorem NI{h:Heap}{H:Hp}{b:Addr}{o:Obj}(e:h.get? b=some o)(n:H b=none):(WO h H).get? b=some o :=
 PySem.W.hideAll_get _ e fun hm=>by have q:(H b).isSome=true:=(List.mem_filter.mp hm).2;rw[n]at q;simp at q
theorem Uh{h:Heap}{H:Hp}{b:Addr}{o:Obj}(e:(WO h H).get? b=some o):h.get? b=some o∧H b=none:=by
 have e':h.get? b=some o:=PySem.W.of_hideAll (trk h H) e;refine⟨e',?_⟩;cases q:H b with
 |none=>rfl
 |some x =>have hm:b∈trk h H:=List.mem_filter.mpr ⟨List.mem_range.mpr (Heap.lt_size e'),by simp[q]⟩;have z:(WO h H).get? b=none:=PySem.W.hideAll_none (trk h H) hm;rw[z]at e;cases e
def Ov (g h:Heap) (L:Addr):List (Addr×Obj):=(List.range h.objs.size).filterMap fun a=>if a=L∨(g.get? a).isSome=true then none else(h.get? a).map fun o=>(a,o)
def rest (g h:Heap) (L d:Addr):List (Addr×Obj):=(Ov g h L).filter fun p=>decide (p.1≠d)
end L2
namespace L2
open PySem PySem.Spec PyProof.Rows
structure Mod (K:PySem.W.Frag) (mg:Str→Option Value) (base:Heap):Prop where
 kin:K.In base
 glob:base.Ns mainGlobals mg
 blt:∃ mb,base.Ns builtinsNs mb∧∀ x:Str,x≠"__name__"→mb x=bootBuiltins x
 nolimit:base.NoLimit
structure Cx where
 prog:Program
 w:World
 K:PySem.W.Frag
 mg:Str→Option Value
 base:Heap
 A:Around
 N:List Str
 s₀:Shared
 H₀:Hp
 env:Env
 outer:List Env
 stack:List Env
 ex:List Addr
 fn:Str→Bool
 calm:Bool
 pn:List (Addr×Obj)
 xe:Value→Shared→Prop
def frs (l:List Env):List Addr:=l.filterMap (·.frame)
abbrev Cx.fs (X:Cx):List Addr:=frs X.outer
def Vis (sc:Scope) (x:Str):Prop:=sc.names.lookup x=some .local∨sc.names.lookup x=some .cell∨sc.names.lookup x=some .free
def Loc (sc:Scope) (x:Str):Prop:=sc.names.lookup x=some .local∨sc.names.lookup x=some .cell
def FH (env:Env) (h:Heap) (m:Str→Option Value) (x:Str) (u:Value):Prop :=
 (env.kindOf x=some .local∧m x=some u)∨((env.kindOf x=some .cell∨env.kindOf x=some .free)∧∃ c,env.cells.lookup x=some c∧h.IsCell c (some u))
structure Cx.Ok (X:Cx):Prop where
 mod:Mod X.K X.mg X.base
 kind:X.env.scope.kind=.function
 glob:X.env.globals=mainGlobals
 blt:X.env.builtins=builtinsNs
 above:X.s₀.heap.objs.size≤X.env.locals
 inj:∀ x y c,X.env.cells.lookup x=some c→X.env.cells.lookup y=some c→x=y
 has:∀ x,(X.env.kindOf x=some .cell∨X.env.kindOf x=some .free)→∃ c,X.env.cells.lookup x=some c
 cab:∀ x c,X.fn x=true→X.env.cells.lookup x=some c→X.s₀.heap.objs.size≤c
 hd:X.calm=true→X.A.handled=none
 frames:X.A.frames=some X.stack
 stk:X.stack=X.outer∨(X.stack=X.env::X.outer∧X.env.frame=some X.env.locals)
 exf:∀ b∈X.ex,b≠X.env.locals∧∀ x c,X.env.cells.lookup x=some c→c≠b
 bs:∀ b o,X.base.get? b=some o→X.s₀.heap.get? b=some o∧X.H₀ b=none
 bsz:X.base.objs.size≤X.s₀.heap.objs.size
 noex:∀ b o,X.base.get? b=some o→b∉X.ex
 exfs:∀ b∈X.ex,b∉X.fs
 funs:X.s₀.heap.FunFrames X.base X.outer
 frf:∀ b∈X.fs,X.H₀ b=none
structure Inv (X:Cx) (pins:List (Addr×Obj)) (σ:List (Option V)) (H:Hp) (s:Shared):Prop where
 ok:X.Ok
 os:s.os=X.s₀.os
 bare:AllBare s.gens
 base:Un X.fs X.ex X.H₀ H X.s₀.heap s.heap
 loc:∃ m,s.heap.Ns X.env.locals m∧∀ (i:Nat) (x:Str) (v:V),X.N[i]?=some x→σ[i]?=some (some v)→Vis X.env.scope x→∃ u,RelV v u∧FH X.env s.heap m x u
 cell:∀ x c,X.env.cells.lookup x=some c→∃ v,s.heap.IsCell c v
 free:H X.env.locals=none
 freeC:∀ x c,X.env.cells.lookup x=some c→H c=none
 pin:∀ p∈X.pn++pins,s.heap.get? p.1=some p.2∧H p.1=none∧p.1≠X.env.locals∧p.1∉X.fs∧∀ v,p.2.data≠.cell v
 hok:HOk X.prog X.w H s.heap
 len:σ.length=X.N.length
section
variable {X:Cx}{pins:List (Addr×Obj)}{σ:List (Option V)}{H H':Hp}{s:Shared}{h':Heap}
theorem Cx.Ok.nofr(ok:X.Ok){b:Addr}{o:Obj}(e:X.base.get? b=some o):b∉X.fs:=fun hb=>by have:=(ok.funs.mem hb).1;rw[e]at this;cases this
theorem Inv.bs(I:Inv X pins σ H s):∀ b o,X.base.get? b=some o→s.heap.get? b=some o∧H b=none:=fun b o e =>
 ⟨I.base.keep b o (I.ok.bs b o e).1 (I.ok.bs b o e).2 (I.ok.nofr e) (I.ok.noex b o e),I.base.free b o (I.ok.bs b o e).1 (I.ok.bs b o e).2 (I.ok.noex b o e)⟩
theorem Inv.bk(I:Inv X pins σ H s):∀ b o,X.base.get? b=some o→s.heap.get? b=some o:=fun b o e=>(I.bs b o e).1
theorem Inv.mod(I:Inv X pins σ H s):Mod X.K X.mg X.base:=I.ok.mod
theorem Inv.kIn(I:Inv X pins σ H s):X.K.In s.heap:=I.ok.mod.kin.keeps I.bk
theorem Inv.nolimit(I:Inv X pins σ H s):s.heap.NoLimit:=I.ok.mod.nolimit.keeps I.bk
theorem Inv.fr(I:Inv X pins σ H s):∃ m,Fr X.base X.env.locals s.heap m :=
 let ⟨m,hn,_⟩:=I.loc
 ⟨m,hn,I.bk,Nat.le_trans I.ok.bsz I.ok.above⟩
theorem Inv.lt(I:Inv X pins σ H s):X.env.locals<s.heap.objs.size:=let ⟨_,hn,_⟩:=I.loc;hn.lt
theorem Inv.sz(I:Inv X pins σ H s):X.s₀.heap.objs.size≤s.heap.objs.size:=Nat.le_trans I.ok.above (Nat.le_of_lt I.lt)
theorem Inv.nofs(I:Inv X pins σ H s){a:Addr}(h:s.heap.objs.size≤a):a∉X.fs:=fun hb=>by obtain⟨_,o,ho,_⟩:=I.ok.funs.mem hb;exact absurd (Nat.lt_of_lt_of_le (Heap.lt_size ho) (Nat.le_trans I.sz h)) (Nat.lt_irrefl _)
theorem Inv.cne(I:Inv X pins σ H s):∀ x c,X.env.cells.lookup x=some c→c≠X.env.locals:=fun x c e z=>by obtain⟨v,o,ho,hd⟩:=I.cell x c e;obtain⟨m,⟨o',es,ep,ho',hd',_⟩,_⟩:=I.loc;rw[z,ho']at ho;cases ho;rw[hd']at hd;cases hd
theorem Inv.funs(I:Inv X pins σ H s):s.heap.FunFrames X.base X.outer:=by
 have all:∀ (l:List Env),(∀ b∈frs l,b∈X.fs)→X.s₀.heap.FunFrames X.base l→s.heap.FunFrames X.base l:=by
  intro l;induction l with
  |nil=>intro _ _;trivial
  |cons env r ih =>intro hs hl;obtain⟨hk,⟨L,o,hf,hn,ho,hd⟩,hr⟩:=hl;have hL:L∈X.fs:=hs L (by unfold frs;rw[List.filterMap_cons,hf];exact List.mem_cons_self);obtain⟨sl,e⟩:=I.base.slot L o ho (I.ok.frf L hL) hL fun z=>I.ok.exfs L z hL;exact⟨hk,⟨L,_,hf,hn,e,hd⟩,ih (fun b hb=>hs b (by unfold frs;rw[List.filterMap_cons,hf];exact List.mem_cons_of_mem _ hb)) hr⟩
 exact all X.outer (fun _ hb=>hb) I.ok.funs
theorem Inv.stack(I:Inv X pins σ H s):s.heap.FunFrames X.base X.stack:=by
 rcases I.ok.stk with e|⟨e,hf⟩
 ·rw[e];exact I.funs
 ·rw[e];obtain⟨m,hn,_⟩:=I.loc;refine .cons (by rw[I.ok.kind];decide) hf hn ?_ I.funs;exact Heap.get?_none_of_le (Nat.le_trans I.ok.bsz I.ok.above)
theorem Inv.stkSub(I:Inv X pins σ H s):∀ b∈frs X.stack,b∈X.env.locals::X.fs:=fun b hb=>by
 rcases I.ok.stk with e|⟨e,hf⟩
 ·rw[e]at hb;exact List.mem_cons_of_mem _ hb
 ·rw[e]at hb;unfold frs at hb;rw[List.filterMap_cons,hf]at hb;exact hb
theorem Inv.stkFree(I:Inv X pins σ H s):∀ b∈frs X.stack,H b=none:=fun b hb=>by
 rcases List.mem_cons.mp (I.stkSub b hb)with e|hb
 ·rw[e];exact I.free
 ·obtain⟨_,o,ho,_⟩:=I.ok.funs.mem hb;exact I.base.free b o ho (I.ok.frf b hb) fun z=>I.ok.exfs b z hb
theorem Inv.step{g':Array GenState}{t':Nat}{d':Drawn}{ch:List Addr}(I:Inv X pins σ H s)
  (hch:∀ b∈ch,(b∈X.ex∨X.s₀.heap.objs.size≤b)∧b≠X.env.locals∧(∀ x c,X.env.cells.lookup x=some c→c≠b)∧∀ p∈X.pn++pins,p.1≠b)
  (keep:∀ b o,b≠X.env.locals→b∉X.fs→b∉ch→s.heap.get? b=some o→H b=none→h'.get? b=some o)
  (slot:∀ b o,b≠X.env.locals→b∈X.fs→b∉ch→s.heap.get? b=some o→H b=none→∃ sl,h'.get? b=some {o with slots:=sl}) (free:∀ b o,b∉ch→s.heap.get? b=some o→H b=none→H' b=none)
  (there:∀ b o,b∉ch→s.heap.get? b=some o→∃ o',h'.get? b=some o')
  (tups:∀ b xs,H b=some (.tup xs)→H' b=some (.tup xs)) (frzs:∀ b o u,H b=some (.frz o u)→H' b=some (.frz o u)) (tbls:∀ b ps,H b=some (.tbl ps)→∃ more,H' b=some (.tbl (ps++more)))
  (ns:∀ m,s.heap.Ns X.env.locals m→h'.Ns X.env.locals m) (hok:HOk X.prog X.w H' h') (hg:AllBare g') :
  Inv X pins σ H' {s with heap:=h',gens:=g',drawn:=d',toks:=t'}:=by
 have neL:∀ b o,X.s₀.heap.get? b=some o→b≠X.env.locals:=fun b o e=>Nat.ne_of_lt (Nat.lt_of_lt_of_le (Heap.lt_size e) I.ok.above);have neC:∀ b o,X.s₀.heap.get? b=some o→b∉X.ex→b∉ch:=fun b o e hx hb=>by
  rcases (hch b hb).1 with z|z
  ·exact hx z
  ·exact absurd (Nat.lt_of_lt_of_le (Heap.lt_size e) z) (Nat.lt_irrefl _)
 have cellK:∀ x c,X.env.cells.lookup x=some c→∀ v,s.heap.IsCell c v→h'.IsCell c v:=fun x c e v ⟨o,ho,hd⟩=>by
  have nch:c∉ch:=fun z=>(hch c z).2.2.1 x c e rfl;by_cases hc:c∈X.fs
  ·obtain⟨sl,q⟩:=slot c o (I.cne x c e) hc nch ho (I.freeC x c e);exact⟨_,q,hd⟩
  ·exact⟨o,keep c o (I.cne x c e) hc nch ho (I.freeC x c e),hd⟩
 refine⟨I.ok,I.os,hg,⟨fun b o e n hb hx=>?_,fun b o e n hb hx=>?_,fun b o e n hx=>?_,fun b o e hx=>?_,fun b xs e=>tups b xs (I.base.tups b xs e),fun b o xs e=>frzs b o xs (I.base.frzs b o xs e),fun b ps e=>?_⟩,?_,fun x c e=>?_,?_,fun x c e=>?_,fun p hp=>?_,hok,I.len⟩
 ·exact keep b o (neL b o e) hb (neC b o e hx) (I.base.keep b o e n hb hx) (I.base.free b o e n hx)
 ·obtain⟨sl,e1⟩:=I.base.slot b o e n hb hx;obtain⟨sl',e2⟩:=slot b _ (neL b o e) hb (neC b o e hx) e1 (I.base.free b o e n hx);exact⟨sl',e2⟩
 ·obtain⟨o',e1⟩:=I.base.there b o e hx;exact free b o' (neC b o e hx) e1 (I.base.free b o e n hx)
 ·obtain⟨o',e1⟩:=I.base.there b o e hx;exact there b o' (neC b o e hx) e1
 ·obtain⟨m1,e1⟩:=I.base.tbls b ps e;obtain⟨m2,e2⟩:=tbls b _ e1;exact⟨m1++m2,by rw[e2,Array.append_assoc]⟩
 ·obtain⟨m,hn,hl⟩:=I.loc;refine⟨m,ns m hn,fun i x v e1 e2 e3=>?_⟩;obtain⟨u,r,l⟩:=hl i x v e1 e2 e3;refine⟨u,r,?_⟩;rcases l with l|⟨k,c,e,z⟩
  ·exact .inl l
  ·exact .inr ⟨k,c,e,cellK x c e _ z⟩
 ·obtain⟨v,z⟩:=I.cell x c e;exact⟨v,cellK x c e v z⟩
 ·obtain⟨m,⟨o,_,_,ho,_⟩,_⟩:=I.loc;exact free _ o (fun z=>(hch _ z).2.1 rfl) ho I.free
 ·obtain⟨v,o,ho,hd⟩:=I.cell x c e;exact free c o (fun z=>(hch c z).2.2.1 x c e rfl) ho (I.freeC x c e)
 ·obtain⟨e,n,ne,nf,d⟩:=I.pin p hp;have nch:p.1∉ch:=fun z=>(hch p.1 z).2.2.2 p hp rfl;exact⟨keep p.1 p.2 ne nf nch e n,free p.1 p.2 nch e n,ne,nf,d⟩
theorem Inv.un{t':Nat}(I:Inv X pins σ H s)(u:Un X.fs [] H H' s.heap h')(hok:HOk X.prog X.w H' h'):Inv X pins σ H' {s with heap:=h',toks:=t'}:=by
 obtain⟨m,⟨o,es,ep,ho,r⟩,_⟩:=id I.loc;obtain⟨sl,hL⟩:=u.any ho I.free (by simp);exact I.step (g':=s.gens) (d':=s.drawn) (ch:=[]) (fun _ z=>nomatch z) (fun b o _ hb _ e n=>u.keep b o e n hb (by simp)) (fun b o _ hb _ e n=>u.slot b o e n hb (by simp)) (fun b o _ e n=>u.free b o e n (by simp)) (fun b o _ e=>u.there b o e (by simp)) u.tups u.frzs u.tbls (fun m' hm=>by
   obtain⟨o',es',ep',ho',r'⟩:=hm
   rw[ho]at ho';cases ho'
   exact⟨_,es',ep',hL,r'⟩) hok I.bare
theorem Inv.call{g':Array GenState}{t':Nat}{d':Drawn}{ch:List Addr}(I:Inv X pins σ H s)(u:Un (frs X.stack) ch H H' s.heap h')(hok:HOk X.prog X.w H' h')(hg:AllBare g')
  (hch:∀ b∈ch,(b∈X.ex∨X.s₀.heap.objs.size≤b)∧b≠X.env.locals∧(∀ x c,X.env.cells.lookup x=some c→c≠b)∧∀ p∈X.pn++pins,p.1≠b) :
  Inv X pins σ H' {s with heap:=h',gens:=g',drawn:=d',toks:=t'}:=by
 obtain⟨m,⟨o,es,ep,ho,r⟩,_⟩:=id I.loc;obtain⟨sl,hL⟩:=u.any ho I.free fun z=>(hch _ z).2.1 rfl;exact I.step (ch:=ch) hch (fun b o hL hb hc e n=>u.keep b o e n (fun z=>(List.mem_cons.mp (I.stkSub b z)).elim hL hb) hc) (fun b o _ _ hc e n=>u.any e n hc) (fun b o hc e n=>u.free b o e n hc) (fun b o hc e=>u.there b o e hc) u.tups u.frzs u.tbls (fun m' hm=>by
   obtain⟨o',es',ep',ho',r'⟩:=hm
   rw[ho]at ho';cases ho'
   exact⟨_,es',ep',hL,r'⟩) hok hg
theorem Inv.turned{t':Nat}{it:Addr}(I:Inv X pins σ H s)(k:∀ b o,b≠it→s.heap.get? b=some o→h'.get? b=some o)(hn:H it=none)(hL:it≠X.env.locals)
  (h1:it∈X.ex∨X.s₀.heap.objs.size≤it) (h2:∀ x c,X.env.cells.lookup x=some c→c≠it) (h3:∀ p∈X.pn++pins,p.1≠it):Inv X pins σ H {s with heap:=h',toks:=t'}:=by
 have nit:∀ b u,H b=some u→b≠it:=fun b u e z=>by rw[z,hn]at e;cases e
 refine I.step (g':=s.gens) (d':=s.drawn) (ch:=[it]) (fun b hb=>?_) (fun b o _ _ hc e _=>k b o (fun z=>hc (by simp[z])) e) (fun b o _ _ hc e _=>⟨o.slots,k b o (fun z=>hc (by simp[z])) e⟩) (fun _ _ _ _ n=>n)
  (fun b o hc e=>⟨o,k b o (fun z=>hc (by simp[z])) e⟩) (fun _ _ e=>e) (fun _ _ _ e=>e) (fun b ps e=>⟨#[],by rw[e];simp⟩) (fun m hm=>?_) (fun b u e=>?_) I.bare
 ·have e:b=it:=by simpa using hb
  subst e;exact⟨h1,hL,h2,h3⟩
 ·obtain⟨o,es,ep,ho,r⟩:=hm;exact⟨o,es,ep,k _ o (Ne.symm hL) ho,r⟩
 ·refine(I.hok b u e).stay (fun c v hc q=>k c v ?_ q) (fun _ q=>q) fun _ _ q=>q;rcases hc with z|z
  ·rw[z];exact nit b u e
  ·exact nit c _ z
theorem Inv.tok(I:Inv X pins σ H s)(t:Nat):Inv X pins σ H {s with toks:=t}:=I.un (h':=s.heap) (t':=t) Un.refl I.hok
theorem Inv.kept{t':Nat}(I:Inv X pins σ H s)(k:∀ b u,s.heap.get? b=some u→h'.get? b=some u):Inv X pins σ H {s with heap:=h',toks:=t'}:=I.un (Un.kept k) (I.hok.kept k)
theorem Inv.laid{a:Addr}{o:HO}{t':Nat}(I:Inv X pins σ H s)(k:∀ b u,s.heap.get? b=some u→h'.get? b=some u)(hp:s.heap.objs.size≤a)(new:ObjOk X.prog X.w (upd H a o) h' a o) :
  Inv X pins σ (upd H a o) {s with heap:=h',toks:=t'}:=I.un (Un.laid k hp (I.hok.fresh hp)) (I.hok.laid k hp new)
theorem Inv.write{x e:Addr}{o:HO}{t':Nat}(I:Inv X pins σ H s)(mu:Mut (H x))(he:e=x∨H e=some (.own x))(k:∀ b u,b≠e→s.heap.get? b=some u→h'.get? b=some u)(heo:∃ u,h'.get? e=some u)
  (new:ObjOk X.prog X.w (upd H x o) h' x o):Inv X pins σ (upd H x o) {s with heap:=h',toks:=t'}:=I.un (Un.write mu he k heo) (I.hok.write mu he k heo new)
theorem Inv.weak{σ':List (Option V)}(I:Inv X pins σ H s)(hl:σ'.length=σ.length)(w:∀ (i:Nat) v,σ'[i]?=some (some v)→σ[i]?=some (some v)):Inv X pins σ' H s :=
 ⟨I.ok,I.os,I.bare,I.base,let ⟨m,hn,hl'⟩:=I.loc;⟨m,hn,fun i x v e1 e2 e3=>hl' i x v e1 (w i v e2) e3⟩,I.cell,I.free,I.freeC,I.pin,I.hok,hl.trans I.len⟩
theorem Inv.pins_of{pins':List (Addr×Obj)}(I:Inv X pins σ H s)(h:∀ p∈pins',s.heap.get? p.1=some p.2∧H p.1=none∧p.1≠X.env.locals∧p.1∉X.fs∧∀ v,p.2.data≠.cell v):Inv X pins' σ H s :=
 ⟨I.ok,I.os,I.bare,I.base,I.loc,I.cell,I.free,I.freeC,fun p hp=>(List.mem_append.mp hp).elim (fun z=>I.pin p (List.mem_append_left _ z)) (h p),I.hok,I.len⟩
theorem W2{N:List Str}(hN:N.Nodup){i j:Nat}{x:Str}(a:N[i]?=some x)(b:N[j]?=some x):i=j:=by obtain⟨h1,e1⟩:=List.getElem?_eq_some_iff.mp a;obtain⟨h2,e2⟩:=List.getElem?_eq_some_iff.mp b;exact(List.getElem_inj hN).mp (e1.trans e2.symm)
theorem XS{M:Model}{A:Around}{E:Value→Shared→Prop}{i:Nat}{x:Str}{v:V}{u:Value}{Q:Unit→Shared→Prop}(I:Inv X pins σ H s)(hN:X.N.Nodup)(hi:X.N[i]?=some x)(hx:Loc X.env.scope x)(r:RelV v u)
  (h:∀ s',Inv X pins (σ.set i (some v)) H s'→(∃ a,Heap.SameBut a s.heap s'.heap∧(a=X.env.locals∨X.env.cells.lookup x=some a))→Q () s') (hf:X.fn x=true∨X.env.scope.names.lookup x=some .local:=by first|exact .inl rfl|exact .inr rfl|assumption):wpAny M A (storeName X.env x u) Q E s:=by
 obtain⟨m,hn,hl⟩:=id I.loc;have hcls:(X.env.scope.kind == .class||(X.env.scope.kind == .module&&X.env.locals != X.env.globals))=false:=by rw[I.ok.kind];rfl
 have hiσ:i<σ.length:=by rw[I.len];exact(List.getElem?_eq_some_iff.mp hi).1
 have cne:=I.cne;have tracked:∀ {a:Addr}{h':Heap},(∃ o,s.heap.get? a=some o∧H a=none)→Heap.SameBut a s.heap h'→HOk X.prog X.w H h':=fun {a h'} ha hs b ob e=>by
  obtain⟨_,_,hfree⟩:=ha;refine(I.hok b ob e).stay (fun c w' hc q=>(hs.2 c ?_).trans q) (fun _ q=>q) fun _ _ q=>q;rintro rfl;rcases hc with rfl|hc
  ·rw[hfree]at e;cases e
  ·rw[hfree]at hc;cases hc
 rcases hx with hk|hk
 ·refine wpAny_storeName_local hk hn (fun h' hn' hs=>?_) hcls;obtain⟨oL,_,_,hoL,_⟩:=id hn;refine h _ ⟨I.ok,I.os,I.bare,⟨fun b o e n hb hx=>?_,fun b o e n hb hx=>?_,I.base.free,fun b o e hx=>?_,I.base.tups,I.base.frzs,I.base.tbls⟩,⟨_,hn',fun j y v' e1 e2 e3=>?_⟩,fun y c e=>?_,I.free,I.freeC,fun p hp=>?_,tracked ⟨oL,hoL,I.free⟩ hs,by simpa using I.len⟩ ⟨_,hs,.inl rfl⟩
  ·exact(hs.2 b (Nat.ne_of_lt (Nat.lt_of_lt_of_le (Heap.lt_size e) I.ok.above))).trans (I.base.keep b o e n hb hx)
  ·obtain⟨sl,e1⟩:=I.base.slot b o e n hb hx;exact⟨sl,(hs.2 b (Nat.ne_of_lt (Nat.lt_of_lt_of_le (Heap.lt_size e) I.ok.above))).trans e1⟩
  ·obtain⟨o',e1⟩:=I.base.there b o e hx;exact⟨o',(hs.2 b (Nat.ne_of_lt (Nat.lt_of_lt_of_le (Heap.lt_size e) I.ok.above))).trans e1⟩
  ·by_cases hj:j=i
   ·subst hj;rw[hi]at e1;cases e1;rw[List.getElem?_set_self hiσ]at e2;cases e2;exact⟨u,r,.inl ⟨hk,by simp⟩⟩
   ·rw[List.getElem?_set_ne (Ne.symm hj)]at e2;obtain⟨u',r',q⟩:=hl j y v' e1 e2 e3;refine⟨u',r',?_⟩;rcases q with⟨k,e⟩|⟨k,c,e,z⟩
    ·refine .inl ⟨k,?_⟩;have:y≠x:=fun e=>hj (W2 hN e1 (e▸hi));simp[this,e]
    ·exact .inr ⟨k,c,e,z.sameBut hs (cne y c e)⟩
  ·obtain⟨w',z⟩:=I.cell y c e;exact⟨w',z.sameBut hs (cne y c e)⟩
  ·obtain⟨e,n,ne,nf,d⟩:=I.pin p hp;exact⟨(hs.2 p.1 ne).trans e,n,ne,nf,d⟩
 ·have hfn:X.fn x=true:=by
   rcases hf with z|z
   ·exact z
   ·rw[z]at hk;cases hk
  obtain⟨c,hc⟩:=I.ok.has x (.inl hk);obtain⟨w',z⟩:=I.cell x c hc;refine wpAny_storeName_cell I.ok.kind hk hc z (fun h' hc' hs=>?_);obtain⟨oc,hoc,hocd⟩:=id z;refine h {s with heap:=h'} ⟨I.ok,I.os,I.bare,⟨fun b o e n hb hx=>?_,fun b o e n hb hx=>?_,I.base.free,fun b o e hx=>?_,I.base.tups,I.base.frzs,I.base.tbls⟩,⟨m,hn.sameBut hs (Ne.symm (cne x c hc)),fun j y v' e1 e2 e3=>?_⟩,fun y c' e=>?_,I.free,I.freeC,fun p hp=>?_,tracked ⟨oc,hoc,I.freeC x c hc⟩ hs,by simpa using I.len⟩ ⟨c,hs,.inr hc⟩
  ·exact(hs.2 b (Nat.ne_of_lt (Nat.lt_of_lt_of_le (Heap.lt_size e) (I.ok.cab x c hfn hc)))).trans (I.base.keep b o e n hb hx)
  ·obtain⟨sl,e1⟩:=I.base.slot b o e n hb hx;exact⟨sl,(hs.2 b (Nat.ne_of_lt (Nat.lt_of_lt_of_le (Heap.lt_size e) (I.ok.cab x c hfn hc)))).trans e1⟩
  ·obtain⟨o',e1⟩:=I.base.there b o e hx;exact⟨o',(hs.2 b (Nat.ne_of_lt (Nat.lt_of_lt_of_le (Heap.lt_size e) (I.ok.cab x c hfn hc)))).trans e1⟩
  ·by_cases hj:j=i
   ·subst hj;rw[hi]at e1;cases e1;rw[List.getElem?_set_self hiσ]at e2;cases e2;exact⟨u,r,.inr ⟨.inl hk,c,hc,hc'⟩⟩
   ·rw[List.getElem?_set_ne (Ne.symm hj)]at e2;obtain⟨u',r',q⟩:=hl j y v' e1 e2 e3;refine⟨u',r',?_⟩;rcases q with q|⟨k,c',e,z'⟩
    ·exact .inl q
    ·refine .inr ⟨k,c',e,z'.sameBut hs ?_⟩;rintro rfl;exact hj (W2 hN e1 (I.ok.inj _ _ _ e hc▸hi))
  ·by_cases hcc:c'=c
   ·subst hcc;exact⟨_,hc'⟩
   ·obtain⟨w2,z2⟩:=I.cell y c' e;exact⟨w2,z2.sameBut hs hcc⟩
  ·obtain⟨e,n,ne,nf,d⟩:=I.pin p hp;refine⟨(hs.2 p.1 ?_).trans e,n,ne,nf,d⟩;intro q;rw[q,hoc]at e;have q':oc=p.2:=Option.some.inj e;exact d w' (by rw[←q'];exact hocd)
theorem Oj{M:Model}{A:Around}{E:Value→Shared→Prop}{i:Nat}{x:Str}{v:V}{u:Value}{Q:Unit→Shared→Prop}(I:Inv X pins σ H s)(hN:X.N.Nodup)(hi:X.N[i]?=some x)(hx:Loc X.env.scope x)(r:RelV v u)
  (h:∀ s',Inv X pins (σ.set i (some v)) H s'→Q () s') (hf:X.fn x=true∨X.env.scope.names.lookup x=some .local:=by first|exact .inl rfl|exact .inr rfl|assumption):wpAny M A (storeName X.env x u) Q E s :=
 XS I hN hi hx r (fun s' I' _=>h s' I') hf
theorem Inv.call'{s':Shared}{ch:List Addr}(I:Inv X pins σ H s)(ho:s'.os=s.os)(u:Un (frs X.stack) ch H H' s.heap s'.heap)(hok:HOk X.prog X.w H' s'.heap)(hg:AllBare s'.gens)
  (hch:∀ b∈ch,(b∈X.ex∨X.s₀.heap.objs.size≤b)∧b≠X.env.locals∧(∀ x c,X.env.cells.lookup x=some c→c≠b)∧∀ p∈X.pn++pins,p.1≠b):Inv X pins σ H' s':=by
 obtain⟨h',g',d',t',o'⟩:=s';have e:o'=s.os:=ho;subst e;exact I.call (g':=g') (t':=t') (d':=d') u hok hg hch
end
abbrev XK:=Value→Option Addr→Hp→Prop
abbrev St:=List (Option V)
abbrev VK:=V→Hp→Prop
abbrev TE:=St→Hp→VK→Prop
abbrev TT:=St→Hp→(Bool→Hp→Prop)→Prop
abbrev TA:=St→Hp→(List V→Hp→Prop)→Prop
structure Ends where
 nx:St→Hp→Prop
 rt:VK
 bk:St→Hp→Prop:=fun _ _=>False
 ct:St→Hp→Prop:=fun _ _=>False
abbrev TS:=Ends→St→Hp→Prop
def EP (X:Cx) (pins:List (Addr×Obj)) (σ:St) (Q:VK) (u:Value) (s':Shared):Prop:=∃ v H',Inv X pins σ H' s'∧RelV v u∧Q v H'
def TP (X:Cx) (pins:List (Addr×Obj)) (σ:St) (Q:Bool→Hp→Prop) (b:Bool) (s':Shared):Prop:=∃ H',Inv X pins σ H' s'∧Q b H'
def AP (X:Cx) (pins:List (Addr×Obj)) (σ:St) (Q:List V→Hp→Prop) (us:List Value) (s':Shared):Prop:=∃ vs H',Inv X pins σ H' s'∧Vals vs us∧Q vs H'
def SP (X:Cx) (pins:List (Addr×Obj)) (D:Ends) (f:Flow) (s':Shared):Prop :=
 match f with
 |.next=>∃ σ' H',Inv X pins σ' H' s'∧D.nx σ' H'
 |.brk=>∃ σ' H',Inv X pins σ' H' s'∧D.bk σ' H'
 |.cont=>∃ σ' H',Inv X pins σ' H' s'∧D.ct σ' H'
 |.ret u=>∃ v σ' H',Inv X pins σ' H' s'∧RelV v u∧D.rt v H'
def PE (X:Cx) (e:Expr) (t:TE):Prop :=
 ∀ (pins:List (Addr×Obj)) (s:Shared) (σ:St) (H:Hp) (Q:VK),Inv X pins σ H s→t σ H Q→wpAny (model X.prog X.w) X.A (eval e X.env) (EP X pins σ Q) X.xe s
def PT (X:Cx) (e:Expr) (t:TT):Prop :=
 ∀ (pins:List (Addr×Obj)) (s:Shared) (σ:St) (H:Hp) (Q:Bool→Hp→Prop),Inv X pins σ H s→t σ H Q→wpAny (model X.prog X.w) X.A (isTrue e X.env (eval e X.env)) (TP X pins σ Q) X.xe s
def PW (X:Cx) (e:Expr) (t:TT):Prop :=
 ∀ (whole:Sem Value) (pins:List (Addr×Obj)) (s:Shared) (σ:St) (H:Hp) (Q:Bool→Hp→Prop),Inv X pins σ H s→t σ H Q→wpAny (model X.prog X.w) X.A (isTrue e X.env whole) (TP X pins σ Q) X.xe s
theorem PW.pt{X:Cx}{e:Expr}{t:TT}(h:PW X e t):PT X e t:=h _
def PA (X:Cx) (es:List Expr) (t:TA):Prop :=
 ∀ (pos:Pos) (pins:List (Addr×Obj)) (s:Shared) (σ:St) (H:Hp) (Q:List V→Hp→Prop),Inv X pins σ H s→t σ H Q→wpAny (model X.prog X.w) X.A (spliced (backTo pos (starEach es X.env))) (AP X pins σ Q) X.xe s
def PS (X:Cx) (st:Stmt) (t:TS):Prop :=
 ∀ (pins:List (Addr×Obj)) (s:Shared) (σ:St) (H:Hp) (D:Ends),Inv X pins σ H s→t D σ H→wpAny (model X.prog X.w) X.A (exec st X.env) (SP X pins D) X.xe s
def PSs (X:Cx) (st:List Stmt) (t:TS):Prop :=
 ∀ (pins:List (Addr×Obj)) (s:Shared) (σ:St) (H:Hp) (D:Ends),Inv X pins σ H s→t D σ H→wpAny (model X.prog X.w) X.A (execs st X.env) (SP X pins D) X.xe s
theorem thn{α:Type}{t:Sem α}{Q Q':α→Shared→Prop}{M:Model}{A:Around}{E:Value→Shared→Prop}{s:Shared}(h:wpAny M A t Q E s)(hQ:∀ a s,Q a s→Q' a s):wpAny M A t Q' E s:=wpAny_mono h hQ fun _ _ x=>x
end L2
namespace L2
open PySem PySem.Spec PyProof.Rows
section
variable {X:Cx}
theorem bin{a b:Expr}{ta tb:TE}(ha:PE X a ta)(hb:PE X b tb){pins:List (Addr×Obj)}{s:Shared}{σ:St}{H:Hp}{R:V→V→Hp→Prop}(I:Inv X pins σ H s)(h:ta σ H fun x H1=>tb σ H1 fun y H2=>R x y H2)
  {α:Type}{Q:α→Shared→Prop}{f:Value→Value→Sem α}
  (hf:∀ v u s2 x y H2,Inv X pins σ H2 s2→RelV x v→RelV y u→R x y H2→wpAny (model X.prog X.w) X.A (f v u) Q X.xe s2) :
  wpAny (model X.prog X.w) X.A (eval a X.env) (fun v s₁=>wpAny (model X.prog X.w) X.A (eval b X.env) (fun u s₂=>wpAny (model X.prog X.w) X.A (f v u) Q X.xe s₂) X.xe s₁) X.xe s:=by
 refine thn (ha pins s σ H _ I h) fun v s1 ⟨x,H1,I1,r1,q1⟩=>?_;refine thn (hb pins s1 σ H1 _ I1 q1) fun u s2 ⟨y,H2,I2,r2,q2⟩=>?_;exact hf v u s2 x y H2 I2 r1 r2 q2
def DI (i:Nat):TE:=fun σ H Q=>∃ v,σ[i]?=some (some v)∧Q v H
def tC (v:V):TE:=fun _ H Q=>Q v H
theorem NX {i:Nat}{x:Str}{pos:Pos}(hN:X.N[i]?=some x) (hv:Vis X.env.scope x) (hd:(x==("__debug__" : Str))=false:=by decide) (hcd:(x==("__classdict__" : Str))=false:=by decide):PE X (.Name x pos) (DI i):=by
 intro pins s σ H Q I h;obtain⟨v,e,h⟩:=h;obtain⟨m,hn,hl⟩:=I.loc;obtain⟨u,r,l⟩:=hl i x v hN e hv;have fin:EP X pins σ Q u s:=⟨v,H,I,r,h⟩
 rcases l with⟨hk,hm⟩|⟨hk,c,hc,hcell⟩
 ·exact wpAny_Name (wpAny_loadName_local I.ok.kind hk hn hm fin) hd
 ·rcases hk with hk|hk
  ·exact wpAny_Name (wpAny_loadName_cell I.ok.kind hk hc hcell fin) hd
  ·exact wpAny_Name (wpAny_loadName_free I.ok.kind hk hc hcell fin hcd) hd
theorem A6{i j pos}:PE X (.Constant (.int i) j pos) (tC (.int i)):=fun _ _ _ H _ I h=>wpAny_Constant_int ⟨.int i,H,I.tok _,⟨_,rfl⟩,h⟩
theorem DJ{b j pos}:PE X (.Constant (.bool b) j pos) (tC (.bl b)):=fun _ _ _ H _ I h=>Constant_bool ⟨.bl b,H,I,rfl,h⟩
theorem Aq{j pos}:PE X (.Constant .none j pos) (tC .non):=fun _ _ _ H _ I h=>Constant_none ⟨.non,H,I,rfl,h⟩
theorem pe_str{x j pos}:PE X (.Constant (.str x) j pos) (tC (.str x)):=fun _ _ _ H _ I h=>Calls.Constant_str ⟨.str x,H,I.tok _,⟨_,rfl⟩,h⟩
def Gl (X:Cx) (x:Str):Prop:=X.env.kindOf x=some .globalImplicit
theorem WH{E:Value→Shared→Prop}{pins:List (Addr×Obj)}{s:Shared}{σ:St}{H:Hp}{x:Str}{u:Value}{pos:Pos}{Q:Value→Shared→Prop}(I:Inv X pins σ H s)(hg:Gl X x)(hm:X.mg x=some u)(h:Q u s)
  (hd:(x==("__debug__" : Str))=false:=by decide):wpAny (model X.prog X.w) X.A (eval (.Name x pos) X.env) Q E s :=
 Calls.Name_function_global I.ok.kind hg (Calls.loadGlobal_global (by rw[I.ok.glob];exact I.mod.glob.keeps I.bk) hm h) hd
theorem YK{E:Value→Shared→Prop}{pins:List (Addr×Obj)}{s:Shared}{σ:St}{H:Hp}{x:Str}{u:Value}{pos:Pos}{Q:Value→Shared→Prop}(I:Inv X pins σ H s)(hg:Gl X x)(hm:X.mg x=none)(hv:bootBuiltins x=some u)(h:Q u s)
  (hn:x≠"__name__":=by decide) (hd:(x==("__debug__" : Str))=false:=by decide):wpAny (model X.prog X.w) X.A (eval (.Name x pos) X.env) Q E s:=by
 obtain⟨mb,h1,h2⟩:=I.mod.blt;exact Calls.Name_function_global I.ok.kind hg (Calls.loadGlobal_builtin (by rw[I.ok.glob];exact I.mod.glob.keeps I.bk) hm (by rw[I.ok.blt];exact h1.keeps I.bk) ((h2 x hn).trans hv) h) hd
theorem O8 {x:Str}{v:V}{u:Value}{pos:Pos}(hg:Gl X x) (hm:X.mg x=some u) (r:RelV v u) (hd:(x==("__debug__" : Str))=false:=by decide):PE X (.Name x pos) (tC v) :=
 fun _ _ _ H _ I h=>WH I hg hm ⟨v,H,I,r,h⟩ hd
theorem OZ {x:Str}{v:V}{u:Value}{pos:Pos}(hg:Gl X x) (hm:X.mg x=none) (hv:bootBuiltins x=some u) (r:RelV v u) (hn:x≠"__name__":=by decide) (hd:(x==("__debug__" : Str))=false:=by decide):PE X (.Name x pos) (tC v) :=
 fun _ _ _ H _ I h=>YK I hg hm hv ⟨v,H,I,r,h⟩ hn hd
def t2I (ta tb:TE) (k:Int→Int→Hp→Prop):St→Hp→Prop:=fun σ H=>ta σ H fun x H1=>tb σ H1 fun y H2=>∃ i j,x=.int i∧y=.int j∧k i j H2
def Hh (ta tb:TE):TE:=fun σ H Q=>t2I ta tb (fun i j H2=>Q (.int (i+j)) H2) σ H
def Hi (ta tb:TE):TE:=fun σ H Q=>t2I ta tb (fun i j H2=>Q (.int (i - j)) H2) σ H
def HC (ta tb:TE):TE:=fun σ H Q=>t2I ta tb (fun i j H2=>(-(2 ^ 64)<i∧i<2 ^ 64)∧Q (.int (i*j)) H2) σ H
variable {a b:Expr}{ta tb:TE}{pos:Pos}
def PC (X:Cx) (op:CmpOp) (a b:Expr) (t:TE):Prop :=
 ∀ (pins:List (Addr×Obj)) (s:Shared) (σ:St) (H:Hp) (Q:VK),Inv X pins σ H s→t σ H Q→
  wpAny (model X.prog X.w) X.A (eval a X.env) (fun v s₁=>wpAny (model X.prog X.w) X.A (eval b X.env) (fun u s₂=>wpAny (model X.prog X.w) X.A (compareOp op v u) (EP X pins σ Q) X.xe s₂) X.xe s₁) X.xe s
theorem Jh(b:Expr){op:CmpOp}(h:op≠.In)(h2:op≠.NotIn):behindInMarks op b=false:=by
 have e1:(op==CmpOp.In)=false:=by cases op<;>first|rfl|exact absurd rfl h
 have e2:(op==CmpOp.NotIn)=false:=by cases op<;>first|rfl|exact absurd rfl h2
 cases b<;>simp[behindInMarks,e1,e2]
def KQ (p:Int→Int→Bool) (ta tb:TE):TE:=fun σ H Q=>t2I ta tb (fun i j H2=>Q (.bl (p i j)) H2) σ H
abbrev tLt:TE→TE→TE:=KQ fun i j=>decide (i<j)
abbrev tLe:TE→TE→TE:=KQ fun i j=>decide (i≤j)
abbrev tGt:TE→TE→TE:=KQ fun i j=>decide (j<i)
abbrev tGe:TE→TE→TE:=KQ fun i j=>decide (j≤i)
abbrev Hx:TE→TE→TE:=KQ fun i j=>decide (i=j)
abbrev Hf:TE→TE→TE:=KQ fun i j=>!decide (i=j)
def ES (ta:TE):TE:=fun σ H Q=>ta σ H fun x H1=>Q (.bl (decide (x=.non))) H1
def CC (ta:TE):TE:=fun σ H Q=>ta σ H fun x H1=>Q (.bl (!decide (x=.non))) H1
theorem RelV.none_iff{x:V}{v:Value}(r:RelV x v):(v==Value.none)=decide (x=.non):=by
 cases x with
 |non=>cases r;rfl
 |bl _=>cases r;rfl
 |int _=>obtain⟨t,rfl⟩:=r;rfl
 |str _=>obtain⟨t,rfl⟩:=r;rfl
 |byt _=>obtain⟨t,rfl⟩:=r;rfl
 |flt _=>obtain⟨t,rfl⟩:=r;rfl
 |ref _=>cases r;rfl
 |ty _=>cases r;rfl
theorem N9{j pos'}(ha:PE X a ta):PC X .Is a (.Constant .none j pos') (ES ta):=by intro pins s σ H Q I h;refine thn (ha pins s σ H _ I h) fun v s1 ⟨x,H1,I1,r1,q1⟩=>?_;exact Constant_none (is_none_gen ⟨.bl _,H1,I1,by rw[r1.none_iff];rfl,q1⟩)
theorem Kt{j pos'}(ha:PE X a ta):PC X .IsNot a (.Constant .none j pos') (CC ta):=by intro pins s σ H Q I h;refine thn (ha pins s σ H _ I h) fun v s1 ⟨x,H1,I1,r1,q1⟩=>?_;exact Constant_none (isnot_none_gen ⟨.bl _,H1,I1,by rw[r1.none_iff];rfl,q1⟩)
def tB (t:TE):TT:=fun σ H Q=>t σ H fun x H1=>∃ c,x=.bl c∧Q c H1
theorem MF{op:CmpOp}{t:TE}(h:PC X op a b t)(h1:behindInMarks op b=false:=by first|exact Jh _ (by decide) (by decide)|rfl):PE X (.Compare a [op] [b] pos) t:=fun pins s σ H Q I hw=>wpAny_Compare1 (h pins s σ H Q I hw) h1
theorem MO{op:CmpOp}{t:TE}(h:PC X op a b t)(h1:behindInMarks op b=false:=by first|exact Jh _ (by decide) (by decide)|rfl):PT X (.Compare a [op] [b] pos) (tB t):=by intro pins s σ H Q I hw;refine wpAny_isTrue_Compare1 (thn (h pins s σ H _ I hw) fun v s1 h1=>thn h1 fun u s2 h2=>thn h2 fun c s3 ⟨x,H1,I1,r1,q1⟩=>?_) h1;obtain⟨d,rfl,q⟩:=q1;cases r1;exact wpAny_truthy_bool ⟨H1,I1,q⟩
variable {tA tB':TT}{rest:List Expr}
def Ge (t u:TT):TT:=fun σ H Q=>t σ H fun c H1=>if c=true then u σ H1 Q else Q false H1
def tOr (t u:TT):TT:=fun σ H Q=>t σ H fun c H1=>if c=true then Q true H1 else u σ H1 Q
def FD (t:TT):TT:=fun σ H Q=>t σ H fun c H1=>Q (!c) H1
theorem OV(ha:PT X a tA):PW X (.BoolOp .And [a] pos) tA:=by
 intro wh pins s σ H Q I h;refine isTrue_and (thn (ha pins s σ H Q I h) fun c s1 e=>?_);cases c with
 |true=>exact isTrue_and_nil e
 |false=>exact e
theorem Cg(ha:PT X a tA):PW X (.BoolOp .Or [a] pos) tA:=by
 intro wh pins s σ H Q I h;refine isTrue_or (thn (ha pins s σ H Q I h) fun c s1 e=>?_);cases c with
 |false=>exact isTrue_or_nil e
 |true=>exact e
theorem BZ(ha:PT X a tA)(hb:PW X (.BoolOp .And (b::rest) pos) tB'):PW X (.BoolOp .And (a::b::rest) pos) (Ge tA tB'):=by
 intro wh pins s σ H Q I h;refine isTrue_and (thn (ha pins s σ H _ I h) fun c s1 ⟨H1,I1,q1⟩=>?_);cases c with
 |true=>exact hb wh pins s1 σ H1 Q I1 q1
 |false=>exact⟨H1,I1,q1⟩
theorem CN(ha:PT X a tA)(hb:PW X (.BoolOp .Or (b::rest) pos) tB'):PW X (.BoolOp .Or (a::b::rest) pos) (tOr tA tB'):=by
 intro wh pins s σ H Q I h;refine isTrue_or (thn (ha pins s σ H _ I h) fun c s1 ⟨H1,I1,q1⟩=>?_);cases c with
 |true=>exact⟨H1,I1,q1⟩
 |false=>exact hb wh pins s1 σ H1 Q I1 q1
theorem BW(ha:PT X a tA):PT X (.UnaryOp .Not a pos) (FD tA):=by intro pins s σ H Q I h;exact isTrue_not (ha pins s σ H (fun c H1=>Q (!c) H1) I h)
def Dp (ta tb:TE):TE:=fun σ H Q=>ta σ H fun x H1=>∃ c,x=.bl c∧if c=true then tb σ H1 Q else Q (.bl false) H1
def Fc (ta tb:TE):TE:=fun σ H Q=>ta σ H fun x H1=>∃ c,x=.bl c∧if c=true then Q (.bl true) H1 else tb σ H1 Q
def Dy (ta:TE):TE:=fun σ H Q=>ta σ H fun x H1=>∃ c,x=.bl c∧Q (.bl (!c)) H1
theorem NO{op}{t:TE}(h:PE X a t):PE X (.BoolOp op [a] pos) t:=fun pins s σ H Q I hw=>BoolOp_one (h pins s σ H Q I hw)
theorem B6(ha:PE X a ta)(hb:PE X (.BoolOp .And (b::rest) pos) tb):PE X (.BoolOp .And (a::b::rest) pos) (Dp ta tb):=by
 intro pins s σ H Q I h;refine BoolOp_and (thn (ha pins s σ H _ I h) fun v s1 ⟨x,H1,I1,r1,q1⟩=>?_);obtain⟨c,rfl,q1⟩:=q1;cases r1;refine wpAny_truthy_bool ?_;cases c with
 |true=>exact hb pins s1 σ H1 Q I1 q1
 |false=>exact⟨.bl false,H1,I1,rfl,q1⟩
theorem Dq(ha:PE X a ta)(hb:PE X (.BoolOp .Or (b::rest) pos) tb):PE X (.BoolOp .Or (a::b::rest) pos) (Fc ta tb):=by
 intro pins s σ H Q I h;refine BoolOp_or (thn (ha pins s σ H _ I h) fun v s1 ⟨x,H1,I1,r1,q1⟩=>?_);obtain⟨c,rfl,q1⟩:=q1;cases r1;refine wpAny_truthy_bool ?_;cases c with
 |false=>exact hb pins s1 σ H1 Q I1 q1
 |true=>exact⟨.bl true,H1,I1,rfl,q1⟩
theorem Bs(ha:PE X a ta):PE X (.UnaryOp .Not a pos) (Dy ta):=by intro pins s σ H Q I h;refine UnaryOp_ (thn (ha pins s σ H _ I h) fun v s1 ⟨x,H1,I1,r1,q1⟩=>?_);obtain⟨c,rfl,q1⟩:=q1;cases r1;exact not_of (wpAny_truthy_bool ⟨.bl (!c),H1,I1,rfl,q1⟩)
def tIf (t:TT) (ta tb:TE):TE:=fun σ H Q=>t σ H fun c H1=>if c=true then ta σ H1 Q else tb σ H1 Q
end
end L2
namespace L2
open PySem PySem.Spec PyProof.Rows
def SqL (K:PySem.W.Frag) (H:Hp) (a:Addr) (xs:List V):Prop :=
 Rd H a (.lst xs)∨
  ∃ (o:Obj) (its:Array Value) (n:Nat),K.lookup a=some o∧o.cls=.type "list"∧o.dict=none∧o.data=.seq its n∧its.size≤sizeLine∧Vals xs its.toList
def SqT (K:PySem.W.Frag) (H:Hp) (a:Addr) (xs:List V):Prop :=
 Rd H a (.tup xs)∨
  ∃ (o:Obj) (its:Array Value) (n:Nat),K.lookup a=some o∧o.cls=.type "tuple"∧o.data=.seq its n∧its.size≤sizeLine∧Vals xs its.toList
def absV:Value→Option V
 |.none=>some .non
 |.bool b=>some (.bl b)
 |.int i _=>some (.int i)
 |.str x _=>some (.str x)
 |.bytes b _=>some (.byt b)
 |.float b _=>some (.flt b)
 |.ref a=>some (.ref a)
 |.type n=>some (.ty n)
 |_=>none
theorem RelV.abs{x:V}{u:Value}(r:RelV x u):absV u=some x:=by
 cases x with
 |non=>cases r;rfl
 |bl _=>cases r;rfl
 |int _=>obtain⟨t,rfl⟩:=r;rfl
 |str _=>obtain⟨t,rfl⟩:=r;rfl
 |byt _=>obtain⟨t,rfl⟩:=r;rfl
 |flt _=>obtain⟨t,rfl⟩:=r;rfl
 |ref _=>cases r;rfl
 |ty _=>cases r;rfl
theorem RelV.inj{x y:V}{u:Value}(r:RelV x u)(q:RelV y u):x=y:=Option.some.inj (r.abs.symm.trans q.abs)
theorem Vals.inj:∀ {xs ys:List V}{us:List Value},Vals xs us→Vals ys us→xs=ys
 |_,_,_,.nil,.nil=>rfl
 |_,_,_,.cons r t,.cons r' t'=>by rw[r.inj r',Vals.inj t t']
section
variable {X:Cx}{pins:List (Addr×Obj)}{σ:St}{H:Hp}{s:Shared}{a:Addr}{xs ys:List V}
theorem SqL.of{K:PySem.W.Frag}(h:H a=some (.lst xs)):SqL K H a xs:=.inl (.inl h)
theorem SqT.of{K:PySem.W.Frag}(h:H a=some (.tup xs)):SqT K H a xs:=.inl (.inl h)
theorem Inv.list(I:Inv X pins σ H s)(h:SqL X.K H a xs):∃ its:List Value,Vals xs its∧PlainL s.heap a its.toArray∧xs.length≤sizeLine:=by
 rcases h with h|⟨o,its,n,hk,hc,hd,hs,hz,r⟩
 ·obtain⟨z,its,n,r,e⟩:=h.ok I.hok;exact⟨its,r,⟨_,n,e,rfl,rfl,rfl⟩,z⟩
 ·refine⟨its.toList,r,⟨o,n,I.kIn a o hk,hc,hd,by simpa using hs⟩,?_⟩;have e:=r.length;simp only[Array.length_toList]at e;omega
theorem Inv.tuple(I:Inv X pins σ H s)(h:SqT X.K H a xs):∃ its:List Value,Vals xs its∧IsTup s.heap a its.toArray∧xs.length≤sizeLine:=by
 rcases h with h|⟨o,its,n,hk,hc,hs,hz,r⟩
 ·obtain⟨z,its,r,p⟩:=h.ok I.hok;exact⟨its,r,p,z⟩
 ·refine⟨its.toList,r,⟨o,I.kIn a o hk,hc,n,by simpa using hs⟩,?_⟩;have e:=r.length;simp only[Array.length_toList]at e;omega
theorem Inv.list_inj(I:Inv X pins σ H s)(h:SqL X.K H a xs)(h':SqL X.K H a ys):xs=ys:=by
 obtain⟨its,r,⟨o,n,e,_,_,d⟩,_⟩:=I.list h;obtain⟨its',r',⟨o',n',e',_,_,d'⟩,_⟩:=I.list h';rw[e]at e';cases e';rw[d]at d';injection d' with d1 _;have:its=its':=by simpa using congrArg Array.toList d1
 subst this;exact r.inj r'
theorem Inv.tuple_inj(I:Inv X pins σ H s)(h:SqT X.K H a xs)(h':SqT X.K H a ys):xs=ys:=by
 obtain⟨its,r,⟨o,e,_,n,d⟩,_⟩:=I.tuple h;obtain⟨its',r',⟨o',e',_,n',d'⟩,_⟩:=I.tuple h';rw[e]at e';cases e';rw[d]at d';injection d' with d1 _;have:its=its':=by simpa using congrArg Array.toList d1
 subst this;exact r.inj r'
end
abbrev Cx.wish (X:Cx) (E:Value→Shared→Prop):Cx:={X with xe:=E}
abbrev Cx.nox (X:Cx):Cx:=X.wish fun _ _=>False
theorem Cx.Ok.wish{X:Cx}(ok:X.Ok)(E:Value→Shared→Prop):(X.wish E).Ok :=
 ⟨ok.mod,ok.kind,ok.glob,ok.blt,ok.above,ok.inj,ok.has,ok.cab,ok.hd,ok.frames,ok.stk,ok.exf,ok.bs,ok.bsz,ok.noex,ok.exfs,ok.funs,ok.frf⟩
theorem Cx.Ok.unwish{X:Cx}{E:Value→Shared→Prop}(ok:(X.wish E).Ok):X.Ok :=
 ⟨ok.mod,ok.kind,ok.glob,ok.blt,ok.above,ok.inj,ok.has,ok.cab,ok.hd,ok.frames,ok.stk,ok.exf,ok.bs,ok.bsz,ok.noex,ok.exfs,ok.funs,ok.frf⟩
section
variable {X:Cx}{pins:List (Addr×Obj)}{σ:St}{H:Hp}{s:Shared}{E:Value→Shared→Prop}
theorem Inv.wish(I:Inv X pins σ H s)(E:Value→Shared→Prop):Inv (X.wish E) pins σ H s:=⟨I.ok.wish E,I.os,I.bare,I.base,I.loc,I.cell,I.free,I.freeC,I.pin,I.hok,I.len⟩
theorem Inv.unwish(I:Inv (X.wish E) pins σ H s):Inv X pins σ H s:=⟨I.ok.unwish,I.os,I.bare,I.base,I.loc,I.cell,I.free,I.freeC,I.pin,I.hok,I.len⟩
theorem SP.unwish{D:Ends}{f:Flow}{s':Shared}(h:SP (X.wish E) pins D f s'):SP X pins D f s':=by
 cases f with
 |next=>obtain⟨σ',H',I,q⟩:=h;exact⟨σ',H',I.unwish,q⟩
 |brk=>obtain⟨σ',H',I,q⟩:=h;exact⟨σ',H',I.unwish,q⟩
 |cont=>obtain⟨σ',H',I,q⟩:=h;exact⟨σ',H',I.unwish,q⟩
 |ret u=>obtain⟨v,σ',H',I,r,q⟩:=h;exact⟨v,σ',H',I.unwish,r,q⟩
theorem PE.nox{e:Expr}{t:TE}(h:PE X.nox e t):PE X e t:=fun pins s σ H Q I hw =>
 wpAny_mono (h pins s σ H Q (I.wish _) hw) (fun _ _ ⟨v,H',I',r,q⟩=>⟨v,H',I'.unwish,r,q⟩) fun _ _ z=>False.elim z
theorem PT.nox{e:Expr}{t:TT}(h:PT X.nox e t):PT X e t:=fun pins s σ H Q I hw =>
 wpAny_mono (h pins s σ H Q (I.wish _) hw) (fun _ _ ⟨H',I',q⟩=>⟨H',I'.unwish,q⟩) fun _ _ z=>False.elim z
theorem PSs.nox{st:List Stmt}{t:TS}(h:PSs X.nox st t):PSs X st t:=fun pins s σ H D I hw =>
 wpAny_mono (h pins s σ H D (I.wish _) hw) (fun _ _ q=>q.unwish) fun _ _ z=>False.elim z
end
section
variable {X:Cx}{st:Stmt}{rest:List Stmt}{t u:TS}{e:Expr}{te:TE}{pos:Pos}
def DY:TS:=fun D σ H=>D.nx σ H
def FR (t u:TS):TS:=fun D σ H=>t {D with nx:=u D} σ H
theorem pss_nil:PSs X [] DY:=fun _ _ σ H _ I h=>wpAny_execs_nil ⟨σ,H,I,h⟩
theorem Og(h1:PS X st t)(h2:PSs X rest u):PSs X (st::rest) (FR t u):=by
 intro pins s σ H D I h;refine wpAny_execs_cons (thn (h1 pins s σ H {D with nx:=u D} I h) fun f s1 q=>?_);cases f with
 |next =>obtain⟨σ',H',I',q⟩:=q;exact h2 pins s1 σ' H' D I' q
 |ret v=>exact q
 |brk=>exact q
 |cont=>exact q
def EW:TS:=fun D σ H=>D.bk σ H
def Gz:TS:=fun D σ H=>D.ct σ H
def GF (te:TE):TS:=fun D σ H=>te σ H fun _ H1=>D.nx σ H1
def E4 (te:TE):TS:=fun D σ H=>te σ H D.rt
theorem A3(he:PE X e te):PS X (.Return (some e) pos) (E4 te):=by intro pins s σ H D I h;exact wpAny_Return_some (thn (he pins s σ H _ I h) fun v s1 ⟨x,H1,I1,r1,q1⟩=>⟨x,σ,H1,I1,r1,q1⟩)
def Gu:TS:=fun D _ H=>D.rt .non H
def F8 (c:TT) (t u:TS):TS:=fun D σ H=>c σ H fun b H1=>if b=true then t D σ H1 else u D σ H1
theorem C6{c:Expr}{a b:List Stmt}{tc:TT}(hc:PT X c tc)(ha:PSs X a t)(hb:PSs X b u):PS X (.If c a b pos) (F8 tc t u):=by
 intro pins s σ H D I h;refine wpAny_If (thn (hc pins s σ H _ I h) fun d s1 ⟨H1,I1,q1⟩=>?_);cases d with
 |true=>exact ha pins s1 σ H1 D I1 q1
 |false=>exact hb pins s1 σ H1 D I1 q1
def FP:TS:=fun _ _ _=>False
end
abbrev TG:=V→St→Hp→(St→Hp→Prop)→Prop
abbrev TGs:=List V→St→Hp→(St→Hp→Prop)→Prop
def PG (X:Cx) (target:Expr) (t:TG):Prop :=
 ∀ (pins:List (Addr×Obj)) (s:Shared) (σ:St) (H:Hp) (v:V) (u:Value) (Q:St→Hp→Prop),Inv X pins σ H s→RelV v u→t v σ H Q→
  wpAny (model X.prog X.w) X.A (assign target X.env u) (fun _ s'=>∃ σ' H',Inv X pins σ' H' s'∧Q σ' H') X.xe s
def PGs (X:Cx) (ts:List Expr) (t:TGs):Prop :=
 ∀ (pins:List (Addr×Obj)) (s:Shared) (σ:St) (H:Hp) (vs:List V) (us:List Value) (Q:St→Hp→Prop),Inv X pins σ H s→Vals vs us→t vs σ H Q→
  wpAny (model X.prog X.w) X.A (assignInOrder ((assignEach ts X.env).map (·.2)) us) (fun _ s'=>∃ σ' H',Inv X pins σ' H' s'∧Q σ' H') X.xe s
abbrev OC:=V→V→V→Hp→(Hp→Prop)→Prop
def PSet (X:Cx) (t:OC):Prop :=
 ∀ (pins:List (Addr×Obj)) (s:Shared) (σ:St) (H:Hp) (o i v:V) (ov iv u:Value) (Q:Hp→Prop),Inv X pins σ H s→RelV o ov→RelV i iv→RelV v u→t o i v H Q→
  wpAny (model X.prog X.w) X.A (setItem ov iv u) (fun _ s'=>∃ H',Inv X pins σ H' s'∧Q H') X.xe s
abbrev TIp:=V→V→Hp→VK→Prop
def PIp (X:Cx) (op:Operator) (t:TIp):Prop :=
 ∀ (pins:List (Addr×Obj)) (s:Shared) (σ:St) (H:Hp) (x y:V) (v u:Value) (Q:VK),Inv X pins σ H s→RelV x v→RelV y u→t x y H Q→
  wpAny (model X.prog X.w) X.A (inplaceOp op v u) (EP X pins σ Q) X.xe s
section
variable {X:Cx}{pos:Pos}
def NZ (i:Nat):TG:=fun v σ H Q=>Q (σ.set i (some v)) H
theorem Wn{i:Nat}{x:Str}(hN:X.N.Nodup)(hi:X.N[i]?=some x)(hx:Loc X.env.scope x)(hf:X.fn x=true∨X.env.scope.names.lookup x=some .local:=by first|exact .inl rfl|exact .inr rfl|assumption):PG X (.Name x pos) (NZ i):=by intro pins s σ H v u Q I r h;exact wpAny_assign_Name (Oj I hN hi hx r (fun s' I'=>⟨_,H,I',h⟩) hf)
def Gi:TGs:=fun vs σ H Q=>vs=[]∧Q σ H
def De (t:TG) (u:TGs):TGs:=fun vs σ H Q=>∃ v r,vs=v::r∧t v σ H fun σ' H'=>u r σ' H' Q
theorem pgs_nil:PGs X [] Gi:=by intro pins s σ H vs us Q I r h;obtain⟨e,h⟩:=h;subst e;cases r;exact assignInOrder_nil ⟨σ,H,I,h⟩
theorem M0{e:Expr}{es:List Expr}{t:TG}{u:TGs}(h1:PG X e t)(h2:PGs X es u)
  (hs:(assignEach (e::es) X.env).map (·.2)=assign e X.env::(assignEach es X.env).map (·.2):=by rfl):PGs X (e::es) (De t u):=by
 intro pins s σ H vs us Q I r h;obtain⟨v,vr,e1,h⟩:=h;subst e1;cases r with
 |cons r rr =>rw[hs];refine assignInOrder_cons (thn (h1 pins s σ H _ _ _ I r h) fun _ s1 ⟨σ1,H1,I1,q1⟩=>?_);exact h2 pins s1 σ1 H1 _ _ Q I1 rr q1
def Fm (K:PySem.W.Frag) (n:Nat) (t:TGs):TG:=fun v σ H Q=>∃ a xs,v=.ref a∧SqT K H a xs∧xs.length=n∧t xs σ H Q
theorem Cc{es:List Expr}{k:Nat}{t:TGs}{n:Nat}(hc:X.calm=true)(h:PGs X es t)
  (hn:(assignEach es X.env).length=n:=by rfl) (hst:(assignEach es X.env).findIdx? (·.1)=none:=by rfl):PG X (.Tuple es k pos) (Fm X.K n t):=by
 intro pins s σ H v u Q I r hw;obtain⟨a,xs,e1,hq,hl,hw⟩:=hw;subst e1;cases r;obtain⟨its,rv,ht,hz⟩:=I.tuple hq;refine assign_Tuple_tuple (I.ok.hd hc) ht (by simp[hn,←hl,rv.length]) hst fun h' hx=>?_;have I1:Inv X pins σ H {s with heap:=h'}:=I.kept (t':=s.toks) fun b o e=>hx b o (Nat.ne_of_lt (Heap.lt_size e)) e;exact h pins _ σ H xs _ Q I1 (by simpa using rv) hw
def Cv (to ti:TE) (t:OC):TG:=fun v σ H Q=>to σ H fun o H1=>ti σ H1 fun i H2=>t o i v H2 fun H3=>Q σ H3
theorem A1{o i:Expr}{to ti:TE}{t:OC}(ho:PE X o to)(hi:PE X i ti)(hs:PSet X t)
  (ha:∀ v,assign (.Subscript o i pos) X.env v=(do
    let ov←holding [v] (eval o X.env)
    let iv←holding [v,ov] (eval i X.env)
    standAt pos
    holding [v,ov,iv] (setItem ov iv v)
    release [v,ov,iv] []):=by intro _;rfl):PG X (.Subscript o i pos) (Cv to ti t):=by
 intro pins s σ H v u Q I r h;rw[ha];refine wpAny_bind (wpAny_holding (thn (ho pins s σ H _ I h) fun ov s1 ⟨x,H1,I1,r1,q1⟩=>?_));refine wpAny_bind (wpAny_holding (thn (hi pins s1 σ H1 _ I1 q1) fun iv s2 ⟨y,H2,I2,r2,q2⟩=>?_));refine wpAny_bind (wpAny_standAt (wpAny_bind (wpAny_holding (thn (hs pins s2 σ H2 x y v ov iv u _ I2 r1 r2 r q2) fun _ s3 ⟨H3,I3,q3⟩=>?_))));exact wpAny_release ⟨σ,H3,I3,q3⟩
def Ek (te:TE) (g:TG):TS:=fun D σ H=>te σ H fun x H1=>g x σ H1 D.nx
theorem Mx{tg e:Expr}{te:TE}{g:TG}(he:PE X e te)(hg:PG X tg g)(hs:swapsWithSole [tg] e pos.line X.env=pure false:=by rfl)(hw:swappedStores [tg] e X.env=pure none:=by rfl)
  (h1:(assignEach [tg] X.env).map (·.2)=[assign tg X.env]:=by rfl):PS X (.Assign [tg] e pos) (Ek te g):=by
 intro pins s σ H D I h;refine wpAny_Assign_stores (thn (he pins s σ H _ I h) fun v s1 ⟨x,H1,I1,r1,q1⟩=>?_) hs hw;rw[h1];exact thn (hg pins s1 σ H1 x v _ I1 r1 q1) fun _ s2 q=>q
def HD (i j:Nat) (ta:TA):TS:=fun D σ H=>ta σ H fun vs H1=>∃ v w,vs=[v,w]∧D.nx ((σ.set i (some v)).set j (some w)) H1
def HG (i:Nat) (te:TE) (ti:TIp):TS:=fun D σ H=>∃ x,σ[i]?=some (some x)∧te σ H fun y H1=>ti x y H1 fun z H2=>D.nx (σ.set i (some z)) H2
def GZ (to ti te:TE) (tget:V→V→Hp→VK→Prop) (tip:TIp) (tset:OC):TS:=fun D σ H=>to σ H fun o H1=>ti σ H1 fun i H2=>tget o i H2 fun x H3=>te σ H3 fun y H4=>tip x y H4 fun z H5=>tset o i z H5 fun H6=>D.nx σ H6
def PGet (X:Cx) (t:V→V→Hp→VK→Prop):Prop :=
 ∀ (pins:List (Addr×Obj)) (s:Shared) (σ:St) (H:Hp) (o i:V) (ov iv:Value) (Q:VK),Inv X pins σ H s→RelV o ov→RelV i iv→t o i H Q→
  wpAny (model X.prog X.w) X.A (getItem ov iv) (EP X pins σ Q) X.xe s
def ipI (f:Int→Int→Int):TIp:=fun x y H Q=>∃ i j,x=.int i∧y=.int j∧Q (.int (f i j)) H
end
section
variable {X:Cx}{pos:Pos}
def EZ (c:TT) (tb:TS):TS:=fun D σ H=>∃ W:Nat→St→Hp→Prop,(∃ m,W m σ H)∧∀ m σ H,W m σ H→
 c σ H fun b H1=>if b=true then ∃ N:St→Hp→Prop,(∀ σ' H',N σ' H'→∃ m',m'<m∧W m' σ' H')∧tb {D with nx:=N,ct:=N,bk:=D.nx} σ H1 else D.nx σ H1
end
structure It where
 go:Nat→Hp→Prop
 yld:Nat→Hp→V→Hp→Prop
 stop:Nat→Hp→Prop
def YV (X:Cx) (pins:List (Addr×Obj)) (H:Hp) (b:Addr):Prop :=
 H b=none∧b≠X.env.locals∧b∉X.fs∧(b∈X.ex∨X.s₀.heap.objs.size≤b)∧(∀ x c,X.env.cells.lookup x=some c→c≠b)∧∀ p∈X.pn++pins,p.1≠b
theorem Inv.fpOk{X:Cx}{pins:List (Addr×Obj)}{σ:St}{H H':Hp}{s:Shared}{b:Addr}(I:Inv X pins σ H s)(hb:s.heap.objs.size≤b)(hn:H' b=none):YV X pins H' b:=by
 refine⟨hn,Nat.ne_of_gt (Nat.lt_of_lt_of_le I.lt hb),I.nofs hb,.inr (Nat.le_trans I.sz hb),fun x c e z=>?_,fun p hp z=>?_⟩
 ·obtain⟨v,q⟩:=I.cell x c e;exact absurd (Nat.lt_of_lt_of_le q.lt (by rw[z];exact hb)) (Nat.lt_irrefl _)
 ·exact absurd (Nat.lt_of_lt_of_le (Heap.lt_size (I.pin p hp).1) (by rw[z];exact hb)) (Nat.lt_irrefl _)
structure Turn (P:Program) (w:World) (K:PySem.W.Frag) (tg:Expr) (J:It) (fp:List Addr) (it:Addr) (tn:Nat→Heap→Prop):Prop where
 mem:it∈fp
 obj:∀ i h,tn i h→∀ b∈fp,∃ o,h.get? b=some o∧∀ v,o.data≠.cell v
 keep:∀ i h h',tn i h→(∀ b∈fp,∀ o,h.get? b=some o→h'.get? b=some o)→tn i h'
 item:∀ (X:Cx),X.prog=P→X.w=w→X.K=K→X.calm=true→∀ (i:Nat) (pins:List (Addr×Obj)) (s:Shared) (σ:St) (H:Hp) (E:Value→Shared→Prop),Inv X pins σ H s→(∀ b∈fp,YV X pins H b)→tn i s.heap→J.go i H→
  wpAny (model P w) X.A (pyNext (.ref it)) (fun r s1=>∃ u,r=some u∧
    wpAny (model P w) X.A (letOwnedTupleGo tg (.ref it) u) (fun _ s2=>∃ x H',Inv X pins σ H' s2∧RelV x u∧J.yld i H x H'∧tn (i+1) s2.heap∧∀ b∈fp,H' b=none) E s1) E s
 done:∀ (X:Cx),X.prog=P→X.w=w→X.K=K→X.calm=true→∀ (i:Nat) (pins:List (Addr×Obj)) (s:Shared) (σ:St) (H:Hp) (E:Value→Shared→Prop),Inv X pins σ H s→(∀ b∈fp,YV X pins H b)→tn i s.heap→J.stop i H→
  wpAny (model P w) X.A (pyNext (.ref it)) (fun r s1=>r=none∧Inv X pins σ H s1) E s
 self:∀ (A:Around) (i:Nat) (s:Shared) (Q:Value→Shared→Prop) (E:Value→Shared→Prop),tn i s.heap→Q (.ref it) s→wpAny (model P w) A (pyIter (.ref it)) Q E s
abbrev TI:=St→Hp→(It→Hp→Prop)→Prop
def PIE (X:Cx) (pins:List (Addr×Obj)) (σ:St) (tg:Expr) (R:It→Hp→Prop) (itv:Value) (s2:Shared):Prop :=
 ∃ (it:Addr) (fp:List Addr) (tn:Nat→Heap→Prop) (J:It) (H':Hp),itv=.ref it∧Inv X pins σ H' s2∧Turn X.prog X.w X.K tg J fp it tn∧tn 0 s2.heap∧(∀ b∈fp,YV X pins H' b)∧R J H'
def PI (X:Cx) (tg iter:Expr) (wi:TI):Prop :=
 ∀ (pins:List (Addr×Obj)) (s:Shared) (σ:St) (H:Hp) (R:It→Hp→Prop),Inv X pins σ H s→wi σ H R→
  wpAny (model X.prog X.w) X.A (eval iter X.env) (fun v s1=>wpAny (model X.prog X.w) X.A (pyIter v) (PIE X pins σ tg R) X.xe s1) X.xe s
theorem go_of{M:Model}{A:Around}{E:Value→Shared→Prop}{s:Shared}{tg:Expr}{it:Addr}{u:Value}{o:Obj}{n:String}{vs:Array Value}{Q:Unit→Shared→Prop}(ho:s.heap.get? it=some o)(hc:o.cls=.type n)(hd:o.data=.fields vs)
  (hn:["enumerate","zip","dict_itemiterator","dict_reverseitemiterator","odict_iterator","itertools.zip_longest","itertools.pairwise"].contains n=false) (hQ:Q () s):wpAny M A (letOwnedTupleGo tg (.ref it) u) Q E s:=by
 unfold letOwnedTupleGo;cases tg<;>first
  |exact wpAny_pure hQ
  | (cases u<;>first
      |exact wpAny_pure hQ
      | (refine wpAny_bind (wpAny_load ho ?_)
         rw[hc,hd]
         show wpAny M A (if(["enumerate","zip","dict_itemiterator","dict_reverseitemiterator","odict_iterator","itertools.zip_longest","itertools.pairwise"].contains n&&vs[0]? == some (rawInt _))=true then _ else _) Q E s
         rw[if_neg (by intro h;rw[hn,Bool.false_and]at h;cases h)]
         exact wpAny_pure hQ))
def Itl (K:PySem.W.Frag) (a:Addr):It :=
 ⟨fun i H=>∃ xs x,SqL K H a xs∧xs[i]?=some x,fun i H x H'=>H'=H∧∀ xs,SqL K H a xs→xs[i]?=some x,fun i H=>∃ xs,SqL K H a xs∧xs.length≤i⟩
def Itt (K:PySem.W.Frag) (a:Addr):It :=
 ⟨fun i H=>∃ xs x,SqT K H a xs∧xs[i]?=some x,fun i H x H'=>H'=H∧∀ xs,SqT K H a xs→xs[i]?=some x,fun i H=>∃ xs,SqT K H a xs∧xs.length≤i⟩
def Itr (lo:Int) (n:Nat):It:=⟨fun i _=>i<n,fun i H x H'=>H'=H∧x=.int (lo+i),fun i _=>n≤i⟩
theorem KU{P:Program}{w:World}{K:PySem.W.Frag}{tg:Expr}(a it:Addr):Turn P w K tg (Itl K a) [it] it (fun i h=>h.IsListIter it a i) where
 mem:=by simp
 obj:=fun i h st b hb=>by
  have e:b=it:=by simpa using hb
  subst e;obtain⟨o,e,c,d⟩:=st;exact⟨o,e,fun v z=>by rw[d]at z;cases z⟩
 keep:=fun i h h' st k=>st.at fun o e=>k it (by simp) o e
 item:=by intro X hP hw hK hc i pins s σ H E I hf st hg;subst hP hw hK;obtain⟨xs,x,hq,hx⟩:=hg;obtain⟨its,rv,p,hz⟩:=I.list hq;obtain⟨u,hu,ru⟩:=rv.get hx;obtain⟨f0,f1,f2,f3,f4,f5⟩:=hf it (by simp);refine wpAny_pyNext_list_item st p.isList (x:=u) (by simpa using hu) fun h' st' sb=>?_;have I1:Inv X pins σ H {s with heap:=h'}:=I.turned (t':=s.toks) (fun b o hb e=>(sb.2 b hb).trans e) f0 f1 f3 f4 f5;obtain⟨o,e,c,d⟩:=id st';exact⟨u,rfl,go_of (s:={s with heap:=h'}) e c d (by decide) ⟨x,H,I1,ru,⟨rfl,fun ys hy=>by rw[I.list_inj hy hq];exact hx⟩,st',fun b hb=>(hf b hb).1⟩⟩
 done:=by intro X hP hw hK hc i pins s σ H E I hf st hg;subst hP hw hK;obtain⟨xs,hq,hx⟩:=hg;obtain⟨its,rv,p,hz⟩:=I.list hq;obtain⟨f0,f1,f2,f3,f4,f5⟩:=hf it (by simp);have hl:=rv.length;exact wpAny_pyNext_list_end (I.ok.hd hc) st p.isList (by simp;omega) fun h' eb=>⟨rfl,I.turned (t':=s.toks) (fun b o hb e=>eb b o hb e) f0 f1 f3 f4 f5⟩
 self:=fun _ _ _ _ _ st h=>wpAny_pyIter_listiter st h
theorem JD{P:Program}{w:World}{K:PySem.W.Frag}{tg:Expr}(a it:Addr):Turn P w K tg (Itt K a) [it] it (fun i h=>h.IsTupleIter it a i) where
 mem:=by simp
 obj:=fun i h st b hb=>by
  have e:b=it:=by simpa using hb
  subst e;obtain⟨o,e,c,d⟩:=st;exact⟨o,e,fun v z=>by rw[d]at z;cases z⟩
 keep:=fun i h h' st k=>st.at fun o e=>k it (by simp) o e
 item:=by intro X hP hw hK hc i pins s σ H E I hf st hg;subst hP hw hK;obtain⟨xs,x,hq,hx⟩:=hg;obtain⟨its,rv,p,hz⟩:=I.tuple hq;obtain⟨u,hu,ru⟩:=rv.get hx;obtain⟨f0,f1,f2,f3,f4,f5⟩:=hf it (by simp);refine wpAny_pyNext_tuple_item st (show s.heap.IsTuple a its.toArray from p) (x:=u) (by simpa using hu) fun h' st' sb=>?_;have I1:Inv X pins σ H {s with heap:=h'}:=I.turned (t':=s.toks) (fun b o hb e=>(sb.2 b hb).trans e) f0 f1 f3 f4 f5;obtain⟨o,e,c,d⟩:=id st';exact⟨u,rfl,go_of (s:={s with heap:=h'}) e c d (by decide) ⟨x,H,I1,ru,⟨rfl,fun ys hy=>by rw[I.tuple_inj hy hq];exact hx⟩,st',fun b hb=>(hf b hb).1⟩⟩
 done:=by intro X hP hw hK hc i pins s σ H E I hf st hg;subst hP hw hK;obtain⟨xs,hq,hx⟩:=hg;obtain⟨its,rv,p,hz⟩:=I.tuple hq;obtain⟨f0,f1,f2,f3,f4,f5⟩:=hf it (by simp);have hl:=rv.length;exact wpAny_pyNext_tuple_end (I.ok.hd hc) st (show s.heap.IsTuple a its.toArray from p) (by simp;omega) fun h' eb=>⟨rfl,I.turned (t':=s.toks) (fun b o hb e=>eb b o hb e) f0 f1 f3 f4 f5⟩
 self:=fun _ _ _ _ _ st h=>wpAny_pyIter_tupleiter st h
theorem JI{P:Program}{w:World}{K:PySem.W.Frag}{tg:Expr}(it:Addr)(lo:Int)(n:Nat):Turn P w K tg (Itr lo n) [it] it (fun i h=>IsRangeIter h it (lo+(i:Nat)*1) ((n:Int) - (i:Nat)) 1) where
 mem:=by simp
 obj:=fun i h st b hb=>by
  have e:b=it:=by simpa using hb
  subst e;exact⟨_,st,fun v z=>by
    have z':Data.fields _=Data.cell v:=z
    cases z'⟩
 keep:=fun i h h' st k=>k it (by simp) _ st
 item:=by intro X hP hw hK hc i pins s σ H E I hf st hg;subst hP hw hK;obtain⟨f0,f1,f2,f3,f4,f5⟩:=hf it (by simp);have W:=Walks.range (prog:=X.prog) (w:=X.w) (I.ok.hd hc) it lo 1 n;refine W.item i s _ _ hg st fun v h' tk hv st' kk=>?_;obtain⟨t,rfl⟩:=hv;have I1:Inv X pins σ H {s with heap:=h',toks:=tk}:=I.turned (fun b o hb e=>kk b o (by simpa using hb) e) f0 f1 f3 f4 f5;refine⟨_,rfl,go_of (s:={s with heap:=h',toks:=tk}) (n:="range_iterator") st' rfl rfl (by decide) ⟨.int (lo+i),H,I1,⟨t,?_⟩,⟨rfl,rfl⟩,st',fun b hb=>(hf b hb).1⟩⟩;rw[Int.mul_one]
 done:=by intro X hP hw hK hc i pins s σ H E I hf st hg;subst hP hw hK;obtain⟨f0,f1,f2,f3,f4,f5⟩:=hf it (by simp);exact wpAny_pyNext_range_end (I.ok.hd hc) st (by have:n≤i:=hg;omega) fun h' eb=>⟨rfl,I.turned (t':=s.toks) (fun b o hb e=>eb b o hb e) f0 f1 f3 f4 f5⟩
 self:=fun _ _ _ _ _ st h=>wpAny_pyIter_rangeiter st h
end L2
namespace L2
open PySem PySem.Spec PyProof.Rows
section
variable {X:Cx}{tg:Expr}
def GX (K:PySem.W.Frag) (tl:TE):TI:=fun σ H R=>tl σ H fun x H1=>∃ a,x=.ref a∧(∃ xs,SqL K H1 a xs)∧R (Itl K a) H1
def He (K:PySem.W.Frag) (tl:TE):TI:=fun σ H R=>tl σ H fun x H1=>∃ a,x=.ref a∧(∃ xs,SqT K H1 a xs)∧R (Itt K a) H1
theorem MI{pins:List (Addr×Obj)}{σ:St}{H:Hp}{s:Shared}{R:It→Hp→Prop}{E:Value→Shared→Prop}{lo hi:Int}{t u v:Tok}{tk:Nat}(I:Inv X pins σ H s)(h1:-(2 ^ 62)≤lo)(h2:lo<2 ^ 62)(h3:-(2 ^ 62)≤hi)(h4:hi<2 ^ 62)
  (q:R (Itr lo (hi - lo).toNat) H):wpAny (model X.prog X.w) X.A (pyIter (.ref s.heap.objs.size)) (PIE X pins σ tg R) E {s with heap:=s.heap.push {cls:=.type "range",data:=.fields #[.int lo t,.int hi u,.int 1 v]},toks:=tk}:=by
 refine wpAny_pyIter_range (IsRange.new ..) (small_one h1 h2 h3 h4) ?_;have I1:Inv X pins σ H { s with heap:=s.heap.push { cls:=.type "range",data:=.fields #[.int lo t,.int hi u,.int 1 v] },toks:=tk }:=I.kept fun b o e=>Heap.get?_push_of_some _ e;refine⟨(s.heap.push { cls:=.type "range",data:=.fields #[.int lo t,.int hi u,.int 1 v] }).objs.size,[(s.heap.push { cls:=.type "range",data:=.fields #[.int lo t,.int hi u,.int 1 v] }).objs.size],_,_,H,rfl,
   I1.kept (t':=tk) fun b o e=>Heap.get?_push_of_some _ e,JI _ lo (hi - lo).toNat,?_,fun b hb=>?_,q⟩
 ·have e1:lo+((0:Nat):Int)*1=lo:=by simp
  have e2:(((hi - lo).toNat:Nat):Int) - ((0:Nat):Int)=Builtin.Range.rangeSize lo hi 1:=by rw[rangeSize_one];split<;>omega
  show IsRangeIter _ _ (lo+((0:Nat):Int)*1) ((((hi - lo).toNat:Nat):Int) - ((0:Nat):Int)) 1;rw[e1,e2];exact Heap.get?_push_size _ rfl
 ·have e:b=(s.heap.push {cls:=.type "range",data:=.fields #[.int lo t,.int hi u,.int 1 v]}).objs.size:=by simpa using hb
  subst e;exact I1.fpOk (Nat.le_refl _) (I1.hok.fresh (Nat.le_refl _))
def CL (ta:TA):TI:=fun σ H R=>ta σ H fun vs H1=>∃ j:Int,vs=[.int j]∧-(2 ^ 62)≤j∧j<2 ^ 62∧R (Itr 0 j.toNat) H1
def Gq (ta:TA):TI:=fun σ H R=>ta σ H fun vs H1=>∃ i j:Int,vs=[.int i,.int j]∧(-(2 ^ 62)≤i∧i<2 ^ 62∧-(2 ^ 62)≤j∧j<2 ^ 62)∧R (Itr i (j - i).toNat) H1
theorem K3 {a:Expr}{ta:TA}{p pos:Pos}(hg:Gl X "range") (hm:X.mg "range" = none) (ha:PA X [a] ta) (hs:starEach [a] X.env=[(false,eval a X.env)]:=by rfl):PI X tg (.Call (.Name "range" p) [a] [] pos) (CL ta):=by
 intro pins s σ H R I h;refine Call_ (YK I hg hm boot_range (PyProof.Rows.callWith_type1 (thn (ha pos pins s σ H _ I h) fun us s1 ⟨vs,H1,I1,r1,q1⟩=>?_) hs rfl));obtain⟨j,e,q1,q2,q⟩:=q1;subst e;cases r1 with
 |cons r rr =>cases rr;obtain⟨t,rfl⟩:=r;exact call_range_1 (MI I1 (by omega) (by omega) q1 q2 (by simpa using q))
def EO (wi:TI) (g:TG) (tb:TS):TS:=fun D σ H=>wi σ H fun J H1=>∃ W:Nat→Nat→St→Hp→Prop,(∃ m,W 0 m σ H1)∧∀ i m σ H,W i m σ H→
 (J.stop i H∧D.nx σ H)∨(J.go i H∧∃ N:St→Hp→Prop,(∀ σ' H',N σ' H'→∃ m',m'<m∧W (i+1) m' σ' H')∧∀ x H',J.yld i H x H'→g x σ H' fun σ2 H2=>tb {D with nx:=N,ct:=N,bk:=D.nx} σ2 H2)
def Yl (fp:List Addr) (h:Heap):List (Addr×Obj):=fp.filterMap fun b=>(h.get? b).map fun o=>(b,o)
theorem ZC{fp:List Addr}{h:Heap}{b:Addr}{o:Obj}(hb:b∈fp)(e:h.get? b=some o):(b,o)∈Yl fp h:=List.mem_filterMap.mpr ⟨b,hb,by rw[e];rfl⟩
theorem XO{fp:List Addr}{h:Heap}{p:Addr×Obj}(hp:p∈Yl fp h):p.1∈fp∧h.get? p.1=some p.2:=by
 obtain⟨b,hb,e⟩:=List.mem_filterMap.mp hp;cases q:h.get? b with
 |none=>rw[q]at e;cases e
 |some o =>rw[q]at e;have e':(b,o)=p:=Option.some.inj e;subst e';exact⟨hb,q⟩
theorem Inv.pinned{pins:List (Addr×Obj)}{σ:St}{H:Hp}{s:Shared}{fp:List Addr}(I:Inv X pins σ H s)(hf:∀ b∈fp,YV X pins H b)(ho:∀ b∈fp,∃ o,s.heap.get? b=some o∧∀ v,o.data≠.cell v):Inv X (pins++Yl fp s.heap) σ H s :=
 I.pins_of fun p hp=>(List.mem_append.mp hp).elim (fun z=>I.pin p (List.mem_append_right _ z)) fun z=>by obtain⟨hb,e⟩:=XO z;obtain⟨f0,f1,f2,_⟩:=hf p.1 hb;obtain⟨o,e',d⟩:=ho p.1 hb;rw[e]at e';cases e';exact⟨e,f0,f1,f2,d⟩
theorem Inv.unpinned{pins pl:List (Addr×Obj)}{σ:St}{H:Hp}{s:Shared}(I:Inv X (pins++pl) σ H s):Inv X pins σ H s:=I.pins_of fun p hp=>I.pin p (List.mem_append_right _ (List.mem_append_left _ hp))
theorem BI{iter:Expr}{body:List Stmt}{wi:TI}{g:TG}{tb:TS}{pos:Pos}(hp:PassesOwn (model X.prog X.w) X.A X.env X.xe)(hc:X.calm=true)(hi:PI X tg iter wi)(hg:PG X tg g)(hb:PSs X body tb)
  (hs:∀ x,foldedSetIterable iter X.env x=pure x:=by intro _;rfl):PS X (.For tg iter body [] pos) (EO wi g tb):=by
 intro pins s σ H D I h;refine wpAny_For (thn (hi pins s σ H _ I h) fun v s1 h1=>thn h1 fun itv s2 h2=>?_) hs;obtain⟨it,fp,tn,J,H2,e,I2,T,st2,f2,W,⟨m0,w0⟩,turn⟩:=h2;subst e;have stat:∀ {H':Hp},(∀ b∈fp,H' b=none)→∀ b∈fp,YV X pins H' b:=fun hn b hb=>⟨hn b hb,(f2 b hb).2⟩
 refine codeAny_forLoop_any (fun n s'=>∃ i σ' H',Inv X pins σ' H' s'∧tn i s'.heap∧(∀ b∈fp,H' b=none)∧W i n σ' H') ?_ m0 ⟨0,σ,H2,I2,st2,fun b hb=>(f2 b hb).1,w0⟩;rintro n s3 ⟨i,σ3,H3,I3,st3,fr3,w3⟩;rcases turn i n σ3 H3 w3 with⟨stop,qn⟩|⟨go,N,hN,step⟩
 ·refine wpAny_passesOwn hp (thn (T.done X rfl rfl rfl hc i pins s3 σ3 H3 X.xe I3 (stat fr3) st3 stop) fun r s4 ⟨hr,I4⟩=>?_);subst hr;exact wpAny_execs_nil ⟨σ3,H3,I4,qn⟩
 ·refine wpAny_passesOwn hp (thn (T.item X rfl rfl rfl hc i pins s3 σ3 H3 X.xe I3 (stat fr3) st3 go) fun r s4 ⟨u,hr,h4⟩=>?_);subst hr;refine wpAny_passesOwn hp (thn h4 fun _ s5 ⟨x,H5,I5,r5,y5,st5,fr5⟩=>?_);have I5':=I5.pinned (stat fr5) (T.obj _ _ st5);refine wpAny_passesOwn hp (thn (hg _ s5 σ3 H5 x u _ I5' r5 (step x H5 y5)) fun _ s6 ⟨σ6,H6,I6,q6⟩=>?_);refine wpAny_passesOwn hp (thn (hb _ s6 σ6 H6 _ I6 q6) fun f s7 q7=>?_);have again:∀ {σ7:St}{H7:Hp},Inv X (pins++Yl fp s5.heap) σ7 H7 s7→N σ7 H7→∃ m,m<n∧∃ i σ' H',Inv X pins σ' H' s7∧tn i s7.heap∧(∀ b∈fp,H' b=none)∧W i m σ' H':=fun {σ7 H7} I7 n7=>by
   obtain⟨m',hm,w7⟩:=hN σ7 H7 n7;refine⟨m',hm,i+1,σ7,H7,I7.unpinned,T.keep _ _ _ st5 fun b hb o e=>(I7.pin (b,o) (List.mem_append_right _ (List.mem_append_right _ (ZC hb e)))).1,fun b hb=>?_,w7⟩;obtain⟨o,e,d⟩:=T.obj _ _ st5 b hb;exact(I7.pin (b,o) (List.mem_append_right _ (List.mem_append_right _ (ZC hb e)))).2.1
  cases f with
  |next=>obtain⟨σ7,H7,I7,n7⟩:=q7;exact again I7 n7
  |cont=>obtain⟨σ7,H7,I7,n7⟩:=q7;exact again I7 n7
  |brk=>obtain⟨σ7,H7,I7,q7⟩:=q7;exact⟨σ7,H7,I7.unpinned,q7⟩
  |ret v=>obtain⟨x7,σ7,H7,I7,r7,q7⟩:=q7;exact⟨x7,σ7,H7,I7.unpinned,r7,q7⟩
end
end L2
namespace L2
open PySem PySem.Spec PyProof.Rows
abbrev R2:=V→V→Hp→VK→Prop
def OpR (X:Cx) (f:Value→Value→Sem Value) (r:R2):Prop :=
 ∀ (pins:List (Addr×Obj)) (s:Shared) (σ:St) (H:Hp) (x y:V) (v u:Value) (Q:VK),Inv X pins σ H s→RelV x v→RelV y u→r x y H Q→
  wpAny (model X.prog X.w) X.A (f v u) (EP X pins σ Q) X.xe s
def UnR (X:Cx) (f:Value→Sem Value) (r:V→Hp→VK→Prop):Prop :=
 ∀ (pins:List (Addr×Obj)) (s:Shared) (σ:St) (H:Hp) (x:V) (v:Value) (Q:VK),Inv X pins σ H s→RelV x v→r x H Q→
  wpAny (model X.prog X.w) X.A (f v) (EP X pins σ Q) X.xe s
def CallR (X:Cx) (f:Value) (r:List V→Hp→VK→Prop):Prop :=
 ∀ (pins:List (Addr×Obj)) (s:Shared) (σ:St) (H:Hp) (xs:List V) (us:List Value) (Q:VK),Inv X pins σ H s→Vals xs us→r xs H Q→
  wpAny (model X.prog X.w) X.A (call f us) (EP X pins σ Q) X.xe s
def EX (X:Cx) (r:V→Hp→(Bool→Hp→Prop)→Prop):Prop :=
 ∀ (pins:List (Addr×Obj)) (s:Shared) (σ:St) (H:Hp) (x:V) (v:Value) (Q:Bool→Hp→Prop),Inv X pins σ H s→RelV x v→r x H Q→
  wpAny (model X.prog X.w) X.A (truthy v) (TP X pins σ Q) X.xe s
def tOp (r:R2) (ta tb:TE):TE:=fun σ H Q=>ta σ H fun x H1=>tb σ H1 fun y H2=>r x y H2 Q
def tUn (r:V→Hp→VK→Prop) (ta:TE):TE:=fun σ H Q=>ta σ H fun x H1=>r x H1 Q
def rI (C:Int→Int→Prop) (g:Int→Int→V):R2:=fun x y H Q=>∃ i j,x=.int i∧y=.int j∧C i j∧Q (g i j) H
def rI0 (g:Int→Int→V):R2:=fun x y H Q=>∃ i j,x=.int i∧y=.int j∧Q (g i j) H
def rU (g:Int→V):V→Hp→VK→Prop:=fun x H Q=>∃ i,x=.int i∧Q (g i) H
section
variable {X:Cx}{a b c:Expr}{ta tb tc:TE}{pos:Pos}
theorem AH(ha:PE X a ta)(hb:PE X b tb){pins:List (Addr×Obj)}{s:Shared}{σ:St}{H:Hp}{R:V→V→Hp→Prop}(I:Inv X pins σ H s)
  (h:ta σ H fun x H1=>tb σ H1 fun y H2=>R x y H2){Q:Value→Shared→Prop}{f:Value→Value→Sem Value}
  (hf:∀ v u s2 x y H2,Inv X pins σ H2 s2→RelV x v→RelV y u→R x y H2→wpAny (model X.prog X.w) X.A (f v u) Q X.xe s2) :
  wpAny (model X.prog X.w) X.A (eval a X.env) (fun v s₁=>wpAny (model X.prog X.w) X.A (eval b X.env) (fun u s₂=>wpAny (model X.prog X.w) X.A (f v u) Q X.xe s₂) X.xe s₁) X.xe s:=by
 refine thn (ha pins s σ H _ I h) fun v s1 ⟨x,H1,I1,r1,q1⟩=>?_;refine thn (hb pins s1 σ H1 _ I1 q1) fun u s2 ⟨y,H2,I2,r2,q2⟩=>?_;exact hf v u s2 x y H2 I2 r1 r2 q2
theorem CP{op:Operator}{r:R2}(ho:OpR X (binaryOp op) r)(ha:PE X a ta)(hb:PE X b tb):PE X (.BinOp a op b pos) (tOp r ta tb):=by intro pins s σ H Q I h;exact wpAny_BinOp (AH ha hb I h fun v u s2 x y H2 I2 rx ry q=>ho pins s2 σ H2 x y v u Q I2 rx ry q)
theorem Dz{op:UnaryOp}{r:V→Hp→VK→Prop}(ho:UnR X (unaryOp op) r)(ha:PE X a ta):PE X (.UnaryOp op a pos) (tUn r ta):=by intro pins s σ H Q I h;exact UnaryOp_ (thn (ha pins s σ H _ I h) fun v s1 ⟨x,H1,I1,r1,q1⟩=>ho pins s1 σ H1 x v Q I1 r1 q1)
theorem opI{f:Value→Value→Sem Value}{C:Int→Int→Prop}{g:Int→Int→Int}
  (rule:∀ (i j:Int) (t u:Tok) (s:Shared) (Q:Value→Shared→Prop) (E:Value→Shared→Prop),C i j→Q (.int (g i j) s.toks) {s with toks:=s.toks+1}→wpAny (model X.prog X.w) X.A (f (.int i t) (.int j u)) Q E s) :
  OpR X f (rI C fun i j=>.int (g i j)):=by
 intro pins s σ H x y v u Q I rx ry h;obtain⟨i,j,rfl,rfl,hc,q⟩:=h;obtain⟨t,rfl⟩:=rx;obtain⟨t',rfl⟩:=ry;exact rule i j t t' s _ _ hc ⟨.int (g i j),H,I.tok _,⟨_,rfl⟩,q⟩
theorem Eg{f:Value→Value→Sem Value}{g:Int→Int→Int}
  (rule:∀ (i j:Int) (t u:Tok) (s:Shared) (Q:Value→Shared→Prop) (E:Value→Shared→Prop),Q (.int (g i j) s.toks) {s with toks:=s.toks+1}→wpAny (model X.prog X.w) X.A (f (.int i t) (.int j u)) Q E s) :
  OpR X f (rI0 fun i j=>.int (g i j)):=by
 intro pins s σ H x y v u Q I rx ry h;obtain⟨i,j,rfl,rfl,q⟩:=h;obtain⟨t,rfl⟩:=rx;obtain⟨t',rfl⟩:=ry;exact rule i j t t' s _ _ ⟨.int (g i j),H,I.tok _,⟨_,rfl⟩,q⟩
theorem OK{f:Value→Value→Sem Value}{g:Int→Int→Bool}
  (rule:∀ (i j:Int) (t u:Tok) (s:Shared) (Q:Value→Shared→Prop) (E:Value→Shared→Prop),Q (.bool (g i j)) s→wpAny (model X.prog X.w) X.A (f (.int i t) (.int j u)) Q E s) :
  OpR X f (rI0 fun i j=>.bl (g i j)):=by
 intro pins s σ H x y v u Q I rx ry h;obtain⟨i,j,rfl,rfl,q⟩:=h;obtain⟨t,rfl⟩:=rx;obtain⟨t',rfl⟩:=ry;exact rule i j t t' s _ _ ⟨.bl (g i j),H,I,rfl,q⟩
def D6 (i j:Int):Prop:=0<j∧j<1073741824
def GI (i j:Int):Prop:=j≠0∧j.natAbs<1073741824
def Di (i j:Int):Prop:=0≤j∧j≤1000000∧i.natAbs<2 ^ 64
def CMul (i j:Int):Prop:=(-(2 ^ 64)<i∧i<2 ^ 64)∨(-(2 ^ 64)<j∧j<2 ^ 64)
theorem CMul.ok{i j:Int}(h:CMul i j):IntMulOk i j:=by
 rcases h with⟨h1,h2⟩|⟨h1,h2⟩
 ·exact .of_left (intBits_le_64 h1 h2)
 ·exact .of_right (intBits_le_64 h1 h2)
theorem op_add:OpR X (binaryOp .Add) (rI0 fun i j=>.int (i+j)):=Eg fun _ _ _ _ _ _ _ q=>add_int q
theorem Bz:OpR X (binaryOp .Sub) (rI0 fun i j=>.int (i - j)):=Eg fun _ _ _ _ _ _ _ q=>sub_int q
theorem UB:OpR X (binaryOp .FloorDiv) (rI D6 fun i j=>.int (i / j)):=opI fun i j _ _ _ _ _ hc q=>by have h1:(0:Int)<j:=hc.1;have h2:j<1073741824:=hc.2;exact floordiv_int (by omega) (by rw[Int.fdiv_eq_ediv_of_nonneg i (by omega)];exact q) (.inl (PyProof.noPylong_small (by omega)))
theorem Bn:OpR X (binaryOp .Mod) (rI (fun _ j=>0<j) fun i j=>.int (i % j)):=opI fun i j _ _ _ _ _ hc q=>by have h1:(0:Int)<j:=hc;exact mod_int' (by omega) (by rw[Int.fmod_eq_emod_of_nonneg i (by omega)];exact q)
theorem BN:OpR X (binaryOp .Pow) (rI Di fun i j=>.int (i ^ j.toNat)):=opI fun _ _ _ _ _ _ _ hc q=>pow_int_small hc.1 hc.2.1 hc.2.2 q
theorem unI{f:Value→Sem Value}{g:Int→Int}
  (rule:∀ (i:Int) (t:Tok) (s:Shared) (Q:Value→Shared→Prop) (E:Value→Shared→Prop),Q (.int (g i) s.toks) {s with toks:=s.toks+1}→wpAny (model X.prog X.w) X.A (f (.int i t)) Q E s) :
  UnR X f (rU fun i=>.int (g i)):=by
 intro pins s σ H x v Q I rx h;obtain⟨i,rfl,q⟩:=h;obtain⟨t,rfl⟩:=rx;exact rule i t s _ _ ⟨.int (g i),H,I.tok _,⟨_,rfl⟩,q⟩
theorem AG:UnR X (unaryOp .USub) (rU fun i=>.int (-i)):=unI fun _ _ _ _ _ q=>neg_int q
end
def El:V→V→Bool
 |.non,.non=>true|.non,.int _=>true|.int _,.non=>true|.non,.bl _=>true|.bl _,.non=>true|.non,.str _=>true|.str _,.non=>true
 |.int _,.int _=>true|.bl _,.bl _=>true|.str _,.str _=>true|.byt _,.byt _=>true
 |.int _,.str _=>true|.str _,.int _=>true|.bl _,.str _=>true|.str _,.bl _=>true
 |_,_=>false
def rEq:R2:=fun x y H Q=>El x y=true∧Q (.bl (decide (x=y))) H
def rNe:R2:=fun x y H Q=>El x y=true∧Q (.bl (!decide (x=y))) H
section
variable {X:Cx}{a b c:Expr}{ta tb tc:TE}{pos:Pos}
theorem At{pins:List (Addr×Obj)}{σ:St}{H:Hp}{s:Shared}{Q:VK}{k k':Bool}(I:Inv X pins σ H s)(q:Q (.bl k) H)(e:k=k'):EP X pins σ Q (.bool k') s:=by subst e;exact⟨.bl k,H,I,rfl,q⟩
theorem op_lt:OpR X (compareOp .Lt) (rI0 fun i j=>.bl (decide (i<j))):=OK fun _ _ _ _ _ _ _ q=>lt_int q
theorem CU:OpR X (compareOp .LtE) (rI0 fun i j=>.bl (decide (i≤j))):=OK fun _ _ _ _ _ _ _ q=>le_int q
theorem op_gt:OpR X (compareOp .Gt) (rI0 fun i j=>.bl (decide (j<i))):=OK fun _ _ _ _ _ _ _ q=>gt_int q
theorem CO:OpR X (compareOp .GtE) (rI0 fun i j=>.bl (decide (j≤i))):=OK fun _ _ _ _ _ _ _ q=>ge_int q
theorem KM:OpR X (compareOp .In) (fun x y H Q=>∃ i j,x=.str i∧y=.str j∧Q (.bl (!(Builtin.Str.occurrences j i 0 j.length 1).isEmpty)) H):=by intro pins s σ H x y v u Q I rx ry h;obtain⟨i,j,rfl,rfl,q⟩:=h;obtain⟨t,rfl⟩:=rx;obtain⟨t',rfl⟩:=ry;exact in_str (At I q rfl)
def GC:HO→Bool
 |.lst _=>true
 |.ins _ _ _=>true
 |_=>false
theorem OpR.or{f:Value→Value→Sem Value}{r r':R2}(h:OpR X f r)(h':OpR X f r'):OpR X f (fun x y H Q=>r x y H Q∨r' x y H Q):=by
 intro pins s σ H x y v u Q I rx ry q;rcases q with q|q
 ·exact h pins s σ H x y v u Q I rx ry q
 ·exact h' pins s σ H x y v u Q I rx ry q
theorem OT{op:CmpOp}{r:R2}(ho:OpR X (compareOp op) r)(ha:PE X a ta)(hb:PE X b tb)(hm:behindInMarks op b=false):PE X (.Compare a [op] [b] pos) (tOp r ta tb):=by intro pins s σ H Q I h;exact wpAny_Compare1 (AH ha hb I h fun v u s2 x y H2 I2 rx ry q=>ho pins s2 σ H2 x y v u Q I2 rx ry q) hm
def UQ (t:TE):TT:=fun σ H Q=>t σ H fun x H'=>∃ k,x=.bl k∧Q k H'
theorem Ur{op:CmpOp}{r:R2}(ho:OpR X (compareOp op) r)(ha:PE X a ta)(hb:PE X b tb)(hm:behindInMarks op b=false):PT X (.Compare a [op] [b] pos) (UQ (tOp r ta tb)):=by
 intro pins s σ H Q I h;refine wpAny_isTrue_Compare1 (thn (ha pins s σ H _ I h) fun v s1 ⟨x,H1,I1,r1,q1⟩=>thn (hb pins s1 σ H1 _ I1 q1) fun u s2 ⟨y,H2,I2,r2,q2⟩ =>
   thn (ho pins s2 σ H2 x y v u _ I2 r1 r2 q2) fun c s3 ⟨z,H3,I3,r3,k,e,q3⟩=>?_) hm
 subst e;cases r3;exact wpAny_truthy_bool ⟨H3,I3,q3⟩
def NY (r r':R2) (ta tb tc:TE):TE:=fun σ H Q=>ta σ H fun x H1=>tb σ H1 fun y H2=>r x y H2 fun z H3=>∃ k,z=.bl k∧
 (if k=true then tc σ H3 fun w' H4=>r' y w' H4 Q else Q (.bl false) H3)
theorem Oh{op op':CmpOp}{r r':R2}(ho:OpR X (compareOp op) r)(ho':OpR X (compareOp op') r')(ha:PE X a ta)(hb:PE X b tb)(hc:PE X c tc)
  (hm:lastMarks [op,op'] [b,c]=false:=by with_unfolding_all rfl):PE X (.Compare a [op,op'] [b,c] pos) (NY r r' ta tb tc):=by
 intro pins s σ H Q I h;refine Compare_chain (thn (ha pins s σ H _ I h) fun v s1 ⟨x,H1,I1,r1,q1⟩=>chain_link (thn (hb pins s1 σ H1 _ I1 q1) fun u s2 ⟨y,H2,I2,r2,q2⟩ =>
   thn (ho pins s2 σ H2 x y v u _ I2 r1 r2 q2) fun d s3 ⟨z,H3,I3,r3,k,e,q3⟩=>?_)) hm
 subst e;cases r3;refine wpAny_truthy_bool ?_;cases k with
 |false=>exact ite_ff ⟨.bl false,H3,I3,rfl,q3⟩
 |true=>exact ite_tt (chain_last (thn (hc pins s3 σ H3 _ I3 q3) fun w' s4 ⟨z',H4,I4,r4,q4⟩=>ho' pins s4 σ H4 y z' u w' Q I4 r2 r4 q4))
theorem Mr{op op':CmpOp}{r r':R2}(ho:OpR X (compareOp op) r)(ho':OpR X (compareOp op') r')(ha:PE X a ta)(hb:PE X b tb)(hc:PE X c tc)
  (hm:lastMarks [op,op'] [b,c]=false:=by with_unfolding_all rfl):PT X (.Compare a [op,op'] [b,c] pos) (UQ (NY r r' ta tb tc)):=by
 intro pins s σ H Q I h;refine isTrue_chain (thn (ha pins s σ H _ I h) fun v s1 ⟨x,H1,I1,r1,q1⟩=>test_link (thn (hb pins s1 σ H1 _ I1 q1) fun u s2 ⟨y,H2,I2,r2,q2⟩ =>
   thn (ho pins s2 σ H2 x y v u _ I2 r1 r2 q2) fun d s3 ⟨z,H3,I3,r3,k,e,q3⟩=>?_)) hm
 subst e;cases r3;refine wpAny_truthy_bool ?_;cases k with
 |false =>obtain⟨k',e',q'⟩:=q3;cases e';exact ite_ff ⟨H3,I3,q'⟩
 |true =>refine ite_tt (test_last (thn (hc pins s3 σ H3 _ I3 q3) fun w' s4 ⟨z',H4,I4,r4,q4⟩=>thn (ho' pins s4 σ H4 y z' u w' _ I4 r2 r4 q4) fun d' s5 ⟨z2,H5,I5,r5,k2,e2,q5⟩=>?_));subst e2;cases r5;exact wpAny_truthy_bool ⟨H5,I5,q5⟩
def D8 (K:PySem.W.Frag) (x:V) (H:Hp) (k:Bool):Prop :=
 match x with
 |.non=>k=false
 |.bl b=>k=b
 |.int i=>k=(i != 0)
 |.str y=>y.length≤sizeLine∧k=((y.length:Int) != 0)
 |.byt y=>y.size≤sizeLine∧k=((y.size:Int) != 0)
 |.ref p=>(∃ xs,SqL K H p xs∧k=!xs.isEmpty)∨(∃ xs,SqT K H p xs∧k=!xs.isEmpty)∨∃ kvs,H p=some (.dK kvs)∧k=!kvs.isEmpty
 |_=>False
theorem JP{κ:Type}{kvs:List (κ×V)}{vs:List (κ×Value)}(r:KV kvs vs):(!vs.isEmpty)=!kvs.isEmpty:=by cases r<;>rfl
theorem Xy{xs:List V}{its:List Value}(r:Vals xs its):(!its.toArray.isEmpty)=!xs.isEmpty:=by cases r<;>simp
theorem Ym:(sizeLine:Nat)<2 ^ 63:=by rw[sizeLine_eq];decide
theorem By:EX X (fun x H Q=>∃ k,D8 X.K x H k∧Q k H):=by
 intro pins s σ H x v Q I rx h;obtain⟨k,e,q⟩:=h;have hl:=Ym;have hs:sizeLine=16777216:=sizeLine_eq;cases x with
 |non =>cases rx;have e':k=false:=e;subst e';exact truthy_none ⟨H,I,q⟩
 |bl b =>cases rx;have e':k=b:=e;subst e';exact wpAny_truthy_bool ⟨H,I,q⟩
 |int i =>obtain⟨t,rfl⟩:=rx;have e':k=(i != 0):=e;subst e';exact PySem.P.truthy_int ⟨H,I,q⟩
 |str y =>obtain⟨t,rfl⟩:=rx;obtain⟨hy,e'⟩:y.length≤sizeLine∧k=((y.length:Int) != 0):=e;subst e';exact PySem.P.truthy_str (by omega) ⟨H,I.tok _,q⟩
 |byt y =>obtain⟨t,rfl⟩:=rx;obtain⟨hy,e'⟩:y.size≤sizeLine∧k=((y.size:Int) != 0):=e;subst e';exact PySem.W.truthy_bytes (by omega) ⟨H,I.tok _,q⟩
 |ref p =>
  cases rx;have e':(∃ xs,SqL X.K H p xs∧k=!xs.isEmpty)∨(∃ xs,SqT X.K H p xs∧k=!xs.isEmpty)∨∃ kvs,H p=some (.dK kvs)∧k=!kvs.isEmpty:=e;rcases e' with⟨xs,hx,e'⟩|⟨xs,hx,e'⟩|⟨kvs,hx,e'⟩
  ·subst e';obtain⟨its,r,pl,hz⟩:=I.list hx;have hlen:=r.length;exact wpAny_truthy_list pl.isList (by simp only[List.size_toArray];omega) ⟨H,I.tok _,by rw[Xy r];exact q⟩
  ·subst e';obtain⟨its,r,pl,hz⟩:=I.tuple hx;have hlen:=r.length;exact truthy_tuple pl (by simp only[List.size_toArray];omega) ⟨H,I.tok _,by rw[Xy r];exact q⟩
  ·subst e';obtain⟨hz,hS,vs,r,m⟩:kvs.length≤sizeLine∧(p==sysModules)=false∧∃ vs,KV kvs vs∧s.heap.DictOf (Zh X.prog X.w) p vs:=I.hok p _ hx;have hlen:kvs.length=vs.length:=Paired.length r;exact wpAny_truthy_dict hS m (by omega) ⟨H,I.tok _,by rw[JP r];exact q⟩
 |_=>exact(show False from e).elim
theorem N8(ha:PE X a ta)(he:∀ whole,isTrue a X.env whole=(do let v←whole;standAt a.pos;holding [v] (truthy v))) :
  PT X a (fun σ H Q=>ta σ H fun x H'=>∃ k,D8 X.K x H' k∧Q k H'):=by
 intro pins s σ H Q I h;exact isTrue_plain (thn (ha pins s σ H _ I h) fun v s1 ⟨x,H1,I1,r1,q1⟩=>By pins s1 σ H1 x v Q I1 r1 q1) (he _)
theorem Jv:OpR X (binaryOp .Add) (fun x y H Q=>∃ i j,x=.str i∧y=.str j∧i.length+j.length≤sizeLine∧Q (.str (i++j)) H):=by intro pins s σ H x y v u Q I rx ry h;obtain⟨i,j,rfl,rfl,hz,q⟩:=h;obtain⟨t,rfl⟩:=rx;obtain⟨t',rfl⟩:=ry;exact add_str (fun t' tk=>⟨.str (i++j),H,I.tok _,⟨_,rfl⟩,q⟩) hz
def C7 (b:Expr):Prop:=∀ o i,subscripted b false o i=operate [o,i] (getItem o i)
theorem Z4{x:V}{us:List Value}(r:Vals [x] us):∃ u,us=[u]∧RelV x u:=by
 cases r with
 |cons r1 r2=>cases r2;exact⟨_,rfl,r1⟩
theorem CK{x y:V}{us:List Value}(r:Vals [x,y] us):∃ u w',us=[u,w']∧RelV x u∧RelV y w':=by
 cases r with
 |cons r1 r2 =>
  cases r2 with
  |cons r3 r4=>cases r4;exact⟨_,_,rfl,r1,r3⟩
theorem call_int1:CallR X (.type "int") (fun xs H Q=>(∃ i,xs=[.int i]∧Q (.int i) H)∨∃ k,xs=[.bl k]∧Q (.int (if k then 1 else 0)) H):=by
 intro pins s σ H xs us Q I r h;rcases h with⟨i,rfl,q⟩|⟨k,rfl,q⟩
 ·obtain⟨u,rfl,t,rfl⟩:=Z4 r;exact call_int_int ⟨.int i,H,I,⟨_,rfl⟩,q⟩
 ·obtain⟨u,rfl,r1⟩:=Z4 r;cases r1;exact call_int_bool ⟨.int (if k then 1 else 0),H,I.tok _,⟨_,rfl⟩,q⟩
theorem call_str_int:CallR X (.type "str") (fun xs H Q=>∃ i,xs=[.int i]∧i.natAbs.log2<1920∧Q (.str (toString i)) H):=by intro pins s σ H xs us Q I r h;obtain⟨i,rfl,hz,q⟩:=h;obtain⟨u,rfl,t,rfl⟩:=Z4 r;exact PySem.P.str_of_int hz ⟨.str _,H,I.tok _,⟨_,rfl⟩,q⟩
def Hb (K:PySem.W.Frag) (x:V) (H:Hp) (n:Nat):Prop :=
 match x with
 |.str y=>y.length≤sizeLine∧n=y.length
 |.byt y=>y.size≤sizeLine∧n=y.size
 |.ref p=>(∃ xs,SqL K H p xs∧n=xs.length)∨∃ xs,SqT K H p xs∧n=xs.length
 |_=>False
end
end L2
namespace L2
open PySem PySem.Spec PyProof.Rows
structure ObjM (h:Heap) (x dx C:Addr) (mA:Str→Option Value):Prop where
 obj:h.get? x=some (PySem.W.instObj C dx)
 ns:h.Ns1 dx mA
 ne:dx≠x
theorem KO{h:Heap}{dx:Addr}{mA:Str→Option Value}(n:h.Ns1 dx mA):∃ od,h.get? dx=some od∧∀ name,PySem.W.lookIn name od=some (mA name):=by
 obtain⟨o,es,ep,ho,hd,hk,_,hm⟩:=n;refine⟨o,ho,fun name=>?_⟩;have e:=hm name;unfold nsFind findBy at e;rw[←Array.find?_toList]at e;unfold PySem.W.lookIn;rw[hd];dsimp only;split
 ·rename_i y q;rw[q]at e;exact congrArg some e
 ·rename_i q;rw[q]at e;have a:es.toList.any (·.refKey)=false:=by
   rw[List.any_eq_false];intro y hy;obtain⟨z,t,hkey⟩:=hk y (Array.mem_toList_iff.mp hy);simp[DictEntry.refKey,hkey]
  have a':¬ es.toList.any (·.refKey)=true:=by rw[a];exact Bool.false_ne_true
  rw[if_neg a'];exact congrArg some e
theorem ObjM.look{h:Heap}{x dx C:Addr}{mA:Str→Option Value}(I:ObjM h x dx C mA):∃ od,PySem.W.InstAt h x (PySem.W.instObj C dx) C (some od)∧∀ name,PySem.W.lookIn name od=some (mA name) :=
 let ⟨od,ho,hl⟩:=KO I.ns
 ⟨od,⟨I.obj,rfl,rfl,ho⟩,hl⟩
def putF (f:Str) (v:V):List (Str×V)→List (Str×V)
 |[]=>[(f,v)]
 |(g,x)::r=>if g=f then(g,v)::r else(g,x)::putF f v r
theorem RelO.some_of{v:V}{o:Option Value}(r:RelO (some v) o):∃ u,o=some u∧RelV v u:=by
 cases o with
 |none=>exact(show False from r).elim
 |some u=>exact⟨u,rfl,r⟩
section
variable {P:Program}{w:World}{H H':Hp}{h h':Heap}{a C dx:Addr}{fs fs':List (Str×V)}
theorem O3(hok:HOk P w H h)(e:H a=some (.ins C dx fs)):∃ mA,ObjM h a dx C mA∧(∀ f,RelO (fs.lookup f) (mA f))∧PySem.Within mA (fs.map (·.1))∧fs.length≤1000∧H dx=some (.own a):=by
 obtain⟨d,z,ne,ob,mA,n,r,q⟩:=(show ObjOk P w H h a (.ins C dx fs) from hok a _ e)
 exact⟨mA,⟨ob,n,ne⟩,r,q,z,d⟩
end
structure Cls (K:PySem.W.Frag) (C:Addr):Prop where
 pg:PySem.W.plainGet K C Str.empty=true
 hd:PySem.W.hasDictIn K C=true
 po:PySem.W.plainOver K C=true
 sa:PySem.W.findIn K (.ref C) "__setattr__" = some (some (.builtin "object.__setattr__"))
theorem Cls.get{K:PySem.W.Frag}{C:Addr}(c:Cls K C)(f:Str):PySem.W.plainGet K C f=true:=c.pg
def YF (K:PySem.W.Frag) (C:Addr) (f:Str):Prop:=PySem.W.findIn K (.ref C) f=some none
structure Con (K:PySem.W.Frag) (C:Addr) (f:Str) (v:V) (u:Value):Prop where
 at_:PySem.W.findIn K (.ref C) f=some (some u)
 rel:RelV v u
 get:PySem.W.specialIn K u "__get__" = some none
 cp:PySem.W.copiedNames.contains f=false
structure Meth (K:PySem.W.Frag) (C:Addr) (m:Str) (f:Addr):Prop where
 at_:PySem.W.findIn K (.ref C) m=some (some (.ref f))
 fn:PySem.W.isFn K (.ref f)=true
 kp:PySem.W.keepIn K (.ref f)=true
def HA (K:PySem.W.Frag) (ta:TE) (f:Str):TE:=fun σ H Q=>ta σ H fun x H1=>∃ a C dx fs v,x=.ref a∧H1 a=some (.ins C dx fs)∧Cls K C∧YF K C f∧fs.lookup f=some v∧Q v H1
def Hm (K:PySem.W.Frag) (ta:TE) (f:Str):TE:=fun σ H Q=>ta σ H fun x H1=>∃ a C dx fs v u,x=.ref a∧H1 a=some (.ins C dx fs)∧Cls K C∧Con K C f v u∧fs.lookup f=none∧Q v H1
def Hj (K:PySem.W.Frag) (ta tv:TE) (f:Str):TS:=fun D σ H=>tv σ H fun y H1=>ta σ H1 fun x H2=>∃ a C dx fs,x=.ref a∧H2 a=some (.ins C dx fs)∧Cls K C∧YF K C f∧fs.length<1000∧
 D.nx σ (upd H2 a (.ins C dx (putF f y fs)))
def Hr (X:Cx) (op:Operator) (rd:V→V→Hp→VK→Prop):Prop :=
 ∀ (pins:List (Addr×Obj)) (s:Shared) (σ:St) (H:Hp) (x y:V) (u v:Value) (Q:VK),Inv X pins σ H s→RelV x u→RelV y v→rd x y H Q→wpAny (model X.prog X.w) X.A (inplaceOp op u v) (EP X pins σ Q) X.xe s
def EC (K:PySem.W.Frag) (ta tv:TE) (rd:V→V→Hp→VK→Prop) (f:Str):TS:=fun D σ H=>ta σ H fun x H1=>∃ a C dx fs v,x=.ref a∧H1 a=some (.ins C dx fs)∧Cls K C∧YF K C f∧fs.lookup f=some v∧
 tv σ H1 fun y H2=>rd v y H2 fun z H3=>∃ dx' fs',H3 a=some (.ins C dx' fs')∧fs'.length<1000∧D.nx σ (upd H3 a (.ins C dx' (putF f z fs')))
section
variable {X:Cx}{o e value:Expr}{f:Str}{pos pos' tpos:Pos}{ta tv:TE}
def HJ:V→V→Hp→VK→Prop:=fun x y H Q=>∃ i j,x=.int i∧y=.int j∧Q (.int (i+j)) H
def HE:V→V→Hp→VK→Prop:=fun x y H Q=>∃ i j,x=.int i∧y=.int j∧Q (.int (i - j)) H
end
section
variable {X:Cx}{pins:List (Addr×Obj)}{σ:St}{H:Hp}{s:Shared}{A:Around}{E:Value→Shared→Prop}{Q:Value→Shared→Prop}{c:Value}{b:Bool}
inductive TyOf (K:PySem.W.Frag) (H:Hp):V→Value→Prop where
 |non:TyOf K H .non (.type "NoneType")
 |bl (x:Bool):TyOf K H (.bl x) (.type "bool")
 |int (i:Int):TyOf K H (.int i) (.type "int")
 |str (x:Str):TyOf K H (.str x) (.type "str")
 |flt (x:UInt64):TyOf K H (.flt x) (.type "float")
 |lst {a:Addr}{xs:List V}(e:H a=some (.lst xs)):TyOf K H (.ref a) (.type "list")
 |frz {a:Addr}{o:Obj}{xs:List V}(e:H a=some (.frz o (.lst xs))):TyOf K H (.ref a) (.type "list")
 |tup {a:Addr}{xs:List V}(e:H a=some (.tup xs)):TyOf K H (.ref a) (.type "tuple")
 |dK {a:Addr}{kvs:List (Key×V)}(e:H a=some (.dK kvs)):TyOf K H (.ref a) (.type "dict")
 |dT {a:Addr}{kvs:List (List Key×V)}(e:H a=some (.dT kvs)):TyOf K H (.ref a) (.type "dict")
 |ins {a C dx:Addr}{fs:List (Str×V)}(e:H a=some (.ins C dx fs)) (cl:Cls K C) (ha:PySem.W.findIn K (.ref C) "__class__" = some (some (.builtin "object.__class__")))
   (hn:PySem.W.specialIn K (.builtin "object.__class__") "__get__" = some (some (.builtin "getset_descriptor.__get__"))) (htk:PySem.W.takesIn K (.builtin "object.__class__")=some true)
   (hm:PySem.W.mroIn K C (.type "object")=some true):TyOf K H (.ref a) (.ref C)
theorem K2{x:V}{u t:Value}(I:Inv X pins σ H s)(rx:RelV x u)(ty:TyOf X.K H x t)(e:PySem.W.kitOne X.K t c=some b)(h:∀ tk,Q (.bool b) {s with toks:=tk}) :
  wpAny (model X.prog X.w) A (call (.builtin "isinstance") [u,c]) Q E s:=by
 cases ty with
 |non=>cases (show u=Value.none from rx);exact PySem.W.kia_one PySem.W.kitx_none I.kIn True.intro e (fun z=>nomatch z) h
 |bl y=>cases (show u=Value.bool y from rx);exact PySem.W.kia_one PySem.W.kitx_bool I.kIn True.intro e (fun z=>nomatch z) h
 |int i=>obtain⟨t,q⟩:=(show ∃ t,u=Value.int i t from rx);cases q;exact PySem.W.kia_one PySem.W.kitx_int I.kIn True.intro e (fun z=>nomatch z) h
 |str y=>obtain⟨t,q⟩:=(show ∃ t,u=Value.str y t from rx);cases q;exact PySem.W.kia_one PySem.W.kitx_str I.kIn True.intro e (fun z=>nomatch z) h
 |flt y=>obtain⟨t,q⟩:=(show ∃ t,u=Value.float y t from rx);cases q;exact PySem.W.kia_one PySem.W.kitx_float I.kIn True.intro e (fun z=>nomatch z) h
 |@lst a xs ea =>
  cases (show u=Value.ref a from rx);obtain⟨_,_,n,_,h1⟩:=(show ObjOk X.prog X.w H s.heap a (.lst xs) from I.hok a _ ea)
  exact PySem.W.kia_one PySem.W.kitx_list I.kIn ⟨_,h1,rfl⟩ e (fun z=>nomatch z) h
 |@frz a ob xs ea =>
  cases (show u=Value.ref a from rx);obtain⟨_,_,_,n,_,h1⟩:=(show ObjOk X.prog X.w H s.heap a (.frz ob (.lst xs)) from I.hok a _ ea)
  exact PySem.W.kia_one PySem.W.kitx_list I.kIn ⟨_,h1,rfl⟩ e (fun z=>nomatch z) h
 |@tup a xs ea =>
  cases (show u=Value.ref a from rx);obtain⟨_,_,_,p⟩:=(show ObjOk X.prog X.w H s.heap a (.tup xs) from I.hok a _ ea)
  obtain⟨o,h1,h2,_⟩:=p;exact PySem.W.kia_one PySem.W.kitx_tuple I.kIn ⟨o,h1,h2⟩ e (fun z=>nomatch z) h
 |@dK a kvs ea =>
  cases (show u=Value.ref a from rx);obtain⟨_,_,vs,_,p⟩:=(show ObjOk X.prog X.w H s.heap a (.dK kvs) from I.hok a _ ea)
  obtain⟨o,es,ep,h1,h2,_⟩:=p;exact PySem.W.kia_one PySem.W.kitx_dict I.kIn ⟨o,h1,h2.1⟩ e (fun z=>nomatch z) h
 |@dT a kvs ea =>
  cases (show u=Value.ref a from rx);obtain⟨_,_,xs,_,o,es,ep,h1,h2,_⟩:=(show ObjOk X.prog X.w H s.heap a (.dT kvs) from I.hok a _ ea)
  exact PySem.W.kia_one PySem.W.kitx_dict I.kIn ⟨o,h1,h2.1⟩ e (fun z=>nomatch z) h
 |@ins a C dx fs ea cl ha hn htk hm =>cases (show u=Value.ref a from rx);obtain⟨mA,O,_⟩:=O3 I.hok ea;obtain⟨od,J,_⟩:=O.look;exact PySem.W.kia_one (PySem.W.kitx_own (cl.get _) cl.hd ha hn htk hm) I.kIn J e (fun z=>nomatch z) h
end
end L2
namespace L2
open PySem PySem.Spec PyProof.Rows
structure Room (k:Nat) (A:Around):Prop where
 hd:A.handled=none
 dp:A.depth+3*k+5<recursionLimit
 un:A.units+16*k+200<cLine
theorem Room.mono{j k:Nat}{A:Around}(r:Room k A)(h:j≤k):Room j A:=⟨r.hd,by have:=r.dp;omega,by have:=r.un;omega⟩
theorem Room.deeper{k:Nat}{A:Around}(r:Room (k+1) A)(env:Env):Room k (A.deeper env) :=
 ⟨r.hd,by have:=r.dp;show A.depth+1+3*k+5<_;omega,by have:=r.un;show A.units+3+16*k+200<_;omega⟩
theorem Room.in1{k:Nat}{A:Around}(r:Room (k+1) A):Room k A.in1 :=
 ⟨r.hd,by have:=r.dp;show A.depth+3*k+5<_;omega,by have:=r.un;show A.units+1+16*k+200<_;omega⟩
theorem JG {A:Around}{C:Addr}{us:List Value}{kw:List (Str×Value)}:(A.under (.builtin "type.__call__" ⟨.ref C::us,kw⟩)).depth=A.depth+1:=by
 first|rfl|simp[Around.under,Code.weight,Code.isCreation,Code.isGuard,Code.isCaller,Code.frames,Code.isFrame,guardIds]
theorem JH {A:Around}{C:Addr}{us:List Value}{kw:List (Str×Value)}:(A.under (.builtin "type.__call__" ⟨.ref C::us,kw⟩)).units=A.units+1:=by
 first|rfl|simp[Around.under,Code.cUnits,Code.frames,Code.isFrame]
theorem Room.make {k:Nat}{A:Around}(r:Room (k+1) A) (C:Addr) (us:List Value) (kw:List (Str×Value)):Room k (A.under (.builtin "type.__call__" ⟨.ref C::us,kw⟩)) :=
 ⟨r.hd,by have:=r.dp;rw[JG];omega,by have:=r.un;rw[JH];omega⟩
theorem Room.depth{k:Nat}{A:Around}(r:Room k A):A.depth<recursionLimit:=by have:=r.dp;omega
theorem Room.units{k:Nat}{A:Around}(r:Room k A):A.units+64<cLine:=by have:=r.un;omega
def OH:TA:=fun _ H Q=>Q [] H
def NH (ta:TE) (tr:TA):TA:=fun σ H Q=>ta σ H fun x H1=>tr σ H1 fun xs H2=>Q (x::xs) H2
section
variable {X:Cx}{e:Expr}{es:List Expr}{te:TE}{t:TA}{pos:Pos}
theorem pa_nil:PA X [] OH:=fun _ _ _ _ H Q I h=>Calls.spliced_nil ⟨[],H,I,.nil,h⟩
theorem Yo(ha:PE X e te)(hr:PA X es t)(hs:starEach (e::es) X.env=(false,eval e X.env)::starEach es X.env:=by rfl):PA X (e::es) (NH te t):=by intro pos pins s σ H Q I h;rw[hs];show wpAny _ _ (spliced ((false,eval e X.env)::backTo pos (starEach es X.env))) _ _ s;refine Calls.spliced_cons (thn (ha pins s σ H _ I h) fun u s1 ⟨x,H1,I1,r1,q1⟩=>?_);exact thn (hr pos pins s1 σ H1 _ I1 q1) fun us s2 ⟨xs,H2,I2,r2,q2⟩=>⟨x::xs,H2,I2,.cons r1 r2,q2⟩
def ET (t:TA):TE:=fun σ H Q=>t σ H fun xs H1=>xs.length≤sizeLine∧∀ p,H1 p=none→Q (.ref p) (upd H1 p (.tup xs))
def FK (t:TA):TE:=fun σ H Q=>t σ H fun xs H1=>xs.length≤sizeLine∧∀ p,H1 p=none→Q (.ref p) (upd H1 p (.lst xs))
theorem Ch{x1}(h:PA X es t):PE X (.Tuple es x1 pos) (ET t):=by intro pins s σ H Q I hq;refine wpAny_Tuple_spliced (thn (h pos pins s σ H _ I hq) fun us s1 ⟨xs,H1,I1,r,z,q⟩=>⟨by rw[←r.length];exact z,?_⟩);have hf:H1 s1.heap.objs.size=none:=I1.hok.fresh (Nat.le_refl _);refine⟨.ref s1.heap.objs.size,upd H1 s1.heap.objs.size (.tup xs),I1.laid (t':=s1.toks) (fun b u e=>Heap.get?_push_of_some _ e) (Nat.le_refl _) ?_,rfl,q _ hf⟩;exact⟨z,us,r,⟨_,Heap.get?_push_size _ rfl,rfl,_,rfl⟩⟩
theorem BU(h:PA X es t):PE X (.List es pos) (FK t):=by intro pins s σ H Q I hq;refine wpAny_List_spliced (thn (h pos pins s σ H _ I hq) fun us s1 ⟨xs,H1,I1,r,z,q⟩=>⟨by rw[←r.length];exact z,?_⟩);have hf:H1 s1.heap.objs.size=none:=I1.hok.fresh (Nat.le_refl _);refine⟨.ref s1.heap.objs.size,upd H1 s1.heap.objs.size (.lst xs),I1.laid (t':=s1.toks) (fun b u e=>Heap.get?_push_of_some _ e) (Nat.le_refl _) ?_,rfl,q _ hf⟩;exact⟨z,us,0,r,Heap.get?_push_size _ rfl⟩
end
abbrev Sp:=List V→Hp→VK→XK→Prop
abbrev CXT:=List Env→Hp→Shared→XK→Value→Shared→Prop
structure Env0 (P:Program) (w:World) (K:PySem.W.Frag) (mg:Str→Option Value) (base:Heap) (A:Around) (outer:List Env) (s:Shared) (H:Hp):Prop where
 frames:A.frames=some outer
 mod:Mod K mg base
 bs:∀ b o,base.get? b=some o→s.heap.get? b=some o∧H b=none
 bsz:base.objs.size≤s.heap.objs.size
 funs:s.heap.FunFrames base outer
 frf:∀ b∈frs outer,H b=none
 hok:HOk P w H s.heap
 bare:AllBare s.gens
def CE (outer:List Env) (P:Program) (w:World) (H:Hp) (s:Shared) (Q:VK) (u:Value) (s':Shared):Prop :=
 ∃ v H',s'.os=s.os∧AllBare s'.gens∧Un (frs outer) [] H H' s.heap s'.heap∧HOk P w H' s'.heap∧RelV v u∧Q v H'
def CR (CX:CXT) (outer:List Env) (P:Program) (w:World) (H:Hp) (s:Shared) (Q:VK) (E:XK) (r:Result) (s':Shared):Prop :=
 match r with
 |.ok (.ret u)=>CE outer P w H s Q u s'
 |.ok _=>False
 |.error e=>CX outer H s E e s'
structure FnOk (P:Program) (w:World) (K:PySem.W.Frag) (mg:Str→Option Value) (base:Heap) (CX:CXT) (k:Nat) (f:Addr) (fd:FuncData) (ps:List Str) (sp:Sp):Prop where
 len:∀ vs H Q E,sp vs H Q E→vs.length=ps.length
 run:∀ (A:Around) (outer:List Env) (s:Shared) (H:Hp) (args:Args) (us:List Value) (vs:List V) (Q:VK) (E:XK),Room k A→Env0 P w K mg base A outer s H→BindsTo s fd args (ps.zip us)→Vals vs us→sp vs H Q E→
  codeAny (model P w) A (.call (.ref f) args) (CR CX outer P w H s Q E) s
theorem FnOk.mono{P:Program}{w:World}{K:PySem.W.Frag}{mg:Str→Option Value}{base:Heap}{CX:CXT}{j k:Nat}{f:Addr}{fd:FuncData}{ps:List Str}{sp:Sp}(F:FnOk P w K mg base CX j f fd ps sp)(h:j≤k) :
  FnOk P w K mg base CX k f fd ps sp:=⟨F.len,fun A outer s H args us vs Q E hr=>F.run A outer s H args us vs Q E (hr.mono h)⟩
theorem FnOk.imp{P:Program}{w:World}{K:PySem.W.Frag}{mg:Str→Option Value}{base:Heap}{CX:CXT}{k:Nat}{f:Addr}{fd:FuncData}{ps:List Str}{sp sp':Sp}(F:FnOk P w K mg base CX k f fd ps sp)
  (h:∀ vs H Q E,sp' vs H Q E→sp vs H Q E):FnOk P w K mg base CX k f fd ps sp' :=
 ⟨fun vs H Q E q=>F.len vs H Q E (h _ _ _ _ q),fun A outer s H args us vs Q E hr he hb hv hs=>F.run A outer s H args us vs Q E hr he hb hv (h _ _ _ _ hs)⟩
theorem Env0.make{P:Program}{w:World}{K:PySem.W.Frag}{mg:Str→Option Value}{base:Heap}{A:Around}{outer:List Env}{s:Shared}{H:Hp}(e:Env0 P w K mg base A outer s H)(C:Addr)(us:List Value)(kw:List (Str×Value)) :
  Env0 P w K mg base (A.under (.builtin "type.__call__" ⟨.ref C::us,kw⟩)) outer s H:=⟨by first|exact e.frames|(simpa[Around.under,Code.envs,Code.isFrame,pushEnvs]using e.frames),e.mod,e.bs,e.bsz,e.funs,e.frf,e.hok,e.bare⟩
theorem Env0.in1{P:Program}{w:World}{K:PySem.W.Frag}{mg:Str→Option Value}{base:Heap}{A:Around}{outer:List Env}{s:Shared}{H:Hp}(e:Env0 P w K mg base A outer s H) :
  Env0 P w K mg base A.in1 outer s H:=⟨e.frames,e.mod,e.bs,e.bsz,e.funs,e.frf,e.hok,e.bare⟩
section
variable {X:Cx}{pins:List (Addr×Obj)}{σ:St}{H:Hp}{s s':Shared}
theorem Inv.env0(I:Inv X pins σ H s):Env0 X.prog X.w X.K X.mg X.base X.A X.stack s H :=
 ⟨I.ok.frames,I.ok.mod,I.bs,Nat.le_trans I.ok.bsz I.sz,I.stack,I.stkFree,I.hok,I.bare⟩
theorem Inv.after{Q:VK}{u:Value}(I:Inv X pins σ H s)(h:CE X.stack X.prog X.w H s Q u s'):EP X pins σ Q u s':=by obtain⟨v,H',os,bare,un,hok,r,q⟩:=h;obtain⟨hh,g,d,t,os'⟩:=s';obtain rfl:os'=s.os:=os;exact⟨v,H',I.call (h':=hh) (g':=g) (d':=d) (t':=t) (ch:=[]) un hok bare (fun b z=>absurd z (by simp)),r,q⟩
end
def Ab (sp:Sp) (dvs:List V) (E:XK) (t:TA):TE:=fun σ H Q=>t σ H fun vs H1=>sp (vs++dvs) H1 Q E
def GA (C:Addr) (m:Str) (sp:Sp) (dvs:List V) (E:XK) (ta:TE) (t:TA):TE:=fun σ H Q=>ta σ H fun x H1=>∃ a dx fs,x=.ref a∧H1 a=some (.ins C dx fs)∧fs.lookup m=none∧
 t σ H1 fun vs H2=>sp (x::(vs++dvs)) H2 Q E
def GK (C:Addr) (sp:Sp) (dvs:List V) (E:XK) (t:TA):TE:=fun σ H Q=>t σ H fun vs H1=>∀ x dx,H1 x=none→H1 dx=none→dx≠x→
 sp (.ref x::(vs++dvs)) (upd (upd H1 dx (.own x)) x (.ins C dx [])) (fun v H2=>v=.non∧Q (.ref x) H2) E
def Binds (K:PySem.W.Frag) (fd:FuncData) (ps:List Str) (ds:List Value):Prop :=
 ∀ (s:Shared) (us:List Value),K.In s.heap→(us++ds).length=ps.length→BindsTo s fd ⟨us,[]⟩ (ps.zip (us++ds))
theorem Binds.all{K:PySem.W.Frag}{fd:FuncData}{ps:List Str}(h:∀ us:List Value,us.length=ps.length→bindArgs fd ⟨us,[]⟩=pure (ps.zip us)):Binds K fd ps []:=fun s us _ hl=>by rw[List.append_nil]at hl ⊢;exact .of_eq (h us hl)
def Wq (CX:CXT) (X:Cx) (E:XK):Prop:=∀ (pins:List (Addr×Obj)) (σ:St) (H:Hp) (s:Shared) (e:Value) (s':Shared),Inv X pins σ H s→CX X.stack H s E e s'→X.xe e s'
section
variable {X:Cx}{CX:CXT}{k:Nat}{f C:Addr}{fd:FuncData}{ps:List Str}{sp:Sp}{dvs:List V}{ds:List Value}{E:XK}{x m:Str}{p pos apos:Pos}{e o:Expr}{es:List Expr}{ta:TE}{t:TA}
theorem MA{pins:List (Addr×Obj)}{σ:St}{H:Hp}{s:Shared}{Q:VK}{us:List Value}{vs:List V}(F:FnOk X.prog X.w X.K X.mg X.base CX k f fd ps sp)(hr:Room k X.A)(hb:Binds X.K fd ps ds)(hd:Vals dvs ds)(hx:Wq CX X E)
  (I:Inv X pins σ H s) (r:Vals vs us) (h:sp (vs++dvs) H Q E):wpAny (model X.prog X.w) X.A (call (.ref f) us) (EP X pins σ Q) X.xe s:=by
 have r2:Vals (vs++dvs) (us++ds):=r.append hd;have hl:(us++ds).length=ps.length:=by rw[←r2.length];exact F.len _ _ _ _ h
 refine wpAny_call (codeAny_mono (F.run X.A X.stack s H ⟨us,[]⟩ (us++ds) (vs++dvs) Q E hr I.env0 (hb s us I.kIn hl) r2 h) fun r s' hq=>?_);cases r with
 |error e=>exact hx pins σ H s e s' I hq
 |ok fl =>
  cases fl with
  |ret u=>exact I.after hq
  |next=>exact False.elim hq
  |brk=>exact False.elim hq
  |cont=>exact False.elim hq
theorem O9(F:FnOk X.prog X.w X.K X.mg X.base CX k f fd ps sp)(hr:Room k X.A)(hg:Gl X x)(hm:X.mg x=some (.ref f))(hk:PySem.W.keepIn X.K (.ref f)=true)(hb:Binds X.K fd ps ds)(hd:Vals dvs ds)(hx:Wq CX X E)
  (ha:PA X (e::es) t) (hdb:(x==("__debug__" : Str))=false:=by decide) (he:starEach (e::es) X.env=(false,eval e X.env)::starEach es X.env:=by rfl) (hpl:(backTo pos (starEach es X.env)).any (·.1)=false:=by rfl) :
  PE X (.Call (.Name x p) (e::es) [] pos) (Ab sp dvs E t):=by
 intro pins s σ H Q I h;refine wpAny_Call_Name_kw (WH I hg hm ?_ hdb);refine PySem.W.callWith_K (h₀:=X.base) I.ok.mod.kin hk (thn (ha pos pins s σ H _ I h) fun us s1 ⟨vs,H1,I1,r,q⟩=>⟨I1.kIn,?_⟩) he hpl;exact MA F hr hb hd hx I1 r q
theorem MH(F:FnOk X.prog X.w X.K X.mg X.base CX k f fd ps sp)(hr:Room k X.A)(hg:Gl X x)(hm:X.mg x=some (.ref f))(hk:PySem.W.keepIn X.K (.ref f)=true)(hb:Binds X.K fd ps ds)(hd:Vals dvs ds)(hx:Wq CX X E)
  (hdb:(x==("__debug__" : Str))=false:=by decide):PE X (.Call (.Name x p) [] [] pos) (Ab sp dvs E OH):=by
 intro pins s σ H Q I h;refine wpAny_Call_Name_kw (WH I hg hm ?_ hdb);exact PySem.W.callWith_K0 I.kIn hk (MA (us:=[]) F hr hb hd hx I .nil h)
structure Mk (K:PySem.W.Frag) (C f:Addr):Prop where
 makes:PySem.W.makesIn K C=true
 init:PySem.W.findIn K (.ref C) "__init__" = some (some (.ref f))
 fn:PySem.W.isFn K (.ref f)=true
 kp:PySem.W.keepIn K (.ref C)=true
end
def PK (X:Cx) (kws:List Keyword) (t:TA):Prop :=
 ∀ (pos:Pos) (pins:List (Addr×Obj)) (s:Shared) (σ:St) (H:Hp) (Q:List V→Hp→Prop),Inv X pins σ H s→t σ H Q→wpAny (model X.prog X.w) X.A (evalAll ((backToKw pos (keywordEach kws X.env)).map (·.2))) (AP X pins σ Q) X.xe s
section
variable {X:Cx}{CX:CXT}{k:Nat}{f C:Addr}{fd:FuncData}{ps ks:List Str}{sp:Sp}{E:XK}{x m:Str}{p pos apos kpos:Pos}{e o:Expr}{es:List Expr}{kws:List Keyword}{te ta:TE}{t tk:TA}{nm:Option Str}
structure KBinds (K:PySem.W.Frag) (fd:FuncData) (ps ks:List Str) (g:List Value→List Value→List Value) (gV:List V→List V→List V):Prop where
 to:∀ (s:Shared) (us ws:List Value),K.In s.heap→(g us ws).length=ps.length→BindsTo s fd ⟨us,ks.zip ws⟩ (ps.zip (g us ws))
 rel:∀ {vs:List V}{us:List Value}{zs:List V}{ws:List Value},Vals vs us→Vals zs ws→Vals (gV vs zs) (g us ws)
def E5 (sp:Sp) (gV:List V→List V→List V) (E:XK) (t tk:TA):TE:=fun σ H Q=>t σ H fun vs H1=>tk σ H1 fun zs H2=>sp (gV vs zs) H2 Q E
variable {g:List Value→List Value→List Value}{gV:List V→List V→List V}
end
structure FnScope (N P:List Str) (sc:Scope):Prop where
 kind:sc.kind=.function
 co:sc.isCoroutine=false
 gen:sc.isGenerator=false
 nd:N.Nodup
 pre:N.take P.length=P
 par:∀ x∈P,sc.names.lookup x=some .local∨sc.names.lookup x=some .cell
 nofree:∀ y∈sc.names,y.2≠.free
theorem Wi{kindOf:Str→Option NameKind}{x:Str}:∀ {binds:List (Str×Value)}{m:Str→Option Value},(∀ v,(x,v)∉binds)→bindL kindOf binds m x=m x
 |[],_,_=>rfl
 |(n,v)::r,m,h=>by
  unfold bindL;rw[Wi fun w hw=>h w (List.mem_cons_of_mem _ hw)];split
  ·have:x≠n:=by rintro rfl;exact h v List.mem_cons_self
   simp[this]
  ·rfl
theorem X1{kindOf:Str→Option NameKind}{x:Str}:∀ {binds:List (Str×Value)}{m:Str→Option Value},(∀ v,(x,v)∉binds)→bindC kindOf binds m x=m x
 |[],_,_=>rfl
 |(n,v)::r,m,h=>by
  unfold bindC;rw[X1 fun w hw=>h w (List.mem_cons_of_mem _ hw)];split
  ·rfl
  ·have:x≠n:=by rintro rfl;exact h v List.mem_cons_self
   simp[this]
theorem X3{kindOf:Str→Option NameKind}{x:Str}{v:Value}:∀ {P:List Str}{vs:List Value}{i:Nat}{m:Str→Option Value},P.Nodup→P[i]?=some x→vs[i]?=some v→kindOf x=some .local→
  bindL kindOf (P.zip vs) m x=some v
 |[],_,_,_,_,h,_,_=>by simp at h
 |_::_,[],_,_,_,_,h,_=>by simp at h
 |p::P,w::vs,0,m,nd,h1,h2,hk=>by simp at h1 h2;subst h1;subst h2;show bindL kindOf ((p,w)::P.zip vs) m p=_;unfold bindL;rw[Wi fun v hv=>(List.nodup_cons.mp nd).1 (List.of_mem_zip hv).1,if_pos hk];simp
 |p::P,w::vs,i+1,m,nd,h1,h2,hk=>by show bindL kindOf ((p,w)::P.zip vs) m x=_;unfold bindL;exact X3 (i:=i) (List.nodup_cons.mp nd).2 (by simpa using h1) (by simpa using h2) hk
theorem X6{kindOf:Str→Option NameKind}{x:Str}{v:Value}:∀ {P:List Str}{vs:List Value}{i:Nat}{m:Str→Option Value},P.Nodup→P[i]?=some x→vs[i]?=some v→kindOf x≠some .local→
  bindC kindOf (P.zip vs) m x=some v
 |[],_,_,_,_,h,_,_=>by simp at h
 |_::_,[],_,_,_,_,h,_=>by simp at h
 |p::P,w::vs,0,m,nd,h1,h2,hk=>by simp at h1 h2;subst h1;subst h2;show bindC kindOf ((p,w)::P.zip vs) m p=_;unfold bindC;rw[X1 fun v hv=>(List.nodup_cons.mp nd).1 (List.of_mem_zip hv).1,if_neg hk];simp
 |p::P,w::vs,i+1,m,nd,h1,h2,hk=>by show bindC kindOf ((p,w)::P.zip vs) m x=_;unfold bindC;exact X6 (i:=i) (List.nodup_cons.mp nd).2 (by simpa using h1) (by simpa using h2) hk
def start (N:List Str) (vs:List V):St:=vs.map some++List.replicate (N.length - vs.length) none
def XG (CX:CXT) (P:Program) (w:World) (K:PySem.W.Frag) (mg:Str→Option Value) (base:Heap) (N:List Str) (qual:Str) (scope:Scope) (f:Addr) (cd:Value) (A:Around) (outer:List Env) (s:Shared) (H:Hp) (E:XK):Cx where
 prog:=P
 w:=w
 K:=K
 mg:=mg
 base:=base
 A:=A.deeper (envOfC qual scope s.heap.objs.size f cd)
 N:=N
 s₀:=s
 H₀:=H
 env:=envOfC qual scope s.heap.objs.size f cd
 outer:=outer
 stack:=envOfC qual scope s.heap.objs.size f cd::outer
 ex:=[]
 calm:=true
 fn:=fun _=>true
 pn:=[]
 xe:=fun e s'=>wpAny (model P w) (A.deeper (envOfC qual scope s.heap.objs.size f cd)) (leaving (envOfC qual scope s.heap.objs.size f cd) e) (fun _ s''=>CX outer H s E e s'') (fun e' s''=>CX outer H s E e' s'') s'
theorem W6{sc:Scope}{n:Nat}{x:Str}(h:sc.names.lookup x=some .cell):∃ c,(cellsFrom n sc.names []).lookup x=some c:=by have q:=PySem.W.cellsFrom_some sc.names n [] (.inl h);exact Option.isSome_iff_exists.mp q
theorem Mm{CX:CXT}{P:Program}{w:World}{K:PySem.W.Frag}{mg:Str→Option Value}{base:Heap}{N ps:List Str}{qual:Str}{scope:Scope}{f:Addr}{cd:Value}{A:Around}{outer:List Env}{s s1:Shared}{H:Hp}{E:XK}{us:List Value}{vs:List V}
  (S:FnScope N ps scope) (hd:A.handled=none) (e0:Env0 P w K mg base A outer s H) (hl:vs.length=ps.length) (r:Vals vs us)
  (x:InCallC s s.heap.objs.size (bindL (envOfC qual scope s.heap.objs.size f cd).kindOf (ps.zip us) fun _=>none) (cellsFrom (s.heap.objs.size+1) scope.names []) (bindC (envOfC qual scope s.heap.objs.size f cd).kindOf (ps.zip us) fun _=>none) s1) :
  Inv (XG CX P w K mg base N qual scope f cd A outer s H E) [] (start N vs) H s1:=by
 have hpl:ps.length≤N.length:=by have:=congrArg List.length S.pre;rw[List.length_take]at this;omega
 obtain⟨h1,tk,rfl,hk⟩:=x.done;have noA:∀ b:Addr,b∉(XG CX P w K mg base N qual scope f cd A outer s H E).ex:=fun b z=>absurd (show b∈([]:List Addr) from z) (by simp);refine⟨⟨e0.mod,S.kind,rfl,rfl,Nat.le_refl _,fun y z c h1 h2=>?_,fun y hy=>?_,fun y c _ h=>?_,fun _=>hd,Around.frames_deeper e0.frames,.inr ⟨rfl,rfl⟩,fun b z=>absurd z (noA b),e0.bs,e0.bsz,fun b _ _=>noA b,fun b z=>absurd z (noA b),e0.funs,e0.frf⟩,
   rfl,e0.bare,Un.kept hk,⟨_,x.toInCall.ns,fun i y v h1 h2 h3=>?_⟩,fun y c h=>⟨_,x.cell y c h⟩,e0.hok.fresh (Nat.le_refl _),fun y c h=>?_,fun p hp=>absurd (show p∈([]:List (Addr×Obj)) from hp) (by simp),e0.hok.kept hk,?_⟩
 ·exact name_of_addr x.apart (PySem.mem_of_lookup h1) (PySem.mem_of_lookup h2)
 ·have hy:scope.names.lookup y=some .cell∨scope.names.lookup y=some .free:=hy;rcases hy with hy|hy
  ·exact W6 hy
  ·exact absurd rfl (S.nofree _ (PySem.mem_of_lookup hy))
 ·exact Nat.le_of_lt (x.above y c (PySem.mem_of_lookup h))
 ·have hi:i<vs.length:=by
   unfold start at h2;by_cases hi:i<vs.length
   ·exact hi
   ·rw[List.getElem?_append_right (by simpa using hi)]at h2;rw[List.getElem?_replicate]at h2;split at h2<;>cases h2
  have ha:vs[i]?=some v:=by
   unfold start at h2;rw[List.getElem?_append_left (by simpa using hi),List.getElem?_map]at h2;cases e:vs[i]? with
   |none=>rw[e]at h2;cases h2
   |some a=>rw[e]at h2;cases h2;rfl
  obtain⟨u,hu,rv⟩:=r.get ha;have hp:ps[i]?=some y:=by rw[←S.pre,List.getElem?_take_of_lt (by omega)];exact h1
  have ndP:ps.Nodup:=by rw[←S.pre];exact S.nd.sublist (List.take_sublist _ _)
  refine⟨u,rv,?_⟩;rcases S.par y (List.mem_of_getElem? hp)with k|k
  ·exact .inl ⟨k,X3 ndP hp hu k⟩
  ·obtain⟨c,e⟩:=W6 (n:=s.heap.objs.size+1) k;refine .inr ⟨.inl k,c,e,?_⟩;have q:=x.cell y c e;rw[X6 ndP hp hu (by show scope.names.lookup y≠_;rw[k];decide)]at q;exact q
 ·exact e0.hok.fresh (Nat.le_of_lt (x.above y c (PySem.mem_of_lookup h)))
 ·unfold start;show _=N.length;rw[List.length_append,List.length_map,List.length_replicate];omega
theorem U3{CX:CXT}{P:Program}{w:World}{K:PySem.W.Frag}{mg:Str→Option Value}{base:Heap}{k:Nat}{f:Addr}{name qual:Str}{params:Arguments}{body:List Stmt}{scope:Scope}{dV kV doc pm cdv ct oc:Value}{an od:Option Addr}
  {osl:Array (Option Value)}{N ps:List Str}{sp:Sp}(lk:K.lookup f=some ⟨oc,od,.func (PySem.W.fnOf name qual params body scope dV kV doc pm an cdv ct),osl⟩) (hcd:PySem.W.codeIn K cdv qual=true) (S:FnScope N ps scope)
  (len:∀ vs H Q E,sp vs H Q E→vs.length=ps.length)
  (hbody:∀ (A:Around) (outer:List Env) (s:Shared) (H:Hp) (vs:List V) (Q:VK) (E:XK),Room k (A.deeper (envOfC qual scope s.heap.objs.size f cdv))→sp vs H Q E→
    ∃ t,PSs (XG CX P w K mg base N qual scope f cdv A outer s H E) body t∧t { nx:=fun _ H'=>Q .non H',rt:=Q } (start N vs) H) :
  FnOk P w K mg base CX (k+1) f (PySem.W.fnOf name qual params body scope dV kV doc pm an cdv ct) ps sp:=by
 refine⟨len,fun A outer s H args us vs Q E hr e0 hb r hsp=>?_⟩;have hl:=len _ _ _ _ hsp;have KX:K.In s.heap:=e0.mod.kin.keeps fun b o e=>(e0.bs b o e).1;have lim:s.heap.NoLimit:=e0.mod.nolimit.keeps fun b o e=>(e0.bs b o e).1;have hkind:∀ y∈ps.zip us,scope.names.lookup y.1=some .local∨(scope.names.lookup y.1=some .cell∧((cellsFrom (s.heap.objs.size+1) scope.names []).lookup y.1).isSome=true):=fun⟨n,v⟩ hy=>by
  rcases S.par n (List.of_mem_zip hy).1 with q|q
  ·exact .inl q
  ·exact .inr ⟨q,PySem.W.cellsFrom_some _ _ _ (.inl q)⟩
 refine codeAny_call_function hr.depth (KX _ _ lk) rfl S.co S.gen rfl (PySem.W.codeRec_of KX hcd) (hb _ _ _ _ ?_);refine wpAny_newFunctionEnv_cells S.kind hkind fun env he s1 x=>?_;subst he;refine⟨lim.keeps x.toInCall.keep,codeAny_func ?_⟩;obtain⟨t,ht,hq⟩:=hbody A outer s H vs Q E (hr.deeper _) hsp;have I:Inv (XG CX P w K mg base N qual scope f cdv A outer s H E) [] (start N vs) H s1:=Mm S hr.hd e0 hl r x;refine wpAny_mono (ht [] s1 (start N vs) H _ I hq) (fun fl s' hs=>?_) fun e s' hs=>hs;have fin:∀ {σ':St}{H':Hp}{v:V}{u:Value},Inv (XG CX P w K mg base N qual scope f cdv A outer s H E) [] σ' H' s'→RelV v u→Q v H'→CE outer P w H s Q u s' :=
  fun {σ' H' v u} J rv q=>⟨v,H',J.os,J.bare,J.base,J.hok,rv,q⟩
 cases fl with
 |ret u =>obtain⟨v,σ',H',J,rv,q⟩:=hs;exact fin J rv q
 |next =>obtain⟨σ',H',J,q⟩:=hs;exact fin (v:=V.non) (u:=Value.none) J rfl q
 |brk =>obtain⟨_,_,_,q⟩:=hs;exact False.elim q
 |cont =>obtain⟨_,_,_,q⟩:=hs;exact False.elim q
end L2
namespace L2
open PySem PySem.Spec PyProof.Rows
section
variable {X:Cx}{x:Str}{p pos:Pos}{e:Expr}{es:List Expr}{t:TA}{id T:String}{r:List V→Hp→VK→Prop}
def tCB (r:List V→Hp→VK→Prop) (t:TA):TE:=fun σ H Q=>t σ H fun vs H1=>r vs H1 Q
theorem XB (hc:CallR X (.builtin id) r) (hg:Gl X x) (hm:X.mg x=none) (hv:bootBuiltins x=some (.builtin id)) (ha:PA X (e::es) t) (hn:x≠"__name__":=by decide) (hdb:(x==("__debug__" : Str))=false:=by decide)
  (he:starEach (e::es) X.env=(false,eval e X.env)::starEach es X.env:=by rfl) (hpl:(backTo pos (starEach es X.env)).any (·.1)=false:=by rfl):PE X (.Call (.Name x p) (e::es) [] pos) (tCB r t):=by
 intro pins s σ H Q I h;refine wpAny_Call_Name_kw (YK I hg hm hv ?_ hn hdb);exact PyProof.Rows.callWith_builtin1 (thn (ha pos pins s σ H _ I h) fun us s1 ⟨vs,H1,I1,r1,q1⟩=>hc pins s1 σ H1 vs us Q I1 r1 q1) he hpl
theorem YD (hc:CallR X (.type T) r) (hg:Gl X x) (hm:X.mg x=none) (hv:bootBuiltins x=some (.type T)) (ha:PA X (e::es) t) (hn:x≠"__name__":=by decide) (hdb:(x==("__debug__" : Str))=false:=by decide)
  (he:starEach (e::es) X.env=(false,eval e X.env)::starEach es X.env:=by rfl) (hpl:(backTo pos (starEach es X.env)).any (·.1)=false:=by rfl):PE X (.Call (.Name x p) (e::es) [] pos) (tCB r t):=by
 intro pins s σ H Q I h;refine wpAny_Call_Name_kw (YK I hg hm hv ?_ hn hdb);exact PyProof.Rows.callWith_type1 (thn (ha pos pins s σ H _ I h) fun us s1 ⟨vs,H1,I1,r1,q1⟩=>hc pins s1 σ H1 vs us Q I1 r1 q1) he hpl
end
end L2
namespace HT
open PySem PyProof.Rows
def lexLt:List Int→List Int→Bool
 |[],[]=>false
 |[],_::_=>true
 |_::_,[]=>false
 |x::xs,y::ys=>if x=y then lexLt xs ys else decide (x<y)
theorem lexLt_cons(x y:Int)(xs ys:List Int):lexLt (x::xs) (y::ys)=if x=y then lexLt xs ys else decide (x<y):=rfl
theorem XF:lexLt [] []=false:=rfl
theorem Xm(y:Int)(ys:List Int):lexLt [] (y::ys)=true:=rfl
theorem Xr(x:Int)(xs:List Int):lexLt (x::xs) []=false:=rfl
theorem eqAt_int(A:Around)(s:Shared)(a:Int)(t:Tok)(c:Int)(u:Tok):∃ e,SeqAt.EqAt A s (.int a t) (.int c u) e∧(e=true↔a=c) :=
 ⟨(a==c),SeqAt.EqAt.int_int a t c u,by simp⟩
theorem ND(A:Around)(s:Shared)(a:Int)(t:Tok)(c:Int)(u:Tok)(prog:Program)(w:World)(E:Value→Shared→Prop)(Q:Value→Shared→Prop)(h:Q (.bool (decide (a<c))) s) :
  wpAny (model prog w) A (richCompare .Lt (.int a t) (.int c u)) Q E s :=
 (PyProof.Rows.lt_int h:wpAny (model prog w) A (compareOp .Lt (.int a t) (.int c u)) Q E s)
section
open PySem.SeqAt
open PySem.AutoSeq1 (wpAny_loadPart')
open PySem.MeetsSeq PySem.MeetsSeq2 PySem.MeetsSeq3
theorem XD(l b:Addr)(items items2:Array Value)(n n2:Nat)(dd dd2:Option Addr)(sl sl2:Array (Option Value))(ns ms:List Int)(hi:IntsAre items.toList ns)(hj:IntsAre items2.toList ms) :
  Meets (Builtin.«tuple.__lt__» ⟨[.ref l,.ref b],[]⟩)
   (fun _ R s=>s.heap.get? l=some { cls:=.type "tuple",dict:=dd,data:=.seq items n,slots:=sl }∧s.heap.get? b=some { cls:=.type "tuple",dict:=dd2,data:=.seq items2 n2,slots:=sl2 }∧
     R (.ok (.ret (.bool (lexLt ns ms)))) s) :=
 .of_wp fun prog w A R s h=>by
  obtain⟨hp,g,d,tk,os⟩:=s;obtain⟨hl,hb,h⟩:=h;have f2:=AutoSeq1.sub_tuple_tuple;have z1:items.size=ns.length:=by rw[←hi.length];simp
  have z2:items2.size=ms.length:=by rw[←hj.length];simp
  wp_walk using wpAny_loadPart' hl,wpAny_loadPart' hb,wpAny_forIn_list _ (fun rest b s'=>b.1=none∧s'=⟨hp,g,d,tk,os⟩∧∃ (vs ws:List Value) (ns' ms':List Int),rest=vs.zip ws∧
    IntsAre vs ns'∧IntsAre ws ms'∧ns'.length+items2.size=ms'.length+items.size∧R (.ok (.ret (.bool (lexLt ns' ms')))) ⟨hp,g,d,tk,os⟩) _
  case turn =>
   rintro⟨y,x⟩ rest b s' ⟨hb',rfl,vs,ws,ns',ms',hz,hvi,hwi,hlen,hR⟩;cases hvi with
   |nil=>rw[List.zip_nil_left]at hz;cases hz
   |cons a t hvi' =>
    cases hwi with
    |nil=>rw[List.zip_nil_right]at hz;cases hz
    |cons c u hwi' =>
     rw[List.zip_cons_cons]at hz;injection hz with hyx hrest;injection hyx with hy hx;subst hy hx;rw[lexLt_cons]at hR;simp only[List.length_cons]at hlen;obtain⟨e,he,hiff⟩:=eqAt_int A.in1 ⟨hp,g,d,tk,os⟩ a t c u;refine wpAny_bind (he prog w _ _ ?_);cases e with
     |true =>
      rw[if_pos (hiff.mp rfl)]at hR
      wp_walk
      exact⟨rfl,rfl,_,_,_,_,hrest,hvi',hwi',by omega,hR⟩
     |false =>
      rw[if_neg (fun q=>absurd (hiff.mpr q) Bool.false_ne_true)]at hR;have hri:=ND A.in1 ⟨hp,g,d,tk,os⟩ a t c u prog w
      wp_walk using hri
      exact⟨_,rfl,by simpa using hR⟩
  case fin =>
   rintro⟨b1,b2⟩ s' ⟨hb',rfl,vs,ws,ns',ms',hz,hvi,hwi,hlen,hR⟩;simp only at hb';subst hb';have hv:lexLt ns' ms'=decide (items.size<items2.size):=by
    cases hvi with
    |nil =>
     cases hwi with
     |nil =>simp only[List.length_nil]at hlen;rw[XF];exact(decide_eq_false (by omega)).symm
     |cons c u hw =>simp only[List.length_nil,List.length_cons]at hlen;rw[Xm];exact(decide_eq_true (by omega)).symm
    |cons a t hv =>
     cases hwi with
     |nil =>simp only[List.length_nil,List.length_cons]at hlen;rw[Xr];exact(decide_eq_false (by omega)).symm
     |cons c u hw =>rw[List.zip_cons_cons]at hz;cases hz
   rw[hv]at hR
   wp_walk
   exact⟨_,rfl,by simpa[Builtin.Tuple.tupleCompareSizes]using hR⟩
  case h =>exact⟨rfl,rfl,items.toList,items2.toList,ns,ms,rfl,hi,hj,by omega,h⟩
end
section
variable {prog:Program}{w:World}{A:Around}{E:Value→Shared→Prop}{s:Shared}
theorem lt_tupInts{l b:Addr}{items items2:Array Value}{ns ms:List Int}{Q:Value→Shared→Prop}(hl:IsTup s.heap l items)(hb:IsTup s.heap b items2)(hi:IntsAre items.toList ns)(hj:IntsAre items2.toList ms)
  (hu:A.units<cLine) (h:Q (.bool (lexLt ns ms)) s):wpAny (model prog w) A (compareOp .Lt (.ref l) (.ref b)) Q E s:=by
 obtain⟨⟨cls,dd,data,sl⟩,ho,hc,n,hd⟩:=id hl;obtain⟨⟨cls2,dd2,data2,sl2⟩,ho2,hc2,n2,hd2⟩:=id hb;simp only at hc hd hc2 hd2;subst hc hd hc2 hd2;exact richCompare_meets_room (op:=.Lt) ⟨_,ho,rfl⟩ ⟨_,ho2,rfl⟩ PySem.F.slot_tuple_lt PySem.F.entry_tuple_lt (PySem.F.args_tuple_lt_2 _ _) (XD l b items items2 n n2 dd dd2 sl sl2 ns ms hi hj)
  ⟨ho,ho2,show Value.bool (lexLt ns ms)≠Value.notImplemented∧Q (.bool (lexLt ns ms)) s from ⟨(fun x=>nomatch x),h⟩⟩ hu
theorem cat_tup{t b:Addr}{vs ws:List Value}{Q:Value→Shared→Prop}(ht:IsTup s.heap t vs.toArray)(hb:IsTup s.heap b ws.toArray)(hv:vs≠[])
  (h1:ws=[]→Q (.ref t) s) (h2:ws≠[]→Q (.ref s.heap.objs.size) {s with heap:=s.heap.push {cls:=.type "tuple",data:=.seq (vs++ws).toArray}})
  (hsz:vs.length+ws.length≤sizeLine):wpAny (model prog w) A (binaryOp .Add (.ref t) (.ref b)) Q E s:=by
 obtain⟨⟨cls,dd,data,sl⟩,ho,hc,n,hd⟩:=id ht;obtain⟨⟨cls2,dd2,data2,sl2⟩,ho2,hc2,n2,hd2⟩:=id hb;simp only at hc hd hc2 hd2;subst hc hd hc2 hd2;have e:vs.toArray++ws.toArray=(vs++ws).toArray:=by simp
 by_cases hw:ws=[]
 ·exact concat_meets ⟨_,ho,rfl⟩ ⟨_,ho2,rfl⟩ noFill_tuple_add seq_tuple_add PySem.F.slot_tuple_add PySem.F.entry_tuple_add (PySem.F.args_tuple_add_2 _ _)
   (tuple_addW1 t b vs.toArray ws.toArray n n2 dd dd2 sl sl2 (by simpa using hv) (by simp[hw])) ⟨ho,ho2,h1 hw⟩
 ·refine concat_meets ⟨_,ho,rfl⟩ ⟨_,ho2,rfl⟩ noFill_tuple_add seq_tuple_add PySem.F.slot_tuple_add PySem.F.entry_tuple_add (PySem.F.args_tuple_add_2 _ _)
   (tuple_addW2 t b vs.toArray ws.toArray n n2 dd dd2 sl sl2 (by simpa using hv) (by simpa using hw) (by rw[List.size_toArray,List.size_toArray];exact hsz)) ⟨ho,ho2,?_⟩
  rw[e];exact h2 hw
def sIx (n d:Nat):Option Int→Nat
 |none=>d
 |some v=>if v<0 then(v+(n:Int)).toNat else min v.toNat n
theorem Av(n d:Nat)(hd:d≤n)(o:Option Int):sIx n d o≤n:=by
 cases o with
 |none=>exact hd
 |some v =>
  show(if v<0 then(v+(n:Int)).toNat else min v.toNat n)≤n;by_cases hv:v<0
  ·rw[if_pos hv];omega
  ·rw[if_neg hv];exact Nat.min_le_right _ _
theorem clip_eq(v:Int)(n d:Nat):(if v<0 then max (v+(n:Int)) 0 else min v (n:Int))=((sIx n d (some v):Nat):Int):=by
 show(if v<0 then max (v+(n:Int)) 0 else min v (n:Int))=(((if v<0 then(v+(n:Int)).toNat else min v.toNat n):Nat):Int)
 by_cases hv:v<0
 ·simp only[if_pos hv];omega
 ·simp only[if_neg hv];omega
theorem Js(lo hi:Option Int)(n:Nat):Builtin.Slice.sliceAdjust lo hi 1 (n:Int)=(((sIx n 0 lo:Nat):Int),((sIx n n hi:Nat):Int)):=by
 have h1:¬ ((1:Int)<0):=by omega
 unfold Builtin.Slice.sliceAdjust;simp only[h1,if_false];refine Prod.ext ?_ ?_
 ·cases lo with
  |none=>rfl
  |some v=>exact clip_eq v n 0
 ·cases hi with
  |none=>rfl
  |some v=>exact clip_eq v n n
theorem JC(i j:Nat):Builtin.Slice.slicePlaces (i:Int) (j:Int) 1=j - i:=by
 unfold Builtin.Slice.slicePlaces;have h1:(1:Int) > 0:=by omega
 simp only[h1,if_true,Int.ediv_one];split<;>omega
theorem Xu{v:Value}{o:Option Int}{Q:Option Int→Shared→Prop}(p:IsPart v o)(h:Q o s):wpAny (model prog w) A (Builtin.Slice.slicePartIndex v) Q E s:=by
 cases p with
 |none=>exact slicePart_none h
 |int i t=>exact slicePart_int h
theorem YI{sl:Addr}{vl vu:Value}{lo hi:Option Int}{n:Nat}{Q:Int×Int×Nat→Shared→Prop}(hs:s.heap.IsSliceOf sl vl vu .none)(pl:IsPart vl lo)(pu:IsPart vu hi)
  (h:Q (((sIx n 0 lo:Nat):Int),1,sIx n n hi - sIx n 0 lo) s):wpAny (model prog w) A (Builtin.Slice.sliceApplied (.ref sl) (pure (n:Int))) Q E s:=by
 obtain⟨os,hos,hcs,hds⟩:=id hs;unfold Builtin.Slice.sliceApplied Builtin.Slice.sliceFields;refine wpAny_bind (wpAny_bind (wpAny_field hos hds (x:=vl) rfl (wpAny_bind (wpAny_field hos hds (x:=vu) rfl (wpAny_bind (wpAny_field hos hds (x:=.none) rfl (wpAny_pure ?_)))))));refine wpAny_bind (slicePart_none ?_);show wpAny _ _ (if((1:Int)==0)=true then _ else _) _ _ s;rw[if_neg (by decide)];refine wpAny_bind (Xu pl (wpAny_bind (Xu pu (wpAny_bind (wpAny_pure ?_)))));show wpAny _ _ (match Builtin.Slice.sliceAdjust lo hi 1 (n:Int)with|(lo,hi)=>pure (lo,(1:Int),Builtin.Slice.slicePlaces lo hi 1)) _ _ s;rw[Js lo hi n];show wpAny _ _ (pure (((sIx n 0 lo:Nat):Int),(1:Int),Builtin.Slice.slicePlaces ((sIx n 0 lo:Nat):Int) ((sIx n n hi:Nat):Int) 1)) _ _ s;rw[JC];exact wpAny_pure h
theorem Nm(xs:Array Value)(i k:Nat):((List.range k).filterMap fun(m:Nat)=>xs[((i:Int)+(m:Int)*1).toNat]?).toArray=((xs.toList.drop i).take k).toArray:=by
 have e:(fun(m:Nat)=>xs[((i:Int)+(m:Int)*1).toNat]?)=fun m=>xs[i+m]?:=by
  funext m;have:((i:Int)+(m:Int)*1).toNat=i+m:=by omega
  rw[this]
 rw[e];have:=pick_run xs i k;rw[List.filterMap_map]at this;have e2:((fun x=>xs[x]?) ∘ fun x=>i+x)=fun m=>xs[i+m]?:=rfl;rw[e2]at this;rw[this]
theorem getItem_tuple_cut{t sl:Addr}{items:Array Value}{vl vu:Value}{lo hi:Option Int}{Q:Value→Shared→Prop}(ht:IsTup s.heap t items)(hs:s.heap.IsSliceOf sl vl vu .none)(pl:IsPart vl lo)(pu:IsPart vu hi)
  (hw:¬ (sIx items.size 0 lo=0∧sIx items.size items.size hi=items.size))
  (h:Q (.ref s.heap.objs.size) {s with heap:=s.heap.push {cls:=.type "tuple",data:=.seq ((items.toList.drop (sIx items.size 0 lo)).take (sIx items.size items.size hi - sIx items.size 0 lo)).toArray}})
  (hsz:items.size≤sizeLine):wpAny (model prog w) A (getItem (.ref t) (.ref sl)) Q E s:=by
 have htake:sizeOk (.seq ((items.toList.drop (sIx items.size 0 lo)).take (sIx items.size items.size hi - sIx items.size 0 lo)).toArray):=by show((items.toList.drop (sIx items.size 0 lo)).take (sIx items.size items.size hi - sIx items.size 0 lo)).toArray.size≤sizeLine;rw[List.size_toArray,List.length_take,List.length_drop,Array.length_toList];omega
 have hj:sIx items.size items.size hi≤items.size:=Av _ _ (Nat.le_refl _) hi;obtain⟨os,hos,hcs,hds⟩:=id hs;have hTs:s.TypeIs (.ref sl) "slice":=⟨os,hos,hcs⟩
 unfold getItem
 try with_reducible refine wpAny_holding ?_
 first|refine wpAny_bind (wpAny_pure ?_)|skip
 refine wpAny_bind (wpAny_sequenceKey ht.typeIs (by decide) ?_);refine wpAny_bind (wpAny_callSpecial?_slot (name:=Str.ofString "__getitem__") ht.typeIs PyProof.Rows.slot_tuple_getitem
   (wpAny_call_entry PyProof.Rows.slot_tuple_getitem ht.typeIs entry_tuple_getitem ?_ (args_tuple_getitem _ _)))
 show wpAny _ _ (Builtin.Tuple.tupleItemsOf (.ref t) >>= _) _ _ s;refine wpAny_bind (tupleItemsOf_ ht ?_);refine wpAny_bind (wpAny_typeOf hTs ?_);rw[if_pos (by decide)];refine wpAny_bind (YI hs pl pu ?_);have hno:¬ ((((sIx items.size 0 lo:Nat):Int)==0&&(1:Int)==1&&(sIx items.size items.size hi - sIx items.size 0 lo)==items.size)=true):=by intro q;rw[bAq,bAq]at q;have q1:((sIx items.size 0 lo:Nat):Int)=0:=eq_of_beq q.1.1;have q2:sIx items.size items.size hi - sIx items.size 0 lo=items.size:=eq_of_beq q.2;exact hw ⟨by omega,by omega⟩
 show wpAny _ _ (if(((sIx items.size 0 lo:Nat):Int)==0&&(1:Int)==1&&(sIx items.size items.size hi - sIx items.size 0 lo)==items.size)=true then _ else _) _ _ s;rw[if_neg hno,Nm]
 first
  |exact wpAny_bind (m:=Builtin.Tuple.tupleExact _) (wpAny_newObj_type (wpAny_pure ⟨_,rfl,wpAny_pure h⟩) htake)
  |exact wpAny_bind (m:=Builtin.Tuple.tupleExact _) (wpAny_newObj_type (wpAny_bind (wpAny_pure (wpAny_pure ⟨_,rfl,wpAny_pure h⟩))) htake)
  |exact wpAny_bind (wpAny_bind (m:=Builtin.Tuple.tupleExact _) (wpAny_newObj_type (wpAny_pure (wpAny_pure ⟨_,rfl,wpAny_pure h⟩)) htake))
  |exact wpAny_bind (wpAny_bind (m:=Builtin.Tuple.tupleExact _) (wpAny_newObj_type (wpAny_pure ⟨_,rfl,wpAny_pure h⟩) htake))
end
end HT
namespace L2
open PySem PySem.Spec PyProof.Rows
abbrev TO:=St→Hp→(Option Int→Hp→Prop)→Prop
def PO (X:Cx) (e:Option Expr) (t:TO):Prop :=
 ∀ (pins:List (Addr×Obj)) (s:Shared) (σ:St) (H:Hp) (Q:Option Int→Hp→Prop),Inv X pins σ H s→t σ H Q→
  wpAny (model X.prog X.w) X.A (evalPart e X.env) (fun u s'=>∃ o H',Inv X pins σ H' s'∧IsPart u o∧Q o H') X.xe s
def OJ:TO:=fun _ H Q=>Q none H
def Cw (t:TE):TO:=fun σ H Q=>t σ H fun x H1=>∃ i,x=.int i∧Q (some i) H1
theorem ZW{ns:List Int}:∀ {us:List Value},Vals (ns.map V.int) us→IntsAre us ns:=by
 induction ns with
 |nil=>intro us r;rw[List.map_nil]at r;cases r;exact .nil
 |cons n ns ih =>
  intro us r;rw[List.map_cons]at r;cases r with
  |cons r1 r2 =>obtain⟨t,e⟩:=r1;subst e;exact .cons n t (ih r2)
section
variable {X:Cx}{e:Expr}{te:TE}{lo hi:Option Expr}{tl th:TO}{pos p2:Pos}
theorem po_none:PO X none OJ:=by intro pins s σ H Q I h;rw[evalPart_none];exact wpAny_pure ⟨none,H,I,.none,h⟩
theorem Uv(h:PE X e te):PO X (some e) (Cw te):=by intro pins s σ H Q I hw;rw[evalPart_some];refine thn (h pins s σ H _ I hw) fun u s1 ⟨x,H1,I1,r1,q1⟩=>?_;obtain⟨i,rfl,q⟩:=q1;obtain⟨t,rfl⟩:=r1;exact⟨some i,H1,I1,.int i t,q⟩
def SlR (X:Cx) (r:V→Option Int→Option Int→Hp→VK→Prop):Prop :=
 ∀ (pins:List (Addr×Obj)) (s:Shared) (σ:St) (H:Hp) (x:V) (v vl vu:Value) (lo hi:Option Int) (sl:Addr) (Q:VK),Inv X pins σ H s→RelV x v→s.heap.IsSliceOf sl vl vu .none→IsPart vl lo→IsPart vu hi→r x lo hi H Q→
  ∃ T id,typeLookup (.type T) "__getitem__" = pure (some (.builtin id))∧s.TypeIs v T∧wpAny (model X.prog X.w) X.A (getItem v (.ref sl)) (EP X pins σ Q) X.xe s
theorem SlR.or{r r':V→Option Int→Option Int→Hp→VK→Prop}(h:SlR X r)(h':SlR X r'):SlR X (fun x lo hi H Q=>r x lo hi H Q∨r' x lo hi H Q):=by
 intro pins s σ H x v vl vu lo hi sl Q I rx hs pl pu q;rcases q with q|q
 ·exact h pins s σ H x v vl vu lo hi sl Q I rx hs pl pu q
 ·exact h' pins s σ H x v vl vu lo hi sl Q I rx hs pl pu q
def tSl (r:V→Option Int→Option Int→Hp→VK→Prop) (te:TE) (tl th:TO):TE:=fun σ H Q=>te σ H fun x H1=>tl σ H1 fun l H2=>th σ H2 fun u H3=>r x l u H3 Q
theorem MX {r:V→Option Int→Option Int→Hp→VK→Prop}(hr:SlR X r) (he:PE X e te) (hl:PO X lo tl) (hu:PO X hi th):PE X (.Subscript e (.Slice lo hi none p2) pos) (tSl r te tl th):=by intro pins s σ H Q I h;refine Subscript_ (thn (he pins s σ H _ I h) fun v s1 ⟨x,H1,I1,r1,q1⟩=>?_);refine wpAny_Slice (thn (hl pins s1 σ H1 _ I1 q1) fun vl s2 ⟨l,H2,I2,pl,q2⟩=>thn (hu pins s2 σ H2 _ I2 q2) fun vu s3 ⟨u,H3,I3,pu,q3⟩=>?_);rw[evalPart_none];refine wpAny_pure ?_;have I4:Inv X pins σ H3 {s3 with heap:=s3.heap.push {cls:=.type "slice",data:=.fields #[vl,vu,.none]}}:=I3.kept (t':=s3.toks) fun b ob q=>Heap.get?_push_of_some _ q;obtain⟨T,id,hT,ht,hg⟩:=hr pins {s3 with heap:=s3.heap.push {cls:=.type "slice",data:=.fields #[vl,vu,.none]}} σ H3 x v vl vu l u s3.heap.objs.size Q I4 r1 (Heap.IsSliceOf.new ..) pl pu q3;show wpAny (model X.prog X.w) X.A (subscriptTail e (.Slice lo hi none p2) v (.ref s3.heap.objs.size)) (EP X pins σ Q) X.xe {s3 with heap:=s3.heap.push {cls:=.type "slice",data:=.fields #[vl,vu,.none]}};exact tail_any (ops:=[.ref s3.heap.objs.size,v]) ht hT hg (by with_unfolding_all rfl)
def WB (xs:List V) (lo hi:Option Int):List V:=(xs.drop (HT.sIx xs.length 0 lo)).take (HT.sIx xs.length xs.length hi - HT.sIx xs.length 0 lo)
theorem YO(xs:List V)(lo hi:Option Int):(WB xs lo hi).length≤xs.length:=by unfold WB;rw[List.length_take,List.length_drop];omega
def DH (K:PySem.W.Frag):V→Option Int→Option Int→Hp→VK→Prop:=fun x lo hi H Q=>∃ a xs,x=.ref a∧SqT K H a xs∧
 ¬ (HT.sIx xs.length 0 lo=0∧HT.sIx xs.length xs.length hi=xs.length)∧∀ p,H p=none→Q (.ref p) (upd H p (.tup (WB xs lo hi)))
theorem sl_tup:SlR X (DH X.K):=by
 intro pins s σ H x v vl vu lo hi sl Q I rx hs pl pu h;obtain⟨a,xs,rfl,hx,hw,q⟩:=h;cases rx;obtain⟨its,r,ht,hz⟩:=I.tuple hx;have hlen:its.toArray.size=xs.length:=by rw[List.size_toArray];exact r.length.symm
 refine⟨"tuple",_,PyProof.Rows.slot_tuple_getitem.lookup,ht.typeIs,?_⟩;refine HT.getItem_tuple_cut ht hs pl pu (by rw[hlen];exact hw) ?_ (by rw[hlen];exact hz);rw[hlen];refine⟨.ref s.heap.objs.size,_,I.laid (t':=s.toks) (o:=.tup (WB xs lo hi)) (fun b ob q=>Heap.get?_push_of_some _ q) (Nat.le_refl _) ?_,rfl,q _ (I.hok.fresh (Nat.le_refl _))⟩;exact⟨Nat.le_trans (YO xs lo hi) hz,_,(r.drop (HT.sIx xs.length 0 lo)).take (HT.sIx xs.length xs.length hi - HT.sIx xs.length 0 lo),IsTup.new _ _⟩
def DU (K:PySem.W.Frag):R2:=fun x y H Q=>∃ a b ns ms,x=.ref a∧y=.ref b∧SqT K H a (ns.map V.int)∧SqT K H b (ms.map V.int)∧Q (.bl (HT.lexLt ns ms)) H
theorem BB(hu:X.A.units<cLine):OpR X (compareOp .Lt) (DU X.K):=by intro pins s σ H x y v u Q I rx ry h;obtain⟨a,b,ns,ms,rfl,rfl,ha,hb,q⟩:=h;cases rx;cases ry;obtain⟨its,r1,p1,_⟩:=I.tuple ha;obtain⟨its2,r2,p2,_⟩:=I.tuple hb;have i1:IntsAre its.toArray.toList ns:=ZW r1;have i2:IntsAre its2.toArray.toList ms:=ZW r2;exact HT.lt_tupInts p1 p2 i1 i2 hu ⟨.bl (HT.lexLt ns ms),H,I,rfl,q⟩
def UP (K:PySem.W.Frag):R2:=fun x y H Q=>∃ a b xs ys,x=.ref a∧y=.ref b∧SqT K H a xs∧SqT K H b ys∧xs≠[]∧xs.length+ys.length≤sizeLine∧
 (ys=[]→Q (.ref a) H)∧(ys≠[]→∀ p,H p=none→Q (.ref p) (upd H p (.tup (xs++ys))))
theorem Vals.nil_iff{xs:List V}{us:List Value}(r:Vals xs us):us=[]↔xs=[]:=by
 cases r with
 |nil=>simp
 |cons _ _=>simp
theorem Ub:OpR X (binaryOp .Add) (UP X.K):=by intro pins s σ H x y v u Q I rx ry h;obtain⟨a,b,xs,ys,rfl,rfl,ha,hb,hx,hz,q1,q2⟩:=h;cases rx;cases ry;obtain⟨its,r1,p1,_⟩:=I.tuple ha;obtain⟨its2,r2,p2,_⟩:=I.tuple hb;refine HT.cat_tup p1 p2 (fun z=>hx (r1.nil_iff.mp z)) (fun z=>⟨.ref a,H,I,rfl,q1 (r2.nil_iff.mp z)⟩) (fun z=>?_) (by rw[←r1.length,←r2.length];exact hz);refine⟨.ref s.heap.objs.size,_,I.laid (t':=s.toks) (o:=.tup (xs++ys)) (fun b ob q=>Heap.get?_push_of_some _ q) (Nat.le_refl _) ?_,rfl,q2 (fun w=>z (r2.nil_iff.mpr w)) _ (I.hok.fresh (Nat.le_refl _))⟩;exact⟨by rw[List.length_append];exact hz,_,r1.append r2,IsTup.new _ _⟩
end
end L2
namespace L2
open PySem PySem.Spec PyProof.Rows
def ixN (n:Nat) (i:Int):Option Nat:=if 0≤i then(if i<n then some i.toNat else none)else if -(n:Int)≤i then some (i+n).toNat else none
def atI {α:Type}(xs:List α) (i:Int):Option α:=(ixN xs.length i).bind fun j=>xs[j]?
theorem Kw{n:Nat}{i:Int}{j:Nat}(h:ixN n i=some j):seqIndex? i n=some j∧j<n∧-(n:Int)≤i∧i<n:=by
 unfold ixN at h;by_cases h0:0≤i
 ·rw[if_pos h0]at h;by_cases h1:i<n
  ·rw[if_pos h1]at h;have e:i.toNat=j:=Option.some.inj h;exact⟨by rw[seqIndex_of h0 h1,e],by omega,by omega,h1⟩
  ·rw[if_neg h1]at h;cases h
 ·rw[if_neg h0]at h;by_cases h1:-(n:Int)≤i
  ·rw[if_pos h1]at h;have e:(i+n).toNat=j:=Option.some.inj h;exact⟨by rw[seqIndex_neg (by omega) h1,e],by omega,h1,by omega⟩
  ·rw[if_neg h1]at h;cases h
theorem Wz{α:Type}{xs:List α}{i:Int}{v:α}(h:atI xs i=some v):∃ j,seqIndex? i xs.length=some j∧xs[j]?=some v∧j<xs.length∧-(xs.length:Int)≤i∧i<xs.length:=by
 unfold atI at h;cases e:ixN xs.length i with
 |none=>rw[e]at h;cases h
 |some j =>rw[e]at h;obtain⟨h1,h2,h3,h4⟩:=Kw e;exact⟨j,h1,h,h2,h3,h4⟩
def Wr (b:Expr):Prop:=∀ o i,subscripted b false o i=operate [o,i] (getItem o i)
def IxR (X:Cx) (r:R2):Prop :=
 ∀ (value slice:Expr) (pins:List (Addr×Obj)) (s:Shared) (σ:St) (H:Hp) (x y:V) (v u:Value) (Q:VK),Inv X pins σ H s→RelV x v→RelV y u→r x y H Q→
  subscripted slice false v u=operate [v,u] (getItem v u)→wpAny (model X.prog X.w) X.A (subscriptTail value slice v u) (EP X pins σ Q) X.xe s
def MtR (X:Cx) (id:String) (r:V→List V→Hp→VK→Prop):Prop :=
 ∀ (pins:List (Addr×Obj)) (s:Shared) (σ:St) (H:Hp) (x:V) (xs:List V) (v:Value) (us:List Value) (Q:VK),Inv X pins σ H s→RelV x v→Vals xs us→r x xs H Q→
  wpAny (model X.prog X.w) X.A (call (.builtin id) (v::us)) (EP X pins σ Q) X.xe s
section
variable {X:Cx}{a b:Expr}{ta tb:TE}{pos:Pos}
theorem IxR.or{r r':R2}(h:IxR X r)(h':IxR X r'):IxR X (fun x y H Q=>r x y H Q∨r' x y H Q):=by
 intro value slice pins s σ H x y v u Q I rx ry q hs;rcases q with q|q
 ·exact h value slice pins s σ H x y v u Q I rx ry q hs
 ·exact h' value slice pins s σ H x y v u Q I rx ry q hs
theorem MtR.or{id:String}{r r':V→List V→Hp→VK→Prop}(h:MtR X id r)(h':MtR X id r'):MtR X id (fun x xs H Q=>r x xs H Q∨r' x xs H Q):=by
 intro pins s σ H x xs v us Q I rx rs q;rcases q with q|q
 ·exact h pins s σ H x xs v us Q I rx rs q
 ·exact h' pins s σ H x xs v us Q I rx rs q
theorem C9{r:R2}(hr:IxR X r)(ha:PE X a ta)(hb:PE X b tb)(hs:Wr b):PE X (.Subscript a b pos) (tOp r ta tb):=by intro pins s σ H Q I h;exact Subscript_ (AH ha hb I h fun v u s2 x y H2 I2 rx ry q=>hr a b pins s2 σ H2 x y v u Q I2 rx ry q (hs _ _))
def DF (K:PySem.W.Frag):R2:=fun x y H Q=>∃ p xs i v,x=.ref p∧y=.int i∧SqL K H p xs∧atI xs i=some v∧Q v H
def Ef (K:PySem.W.Frag):R2:=fun x y H Q=>∃ p xs i v,x=.ref p∧y=.int i∧SqT K H p xs∧atI xs i=some v∧Q v H
def D4:R2:=fun x y H Q=>∃ z i c,x=.str z∧y=.int i∧z.length≤sizeLine∧atI z.cps.toList i=some c∧Q (.str ⟨#[c]⟩) H
theorem ix_list:IxR X (DF X.K):=by
 intro value slice pins s σ H x y v u Q I rx ry h hs;obtain⟨p,xs,i,z,rfl,rfl,hq,he,q⟩:=h;cases rx;obtain⟨t,rfl⟩:=ry;obtain⟨its,r,pl,hz⟩:=I.list hq;obtain⟨j,h1,h2,h3,h4,h5⟩:=Wz he;obtain⟨w,ew,rw'⟩:=r.get h2;have hl:=r.length;have hn:=Ym;have fin:EP X pins σ Q w s:=⟨z,H,I,rw',q⟩
 by_cases h0:0≤i
 ·have hj:i.toNat=j:=by
   rw[seqIndex_of h0 h5]at h1;exact Option.some.inj h1
  exact item_listR pl.isList h0 (by omega) (by rw[hj];simpa using ew) fin hs
 ·have hj:(i+(its.toArray.size:Int)).toNat=j:=by
   rw[seqIndex_neg (by omega) h4]at h1;rw[List.size_toArray,←hl];exact Option.some.inj h1
  exact subscriptTail_builtinR (x:=w) pl.isList.typeIs slot_list_getitem.lookup
   (wpAny_getItem_list_neg (Q:=fun r s'=>r=w∧EP X pins σ Q r s') pl.isList (by omega) (by rw[List.size_toArray]<;>omega) (by omega) (by rw[hj];simpa using ew) ⟨rfl,fin⟩) hs
theorem ix_tup:IxR X (Ef X.K):=by
 intro value slice pins s σ H x y v u Q I rx ry h hs;obtain⟨p,xs,i,z,rfl,rfl,hq,he,q⟩:=h;cases rx;obtain⟨t,rfl⟩:=ry;obtain⟨its,r,pl,hz⟩:=I.tuple hq;obtain⟨j,h1,h2,h3,h4,h5⟩:=Wz he;obtain⟨w,ew,rw'⟩:=r.get h2;have hl:=r.length;have hn:=Ym;have fin:EP X pins σ Q w s:=⟨z,H,I,rw',q⟩
 exact subscriptTail_builtinR (x:=w) pl.typeIs slot_tuple_getitem.lookup
  (getItem_tuple (j:=j) (Q:=fun r s'=>r=w∧EP X pins σ Q r s') pl (by omega) (by omega) (by rw[List.size_toArray,←hl];exact h1) (by simpa using ew) ⟨rfl,fin⟩) hs
theorem A7:IxR X D4:=by
 intro value slice pins s σ H x y v u Q I rx ry h hs;obtain⟨z,i,c,rfl,rfl,hz,he,q⟩:=h;obtain⟨t,rfl⟩:=rx;obtain⟨t',rfl⟩:=ry;obtain⟨j,h1,h2,h3,h4,h5⟩:=Wz he;have hl:z.cps.toList.length=z.length:=by simp[Str.length]
 rw[hl]at h1 h4 h5;have hn:=Ym;exact tail_any (typeIs_str s z t) slot_str_getitem.lookup (getItem_str (c:=c) (by
   have e1:decide (i < -(2 ^ 63:Int))=false:=decide_eq_false (by omega)
   have e2:decide (i≥2 ^ 63)=false:=decide_eq_false (by omega)
   rw[e1,e2,Bool.or_false]) (by rw[h1];simpa using h2) ⟨.str ⟨#[c]⟩,H,I.tok _,⟨_,rfl⟩,q⟩) hs
def rIx (K:PySem.W.Frag):R2:=fun x y H Q=>DF K x y H Q∨Ef K x y H Q∨D4 x y H Q
theorem ix_seq:IxR X (rIx X.K):=ix_list.or (ix_tup.or A7)
theorem Jz (its:List Value) (n j:Nat) (u:Value):Obj.mapSeq (·.setIfInBounds j u) {cls:=.type "list",data:=.seq its.toArray n}={cls:=.type "list",data:=.seq (its.set j u).toArray n}:=by simp[Obj.mapSeq]
theorem Inv.lst{pins:List (Addr×Obj)}{σ:St}{H:Hp}{s:Shared}{p:Addr}{xs:List V}(I:Inv X pins σ H s)(h:H p=some (.lst xs)) :
  ∃ (its:List Value) (n:Nat),Vals xs its∧s.heap.get? p=some {cls:=.type "list",data:=.seq its.toArray n}∧xs.length≤sizeLine:=by
 obtain⟨z,its,n,r,e⟩:=I.hok p _ h;exact⟨its,n,r,e,z⟩
theorem Inv.lstUpd{pins:List (Addr×Obj)}{σ:St}{H:Hp}{s:Shared}{p:Addr}{xs ys:List V}{its its':List Value}{n n':Nat}{f:Obj→Obj}(I:Inv X pins σ H s)(h:H p=some (.lst xs))
  (ho:s.heap.get? p=some {cls:=.type "list",data:=.seq its.toArray n}) (hf:f {cls:=.type "list",data:=.seq its.toArray n}={cls:=.type "list",data:=.seq its'.toArray n'}) (r:Vals ys its') (hz:ys.length≤sizeLine) (t:Nat) :
  Inv X pins σ (upd H p (.lst ys)) {s with heap:=s.heap.update p f,toks:=t}:=by
 have e:(s.heap.update p f).get? p=some {cls:=.type "list",data:=.seq its'.toArray n'}:=by rw[Heap.get?_update_self f ho (by rw[hf]<;>rfl),hf]
 refine I.write (x:=p) (e:=p) (by rw[h];trivial) (.inl rfl) (fun b u hb q=>(Heap.get?_update_other _ _ (Ne.symm hb)).trans q) ⟨_,e⟩ ?_;exact⟨hz,its',n',r,e⟩
def US:V→V→V→Hp→(Hp→Prop)→Prop:=fun o i v H Q=>∃ p xs k j,o=.ref p∧i=.int k∧H p=some (.lst xs)∧ixN xs.length k=some j∧Q (upd H p (.lst (xs.set j v)))
theorem NP:PSet X US:=by
 intro pins s σ H o i v ov iv u Q I ro ri rv h;obtain⟨p,xs,k,j,rfl,rfl,hp,hj,q⟩:=h;cases ro;obtain⟨t,rfl⟩:=ri;obtain⟨its,n,r,ho,hz⟩:=I.lst hp;obtain⟨h1,h2,h3,h4⟩:=Kw hj;have hl:=r.length;have hn:=Ym;have I':Inv X pins σ (upd H p (.lst (xs.set j v))) {s with heap:=s.heap.update p (Obj.mapSeq (·.setIfInBounds j u))} :=
  I.lstUpd hp ho (Jz its n j u) (r.set rv j) (by rw[List.length_set];exact hz) s.toks
 by_cases h0:0≤k
 ·have hk:k.toNat=j:=by
   rw[seqIndex_of h0 h4]at h1;exact Option.some.inj h1
  exact PySem.W.ki_setAt ho h0 (by omega) (by rw[List.size_toArray,←hl];exact h4) (by rw[hk];exact⟨_,I',q⟩)
 ·have hk:(k+(its.toArray.size:Int)).toNat=j:=by
   rw[seqIndex_neg (by omega) h3]at h1;rw[List.size_toArray,←hl];exact Option.some.inj h1
  exact PySem.W.ki_setBack ho (by omega) (by rw[List.size_toArray,←hl];exact h3) (by omega) (by rw[hk];exact⟨_,I',q⟩)
theorem Wx(lo hi:Option Int)(n:Nat):(sliceBounds lo hi none n).1=((HT.sIx n 0 lo:Nat):Int)∧(sliceBounds lo hi none n).2.1=((HT.sIx n n hi:Nat):Int)∧(sliceBounds lo hi none n).2.2=1:=by
 refine⟨?_,?_,rfl⟩
 ·cases lo with
  |none=>simp[sliceBounds,HT.sIx]
  |some i =>
   simp only[sliceBounds,HT.sIx,Option.getD_none,show(1:Int) > 0 by decide,if_true];by_cases h:i<0
   ·simp only[h,if_true]<;>omega
   ·simp only[h,if_false]<;>omega
 ·cases hi with
  |none=>simp[sliceBounds,HT.sIx]
  |some i =>
   simp only[sliceBounds,HT.sIx,Option.getD_none,show(1:Int) > 0 by decide,if_true];by_cases h:i<0
   ·simp only[h,if_true]<;>omega
   ·simp only[h,if_false]<;>omega
theorem XH(its:List Value)(lo hi:Option Int):slicePick its.toArray lo hi none=((its.drop (HT.sIx its.length 0 lo)).take (HT.sIx its.length its.length hi - HT.sIx its.length 0 lo)).toArray:=by obtain⟨h1,h2,h3⟩:=Wx lo hi its.toArray.size;unfold slicePick;rw[h1,h2,h3];simp only[sliceRange_one,pick_run,List.size_toArray]<;>rfl
def DX (K:PySem.W.Frag):V→Option Int→Option Int→Hp→VK→Prop:=fun x lo hi H Q=>∃ a xs,x=.ref a∧SqL K H a xs∧∀ p,H p=none→Q (.ref p) (upd H p (.lst (WB xs lo hi)))
theorem sl_list:SlR X (DX X.K):=by intro pins s σ H x v vl vu lo hi sl Q I rx hs pl pu h;obtain⟨a,xs,rfl,hx,q⟩:=h;cases rx;obtain⟨its,r,ht,hz⟩:=I.list hx;have hlen:=r.length;refine⟨"list",_,slot_list_getitem.lookup,ht.isList.typeIs,?_⟩;refine wpAny_getItem_list_slice ht.isList hs pl pu .none (by simp) ?_ (by rw[List.size_toArray]<;>omega);rw[XH,←hlen];refine⟨.ref s.heap.objs.size,_,I.laid (t':=s.toks) (o:=.lst (WB xs lo hi)) (fun b ob q=>Heap.get?_push_of_some _ q) (Nat.le_refl _) ?_,rfl,q _ (I.hok.fresh (Nat.le_refl _))⟩;exact⟨Nat.le_trans (YO xs lo hi) hz,_,0,(r.drop (HT.sIx xs.length 0 lo)).take (HT.sIx xs.length xs.length hi - HT.sIx xs.length 0 lo),Heap.get?_push_size _ rfl⟩
def U9:V→Bool
 |.non=>true
 |.bl _=>true
 |.int _=>true
 |.str _=>true
 |_=>false
def eqV:V→V→Bool
 |.non,.non=>true
 |.bl a,.bl b=>a==b
 |.bl a,.int b=>(if a then 1 else 0)==b
 |.int a,.bl b=>a==(if b then 1 else 0)
 |.int a,.int b=>a==b
 |.str a,.str b=>a==b
 |_,_=>false
def eqU (x:V) (u:Value):Bool:=match u with
 |.none=>eqV .non x
 |.bool b=>eqV (.bl b) x
 |.int i _=>eqV (.int i) x
 |.str z _=>eqV (.str z) x
 |_=>false
def inV (x:V) (xs:List V):Bool:=xs.any fun y=>eqV y x
def rIn (K:PySem.W.Frag) (neg:Bool):R2:=fun x y H Q=>∃ p xs,y=.ref p∧(SqL K H p xs∨SqT K H p xs)∧U9 x=true∧xs.all U9=true∧Q (.bl (if neg then !inV x xs else inV x xs)) H
theorem Ws:OpR X (compareOp .NotIn) (fun x y H Q=>∃ i j,x=.str i∧y=.str j∧Q (.bl (!(!(Builtin.Str.occurrences j i 0 j.length 1).isEmpty))) H):=by intro pins s σ H x y v u Q I rx ry h;obtain⟨i,j,rfl,rfl,q⟩:=h;obtain⟨t,rfl⟩:=rx;obtain⟨t',rfl⟩:=ry;exact notIn_str ⟨.bl _,H,I,rfl,q⟩
theorem call_len_seq:CallR X (.builtin "len") (fun xs H Q=>∃ p ys,xs=[.ref p]∧(SqL X.K H p ys∨SqT X.K H p ys)∧Q (.int ys.length) H):=by
 intro pins s σ H xs us Q I r h;obtain⟨p,ys,rfl,hq,q⟩:=h;obtain⟨u,rfl,rx⟩:=Z4 r;cases rx;have hn:=Ym;rcases hq with hq|hq
 ·obtain⟨its,r',pl,hz⟩:=I.list hq;have hlen:=r'.length;exact Calls.call_len_list pl.isList (by simp only[List.size_toArray]<;>omega) ⟨.int ys.length,H,I.tok _,⟨s.toks+1,by rw[List.size_toArray,hlen]⟩,q⟩
 ·obtain⟨its,r',pl,hz⟩:=I.tuple hq;have hlen:=r'.length;exact len_tuple pl (by simp only[List.size_toArray]<;>omega) ⟨.int ys.length,H,I.tok _,⟨s.toks+1,by rw[List.size_toArray,hlen]⟩,q⟩
theorem Wt:CallR X (.builtin "len") (fun xs H Q=>∃ z,xs=[.str z]∧z.length≤sizeLine∧Q (.int z.length) H):=by intro pins s σ H xs us Q I r h;obtain⟨z,rfl,hz,q⟩:=h;obtain⟨u,rfl,t,rfl⟩:=Z4 r;have hn:=Ym;exact len_str (by omega) ⟨.int z.length,H,I.tok _,⟨_,rfl⟩,q⟩
theorem CallR.or{f:Value}{r r':List V→Hp→VK→Prop}(h:CallR X f r)(h':CallR X f r'):CallR X f (fun xs H Q=>r xs H Q∨r' xs H Q):=by
 intro pins s σ H xs us Q I rs q;rcases q with q|q
 ·exact h pins s σ H xs us Q I rs q
 ·exact h' pins s σ H xs us Q I rs q
theorem WF:CallR X (.type "list") (fun xs H Q=>∃ p ys,xs=[.ref p]∧(SqL X.K H p ys∨SqT X.K H p ys)∧∀ l,H l=none→Q (.ref l) (upd H l (.lst ys))):=by
 intro pins s σ H xs us Q I r h;obtain⟨p,ys,rfl,hq,q⟩:=h;obtain⟨u,rfl,rx⟩:=Z4 r;cases rx;have fin:∀ (its:List Value),Vals ys its→ys.length≤sizeLine→∀ (h':Heap) (c':Nat),(∀ b o',s.heap.get? b=some o'→h'.get? b=some o')→
   h'.get? s.heap.objs.size=some {cls:=.type "list",dict:=none,data:=.seq its.toArray c',slots:=#[]}→EP X pins σ Q (.ref s.heap.objs.size) {s with heap:=h'}:=fun its r' hz h' c' kp e =>
  ⟨.ref s.heap.objs.size,_,I.laid (t':=s.toks) kp (Nat.le_refl _) (show ObjOk X.prog X.w _ h' _ (.lst ys) from ⟨hz,its,c',r',e⟩),rfl,q _ (I.hok.fresh (Nat.le_refl _))⟩
 rcases hq with hq|hq
 ·obtain⟨its,r',pl,hz⟩:=I.list hq;have hlen:=r'.length;obtain⟨o,ho,hc,n,hd⟩:=pl.isList;exact call_list_seq p (.inl rfl) ho hc hd (fun h' c' kp e=>fin its r' hz h' c' kp e) (by simp only[List.size_toArray]<;>omega)
 ·obtain⟨its,r',pl,hz⟩:=I.tuple hq;have hlen:=r'.length;obtain⟨o,ho,hc,n,hd⟩:=pl;exact call_list_seq p (.inr rfl) ho hc hd (fun h' c' kp e=>fin its r' hz h' c' kp e) (by simp only[List.size_toArray]<;>omega)
def tyV (K:PySem.W.Frag) (T:String) (x:V) (H:Hp):Prop:=match x with
 |.str _=>T = "str"
 |.int _=>T = "int"
 |.ref p=>(T = "list"∧∃ xs,SqL K H p xs)∨(T = "tuple"∧∃ o,K.lookup p=some o∧o.cls=.type "tuple"∧o.dict=none)∨
   (T = "dict"∧((∃ kvs,H p=some (.dK kvs))∨∃ kvs,H p=some (.dT kvs)))∨(T = "set"∧∃ S n,H p=some (.set S n))
 |_=>False
def Hy (K:PySem.W.Frag) (T:String) (r:V→List V→Hp→VK→Prop) (to:TE):TE:=fun σ H Q=>to σ H fun x H1=>tyV K T x H1∧r x [] H1 Q
def tBM (K:PySem.W.Frag) (T:String) (r:V→List V→Hp→VK→Prop) (to:TE) (t:TA):TE:=fun σ H Q=>to σ H fun x H1=>tyV K T x H1∧t σ H1 fun xs H2=>r x xs H2 Q
variable {o e:Expr}{es:List Expr}{to:TE}{t:TA}{name:Str}{apos cpos:Pos}{T id:String}{r:V→List V→Hp→VK→Prop}
/- xs.append(e),list.index on a module's tuple .. are MtR facts of 06m -/
end
end L2
namespace L2
open PySem PySem.Spec PyProof.Rows
def MtM (X:Cx) (id:String) (r:V→List V→Hp→VK→Prop):Prop :=
 ∀ (pins:List (Addr×Obj)) (s:Shared) (σ:St) (H:Hp) (x:V) (xs:List V) (v:Value) (us:List Value) (Q:VK),Inv X pins σ H s→RelV x v→Vals xs us→r x xs H Q→
  wpAny (model X.prog X.w) X.A (call (.builtin id) (v::us)) (EP X pins σ Q) X.xe s
theorem Vals.one:∀ {x:V}{us:List Value},Vals [x] us→∃ u,us=[u]∧RelV x u
 |_,_,.cons r .nil=>⟨_,rfl,r⟩
theorem Vals.two:∀ {x y:V}{us:List Value},Vals [x,y] us→∃ u v,us=[u,v]∧RelV x u∧RelV y v
 |_,_,_,.cons r (.cons q .nil)=>⟨_,_,rfl,r,q⟩
theorem Vals.zero:∀ {us:List Value},Vals [] us→us=[]
 |_,.nil=>rfl
theorem Vals.dropLast{xs:List V}{us:List Value}(h:Vals xs us):Vals xs.dropLast us.dropLast:=by
 induction h with
 |nil=>exact .nil
 |cons r t ih =>
  cases t with
  |nil=>exact .nil
  |cons q t'=>exact .cons r ih
theorem Vals.eraseIdx:∀ {xs:List V}{us:List Value}(i:Nat),Vals xs us→Vals (xs.eraseIdx i) (us.eraseIdx i)
 |_,_,_,.nil=>.nil
 |_,_,0,.cons _ t=>t
 |_,_,i+1,.cons r t=>.cons r (Vals.eraseIdx i t)
theorem Vals.reverse{xs:List V}{us:List Value}(h:Vals xs us):Vals xs.reverse us.reverse:=by
 induction h with
 |nil=>exact .nil
 |cons r t ih=>rw[List.reverse_cons,List.reverse_cons];exact Vals.append ih (.cons r .nil)
theorem Vals.rep{xs:List V}{us:List Value}(h:Vals xs us):∀ k:Nat,Vals (List.replicate k xs).flatten (List.replicate k us).flatten
 |0=>.nil
 |k+1=>by rw[List.replicate_succ,List.replicate_succ,List.flatten_cons,List.flatten_cons];exact Vals.append h (Vals.rep h k)
theorem XR(its:List Value):∀ (k:Nat) (acc:List Value),
  List.foldl (fun x1 x2=>x1++x2) acc.toArray (List.replicate k its.toArray)=(acc++(List.replicate k its).flatten).toArray
 |0,acc=>by simp
 |k+1,acc=>by
  have e:acc.toArray++its.toArray=(acc++its).toArray:=by simp
  have e2:(acc++its)++(List.replicate k its).flatten=acc++(List.replicate (k+1) its).flatten:=by rw[List.replicate_succ,List.flatten_cons,List.append_assoc]
  rw[←e2,←XR its k (acc++its),←e,List.replicate_succ,List.foldl_cons]
section
variable {X:Cx}{pins:List (Addr×Obj)}{σ:St}{H:Hp}{s:Shared}{l b:Addr}{xs ys zs:List V}
theorem Inv.lnew{its:List Value}{t':Nat}(I:Inv X pins σ H s)(hv:Vals ys its)(hz:ys.length≤sizeLine) :
  Inv X pins σ (upd H s.heap.objs.size (.lst ys)) {s with heap:=s.heap.push {cls:=.type "list",data:=.seq its.toArray},toks:=t'} :=
 I.laid (fun _ _ q=>Heap.get?_push_of_some _ q) (Nat.le_refl _) ⟨hz,its,0,hv,Heap.get?_push_size _ rfl⟩
theorem Inv.fresh(I:Inv X pins σ H s):H s.heap.objs.size=none:=I.hok.fresh (Nat.le_refl _)
theorem Inv.lstM (I:Inv X pins σ H s) (hH:H l=some (.lst xs)):xs.length≤sizeLine∧∃ (its:List Value) (n:Nat),Vals xs its∧xs.length=its.length∧s.heap.get? l=some {cls:=.type "list",data:=.seq its.toArray n}:=by obtain⟨z,its,n,r,e⟩:=I.hok l _ hH;exact⟨z,its,n,r,r.length,e⟩
theorem Oi{n:Nat}(h:n≤sizeLine):Builtin.List.listTooLong n=false:=by unfold Builtin.List.listTooLong;exact decide_eq_false (by omega)
end
section
variable {X:Cx}
def Eu:V→List V→Hp→VK→Prop:=fun x vs H Q=>∃ l xs y,x=.ref l∧vs=[y]∧H l=some (.lst xs)∧xs.length<sizeLine∧Q .non (upd H l (.lst (xs++[y])))
def Ey:V→List V→Hp→VK→Prop:=fun x vs H Q=>∃ l b xs zs,x=.ref l∧vs=[.ref b]∧H l=some (.lst xs)∧H b=some (.lst zs)∧xs.length+zs.length≤sizeLine∧Q .non (upd H l (.lst (xs++zs)))
def Ha:V→List V→Hp→VK→Prop:=fun x vs H Q=>∃ l xs y,x=.ref l∧vs=[]∧H l=some (.lst xs)∧xs[xs.length - 1]?=some y∧Q y (upd H l (.lst xs.dropLast))
def EG:V→List V→Hp→VK→Prop:=fun x vs H Q=>∃ l xs i k y,x=.ref l∧vs=[.int i]∧H l=some (.lst xs)∧-(2 ^ 63)≤i∧i<2 ^ 63∧seqIndex? i xs.length=some k∧xs[k]?=some y∧Q y (upd H l (.lst (xs.eraseIdx k)))
def Cl:V→List V→Hp→VK→Prop:=fun x vs H Q=>∃ l xs,x=.ref l∧vs=[]∧H l=some (.lst xs)∧Q .non (upd H l (.lst xs.reverse))
def FT:V→List V→Hp→VK→Prop:=fun x vs H Q=>∃ l xs,x=.ref l∧vs=[]∧H l=some (.lst xs)∧Q .non (upd H l (.lst []))
def DZ:R2:=fun x y H Q=>∃ l b xs zs,x=.ref l∧y=.ref b∧H l=some (.lst xs)∧H b=some (.lst zs)∧xs.length+zs.length≤sizeLine∧∀ p,H p=none→Q (.ref p) (upd H p (.lst (xs++zs)))
theorem An:OpR X (binaryOp .Add) DZ:=by
 intro pins s σ H x y v u Q I rx ry h;obtain⟨l,b,xs,zs,rfl,rfl,hH,hB,hz,q⟩:=h;cases rx;cases ry;obtain⟨z,its,n,r,hl,e⟩:=I.lstM hH;obtain⟨z2,its2,n2,r2,hl2,e2⟩:=I.lstM hB;refine PySem.P.add_list e e2 ?_ (by rw[List.size_toArray,List.size_toArray];omega);have ea:its.toArray++its2.toArray=(its++its2).toArray:=by simp
 rw[ea];exact⟨.ref _,_,I.lnew (t':=s.toks) (r.append r2) (by rw[List.length_append];omega),rfl,q _ I.fresh⟩
def DE:R2:=fun x y H Q=>∃ l k xs,x=.ref l∧y=.int k∧H l=some (.lst xs)∧-(2 ^ 63)≤k∧k<2 ^ 63∧xs.length*k.toNat≤sizeLine∧
 ∀ p,H p=none→Q (.ref p) (upd H p (.lst (List.replicate k.toNat xs).flatten))
theorem OQ{α:Type}(xs:List α)(k:Nat):(List.replicate k xs).flatten.length=k*xs.length:=by
 induction k with
 |zero=>simp
 |succ k ih=>rw[List.replicate_succ,List.flatten_cons,List.length_append,ih,Nat.succ_mul,Nat.add_comm]
theorem op_rep:OpR X (binaryOp .Mult) DE:=by
 intro pins s σ H x y v u Q I rx ry h;obtain⟨l,k,xs,rfl,rfl,hH,h1,h2,hz,q⟩:=h;cases rx;obtain⟨t,rfl⟩:=ry;obtain⟨z,its,n,r,hl,e⟩:=I.lstM hH;have hlen:its.toArray.size*k.toNat≤sizeLine:=by rw[List.size_toArray,←hl];exact hz
 have hcap:¬ its.toArray.size*k.toNat > (2 ^ 63 - 1) / 8:=by
  have:(sizeLine:Nat)≤(2 ^ 63 - 1) / 8:=by decide
  omega
 have hfit:¬ (!Builtin.List.listFitsIndex k)=true:=by rw[fitsIndex_both h1 h2];exact Bool.false_ne_true
 have hlong:¬ Builtin.List.listTooLong (its.toArray.size*k.toNat)=true:=by rw[Oi hlen];exact Bool.false_ne_true
 have hnew:List.foldl (fun x1 x2=>x1++x2) #[] (List.replicate (if its.toArray.isEmpty=true then 0 else k.toNat) its.toArray)=(List.replicate k.toNat its).flatten.toArray:=by
  have f0:∀ m:Nat,List.foldl (fun x1 x2=>x1++x2) #[] (List.replicate m its.toArray)=(List.replicate m its).flatten.toArray:=fun m=>by have:=XR its m [];rw[List.nil_append]at this;exact this
  rw[f0];cases its with
  |nil=>simp
  |cons a r'=>rw[if_neg (by simp)]
 refine wpAny_binaryOp_repeat_ref (T:="list") (U:="int") (by decide) ⟨_,e,rfl⟩ (fun s'=>typeIs_int s' k t) noFill_list_mul F.fills_int_mul F.slot_int_rmul repeat_list F.slot_int_index.lookup
  (call_meets F.slot_int_rmul (typeIs_int s k t) F.entry_int_rmul (F.args_int_rmul_2 _ _) (int___rmul___int_list k t l its.toArray n)
    ⟨e,rfl,⟨_,e,rfl⟩,call_meets F.slot_list_mul ⟨_,e,rfl⟩ F.entry_list_mul (F.args_list_mul_2 _ _) (AutoListH.list___mul___list_int_3 l its.toArray n k t hfit hcap hlong) ⟨e,?_⟩⟩)
 rw[hnew];exact⟨.ref _,_,I.lnew (t':=s.toks) (r.rep k.toNat) (by rw[OQ,Nat.mul_comm];exact hz),rfl,q _ I.fresh⟩
end
end L2
namespace Att
open PySem PySem.W PySem.Calls PyProof.Rows
theorem YT{P:Params}{h:Heap}:∀ (ns:List Int) (vs:List Value),WellAll P h vs (ns.map WData.int)→IntsAre vs ns:=by
 intro ns;induction ns with
 |nil =>intro vs w;rw[List.map_nil]at w;cases w;exact .nil
 |cons n ns ih =>
  intro vs w;rw[List.map_cons]at w;cases w with
  |cons a b =>cases a;exact .cons _ _ (ih _ b)
theorem Mh{l:OpenLaw}{n:Nat}(hn:l.most=some n){P:Params}{h:Heap}{args:List WData}{vals:List Value}
  (hpre:l.row.toRowW.claim.pre args=true) (hwl:WellAll P h vals args) :
  ∃ a vs ns,vals=[Value.ref a]∧args=[WData.list (ns.map WData.int)]∧h.get? a=some {cls:=.type "list",data:=.seq vs.toArray}∧IntsAre vs ns∧ns.length≤n:=by
 have hsh:WShape.hasAll [] args [.list .int]=true:=(pre_splitW hpre).1;have hc:l.pre.holds [] {args:=args}=true:=(pre_splitW hpre).2;obtain⟨d,r,rfl,h1,h2⟩:=hasAllW_cons hsh;obtain rfl:=hasAllW_nil h2;obtain⟨xs,rfl,h3⟩:=hasW_list h1;obtain⟨ns,rfl⟩:=items_int h3;have hlen:ns.length≤n:=by
  unfold OpenLaw.pre at hc;have h4:(WTm.not (.lt (.lit (.int (n:Int))) (.len (.arg 0)))).holds [] {args:=[.list (ns.map .int)]}=true:=by have h4:=(holds_andW hc).1;rw[hn]at h4;exact h4
  have h5:=condW_of h4 (w_not (w_lt w_lit (w_len_list (w_arg rfl))));rw[List.length_map]at h5;refine Nat.le_of_not_lt fun q=>?_;have q':(n:Int)<((ns.length:Nat):Int):=by omega
  first
   |(rw[decide_eq_true q']at h5;exact absurd h5 (by decide))
   |(simp at h5;omega)
 cases hwl with
 |cons w1 w2 =>
  cases w2;cases w1 with
  |list ho hall=>exact⟨_,_,ns,rfl,rfl,ho,YT ns _ hall,hlen⟩
theorem Ml(l:OpenLaw)(args:List WData):l.row.toRowW.claim.post args (.bool true) args=true :=
 postW_of (r:=l.row.toRowW) (X:=(true==true))
  (show WShape.has [] (.bool true) .bool=true by first|rfl|decide|simp[WShape.has,WShape.arms,WShape.armsAll])
  (show(WTm.eq .res (.lit (.bool true))).value [] {args:=args,res:=some (.bool true),after:=args}=some (.bool (true==true)) from w_eq_bool (w_res rfl) w_lit) rfl
theorem attach_call{l:OpenLaw}{n:Nat}{q:Program}{loose:List Str}{XP:(Str→Option Value)→Heap→Prop}{YP:World→Heap→Prop}{d:DefRec}
  (hn:l.most=some n) (hdf:d.params.defaults=[])
  (call:∀ (w:World) (s₀ s₁:Shared) (mg mb:Str→Option Value) (fa:Addr) (o:Obj) (pm cd doc:Value) (a:Addr) (vs:List Value) (ns:List Int),
    Ground q loose [] XP w s₀ mg mb s₁.heap→YP w s₁.heap→
    s₁.heap.get? fa=some o→o.data=.func (docDef d.name d.params d.body d.scope pm cd doc)→s₁.heap.CodeRec cd d.name→mg d.name=some (.ref fa)→
    s₁.heap.get? a=some {cls:=.type "list",data:=.seq vs.toArray}→IntsAre vs ns→ns.length≤n→s₁.gens=#[]→
    codeAny (model l.prog w) callerA (.call (.ref fa) ⟨[.ref a],[]⟩) (fun r s'=>r=.ok (.ret (.bool true))∧OldK s₁.heap s'.heap∧s'.os=s₁.os∧AllBare s'.gens) s₁) :
  WalkO q loose XP YP l.row.toRowW d [] (fun f vs=>PySem.call f vs):=by
 intro w s₀ s₁ mg mb G Y fa o pm cd doc dV kV ho hd hcd hD hmg hg args vals as hpre hlay hrd hwl hlo;obtain rfl:dV=.none:=Dflts.none hD hdf;obtain rfl:kV=.none:=Dflts.noKw hD;obtain⟨a,vs,ns,rfl,rfl,hobj,hints,hlen⟩:=Mh hn hpre hwl;refine enter_call (codeAny_mono (call w s₀ s₁ mg mb fa o pm cd doc a vs ns G Y ho (fd_plain hd) hcd hmg hobj hints hlen hg) fun r s' hq=>?_);obtain⟨rfl,h2,h3,h4⟩:=hq;exact⟨.inl ⟨.bool true,.bool true,[],rfl,fun _=>rfl,.bool true,Ml l _,fun _=>⟨List.Pairwise.nil,fun _ hm=>(nomatch hm)⟩⟩,h2,h3,h4⟩
section
variable {prog:Program}{w:World}{A:Around}{E:Value→Shared→Prop}{s:Shared}{K:Frag}
def FY (h:Heap):Heap:={h with objs:=#[]}
def FO (h:Heap) (L d:Addr):List (Addr×Obj):=(List.range h.objs.size).filterMap fun a=>if a=L∨a=d then none else(h.get? a).map fun o=>(a,o)
end
end Att
namespace L2
open PySem PySem.Spec PyProof.Rows
theorem X8:∀ {vs:List Value}{ns:List Int},IntsAre vs ns→Vals (ns.map V.int) vs
 |_,_,.nil=>.nil
 |_,_,.cons n t h=>.cons ⟨t,rfl⟩ (X8 h)
def Ax (H:Hp):Prop:=∀ b,H b=none∨∃ o xs,H b=some (.frz o (.lst xs))
theorem NC{P:Program}{w:World}{K:PySem.W.Frag}{mg mb:Str→Option Value}{CX:CXT}{k:Nat}{fa a:Addr}{fd:FuncData}{x:Str}{sp:Sp}{s₁:Shared}{vs:List Value}{ns:List Int}
  (KX:K.In s₁.heap) (hns:s₁.heap.Ns mainGlobals mg) (hb:s₁.heap.Ns builtinsNs mb) (hbb:∀ x:Str,x≠"__name__"→mb x=bootBuiltins x) (hlim:s₁.heap.NoLimit) (hg:s₁.gens=#[])
  (ha:s₁.heap.get? a=some {cls:=.type "list",data:=.seq vs.toArray}) (hi:IntsAre vs ns) (hl:ns.length≤sizeLine) (hr:Room k callerA)
  (F:∀ base:Heap,K.In base→base.Ns mainGlobals mg→FnOk P w K mg base CX k fa fd [x] sp) (hbind:∀ (s:Shared) (u:Value),BindsTo s fd ⟨[u],[]⟩ [(x,u)])
  (hsp:∀ H:Hp,Ax H→SqL K H a (ns.map V.int)→sp [.ref a] H (fun v _=>v=.bl true) fun _ _ _=>False)
  (hCX:∀ H e s',CX [] H s₁ (fun _ _ _=>False) e s'→False) :
  codeAny (model P w) callerA (.call (.ref fa) ⟨[.ref a],[]⟩) (fun r s'=>r=.ok (.ret (.bool true))∧OldK s₁.heap s'.heap∧s'.os=s₁.os∧AllBare s'.gens) s₁:=by
 have rv:=X8 hi;have lenV:=hi.length;have core:∀ H:Hp,Ax H→SqL K H a (ns.map V.int)→HOk P w H s₁.heap→(∀ b,H b≠none→b=a)→(H a≠none→K.lookup a=none)→
   codeAny (model P w) callerA (.call (.ref fa) ⟨[.ref a],[]⟩) (fun r s'=>r=.ok (.ret (.bool true))∧OldK s₁.heap s'.heap∧s'.os=s₁.os∧AllBare s'.gens) s₁:=by
  intro H hO hS hok hA hK;have base_of:∀ {b:Addr}{o:Obj},s₁.heap.get? b=some o→H b=none→(WO s₁.heap H).get? b=some o:=fun e n=>NI e n;have noA:∀ {b:Addr}{o:Obj}{es:Array DictEntry}{ep:Nat},s₁.heap.get? b=some o→o.data=.dict es ep→H b=none:=fun {b o es ep} e d=>by
   cases q:H b with
   |none=>rfl
   |some u =>have e':b=a:=hA b (by rw[q];simp);subst e';rw[ha]at e;cases e;have d':Data.seq vs.toArray _=Data.dict es ep:=d;cases d'
  have nsK:∀ {b:Addr}{m:Str→Option Value},s₁.heap.Ns b m→(WO s₁.heap H).Ns b m:=fun {b m} ⟨o,es,ep,e,d,r⟩=>⟨o,es,ep,base_of e (noA e d),d,r⟩
  have hKb:K.In (WO s₁.heap H):=fun b o e=>base_of (KX b o e) (by
    cases q:H b with
    |none=>rfl
    |some u =>
      have e':b=a:=hA b (by rw[q];simp)
      subst e'
      rw[hK (by rw[q];simp)]at e;cases e)
  have hM:Mod K mg (WO s₁.heap H):=⟨hKb,nsK hns,⟨mb,nsK hb,hbb⟩,let ⟨mc,h1,h2⟩:=hlim;⟨mc,nsK h1,h2⟩⟩
  have e0:Env0 P w K mg (WO s₁.heap H) callerA [] s₁ H:=⟨rfl,hM,fun b o e=>Uh e,Nat.le_of_eq (Mf _ _),trivial,fun b hb=>absurd (show b∈([]:List Addr) from hb) (by simp),hok,.of_eq hg⟩
  refine codeAny_mono ((F _ hKb (nsK hns)).run callerA [] s₁ H ⟨[.ref a],[]⟩ [.ref a] [.ref a] _ _ hr e0 (hbind s₁ (.ref a)) (.cons rfl .nil) (hsp H hO hS)) fun r s' h=>?_;cases r with
  |error e=>exact(hCX H e s' h).elim
  |ok fl =>
   cases fl with
   |next=>exact False.elim h
   |brk=>exact False.elim h
   |cont=>exact False.elim h
   |ret u =>
    obtain⟨v,H',os,bare,un,hok',r',q⟩:=h;have q':v=.bl true:=q;subst q';obtain rfl:u=Value.bool true:=r';refine⟨rfl,OldK.of_keep fun b o e=>?_,os,bare⟩;cases q:H b with
    |none=>exact un.keep b o e q (by intro z;exact absurd (show b∈([]:List Addr) from z) (by simp)) (by simp)
    |some u =>
     rcases hO b with z|⟨ob,xs,z⟩
     ·rw[q]at z;cases z
     ·have z2:=un.frzs b ob _ z;obtain⟨e1,_⟩:=hok b _ z;obtain⟨e2,_⟩:=hok' b _ z2;rw[e]at e1;cases e1;exact e2
 cases hk:K.lookup a with
 |some o =>have e:=KX a o hk;rw[ha]at e;cases e;refine core (fun _=>none) (fun _=>.inl rfl) (.inr ⟨_,vs.toArray,_,hk,rfl,rfl,rfl,by rw[List.size_toArray,lenV];exact hl,by simpa using rv⟩) (fun b u z=>by have z':(none:Option HO)=some u:=z;cases z') (fun b z=>absurd rfl z) fun z=>absurd rfl z
 |none =>
  refine core (fun b=>if b=a then some (.frz {cls:=.type "list",data:=.seq vs.toArray} (.lst (ns.map V.int)))else none) (fun b=>?_) (.inl (.inr ⟨{cls:=.type "list",data:=.seq vs.toArray},if_pos rfl⟩)) (fun b u z=>?_) (fun b z=>?_) fun _=>hk
  ·by_cases hb:b=a
   ·exact .inr ⟨_,_,if_pos hb⟩
   ·exact .inl (if_neg hb)
  ·by_cases hb:b=a
   ·have z':=(if_pos hb).symm.trans z;cases z';subst hb;exact⟨ha,by rw[List.length_map];exact hl,vs,_,rv,ha⟩
   ·have z':=(if_neg hb).symm.trans z;cases z'
  ·by_cases hb:b=a
   ·exact hb
   ·exact absurd (if_neg hb) z
end L2
namespace L2
open PySem PySem.Spec PyProof.Rows
abbrev KOf {K:PySem.W.Frag}{h:Heap}(_:K.In h):PySem.W.Frag:=K
end L2
namespace L2
open PySem PySem.Spec PyProof.Rows
def EA (s:Stmt) (j:Nat):Stmt:=match s with
 |.ClassDef _ _ _ body _ _ _ _ _ _ _=>body.getD j (.Pass ⟨0,0,0,0⟩)
 |_=>.Pass ⟨0,0,0,0⟩
def ZT (s:Stmt):Arguments:=match s with
 |.FunctionDef _ a _ _ _ _ _ _ _ _=>a
 |_=>{posonlyargs:=[],args:=[],vararg:=none,kwonlyargs:=[],kw_defaults:=[],kwarg:=none,defaults:=[]}
def Zx (s:Stmt):List Stmt:=match s with
 |.FunctionDef _ _ b _ _ _ _ _ _ _=>b
 |_=>[]
def Zi (s:Stmt):Scope:=match s with
 |.FunctionDef _ _ _ _ _ _ sc _ _ _=>sc
 |_=>{kind:=.function,names:=[],isGenerator:=false,isCoroutine:=false}
abbrev CX0:CXT:=fun _ _ _ _ _ _=>False
abbrev E0:XK:=fun _ _ _=>False
structure Fun (K:PySem.W.Frag) (x qual:Str) (st:Stmt) (f:Addr) (fd:FuncData):Prop where
 ex:∃ (oc:Value) (od:Option Addr) (kV doc pm:Value) (an:Option Addr) (cdv ct:Value) (osl:Array (Option Value)),
  fd=PySem.W.fnOf x qual (ZT st) (Zx st) (Zi st) .none kV doc pm an cdv ct∧K.lookup f=some ⟨oc,od,.func fd,osl⟩∧PySem.W.codeIn K cdv qual=true
 kp:PySem.W.keepIn K (.ref f)=true
section
variable {P:Program}{w:World}{K:PySem.W.Frag}{mg:Str→Option Value}{base:Heap}
theorem Fun.ok{x qual:Str}{st:Stmt}{f:Addr}{fd:FuncData}{N ps:List Str}{k:Nat}{sp:Sp}(F:Fun K x qual st f fd)(S:FnScope N ps (Zi st))(len:∀ vs H Q E,sp vs H Q E→vs.length=ps.length)
  (hbody:∀ (cdv:Value) (A:Around) (outer:List Env) (s:Shared) (H:Hp) (vs:List V) (Q:VK) (E:XK),Room k (A.deeper (envOfC qual (Zi st) s.heap.objs.size f cdv))→sp vs H Q E→
    ∃ t,PSs (XG CX0 P w K mg base N qual (Zi st) f cdv A outer s H E).nox (Zx st) t∧t { nx:=fun _ H'=>Q .non H',rt:=Q } (start N vs) H):FnOk P w K mg base CX0 (k+1) f fd ps sp:=by
 obtain⟨oc,od,kV,doc,pm,an,cdv,ct,osl,rfl,lk,hcd⟩:=F.ex;refine U3 lk hcd S len fun A outer s H vs Q E hr hsp=>?_;obtain⟨t,h,q⟩:=hbody cdv A outer s H vs Q E hr hsp;exact⟨t,h.nox,q⟩
theorem Fun.binds{x qual:Str}{st:Stmt}{f:Addr}{fd:FuncData}{ps:List Str}(F:Fun K x qual st f fd)
  (h:∀ (kV doc pm:Value) (an:Option Addr) (cdv ct:Value) (us:List Value),us.length=ps.length→bindArgs (PySem.W.fnOf x qual (ZT st) (Zx st) (Zi st) .none kV doc pm an cdv ct) ⟨us,[]⟩=pure (ps.zip us)):Binds K fd ps []:=by
 obtain⟨oc,od,kV,doc,pm,an,cdv,ct,osl,rfl,lk,hcd⟩:=F.ex;exact .all (h kV doc pm an cdv ct)
theorem N1{x qual:Str}{st:Stmt}{f:Addr}{oc:Value}{od an:Option Addr}{osl:Array (Option Value)}{kV doc pm cdv ct:Value}(l:K.lookup f=some ⟨oc,od,.func (PySem.W.fnOf x qual (ZT st) (Zx st) (Zi st) .none kV doc pm an cdv ct),osl⟩)
  (c:PySem.W.codeIn K cdv qual=true) (k:PySem.W.keepIn K (.ref f)=true):Fun K x qual st f (PySem.W.fnOf x qual (ZT st) (Zx st) (Zi st) .none kV doc pm an cdv ct):=⟨⟨oc,od,kV,doc,pm,an,cdv,ct,osl,rfl,l,c⟩,k⟩
end
section
variable {X:Cx}
theorem pv (i:Nat){x:Str}{pos:Pos}(hN:X.N[i]?=some x:=by rfl) (hv:Vis X.env.scope x:=by first|exact Or.inl rfl|exact Or.inr (Or.inl rfl)|exact Or.inr (Or.inr rfl)) (hd:(x==("__debug__" : Str))=false:=by decide)
  (hcd:(x==("__classdict__" : Str))=false:=by decide):PE X (.Name x pos) (DI i):=NX hN hv hd hcd
end
def Same (H H':Hp):Prop:=∀ b o,H b=some o→H' b=some o
theorem Same.refl(H:Hp):Same H H:=fun _ _ h=>h
theorem Same.trans{H H1 H2:Hp}(a:Same H H1)(b:Same H1 H2):Same H H2:=fun c o h=>b c o (a c o h)
theorem Same.free{H H':Hp}(e:Same H H'){l:Addr}(h:H' l=Option.none):H l=Option.none:=by
 cases q:H l with
 |none=>rfl
 |some o =>rw[e l o q]at h;cases h
theorem Same.seq{K:PySem.W.Frag}{H H':Hp}{a:Addr}{xs:List V}(e:Same H H')(h:SqL K H a xs):SqL K H' a xs:=by
 rcases h with(h|⟨o,h⟩)|h
 ·exact .inl (.inl (e _ _ h))
 ·exact .inl (.inr ⟨o,e _ _ h⟩)
 ·exact .inr h
end L2
set_option maxHeartbeats 4000000
namespace L2
open PySem PySem.Spec PyProof.Rows
theorem HOk.track{P:Program}{w:World}{H:Hp}{h:Heap}{a:Addr}{o:HO}(x:HOk P w H h)(hn:H a=none)(new:ObjOk P w (upd H a o) h a o):HOk P w (upd H a o) h:=fun b u e=>by
 by_cases hb:b=a
 ·subst hb;rw[upd_same]at e;cases e;exact new
 ·rw[upd_ne hb]at e;exact(x b u e).stay (fun c v _ q=>q) (fun c q=>by rw[upd_ne (Ze q hn)];exact q) fun c xs q=>by rw[upd_ne (Ze q hn)];exact q
theorem HOk.same{P:Program}{w:World}{H:Hp}{h h':Heap}{C:Addr}(x:HOk P w H h)(hn:H C=none)(hs:Heap.SameBut C h h'):HOk P w H h':=fun b u e=>by
 refine(x b u e).stay (fun c v hc q=>hs.extBut c v ?_ q) (fun _ q=>q) fun _ _ q=>q;rcases hc with z|z
 ·rw[z];exact Ze e hn
 ·exact Ze z hn
def ZB (X:Cx) (scope:Scope) (N':List Str) (cl:List (Str×Addr)) (C:Addr) (s:Shared) (H:Hp) (ex:List Addr):Cx where
 prog:=X.prog
 w:=X.w
 K:=X.K
 mg:=X.mg
 base:=X.base
 A:=X.A
 N:=N'
 s₀:=s
 H₀:=H
 env:=compEnvC scope cl C X.env
 outer:=X.stack
 stack:=X.stack
 ex:=ex
 fn:=fun _=>false
 calm:=X.calm
 pn:=[]
 xe:=fun _ _=>False
def Z3 (X:Cx) (x:Str) (caps:List Nat):List Str:=x::caps.map fun j=>X.N.getD j Str.empty
def YW (σ:St) (caps:List Nat):St:=caps.map fun j=>(σ[j]?).getD none
structure BlkOk (X:Cx) (scope:Scope) (x:Str) (caps:List Nat):Prop where
 kind:scope.kind=.function
 nocell:∀ y∈scope.names,y.2≠.cell
 locs:∀ y∈scope.names,y.2=.local→scope.names.lookup y.1=some .local
 own:scope.names.lookup x=some .local
 frees:∀ y∈scope.names,y.2=.free→X.env.kindOf y.1=some .cell
 cap:∀ j∈caps,(X.N[j]?).isSome=true∧X.env.kindOf (X.N.getD j Str.empty)=some .cell∧scope.names.lookup (X.N.getD j Str.empty)=some .free
 nd:(Z3 X x caps).Nodup
theorem ZV{env:Env}:∀ (names:List (Str×NameKind)) (acc:List (Str×Addr)),(∀ y∈names,y.2=.free→∃ c,env.cells.lookup y.1=some c)→(∀ x c,acc.lookup x=some c→env.cells.lookup x=some c)→
  ∃ cl,(forIn names acc fun(p:Str×NameKind) (r:List (Str×Addr))=>(do
    if(p.2 == NameKind.free)=true then do let a←cellOf env p.1;pure (ForInStep.yield ((p.1,a)::r))else pure (ForInStep.yield r):Sem _))=pure cl∧
   (∀ x c,cl.lookup x=some c→env.cells.lookup x=some c)∧(∀ x c,acc.lookup x=some c→∃ c',cl.lookup x=some c')∧∀ x,(x,NameKind.free)∈names→∃ c,cl.lookup x=some c
 |[],acc,_,ha=>⟨acc,rfl,ha,fun x c h=>⟨c,h⟩,fun x h=>nomatch h⟩
 |(n,k)::r,acc,hn,ha=>by
  by_cases hk:k=.free
  ·subst hk;obtain⟨c,hc⟩:=hn (n,.free) List.mem_cons_self rfl;have ha':∀ x d,(((n,c)::acc:List (Str×Addr))).lookup x=some d→env.cells.lookup x=some d:=fun x d h=>by
    rw[List.lookup_cons]at h;cases e:x==n with
    |true =>
     rw[e]at h;have:x=n:=by simpa using e
     subst this;cases h;exact hc
    |false=>rw[e]at h;exact ha x d h
   obtain⟨cl,h1,h2,h3,h4⟩:=ZV r ((n,c)::acc) (fun y hy=>hn y (List.mem_cons_of_mem _ hy)) ha';refine⟨cl,?_,h2,fun x d h=>?_,fun x hx=>?_⟩
   ·rw[List.forIn_cons];have e:cellOf env n=pure c:=by unfold cellOf;rw[hc]
    simp only[beq_self_eq_true,if_true,e];exact h1
   ·by_cases hx:x=n
    ·subst hx;exact h3 x c (by rw[List.lookup_cons];simp)
    ·exact h3 x d (by rw[List.lookup_cons,beq_false_of_ne hx];exact h)
   ·rcases List.mem_cons.mp hx with e|hx
    ·cases e;exact h3 _ c (by rw[List.lookup_cons];simp)
    ·exact h4 x hx
  ·have hb:(k==NameKind.free)=false:=by simpa using hk
   obtain⟨cl,h1,h2,h3,h4⟩:=ZV r acc (fun y hy=>hn y (List.mem_cons_of_mem _ hy)) ha;refine⟨cl,?_,h2,h3,fun x hx=>?_⟩
   ·rw[List.forIn_cons];simp only[hb,Bool.false_eq_true,if_false];exact h1
   ·rcases List.mem_cons.mp hx with e|hx
    ·cases e;exact absurd rfl hk
    ·exact h4 x hx
theorem ZD{env:Env}:∀ {names:List (Str×NameKind)}{x:Str}{k:NameKind},(names.map fun(n,k)=>if(k==NameKind.free&&env.scope.kind == .function&&env.kindOf n==some .cell)then(n,NameKind.cell)else(n,k)).lookup x=some k→
  (∃ k0,(x,k0)∈names∧names.lookup x=some k0∧(k0=k∨(k0=.free∧k=.cell)))
 |[],_,_,h=>by simp at h
 |(n,k0)::r,x,k,h=>by
  rw[List.map_cons,List.lookup_cons]at h;cases hx:x==n with
  |true =>
   have e:x=n:=by simpa using hx
   subst e;refine⟨k0,List.mem_cons_self,by rw[List.lookup_cons];simp,?_⟩;by_cases hc:(k0==NameKind.free&&env.scope.kind == .function&&env.kindOf x==some .cell)=true
   ·rw[if_pos hc]at h;simp at h;have:k0=.free:=by
     simp only[bAq]at hc;simpa using hc.1.1
    exact .inr ⟨this,h.symm⟩
   ·rw[if_neg hc]at h;simp at h;exact .inl h
  |false =>
   have h':(r.map fun(n,k)=>if(k==NameKind.free&&env.scope.kind == .function&&env.kindOf n==some .cell)then(n,NameKind.cell)else(n,k)).lookup x=some k:=by
    by_cases hc:(k0==NameKind.free&&env.scope.kind == .function&&env.kindOf n==some .cell)=true
    ·rw[if_pos hc]at h;simpa[hx]using h
    ·rw[if_neg hc]at h;simpa[hx]using h
   obtain⟨k1,a,b,c⟩:=ZD h';exact⟨k1,List.mem_cons_of_mem _ a,by rw[List.lookup_cons,hx];exact b,c⟩
def PIfs (X:Cx) (ifs:List Expr) (t:TT):Prop :=
 ∀ (pins:List (Addr×Obj)) (s:Shared) (σ:St) (H:Hp) (Q:Bool→Hp→Prop),Inv X pins σ H s→t σ H Q→
  wpAny (model X.prog X.w) X.A (forIn ifs true fun c r=>if r=true then do let ok←isTrue c X.env (eval c X.env);pure (ForInStep.yield ok)else pure (ForInStep.yield r)) (TP X pins σ Q) X.xe s
def E1:TT:=fun _ H Q=>Q true H
theorem pifs_nil{X:Cx}:PIfs X [] E1:=fun _ _ _ H _ I h=>wpAny_tests_nil ⟨H,I,h⟩
theorem Ys{X:Cx}{c:Expr}{t:TT}(h:PT X c t):PIfs X [c] t:=fun pins s σ H Q I hq=>wpAny_tests_one (h pins s σ H Q I hq)
def Aa (J:It) (cap:St) (tc:TT) (te:TE) (Fin:List V→Hp→Prop) (W:Nat→Nat→List V→Hp→Prop):Prop :=
 ∀ i m ys H,W i m ys H→ys.length<sizeLine∧((J.stop i H∧Fin ys H)∨(J.go i H∧∃ N:List V→Hp→Prop,(∀ ys' H',N ys' H'→∃ m',m'<m∧W (i+1) m' ys' H')∧∀ x H',J.yld i H x H'→
   tc (some x::cap) H' fun b H2=>if b=true then te (some x::cap) H2 fun y H3=>N (ys++[y]) H3 else N ys H2))
def M6 (wi:TI) (caps:List Nat) (tc:TT) (te:TE):TE:=fun σ H Q=>wi σ H fun J H1=>∃ W:Nat→Nat→List V→Hp→Prop,(∃ m,W 0 m [] H1)∧
 Aa J (YW σ caps) tc te (fun ys H=>∀ p,H p=none→Q (.ref p) (upd H p (.lst ys))) W
section
variable {X:Cx}{pins:List (Addr×Obj)}{σ:St}{H2:Hp}{s2:Shared}
theorem KN{scope:Scope}{x:Str}{caps:List Nat}{cl:List (Str×Addr)}{fp:List Addr}{s3:Shared}{D:Addr}{h1:Heap}{tk:Nat}{m:Str→Option Value}(B:BlkOk X scope x caps)(I2:Inv X pins σ H2 s2)(f2:∀ b∈fp,YV X pins H2 b)
  (c1:∀ x c,cl.lookup x=some c→X.env.cells.lookup x=some c) (c2:∀ x,(x,NameKind.free)∈scope.names→∃ c,cl.lookup x=some c)
  (I3:Inv X pins σ H2 s3) (hD:D=s2.heap.objs.size) (h3:s3.heap.objs.size=D+1) (old:∀ b o,s3.heap.get? b=some o→h1.get? b=some o) (hfp:∀ b∈fp,b<s2.heap.objs.size)
  (hn:h1.Ns s3.heap.objs.size m) :
  Inv (ZB X scope (Z3 X x caps) cl s3.heap.objs.size s3 H2 (D::fp)) [] (none::YW σ caps) H2 {s3 with heap:=h1,toks:=tk}:=by
 have neD:∀ b o,s2.heap.get? b=some o→b≠D:=fun b o e=>by rw[hD];exact Nat.ne_of_lt (Heap.lt_size e)
 have exlt:∀ b∈D::fp,b<s3.heap.objs.size:=fun b hb=>by
  rw[h3];rcases List.mem_cons.mp hb with e|hb
  ·rw[e];exact Nat.lt_succ_self _
  ·exact Nat.lt_succ_of_lt (by rw[hD];exact hfp b hb)
 have keeps:=I3.hok.kept (h':=h1) old;refine⟨⟨I2.mod,B.kind,I2.ok.glob,I2.ok.blt,Nat.le_refl _,fun y z c e1 e2=>?_,fun y hy=>?_,fun y c e _=>(by cases e),fun hc=>I2.ok.hd hc,I2.ok.frames,.inl rfl,fun b hb=>?_,fun b o e=>?_,?_,fun b o e hb=>?_,fun b hb hf=>?_,I3.stack,fun b hb=>I2.stkFree b hb⟩,
   rfl,I3.bare,Un.kept old,⟨m,hn,fun i y v e1 e2 e3=>?_⟩,fun y c e=>?_,I3.hok.fresh (Nat.le_refl _),fun y c e=>I3.freeC y c (c1 y c e),fun p hp=>(nomatch hp),keeps,?_⟩
 ·exact I2.ok.inj y z c (c1 y c e1) (c1 z c e2)
 ·have hy:(relabel scope X.env).names.lookup y=some .cell∨(relabel scope X.env).names.lookup y=some .free:=hy;rcases hy with hy|hy
  ·obtain⟨k0,a,b,c⟩:=ZD hy;rcases c with c|⟨c,_⟩
   ·subst c;exact absurd rfl (B.nocell _ a)
   ·subst c;exact c2 y a
  ·obtain⟨k0,a,b,c⟩:=ZD hy;rcases c with c|⟨_,c⟩
   ·subst c;exact c2 y a
   ·cases c
 ·refine⟨Nat.ne_of_lt (exlt b hb),fun y c e z=>?_⟩;have e':=c1 y c e;rcases List.mem_cons.mp hb with q|q
  ·obtain⟨v,o,ho,_⟩:=I2.cell y c e';exact neD c o ho (z.trans q)
  ·exact(f2 b q).2.2.2.2.1 y c e' z
 ·exact I3.bs b o e
 ·exact Nat.le_trans I2.ok.bsz (Nat.le_trans I2.sz (show s2.heap.objs.size≤s3.heap.objs.size by rw[h3,hD];exact Nat.le_succ _))
 ·rcases List.mem_cons.mp hb with q|q
  ·exact neD b o (I2.bk b o e) q
  ·rcases (f2 b q).2.2.2.1 with z|z
   ·exact I2.ok.noex b o e z
   ·exact absurd (Nat.lt_of_lt_of_le (Heap.lt_size (I2.ok.bs b o e).1) z) (Nat.lt_irrefl _)
 ·have hf:b∈frs X.stack:=hf;rcases List.mem_cons.mp (I2.stkSub b hf)with z|z
  ·rcases List.mem_cons.mp hb with q|q
   ·exact absurd I2.lt (by rw[←z,q,hD];exact Nat.lt_irrefl _)
   ·exact(f2 b q).2.1 z
  ·rcases List.mem_cons.mp hb with q|q
   ·exact I2.nofs (a:=b) (by rw[q,hD];exact Nat.le_refl _) z
   ·exact(f2 b q).2.2.1 z
 ·cases i with
  |zero=>cases e2
  |succ j =>
   have e1:(caps.map fun j=>X.N.getD j Str.empty)[j]?=some y:=e1;have e2:(caps.map fun j=>(σ[j]?).getD none)[j]?=some (some v):=e2;rw[List.getElem?_map]at e1 e2;cases hj:caps[j]? with
   |none=>rw[hj]at e1;cases e1
   |some q =>
    rw[hj]at e1 e2;have e1':X.N.getD q Str.empty=y:=Option.some.inj e1;have e2':(σ[q]?).getD none=some v:=Option.some.inj e2;obtain⟨hs,hk,hsc⟩:=B.cap q (List.mem_of_getElem? hj);obtain⟨y',hy'⟩:=Option.isSome_iff_exists.mp hs;have ey:y'=y:=by rw[←e1',List.getD_eq_getElem?_getD,hy'];rfl
    subst ey;have es:σ[q]?=some (some v):=by
     cases hq:σ[q]? with
     |none=>rw[hq]at e2';cases e2'
     |some o=>rw[hq]at e2';exact congrArg some e2'
    rw[e1']at hk hsc;obtain⟨m2,_,hl⟩:=I3.loc;have hk':X.env.scope.names.lookup y'=some .cell:=hk;obtain⟨u,r,l⟩:=hl q y' v hy' es (.inr (.inl hk'));refine⟨u,r,.inr ⟨?_,?_⟩⟩
    ·rcases e3 with e3|e3|e3
     ·obtain⟨k0,a,b,c⟩:=ZD (show(relabel scope X.env).names.lookup y'=some .local from e3);rw[hsc]at b;cases b;rcases c with c|⟨_,c⟩<;>cases c
     ·exact .inl e3
     ·exact .inr e3
    ·rcases l with⟨l,_⟩|⟨_,c,hc,z⟩
     ·rw[hk]at l;cases l
     ·obtain⟨c',hc'⟩:=c2 y' (PySem.mem_of_lookup hsc);have ec:c'=c:=Option.some.inj ((c1 y' c' hc').symm.trans hc);subst ec;obtain⟨o,ho,hd⟩:=z;exact⟨c',hc',o,old c' o ho,hd⟩
 ·obtain⟨v,o,ho,hd⟩:=I3.cell y c (c1 y c e);exact⟨v,o,old c o ho,hd⟩
 ·show _=(Z3 X x caps).length;unfold Z3 YW;rw[List.length_cons,List.length_cons,List.length_map,List.length_map]
theorem Z8{scope:Scope}{env:Env}(h:∀ y∈scope.names,y.2=.free→∃ c,env.cells.lookup y.1=some c) :
  ∃ cl,closureFor scope env=pure cl∧(∀ x c,cl.lookup x=some c→env.cells.lookup x=some c)∧∀ x,(x,NameKind.free)∈scope.names→∃ c,cl.lookup x=some c:=by
 obtain⟨cl,h1,h2,_,h4⟩:=ZV (env:=env) scope.names [] h (fun x c e=>nomatch e);refine⟨cl,?_,h2,h4⟩;simp only[closureFor];have e:(forIn scope.names ([]:List (Str×Addr)) fun x r =>
     (match x with
     | (name,kind)=>if(kind == NameKind.free)=true then do let a←cellOf env name;pure (ForInStep.yield ((name,a)::r))else pure (ForInStep.yield r):Sem (ForInStep (List (Str×Addr)))))=pure cl:=h1
 first
  |(rw[e];rfl)
  |(refine Eq.trans (congrArg (· >>= pure) ?_) (rfl:(pure cl >>= pure:Sem _)=pure cl);exact e)
theorem Jb{prog:Program}{w:World}{A:Around}{R:Result→Shared→Prop}{s:Shared}{elt target iter:Expr}{ifs:List Expr}{scope:Scope}{pos:Pos}{it acc:Value}{env:Env}(I:Nat→Shared→Prop)
  (turn:∀ n s,I n s→wpAny (model prog w) A (pyNext it) (fun r s₁=>match r with
    |none=>R (.ok .next) s₁
    | some v=>wpAny (model prog w) A (letOwnedTupleGo target it v) (fun _ s₁=>wpAny (model prog w) A (assign target env v) (fun _ s₂ =>
        wpAny (model prog w) A (forIn ifs true fun c r=>if r=true then do let ok←isTrue c env (eval c env);pure (ForInStep.yield ok)else pure (ForInStep.yield r)) (fun ok s₃ =>
          if ok=true then wpAny (model prog w) A (eval elt env) (fun x s₄ =>
            wpAny (model prog w) A (call (.builtin "list.append") [acc,x]) (fun _ s₅=>∃ m,m<n∧I m s₅) (fun _ _=>False) s₄) (fun _ _=>False) s₃
          else ∃ m,m<n∧I m s₃) (fun _ _=>False) s₂) (fun _ _=>False) s₁) (fun _ _=>False) s₁) (fun _ _=>False) s)
  (n:Nat) (h:I n s) :
  codeAny (model prog w) A (.compLoop (.ListComp elt [⟨target,iter,ifs,0⟩] scope pos) 0 it acc env) R s:=by
 refine codeAny_loop rfl I (fun n s hI=>?_) n h;show wpAny _ A ((compTurn (.ListComp elt [⟨target,iter,ifs,0⟩] scope pos) 0 it acc env).onRaise (fun x=>do noteFrame x env;theTreesLotGoes x)) _ _ s;refine wpAny_noted ?_;rw[compTurn_list];refine wpAny_bind (wpAny_standAt (wpAny_bind (wpAny_mono (turn n s hI) (fun r s₁ h₁=>?_) fun _ _ h'=>h'.elim)));cases r with
 |none=>exact wpAny_pure h₁
 |some v =>
  refine wpAny_bind (wpAny_mono h₁ (fun _ s₁ h₁=>?_) fun _ _ h'=>h'.elim);refine wpAny_bind (wpAny_mono h₁ (fun _ s₂ h₂=>wpAny_bind (wpAny_mono h₂ (fun ok s₃ h₃=>?_) fun _ _ h'=>h'.elim)) fun _ _ h'=>h'.elim);cases ok with
  |false=>exact wpAny_pure ⟨rfl,h₃⟩
  |true =>exact wpAny_bind (wpAny_bind (wpAny_mono h₃ (fun x s₄ h₄=>wpAny_bind (wpAny_mono h₄ (fun _ s₅ h₅=>wpAny_pure (wpAny_pure ⟨rfl,h₅⟩)) fun _ _ h'=>h'.elim)) fun _ _ h'=>h'.elim))
theorem Wa{scope:Scope}{x:Str}{px:Pos}{caps:List Nat}{elt iter:Expr}{ifs:List Expr}{pos:Pos}{cl:List (Str×Addr)}{fp:List Addr}{it:Addr}{tn:Nat→Heap→Prop}{J:It}{tc:TT}{te:TE}{Fin:List V→Hp→Prop}{W:Nat→Nat→List V→Hp→Prop}{E:Value→Shared→Prop}
  {RR:Value→Addr→Result→Shared→Prop}{m0:Nat}(hc:X.calm=true) (B:BlkOk X scope x caps) (I2:Inv X pins σ H2 s2) (T:Turn X.prog X.w X.K (.Name x px) J fp it tn) (st2:tn 0 s2.heap) (f2:∀ b∈fp,YV X pins H2 b)
  (c1:∀ x c,cl.lookup x=some c→X.env.cells.lookup x=some c) (c2:∀ x,(x,NameKind.free)∈scope.names→∃ c,cl.lookup x=some c)
  (hI:∀ cl C s H ex,PIfs (ZB X scope (Z3 X x caps) cl C s H ex) ifs tc) (hE:∀ cl C s H ex,PE (ZB X scope (Z3 X x caps) cl C s H ex) elt te)
  (w0:W 0 m0 [] H2) (cw:Aa J (YW σ caps) tc te Fin W)
  (hRR:∀ D C s' H' ys m,H' D=none→s'.heap.Ns C m→YV X pins (upd H' D (.lst ys)) C→Inv X pins σ (upd H' D (.lst ys)) s'→Fin ys H'→RR (.ref D) C (.ok .next) s') :
  wpAny (model X.prog X.w) X.A (newList []) (fun acc s₃=>wpAny (model X.prog X.w) X.A (newFunctionEnv scope X.env.globals cl [] X.env.qual none .none (some X.env)) (fun cenv s₄ =>
    codeAny (model X.prog X.w) X.A (.compStart (.ListComp elt [⟨.Name x px,iter,ifs,0⟩] scope pos) 0 (.ref it) acc { cenv with scope:=relabel scope X.env }) (RR acc cenv.locals) s₄) E s₃) E s2:=by
 refine wpAny_newObj_type (wpAny_newFunctionEnv B.nocell (by intro y hy;simp at hy) (fun h₁ hns₁ hsb₁=>?_) B.kind);dsimp only at hns₁ hsb₁ ⊢;have hfp:∀ b∈fp,b<s2.heap.objs.size:=fun b hb=>by obtain⟨o,e,_⟩:=T.obj _ _ st2 b hb;exact Heap.lt_size e
 have I3:Inv X pins σ H2 {s2 with heap:=s2.heap.push {cls:=.type "list",dict:=none,data:=.seq ([]:List Value).toArray}}:=I2.kept (t':=s2.toks) fun b o e=>Heap.get?_push_of_some _ e;have h3:(s2.heap.push {cls:=.type "list",dict:=none,data:=.seq ([]:List Value).toArray}).objs.size=s2.heap.objs.size+1:=Heap.size_push ..;have hobj:(s2.heap.push {cls:=.type "list",dict:=none,data:=.seq ([]:List Value).toArray}).get? s2.heap.objs.size=some {cls:=.type "list",dict:=none,data:=.seq ([]:List Value).toArray}:=Heap.get?_push_size _ rfl;have old3:∀ b o,s2.heap.get? b=some o→(s2.heap.push {cls:=.type "list",dict:=none,data:=.seq ([]:List Value).toArray}).get? b=some o:=fun b o e=>Heap.get?_push_of_some _ e;generalize hH3:s2.heap.push {cls:=.type "list",dict:=none,data:=.seq ([]:List Value).toArray}=h3' at hns₁ hsb₁ I3 h3 hobj old3 ⊢;have old:∀ b o,h3'.get? b=some o→h₁.get? b=some o:=fun b o e=>hsb₁.extBut b o (Nat.ne_of_lt (Heap.lt_size e)) (Heap.get?_push_of_some _ e);have hDC:s2.heap.objs.size≠h3'.objs.size:=by rw[h3];exact Nat.ne_of_lt (Nat.lt_succ_self _)
 have IB:=KN (cl:=cl) (fp:=fp) (s3:={s2 with heap:=h3'}) (D:=s2.heap.objs.size) (h1:=h₁) (tk:=s2.toks+([]:List (Str×Value)).length) B I2 f2 c1 c2 I3 rfl h3 old hfp hns₁;generalize hY:ZB X scope (Z3 X x caps) cl h3'.objs.size {s2 with heap:=h3'} H2 (s2.heap.objs.size::fp)=Y at IB;have yP:Y.prog=X.prog:=by rw[←hY];rfl
 have yw:Y.w=X.w:=by rw[←hY];rfl
 have yK:Y.K=X.K:=by rw[←hY];rfl
 have yA:Y.A=X.A:=by rw[←hY];rfl
 have yc:Y.calm=true:=by rw[←hY];exact hc
 have yenv:Y.env=compEnvC scope cl h3'.objs.size X.env:=by rw[←hY];rfl
 have hIY:PIfs Y ifs tc:=by rw[←hY];exact hI _ _ _ _ _
 have hEY:PE Y elt te:=by rw[←hY];exact hE _ _ _ _ _
 have yxe:Y.xe=fun _ _=>False:=by rw[←hY];rfl
 have ypn:Y.pn=[]:=by rw[←hY];rfl
 have hgN:PG Y (.Name x px) (NZ 0):=by rw[←hY];exact Wn B.nd rfl (.inl (lookup_relabel_local B.own)) (.inr (lookup_relabel_local B.own))
 have fD:∀ {H':Hp},H' s2.heap.objs.size=none→YV Y [] H' s2.heap.objs.size:=fun {H'} hn=>by
  refine⟨hn,?_,?_,?_,?_,fun p hp=>?_⟩
  ·rw[yenv];exact hDC
  ·exact IB.ok.exfs _ (by rw[←hY];exact List.mem_cons_self)
  ·exact .inl (by rw[←hY];exact List.mem_cons_self)
  ·exact fun y c e=>(IB.ok.exf _ (by rw[←hY];exact List.mem_cons_self)).2 y c e
  ·rw[ypn]at hp;exact nomatch hp
 have fF:∀ {H':Hp},(∀ b∈fp,H' b=none)→∀ b∈fp,YV Y [] H' b:=fun {H'} hn b hb=>by
  have hm:b∈Y.ex:=by rw[←hY];exact List.mem_cons_of_mem _ hb
  refine⟨hn b hb,?_,IB.ok.exfs b hm,.inl hm,fun y c e=>(IB.ok.exf b hm).2 y c e,fun p hp=>?_⟩
  ·exact(IB.ok.exf b hm).1
  ·rw[ypn]at hp;exact nomatch hp
 have acc0:h₁.PlainList s2.heap.objs.size ([]:List Value).toArray:=⟨0,by exact old _ _ hobj⟩
 have loop:∀ s₃:Shared,s₃={s2 with heap:=h₁,toks:=s2.toks+([]:List (Str×Value)).length}→
   codeAny (model X.prog X.w) X.A (.compLoop (.ListComp elt [⟨.Name x px,iter,ifs,0⟩] scope pos) 0 (.ref it) (.ref s2.heap.objs.size) (compEnvC scope cl h3'.objs.size X.env)) (RR (.ref s2.heap.objs.size) h3'.objs.size) s₃:=by
  rintro s₃ rfl;refine Jb (fun n s'=>∃ i ys its H',Inv Y [] (none::YW σ caps) H' s'∧tn i s'.heap∧(∀ b∈fp,H' b=none)∧H' s2.heap.objs.size=none∧Vals ys its∧s'.heap.PlainList s2.heap.objs.size its.toArray∧W i n ys H') ?_ m0
   ⟨0,[],[],H2,IB,T.keep _ _ _ st2 (fun b hb o e=>old _ _ (old3 _ _ e)),fun b hb=>(f2 b hb).1,I2.fresh,.nil,acc0,w0⟩
  rintro n s3 ⟨i,ys,its,H3,I3',st3,fr3,frD,rv,pl,w3⟩;have cv:∀ {α:Type}{f:Sem α}{Q Q':α→Shared→Prop}{s:Shared},wpAny (model Y.prog Y.w) Y.A f Q Y.xe s→(∀ a s',Q a s'→Q' a s')→wpAny (model X.prog X.w) X.A f Q' (fun _ _=>False) s:=fun {α f Q Q' s} h hq=>by rw[yP,yw,yA,yxe]at h;exact wpAny_mono h hq fun _ _ e=>e
  have cvX:∀ {α:Type}{f:Sem α}{Q Q':α→Shared→Prop}{s:Shared},wpAny (model X.prog X.w) Y.A f Q (fun _ _=>False) s→(∀ a s',Q a s'→Q' a s')→wpAny (model X.prog X.w) X.A f Q' (fun _ _=>False) s:=fun {α f Q Q' s} h hq=>by rw[yA]at h;exact wpAny_mono h hq fun _ _ e=>e
  obtain⟨nD,hD3⟩:=id pl;have plD:∀ b∈[s2.heap.objs.size],∃ o,s3.heap.get? b=some o∧∀ v,o.data≠.cell v:=fun b hb=>by
   have e:b=s2.heap.objs.size:=by simpa using hb
   subst e;exact⟨_,hD3,fun v z=>by cases z⟩
  have IP:=I3'.pinned (fp:=[s2.heap.objs.size]) (fun b hb=>by
    have e:b=s2.heap.objs.size:=by simpa using hb
    subst e
    exact fD frD) plD
  have memD:=ZC (fp:=[s2.heap.objs.size]) (List.mem_singleton.mpr rfl) hD3;have fF':∀ b∈fp,YV Y ([]++Yl [s2.heap.objs.size] s3.heap) H3 b:=fun b hb=>by
   obtain⟨q1,q2,q3,q4,q5,q6⟩:=fF fr3 b hb;refine⟨q1,q2,q3,q4,q5,fun p hp=>?_⟩;rw[ypn]at hp;obtain⟨hp1,_⟩:=XO (show p∈Yl [s2.heap.objs.size] s3.heap by simpa using hp);have e:p.1=s2.heap.objs.size:=by simpa using hp1
   rw[e];exact(Nat.ne_of_lt (hfp b hb)).symm
  obtain⟨hys,h|⟨go,N,hN,step⟩⟩:=cw i n ys H3 w3
  ·obtain⟨stop,fin⟩:=h;refine cvX (T.done Y yP yw yK yc i _ s3 _ H3 _ IP fF' st3 stop) fun r s4 ⟨hr,I4⟩=>?_;subst hr;obtain⟨m4,hm4,_⟩:=I4.loc;rw[yenv]at hm4;have base4:Un (frs X.stack) (s2.heap.objs.size::fp) H2 H3 h3' s4.heap:=by
    have:=I4.base;rw[←hY]at this;exact this
   have hok4:HOk X.prog X.w H3 s4.heap:=by have:=I4.hok;rw[yP,yw]at this;exact this
   have pl4:=(I4.pin _ (List.mem_append_right _ (List.mem_append_right _ memD))).1;have nC:H3 h3'.objs.size=none:=by have:=I4.free;rw[yenv]at this;exact this
   have hlen:ys.length≤sizeLine:=Nat.le_of_lt hys;have osEq:s4.os=s2.os:=by have:=I4.os;rw[←hY]at this;exact this
   have neD:∀ b o,s2.heap.get? b=some o→b≠s2.heap.objs.size:=fun b o e=>Nat.ne_of_lt (Heap.lt_size e);have nin:∀ b o,s2.heap.get? b=some o→b∉fp→b∉s2.heap.objs.size::fp:=fun b o e hb z=>(List.mem_cons.mp z).elim (neD b o e) hb;have hokN:HOk X.prog X.w (upd H3 s2.heap.objs.size (.lst ys)) s4.heap:=hok4.track frD ⟨hlen,its,nD,rv,pl4⟩;have U:Un (frs X.stack) fp H2 (upd H3 s2.heap.objs.size (.lst ys)) s2.heap s4.heap:=by
    refine⟨fun b o e hn hf hx=>base4.keep b o (old3 b o e) hn hf (nin b o e hx),fun b o e hn hf hx=>base4.slot b o (old3 b o e) hn hf (nin b o e hx),fun b o e hn hx=>?_,fun b o e hx=>base4.there b o (old3 b o e) (nin b o e hx),fun b xs e=>?_,fun b o xs e=>?_,fun b ps e=>?_⟩
    ·rw[upd_ne (neD b o e)];exact base4.free b o (old3 b o e) hn (nin b o e hx)
    ·have q:=base4.tups b xs e;rw[upd_ne (Ze q frD)];exact q
    ·have q:=base4.frzs b o xs e;rw[upd_ne (Ze q frD)];exact q
    ·obtain⟨more,q⟩:=base4.tbls b ps e;exact⟨more,by rw[upd_ne (Ze q frD)];exact q⟩
   have I5:Inv X pins σ (upd H3 s2.heap.objs.size (.lst ys)) s4:=I2.call' (ch:=fp) osEq U hokN I4.bare fun b hb=>by obtain⟨_,q2,_,q4,q5,q6⟩:=f2 b hb;exact⟨q4,q2,q5,q6⟩
   exact hRR _ _ _ _ _ m4 frD hm4 (I2.fpOk (Nat.le_of_lt (by rw[h3];exact Nat.lt_succ_self _)) (by rw[upd_ne hDC.symm];exact nC)) I5 fin
  ·refine cvX (T.item Y yP yw yK yc i _ s3 _ H3 _ IP fF' st3 go) fun r s4 ⟨u,hr,h4⟩=>?_;subst hr;refine cvX h4 fun _ s5 ⟨y,H5,I5,r5,y5,st5,fr5⟩=>?_;have frD5:H5 s2.heap.objs.size=none:=(I5.pin _ (List.mem_append_right _ (List.mem_append_right _ memD))).2.1;have hD5:=(I5.pin _ (List.mem_append_right _ (List.mem_append_right _ memD))).1;have I5p:=I5.unpinned.pinned (fp:=s2.heap.objs.size::fp) (fun b hb=>by
     rcases List.mem_cons.mp hb with e|hb
     · subst e;exact fD frD5
     · exact fF fr5 b hb) (fun b hb=>by
     rcases List.mem_cons.mp hb with e|hb
     · subst e;exact⟨_,hD5,fun v z=>by cases z⟩
     · exact T.obj _ _ st5 b hb)
   have memD5:=ZC (fp:=s2.heap.objs.size::fp) List.mem_cons_self hD5;rw[←yenv];refine cv (hgN _ s5 _ H5 y u (fun σ' H'=>σ'=some y::YW σ caps∧H'=H5) I5p r5 ⟨rfl,rfl⟩) fun _ s6 ⟨σ6,H6,I6,e6,e6'⟩=>?_;rw[e6,e6']at I6;have back:∀ {m':Nat}{σ7:St}{H7:Hp}{s7:Shared}{ys':List V}{its':List Value},Inv Y [] σ7 H7 s7→σ7=some y::YW σ caps→tn (i+1) s7.heap→(∀ b∈fp,H7 b=none)→H7 s2.heap.objs.size=none→Vals ys' its'→s7.heap.PlainList s2.heap.objs.size its'.toArray→m'<n∧W (i+1) m' ys' H7→
     ∃ m,m<n∧∃ i ys its H',Inv Y [] (none::YW σ caps) H' s7∧tn i s7.heap∧(∀ b∈fp,H' b=none)∧H' s2.heap.objs.size=none∧Vals ys its∧s7.heap.PlainList s2.heap.objs.size its.toArray∧W i m ys H':=by
    intro m' σ7 H7 s7 ys' its' J1 e1 st7 fr7 fd7 rv7 pl7 wm;subst e1;refine⟨m',wm.1,i+1,ys',its',H7,J1.weak (by simp) (fun j v hj=>?_),st7,fr7,fd7,rv7,pl7,wm.2⟩;cases j with
    |zero=>cases hj
    |succ j=>exact hj
   have stay:∀ {σ7:St}{H7:Hp}{s7:Shared},Inv Y ([]++Yl (s2.heap.objs.size::fp) s5.heap) σ7 H7 s7→tn (i+1) s7.heap∧(∀ b∈fp,H7 b=none)∧H7 s2.heap.objs.size=none∧s7.heap.get? s2.heap.objs.size=some {cls:=.type "list",data:=.seq its.toArray nD}:=by intro σ7 H7 s7 J1;refine⟨T.keep _ _ _ st5 fun b hb o e=>(J1.pin (b,o) (List.mem_append_right _ (List.mem_append_right _ (ZC (List.mem_cons_of_mem _ hb) e)))).1,fun b hb=>?_,(J1.pin _ (List.mem_append_right _ (List.mem_append_right _ memD5))).2.1,(J1.pin _ (List.mem_append_right _ (List.mem_append_right _ memD5))).1⟩;obtain⟨o,e,d⟩:=T.obj _ _ st5 b hb;exact(J1.pin (b,o) (List.mem_append_right _ (List.mem_append_right _ (ZC (List.mem_cons_of_mem _ hb) e)))).2.1
   refine cv (hIY _ s6 _ H5 _ I6 (step y H5 y5)) fun ok s7 ⟨H7,I7,q7⟩=>?_;cases ok with
   |false =>rw[if_neg (by decide)]at q7;rw[if_neg (by decide)];obtain⟨m',wm⟩:=hN _ _ q7;obtain⟨a1,a2,a3,a4⟩:=stay I7;exact back I7.unpinned rfl a1 a2 a3 rv ⟨nD,a4⟩ wm
   |true =>
    rw[if_pos rfl]at q7;rw[if_pos rfl];refine cv (hEY _ s7 _ H7 _ I7 q7) fun z s8 ⟨vz,H8,I8,rz,wm⟩=>?_;obtain⟨m',wm⟩:=hN _ _ wm;obtain⟨a1,a2,a3,a4⟩:=stay I8;have hlen:=rv.length;refine wpAny_list_append_plain (hsz:=by rw[List.size_toArray];omega) (⟨nD,a4⟩:s8.heap.PlainList _ its.toArray) fun h9 hl9 hs9=>?_;obtain⟨q1,q2,q3,q4,q5,q6⟩:=fD a3;have I9:Inv Y [] _ H8 {s8 with heap:=h9}:=I8.unpinned.turned (t':=s8.toks) (fun b o hb e=>hs9.extBut b o hb e) q1 q2 q4 q5 q6;refine back I9 rfl (T.keep _ _ _ a1 fun b hb o e=>hs9.extBut b o (Nat.ne_of_lt (hfp b hb)) e) a2 a3 (its':=its++[z]) (rv.append (.cons rz .nil)) ?_ wm;have e:its.toArray.push z=(its++[z]).toArray:=by simp
    rw[e]at hl9;exact hl9
 exact codeAny_compStart_list (loop _ rfl) (T.self _ 0 _ _ _ (T.keep _ _ _ st2 (fun b hb o e=>old _ _ (old3 _ _ e))) (loop _ rfl))
theorem MT{scope:Scope}{x:Str}{px:Pos}{caps:List Nat}{elt iter:Expr}{ifs:List Expr}{pos:Pos}{wi:TI}{tc:TT}{te:TE}(hc:X.calm=true)(B:BlkOk X scope x caps)(hi:PI X (.Name x px) iter wi)
  (hI:∀ cl C s H ex,PIfs (ZB X scope (Z3 X x caps) cl C s H ex) ifs tc) (hE:∀ cl C s H ex,PE (ZB X scope (Z3 X x caps) cl C s H ex) elt te)
  (hs:∀ x,foldedSetIterable iter X.env x=pure x:=by intro _;rfl):PE X (.ListComp elt [⟨.Name x px,iter,ifs,0⟩] scope pos) (M6 wi caps tc te):=by
 intro pins s σ H Q I h;obtain⟨cl,hcl,c1,c2⟩:=Z8 (scope:=scope) (env:=X.env) fun y hy e=>I.ok.has y.1 (.inl (B.frees y hy e));rw[eval_ListComp];refine wpAny_comprehension_free (use:=none) rfl hs hcl B.kind B.locs (thn (hi pins s σ H _ I h) fun v s1 h1=>thn h1 fun itv s2 h2=>?_);obtain⟨it,fp,tn,J,H2,e,I2,T,st2,f2,W,⟨m0,w0⟩,cw⟩:=h2;subst e;refine Wa (RR:=fun acc C=>compPost (model X.prog X.w) X.A X.xe none (EP X pins σ Q) acc C) hc B I2 T st2 f2 c1 c2 hI hE w0 cw ?_;intro D C s' H' ys m hD hn fC I' fin;obtain⟨q1,q2,q3,q4,q5,q6⟩:=fC;exact⟨m,hn,fun h' hs'=>⟨.ref D,_,I'.turned (t':=s'.toks) (fun b o hb e=>hs'.extBut b o hb e) q1 q2 q4 q5 q6,rfl,fin D hD⟩⟩
theorem Ms{scope:Scope}{x y:Str}{px py:Pos}{i:Nat}{caps:List Nat}{elt iter:Expr}{ifs:List Expr}{pos spos:Pos}{wi:TI}{tc:TT}{te:TE}(hN:X.N.Nodup)(hi':X.N[i]?=some y)(hy:Loc X.env.scope y)(hc:X.calm=true)(B:BlkOk X scope x caps)(hi:PI X (.Name x px) iter wi)
  (hI:∀ cl C s H ex,PIfs (ZB X scope (Z3 X x caps) cl C s H ex) ifs tc) (hE:∀ cl C s H ex,PE (ZB X scope (Z3 X x caps) cl C s H ex) elt te)
  (hs:∀ x,foldedSetIterable iter X.env x=pure x:=by intro _;rfl)
  (hsw:swapsWith (.ListComp elt [⟨.Name x px,iter,ifs,0⟩] scope pos) (some (.Name y py)) spos.line X.env=pure true:=by rfl)
  (hf:X.fn y=true∨X.env.scope.names.lookup y=some .local:=by first|exact .inl rfl|exact .inr rfl|assumption) :
  PS X (.Assign [.Name y py] (.ListComp elt [⟨.Name x px,iter,ifs,0⟩] scope pos) spos) (Ek (M6 wi caps tc te) (NZ i)):=by
 intro pins s σ H D I h;obtain⟨cl,hcl,c1,c2⟩:=Z8 (scope:=scope) (env:=X.env) fun y hy e=>I.ok.has y.1 (.inl (B.frees y hy e));rw[exec_Assign_Name_used _ _ _ _ hsw];refine wpAny_bind (wpAny_standAt (wpAny_bind ?_));show wpAny _ X.A (do let _←comprehension (.ListComp elt [⟨.Name x px,iter,ifs,0⟩] scope pos) scope X.env _ (newList []) false (eval iter X.env) (some (assign (.Name y py) X.env))) _ _ s;refine wpAny_bind (wpAny_mono (wpAny_comprehension_free (use:=some (assign (.Name y py) X.env)) (Q:=fun _ s'=>SP X pins D .next s') rfl hs hcl B.kind B.locs
   (thn (hi pins s σ H _ I h) fun v s1 h1=>thn h1 fun itv s2 h2=>?_)) (fun _ s' hq=>wpAny_pure (wpAny_pure hq)) fun _ _ e=>e)
 obtain⟨it,fp,tn,J,H2,e,I2,T,st2,f2,W,⟨m0,w0⟩,cw⟩:=h2;subst e;refine Wa (RR:=fun acc C=>compPost (model X.prog X.w) X.A X.xe (some (assign (.Name y py) X.env)) (fun _ s'=>SP X pins D .next s') acc C) hc B I2 T st2 f2 c1 c2 hI hE w0 cw ?_;intro Dd C s' H' ys m hD hn fC I' fin;obtain⟨q1,q2,q3,q4,q5,q6⟩:=fC;show wpAny _ _ (assign (.Name y py) X.env (.ref Dd)) _ _ _;refine wpAny_assign_Name (XS I' hN hi' hy (v:=.ref Dd) rfl (fun s2 I2 ⟨a,hs2,ha⟩=>?_) hf);have ne:C≠a:=by
  rcases ha with z|z
  ·rw[z];exact q2
  ·exact(q5 y a z).symm
 refine⟨m,hn.sameBut hs2 ne,fun h' hs'=>?_⟩;exact⟨_,_,I2.turned (t':=s2.toks) (fun b o hb e=>hs'.extBut b o hb e) q1 q2 q4 q5 q6,fin Dd hD⟩
end
end L2
namespace L2
open PySem PySem.Spec PyProof.Rows
mutual
inductive IsD (K:PySem.W.Frag) (H:Hp):V→PyData→Prop
 |non:IsD K H .non .none
 |bl (b:Bool):IsD K H (.bl b) (.bool b)
 |int (i:Int):IsD K H (.int i) (.int i)
 |str (x:Str):IsD K H (.str x) (.str x)
 |lst {a:Addr}{xs:List V}{ds:List PyData}:SqL K H a xs→IsDs K H xs ds→IsD K H (.ref a) (.list ds)
 |tup {a:Addr}{xs:List V}{ds:List PyData}:SqT K H a xs→IsDs K H xs ds→IsD K H (.ref a) (.tuple ds)
inductive IsDs (K:PySem.W.Frag) (H:Hp):List V→List PyData→Prop
 |nil:IsDs K H [] []
 |cons {x:V}{xs:List V}{d:PyData}{ds:List PyData}:IsD K H x d→IsDs K H xs ds→IsDs K H (x::xs) (d::ds)
end
section
variable {X:Cx}{pins:List (Addr×Obj)}{σ:St}{H:Hp}{s:Shared}
mutual
theorem IsD.reads(I:Inv X pins σ H s):∀ {v:V}{d:PyData}{u:Value},IsD X.K H v d→RelV v u→∃ as,Reads s.heap u d as
 |_,_,_,.non,r=>by cases r;exact⟨_,.none⟩
 |_,_,_,.bl b,r=>by cases r;exact⟨_,.bool b⟩
 |_,_,_,.int i,r=>by obtain⟨t,rfl⟩:=r;exact⟨_,.int i t⟩
 |_,_,_,.str x,r=>by obtain⟨t,rfl⟩:=r;exact⟨_,.str x t⟩
 |_,_,_,.lst q qs,r=>by cases r;obtain⟨its,rv,⟨o,n,e,c,_,d⟩,_⟩:=I.list q;obtain⟨as,ra⟩:=IsDs.reads I qs rv;exact⟨_,.list e c d (by simpa using ra)⟩
 |_,_,_,.tup q qs,r=>by cases r;obtain⟨its,rv,⟨o,e,c,n,d⟩,_⟩:=I.tuple q;obtain⟨as,ra⟩:=IsDs.reads I qs rv;exact⟨_,.tuple e c d (by simpa using ra)⟩
theorem IsDs.reads(I:Inv X pins σ H s):∀ {vs:List V}{ds:List PyData}{us:List Value},IsDs X.K H vs ds→Vals vs us→∃ as,ReadsAll s.heap us ds as
 |_,_,_,.nil,.nil=>⟨_,.nil⟩
 |_,_,_,.cons q qs,.cons r rs=>by obtain⟨as,ra⟩:=IsD.reads I q r;obtain⟨bs,rb⟩:=IsDs.reads I qs rs;exact⟨_,.cons ra rb⟩
end
end
theorem Same.sqT{K:PySem.W.Frag}{H H':Hp}{a:Addr}{xs:List V}(e:Same H H')(h:SqT K H a xs):SqT K H' a xs:=by
 rcases h with(h|⟨o,h⟩)|h
 ·exact .inl (.inl (e _ _ h))
 ·exact .inl (.inr ⟨o,e _ _ h⟩)
 ·exact .inr h
mutual
theorem IsD.same{K:PySem.W.Frag}{H H':Hp}(e:Same H H'):∀ {v:V}{d:PyData},IsD K H v d→IsD K H' v d
 |_,_,.non=>.non
 |_,_,.bl b=>.bl b
 |_,_,.int i=>.int i
 |_,_,.str x=>.str x
 |_,_,.lst q qs=>.lst (e.seq q) (IsDs.same e qs)
 |_,_,.tup q qs=>.tup (e.sqT q) (IsDs.same e qs)
theorem IsDs.same{K:PySem.W.Frag}{H H':Hp}(e:Same H H'):∀ {vs:List V}{ds:List PyData},IsDs K H vs ds→IsDs K H' vs ds
 |_,_,.nil=>.nil
 |_,_,.cons q qs=>.cons (IsD.same e q) (IsDs.same e qs)
end
theorem IsDs.ints{K:PySem.W.Frag}{H:Hp}:∀ ns:List Int,IsDs K H (ns.map V.int) (ns.map PyData.int)
 |[]=>.nil
 |n::ns=>.cons (.int n) (IsDs.ints ns)
theorem IsDs.length{K:PySem.W.Frag}{H:Hp}:∀ {vs:List V}{ds:List PyData},IsDs K H vs ds→vs.length=ds.length
 |_,_,.nil=>rfl
 |_,_,.cons _ t=>by rw[List.length_cons,List.length_cons,IsDs.length t]
theorem IsDs.get{K:PySem.W.Frag}{H:Hp}:∀ {vs:List V}{ds:List PyData}{i:Nat}{v:V},IsDs K H vs ds→vs[i]?=some v→∃ d,ds[i]?=some d∧IsD K H v d
 |_,_,_,_,.nil,e=>by simp at e
 |_,_,0,_,.cons q _,e=>by simp at e;subst e;exact⟨_,rfl,q⟩
 |_,_,i+1,v,.cons _ t,e=>by obtain⟨d,h1,h2⟩:=IsDs.get (i:=i) (v:=v) t (by simpa using e);exact⟨d,by simpa using h1,h2⟩
theorem IsDs.append{K:PySem.W.Frag}{H:Hp}:∀ {xs ys:List V}{ds es:List PyData},IsDs K H xs ds→IsDs K H ys es→IsDs K H (xs++ys) (ds++es)
 |_,_,_,_,.nil,h=>h
 |_,_,_,_,.cons q t,h=>.cons q (IsDs.append t h)
section
variable {X:Cx}
def Cp (K:PySem.W.Frag):R2:=fun x y H Q=>∃ d e,IsD K H x d∧IsD K H y e∧SeqAt.shaped d=true∧SeqAt.shaped e=true∧Q (.bl (PyData.eqv d e)) H
def Dv (K:PySem.W.Frag):R2:=fun x y H Q=>∃ d e,IsD K H x d∧IsD K H y e∧SeqAt.shaped d=true∧SeqAt.shaped e=true∧Q (.bl (!PyData.eqv d e)) H
theorem Be(hu:X.A.units+64<cLine):OpR X (compareOp .Eq) (Cp X.K):=by intro pins s σ H x y v u Q I rx ry h;obtain⟨d,e,hd,he,sd,se,q⟩:=h;obtain⟨as,ra⟩:=hd.reads I rx;obtain⟨bs,rb⟩:=he.reads I ry;exact SeqAt.compareEq_shaped ra rb sd se hu ⟨.bl _,H,I,rfl,q⟩
theorem Ap(hu:X.A.units+64<cLine):OpR X (compareOp .NotEq) (Dv X.K):=by intro pins s σ H x y v u Q I rx ry h;obtain⟨d,e,hd,he,sd,se,q⟩:=h;obtain⟨as,ra⟩:=hd.reads I rx;obtain⟨bs,rb⟩:=he.reads I ry;exact SeqAt.compareNe_shaped ra rb sd se hu ⟨.bl _,H,I,rfl,q⟩
inductive TyV (K:PySem.W.Frag) (H:Hp):V→Value→Prop
 |of {x:V}{t:Value}:TyOf K H x t→TyV K H x t
 |tup {a:Addr}{xs:List V}:SqT K H a xs→TyV K H (.ref a) (.type "tuple")
 |lst {a:Addr}{xs:List V}:SqL K H a xs→TyV K H (.ref a) (.type "list")
theorem TyV.int {K:PySem.W.Frag}{H:Hp}(i:Int):TyV K H (.int i) (.type "int"):=.of (.int i)
theorem MK:CallR X (.builtin "isinstance") (fun xs H Q=>∃ x T t b,xs=[x,.ty T]∧TyV X.K H x t∧PySem.W.kitOne X.K t (.type T)=some b∧Q (.bl b) H):=by
 intro pins s σ H xs us Q I r h;obtain⟨x,T,t,b,rfl,ty,e,q⟩:=h;obtain⟨u,v,rfl,ru,rv⟩:=CK r;cases rv;cases ty with
 |of ty=>exact K2 I ru ty e fun tk=>⟨.bl b,H,I.tok tk,rfl,q⟩
 |tup hq =>cases ru;obtain⟨its,_,⟨o,h1,h2,_⟩,_⟩:=I.tuple hq;exact PySem.W.kia_one PySem.W.kitx_tuple I.kIn ⟨o,h1,h2⟩ e (fun z=>nomatch z) fun tk=>⟨.bl b,H,I.tok tk,rfl,q⟩
 |lst hq =>cases ru;obtain⟨its,_,⟨o,n,h1,h2,_⟩,_⟩:=I.list hq;exact PySem.W.kia_one PySem.W.kitx_list I.kIn ⟨o,h1,h2⟩ e (fun z=>nomatch z) fun tk=>⟨.bl b,H,I.tok tk,rfl,q⟩
theorem Nh (hc:X.calm=true):CallR X (.builtin "all") (fun xs H Q=>∃ p,∃ bs:List Bool,xs=[.ref p]∧SqL X.K H p (bs.map V.bl)∧Q (.bl (bs.all id)) H):=by
 intro pins s σ H xs us Q I r h;obtain⟨p,bs,rfl,hq,q⟩:=h;obtain⟨u,rfl,rx⟩:=Z4 r;cases rx;obtain⟨its,rv,pl,hz⟩:=I.list hq;have hlen:=rv.length;rw[List.length_map]at hlen;have hlt:p<s.heap.objs.size:=by obtain⟨o,n,e,_⟩:=pl;exact Heap.lt_size e
 refine call_all_walk (wpAny_pyIter_list pl.isList ?_);refine⟨s.heap.objs.size,_,_,its.toArray.size,_,_,fun i=>bs.getD i true,rfl,Walks.list (A:=X.A.in1) (I.ok.hd hc) s.heap.objs.size p (Nat.ne_of_lt hlt) its.toArray,⟨⟨_,Heap.get?_push_size _ rfl,rfl,rfl⟩,pl.isList.push _⟩,?_,fun h' tk hk=>?_⟩
 ·intro i v s' Q' E' hP hQ;have hP:its[i]?=some v:=by simpa using hP
  have hb:(bs.map V.bl)[i]?=some (.bl (bs.getD i true)):=by
   have hi:i<bs.length:=by have:=(List.getElem?_eq_some_iff.mp hP).1;omega
   rw[List.getElem?_map,List.getD_eq_getElem?_getD];simp[hi]
  obtain⟨u,hu,ru⟩:=rv.get hb;rw[hP]at hu;cases hu;cases ru;exact wpAny_truthy_bool hQ
 ·have e:(List.range its.toArray.size).all (fun i=>bs.getD i true)=bs.all id:=by
   rw[List.size_toArray,←hlen,Bool.eq_iff_iff,List.all_eq_true,List.all_eq_true];constructor
   ·intro h b hb;obtain⟨i,hi,rfl⟩:=List.mem_iff_getElem.mp hb;have:=h i (List.mem_range.mpr hi);rw[List.getD_eq_getElem?_getD,List.getElem?_eq_getElem hi]at this;exact this
   ·intro h i hi;have hi:=List.mem_range.mp hi;rw[List.getD_eq_getElem?_getD,List.getElem?_eq_getElem hi];exact h _ (List.getElem_mem hi)
  rw[e];refine⟨.bl _,H,I.kept (t':=tk) (fun b o e=>hk b o (fun hm=>?_) (Heap.get?_push_of_some _ e)),rfl,q⟩;have:b=s.heap.objs.size:=by simpa using hm
  exact absurd (this▸Heap.lt_size e) (Nat.lt_irrefl _)
def sortI (ns:List Int):List Int:=ns.mergeSort fun a b=>decide (a≤b)
def Ho (K:PySem.W.Frag) (te:TE):TE:=fun σ H Q=>te σ H fun x H1=>∃ a xs,x=.ref a∧SqL K H1 a xs∧∀ p,H1 p=none→Q (.ref p) (upd H1 p (.lst xs.reverse))
end
end L2
namespace L2
open PySem PySem.Spec PyProof.Rows
structure Bl (mg:Str→Option Value):Prop where
 len:mg "len" = none
 isinstance:mg "isinstance" = none
 int:mg "int" = none
 bool:mg "bool" = none
 list:mg "list" = none
 tuple:mg "tuple" = none
 set:mg "set" = none
 all:mg "all" = none
 sorted:mg "sorted" = none
 min:mg "min" = none
 max:mg "max" = none
 range:mg "range" = none
 enumerate:mg "enumerate" = none
 sum:mg "sum" = none
 str:mg "str" = none
 dict:mg "dict" = none
def Cst (mg:Str→Option Value) (x:Str) (v:V):Prop:=∃ u,mg x=some u∧RelV v u
def Dfn (P:Program) (w:World) (K:PySem.W.Frag) (mg:Str→Option Value) (base:Heap) (k:Nat) (x:Str) (ps:List Str) (sp:Sp):Prop :=
 ∃ f fd,FnOk P w K mg base CX0 k f fd ps sp∧mg x=some (.ref f)∧PySem.W.keepIn K (.ref f)=true∧Binds K fd ps []
section
variable {X:Cx}{x:Str}{p pos:Pos}{e:Expr}{es:List Expr}{t:TA}
theorem DA {T:String}(hg:Gl X x) (hm:X.mg x=none) (hv:bootBuiltins x=some (.type T)) (hn:x≠"__name__":=by decide) (hd:(x==("__debug__" : Str))=false:=by decide):PE X (.Name x pos) (tC (.ty T)):=OZ hg hm hv rfl hn hd
end
def ZU (scope sc:Scope) (N:List Str) (x:Str) (caps:List Nat):Bool :=
 scope.names.all (fun y=>y.2 != .cell)&&scope.names.all (fun y=>y.2 != .local||scope.names.lookup y.1==some .local)&&scope.names.lookup x==some .local &&
 scope.names.all (fun y=>y.2 != .free||sc.names.lookup y.1==some .cell) &&
 caps.all (fun j=>decide (j<N.length)&&sc.names.lookup (N.getD j Str.empty)==some .cell&&scope.names.lookup (N.getD j Str.empty)==some .free)&&decide (x::caps.map fun j=>N.getD j Str.empty).Nodup
theorem NK{X:Cx}{scope sc:Scope}{x:Str}{caps:List Nat}{N:List Str}(hsc:X.env.scope=sc)(hN:X.N=N)(hk:scope.kind=.function)(h:ZU scope sc N x caps=true):BlkOk X scope x caps:=by
 unfold ZU at h;simp only[bAq]at h;obtain⟨⟨⟨⟨⟨h1,h2⟩,h3⟩,h4⟩,h5⟩,h6⟩:=h;rw[List.all_eq_true]at h1 h2 h4 h5;refine⟨hk,fun y hy=>by simpa using h1 y hy,fun y hy e=>?_,by simpa using h3,fun y hy e=>?_,fun j hj=>?_,?_⟩
 ·have:=h2 y hy;rw[e]at this;simpa using this
 ·have:=h4 y hy;rw[e]at this;show X.env.scope.names.lookup y.1=_;rw[hsc];simpa using this
 ·have:=h5 j hj;simp only[bAq,decide_eq_true_eq,beq_iff_eq]at this;obtain⟨⟨a,b⟩,c⟩:=this;refine⟨?_,?_,?_⟩
  ·rw[hN,List.getElem?_eq_getElem a];rfl
  ·show X.env.scope.names.lookup _=_;rw[hsc,hN];exact b
  ·rw[hN];exact c
 ·unfold Z3;rw[hN];exact of_decide_eq_true h6
def Keep (r:Addr) (H H':Hp):Prop:=∀ b o,H b=some o→b≠r→H' b=some o
theorem Same.keep{H H':Hp}(e:Same H H')(r:Addr):Keep r H H':=fun b o h _=>e b o h
theorem Keep.refl(r:Addr)(H:Hp):Keep r H H:=fun _ _ h _=>h
theorem Keep.trans{r:Addr}{H H1 H2:Hp}(a:Keep r H H1)(b:Keep r H1 H2):Keep r H H2:=fun c o h n=>b c o (a c o h n) n
theorem Keep.upd{r:Addr}{H:Hp}{o:HO}:Keep r H (L2.upd H r o):=fun b u h n=>by rw[upd_ne n];exact h
theorem Keep.free{r:Addr}{H H':Hp}(e:Keep r H H'){l:Addr}(hr:∃ o,H' r=some o)(h:H' l=Option.none):H l=Option.none:=by
 cases q:H l with
 |none=>rfl
 |some o =>
  by_cases hl:l=r
  ·subst hl;obtain⟨o',z⟩:=hr;rw[h]at z;cases z
  ·rw[e l o q hl]at h;cases h
mutual
def Jr:PyData→Bool
 |.list _=>false
 |.tuple xs=>noLists xs
 |.dict _=>false
 |_=>true
def noLists:List PyData→Bool
 |[]=>true
 |x::xs=>Jr x&&noLists xs
end
theorem SqT.keep{K:PySem.W.Frag}{r a:Addr}{H H':Hp}{zs xs:List V}(k:Keep r H H')(hr:H r=some (.lst zs))(h:SqT K H a xs):SqT K H' a xs:=by
 rcases h with(h|⟨o,h⟩)|h
 ·exact .inl (.inl (k _ _ h (MJ h hr (by intro z;cases z))))
 ·exact .inl (.inr ⟨o,k _ _ h (MJ h hr (by intro z;cases z))⟩)
 ·exact .inr h
theorem SqL.keep{K:PySem.W.Frag}{r a:Addr}{H H':Hp}{xs:List V}(k:Keep r H H')(hr:a≠r)(h:SqL K H a xs):SqL K H' a xs:=by
 rcases h with(h|⟨o,h⟩)|h
 ·exact .inl (.inl (k _ _ h hr))
 ·exact .inl (.inr ⟨o,k _ _ h hr⟩)
 ·exact .inr h
mutual
theorem IsD.keep{K:PySem.W.Frag}{r:Addr}{H H':Hp}{zs:List V}(k:Keep r H H')(hr:H r=some (.lst zs)):∀ {v:V}{d:PyData},IsD K H v d→Jr d=true→IsD K H' v d
 |_,_,.non,_=>.non
 |_,_,.bl b,_=>.bl b
 |_,_,.int i,_=>.int i
 |_,_,.str x,_=>.str x
 |_,_,.lst q qs,h=>by cases h
 |_,_,.tup q qs,h=>.tup (q.keep k hr) (IsDs.keep k hr qs h)
theorem IsDs.keep{K:PySem.W.Frag}{r:Addr}{H H':Hp}{zs:List V}(k:Keep r H H')(hr:H r=some (.lst zs)):∀ {vs:List V}{ds:List PyData},IsDs K H vs ds→noLists ds=true→IsDs K H' vs ds
 |_,_,.nil,_=>.nil
 |_,_,.cons q qs,h=>by have h':=Bool.and_eq_true_iff.mp (show(Jr _&&noLists _)=true from h);exact .cons (IsD.keep k hr q h'.1) (IsDs.keep k hr qs h'.2)
end
abbrev Tie:=Int×Int×Int
def Az (t:Tie):PyData:=.tuple [.int t.1,.int t.2.1,.int t.2.2]
theorem IsD.tie{K:PySem.W.Frag}{H:Hp}{a:Addr}{x y c:Int}(h:SqT K H a [.int x,.int y,.int c]):IsD K H (.ref a) (Az (x,y,c)):=.tup h (.cons (.int x) (.cons (.int y) (.cons (.int c) .nil)))
theorem ifT{c:Bool}{A B:Prop}(e:c=true)(h:A):if c=true then A else B:=by rw[if_pos e];exact h
theorem ifF{c:Bool}{A B:Prop}(e:c=false)(h:B):if c=true then A else B:=by rw[e,if_neg Bool.false_ne_true];exact h
structure BrOk (ns:List Int):Prop where
 one:1≤ns.length
 ten:ns.length≤10
 rng:∀ n∈ns,0≤n∧n≤999
 nd:ns.Nodup
structure TieOk (ns:List Int) (t:Tie):Prop where
 a:t.1∈ns
 b:t.2.1∈ns
 ne:t.1≠t.2.1
 lo:1≤t.2.2
 hi:t.2.2≤1000
structure TsOk (ns:List Int) (ts:List Tie):Prop where
 few:ts.length≤16
 each:∀ t∈ts,TieOk ns t
def mn (x y:Int):Int:=if y<x then y else x
def mx (x y:Int):Int:=if y > x then y else x
def loT (t:Tie):Tie:=(mn t.1 t.2.1,mx t.1 t.2.1,t.2.2)
def HB (bs:List Int) (ts:List Tie):PyData:=.tuple [.tuple (bs.map .int),.tuple (ts.map Az)]
def Hl (ns:List Int) (ts:List Tie):PyData:=.tuple [.tuple ((sortI ns).map .int),.tuple ((ts.map loT).map Az)]
section
variable {X:Cx}(K:PySem.W.Frag) (h:X.K=K)
include h
end
end L2
namespace L2
open PySem PySem.Spec PyProof.Rows
section
variable {prog:Program}{w:World}{A:Around}{E:Value→Shared→Prop}{s:Shared}
theorem JW{it t:Addr}{i:Nat}{items:Array Value}{x:Value}{Q:Value→Shared→Prop}(hit:s.heap.IsTupleIter it t i)(ht:s.heap.IsTuple t items)(hx:items[i]?=some x)
  (hQ:∀ h',h'.IsTupleIter it t (i+1)→Heap.SameBut it s.heap h'→Q x {s with heap:=h'}):wpAny (model prog w) A (Builtin.SmallTypes.nextOf (.ref it)) Q E s:=by
 obtain⟨o,ho,hc,hd⟩:=id hit;obtain⟨ot,hot,_,nt,hdt⟩:=ht;unfold Builtin.SmallTypes.nextOf;refine wpAny_bind (wpAny_callSpecial?_slot (name:=Str.ofString "__next__") hit.typeIs F.slot_tuple_iterator_next (wpAny_call_entry F.slot_tuple_iterator_next hit.typeIs F.entry_tuple_iterator_next ?_ (F.args_tuple_iterator_next_1 _)));show wpAny _ _ (field (.ref it) 0 >>= _) _ _ s;refine wpAny_bind (wpAny_field ho hd (x:=.ref t) rfl ?_);show wpAny _ _ (if(Value.ref t==Value.none)=true then _ else _) _ _ s;rw[if_neg (show ¬ ((Value.ref t==Value.none)=true) from Bool.false_ne_true)];show wpAny _ _ (field (.ref it) 1 >>= _) _ _ s;refine wpAny_bind (wpAny_field ho hd (x:=.int i 0) rfl ?_);show wpAny _ _ (seqItems? (.ref t) >>= _) _ _ s;refine wpAny_bind (wpAny_seqItems hot hdt ?_);simp only[Int.toNat_natCast,hx];refine wpAny_bind (wpAny_setField ho hd (by simp) (wpAny_pure ⟨x,rfl,wpAny_pure (hQ _ ⟨_,Heap.get?_update_self _ ho (Obj.isFreed_of_fields (Obj.data_mapFields hd _)),(Obj.cls_mapFields ..).trans hc,?_⟩ (Heap.SameBut.update ..))⟩));rw[Obj.data_mapFields hd];simp[rawInt]
theorem KI{it t:Addr}{i:Nat}{items:Array Value}{Q:Value→Shared→Prop}(hh:A.handled=none)(hit:s.heap.IsTupleIter it t i)(ht:s.heap.IsTuple t items)(hx:items[i]?=none)
  (hE:∀ h' e,Heap.ExtBut it s.heap h'→(∃ o,h'.get? e=some o∧o.cls=.type "StopIteration")→E (.ref e) {s with heap:=h'}):wpAny (model prog w) A (Builtin.SmallTypes.nextOf (.ref it)) Q E s:=by
 obtain⟨o,ho,hc,hd⟩:=id hit;obtain⟨ot,hot,_,nt,hdt⟩:=ht;unfold Builtin.SmallTypes.nextOf;refine wpAny_bind (wpAny_callSpecial?_slot (name:=Str.ofString "__next__") hit.typeIs F.slot_tuple_iterator_next (wpAny_call_entry F.slot_tuple_iterator_next hit.typeIs F.entry_tuple_iterator_next ?_ (F.args_tuple_iterator_next_1 _)));show wpAny _ _ (field (.ref it) 0 >>= _) _ _ s;refine wpAny_bind (wpAny_field ho hd (x:=.ref t) rfl ?_);show wpAny _ _ (if(Value.ref t==Value.none)=true then _ else _) _ _ s;rw[if_neg (show ¬ ((Value.ref t==Value.none)=true) from Bool.false_ne_true)];show wpAny _ _ (field (.ref it) 1 >>= _) _ _ s;refine wpAny_bind (wpAny_field ho hd (x:=.int i 0) rfl ?_);show wpAny _ _ (seqItems? (.ref t) >>= _) _ _ s;refine wpAny_bind (wpAny_seqItems hot hdt ?_);simp only[Int.toNat_natCast,hx];refine wpAny_bind (wpAny_rule (wpAny_bind (wpAny_setField ho hd (by simp) ?_)));show wpAny _ _ (newExc (.type "StopIteration") [] >>= _) _ _ _;refine wpAny_bind ?_;simp only[newExc,newTuple];refine wpAny_bind (wpAny_newObj_type (wpAny_bind (m:=firstArgMember _ _) (wpAny_of_eq (a:=Value.none) (by first|rfl|(simp only[firstArgMember];rfl)) (wpAny_newObj_type ?_ (by size_fits)))) (by size_fits));simp only[raiseNew];refine wpAny_bind (wpAny_handled ?_)
 first
 |rw[show A.in1.handled=none from hh]
 |rw[hh]
 exact wpAny_bind (wpAny_pure (wpAny_throw (hE _ _ (((Heap.SameBut.update ..).extBut.push _).push _) ⟨_,Heap.get?_push_size _ rfl,rfl⟩)))
end
open AutoSeq1 (wpAny_loadPart') in
theorem Ce(l:Addr)(items:Array Value)(n:Nat)(dct:Option Addr)(sl:Array (Option Value)) :
  Meets (Builtin.«enumerate.__new__» ⟨[.type "enumerate",.ref l],[]⟩) (fun _ R s=>s.heap.get? l=some { cls:=.type "tuple",dict:=dct,data:=.seq items n,slots:=sl }∧
    R (.ok (.ret (.ref (s.heap.push {cls:=.type "tuple_iterator",data:=.fields #[.ref l,.int 0 0]}).objs.size)))
      { s with heap:=(s.heap.push { cls:=.type "tuple_iterator",data:=.fields #[.ref l,.int 0 0] }).push { cls:=.type "enumerate",data:=.fields #[.none,.bool false,.ref s.heap.objs.size,rawInt 0,.none,.none] } }) :=
 .of_wp fun prog w A R s h=>by
  obtain⟨hp,g,d,tk,os⟩:=s;obtain⟨hl,h⟩:=h;have hsub:=sub_enumerate;have hL:Heap.IsTuple (Shared.heap ⟨hp,g,d,tk,os⟩) l items:=⟨_,hl,rfl,n,rfl⟩
  wp_walk using wpAny_loadPart' hl
  refine wpAny_stack_any fun st=>wpAny_pure ?_;split
  ·rename_i c _ _ _ _ _;cases (c==Value.type "enumerate")<;>(wp_walk using wpAny_loadPart' hl,wpAny_pyIter_tuple hL;exact⟨_,rfl,h⟩)
  ·wp_walk using wpAny_loadPart' hl,wpAny_pyIter_tuple hL;exact⟨_,rfl,h⟩
theorem Jp{prog:Program}{w:World}{A:Around}{E:Value→Shared→Prop}{s:Shared}{l:Addr}{items:Array Value}{Q:Value→Shared→Prop}(hL:s.heap.IsTuple l items)
  (h:∀ h',IsEnum h' (s.heap.objs.size+1) s.heap.objs.size 0 .none→h'.IsTupleIter s.heap.objs.size l 0→(∀ b o,s.heap.get? b=some o→h'.get? b=some o)→Q (.ref (s.heap.objs.size+1)) {s with heap:=h'}) :
  wpAny (model prog w) A (call (.type "enumerate") [.ref l]) Q E s:=by
 obtain⟨⟨c,dct,dt,sl⟩,hl,hc,n,hd⟩:=hL;simp only at hc hd;subst hc hd;refine callType_new F.called_enumerate (by decide) (F.typeCall_enumerate_1 _) (F.newCall_enumerate_1 _) (fun obj=>F.args_object_init_2 obj _) F.entry_enumerate_new (Ce l items n dct sl) ⟨hl,?_⟩;have hz:(s.heap.push {cls:=.type "tuple_iterator",data:=.fields #[.ref l,.int 0 0]}).objs.size=s.heap.objs.size+1:=Heap.size_push ..;have hg:=Heap.get?_push_size (s.heap.push {cls:=.type "tuple_iterator",data:=.fields #[.ref l,.int 0 0]}) (o:={cls:=.type "enumerate",data:=.fields #[.none,.bool false,.ref s.heap.objs.size,rawInt 0,.none,.none]}) rfl;rw[hz]at hg;show _∧_;rw[hz];exact⟨⟨_,hg,rfl⟩,h _ hg ⟨_,Heap.get?_push_of_some _ (Heap.get?_push_size _ rfl),rfl,rfl⟩ fun b o x=>Heap.get?_push_of_some _ (Heap.get?_push_of_some _ x)⟩
section
variable {X:Cx}{pins:List (Addr×Obj)}{σ:St}{H:Hp}{s:Shared}{h':Heap}
theorem Inv.track{T:Addr}{o:HO}(I:Inv X pins σ H s)(hT:H T=none)(h0:X.s₀.heap.objs.size≤T)(hL:T≠X.env.locals)(hcl:∀ x c,X.env.cells.lookup x=some c→c≠T)(hp:∀ p∈X.pn++pins,p.1≠T)
  (new:ObjOk X.prog X.w (upd H T o) s.heap T o):Inv X pins σ (upd H T o) s:=by
 have neT:∀ b ob,X.s₀.heap.get? b=some ob→b≠T:=fun b ob e=>Nat.ne_of_lt (Nat.lt_of_lt_of_le (Heap.lt_size e) h0);refine⟨I.ok,I.os,I.bare,⟨I.base.keep,I.base.slot,fun b ob e n hx=>?_,I.base.there,fun b xs e=>?_,fun b ob xs e=>?_,fun b ps e=>?_⟩,I.loc,I.cell,?_,fun x c e=>?_,fun p hpp=>?_,I.hok.track hT new,I.len⟩
 ·rw[upd_ne (neT b ob e)];exact I.base.free b ob e n hx
 ·have q:=I.base.tups b xs e;rw[upd_ne (Ze q hT)];exact q
 ·have q:=I.base.frzs b ob xs e;rw[upd_ne (Ze q hT)];exact q
 ·obtain⟨m,q⟩:=I.base.tbls b ps e;exact⟨m,by rw[upd_ne (Ze q hT)];exact q⟩
 ·rw[upd_ne hL.symm];exact I.free
 ·rw[upd_ne (hcl x c e)];exact I.freeC x c e
 ·obtain⟨a,b,c,d,e⟩:=I.pin p hpp;exact⟨a,by rw[upd_ne (hp p hpp)];exact b,c,d,e⟩
end
def Ite (K:PySem.W.Frag) (a:Addr):It :=
 ⟨fun i H=>∃ xs x,SqT K H a xs∧xs[i]?=some x,fun i H v H'=>∃ p,v=.ref p∧H p=none∧∀ xs x,SqT K H a xs→xs[i]?=some x→H'=upd H p (.tup [.int i,x]),fun i H=>∃ xs,SqT K H a xs∧xs.length≤i⟩
section
variable {X:Cx}
def Fj (K:PySem.W.Frag) (ta:TA):TI:=fun σ H R=>ta σ H fun vs H1=>∃ a,vs=[.ref a]∧(∃ xs,SqT K H1 a xs)∧R (Ite K a) H1
end
end L2
namespace L2
open PySem PySem.Spec PyProof.Rows
open PySem.Builtin PySem.Builtin.Str
abbrev TJ:=St→Hp→Str→(Str→Hp→Prop)→Prop
def PJ (X:Cx) (vs:List Expr) (t:TJ):Prop :=
 ∀ (pins:List (Addr×Obj)) (s:Shared) (σ:St) (H:Hp) (acc:Str) (Q:Str→Hp→Prop),Inv X pins σ H s→t σ H acc Q→
  Joins (model X.prog X.w) X.A X.xe (evalEach vs X.env) acc (fun out s1=>∃ H1,Inv X pins σ H1 s1∧out.length≤sizeLine∧Q out H1) s
def EF:TJ:=fun _ H acc Q=>acc.length≤sizeLine∧Q acc H
def CA (te:TE) (tr:TJ):TJ:=fun σ H acc Q=>te σ H fun x H1=>∃ y,x=.str y∧(acc++y).length≤sizeLine∧tr σ H1 (acc++y) Q
def G8 (te:TE):TE:=fun σ H Q=>te σ H fun x H1=>∃ i,x=.int i∧i.natAbs.log2<1920∧Q (.str (toString i)) H1
def Ez (t:TJ):TE:=fun σ H Q=>t σ H Str.empty fun out H1=>Q (.str out) H1
section
variable {X:Cx}{e:Expr}{es:List Expr}{te:TE}{tr:TJ}{pos:Pos}
theorem pj_nil:PJ X [] EF:=fun pins s σ H acc Q I h=>⟨H,I,h.1,h.2⟩
theorem OS(he:PE X e te)(hr:PJ X es tr)(hs:evalEach (e::es) X.env=eval e X.env::evalEach es X.env:=by rfl):PJ X (e::es) (CA te tr):=by intro pins s σ H acc Q I h;rw[hs];show wpAny _ _ _ _ _ _;refine thn (he pins s σ H _ I h) fun v s1 ⟨x,H1,I1,r1,y,e1,hz,q1⟩=>?_;subst e1;obtain⟨t,rfl⟩:=r1;exact⟨y,t,rfl,hz,hr pins s1 σ H1 (acc++y) Q I1 q1⟩
theorem Joins.imp{M:Model}{A:Around}{E:Value→Shared→Prop}:∀ {ps:List (Sem Value)}{acc:Str}{Q Q':Str→Shared→Prop}{s:Shared},(∀ o s,Q o s→Q' o s)→Joins M A E ps acc Q s→Joins M A E ps acc Q' s
 |[],_,_,_,_,f,h=>f _ _ h
 |_::_,_,_,_,_,f,h=>thn h fun v s1 ⟨y,t,e,hz,hr⟩=>⟨y,t,e,hz,Joins.imp f hr⟩
end
section
variable {X:Cx}
def Gx (K:PySem.W.Frag):V→List V→Hp→VK→Prop:=fun x vs H Q=>∃ sep p,∃ ys:List Str,x=.str sep∧vs=[.ref p]∧SqL K H p (ys.map V.str)∧(ys.map (·.length)).sum+ys.length*sep.length≤16777216∧Q (.str (Txt.join sep ys)) H
def Fd:V→List V→Hp→VK→Prop:=fun x vs H Q=>∃ z c,x=.str z∧vs=[.str ⟨#[c]⟩]∧z.length+2≤sizeLine∧∀ p,H p=none→Q (.ref p) (upd H p (.lst ((Txt.split z ⟨#[c]⟩).map V.str)))
end
def Its (z:Str):It:=⟨fun i _=>i<z.length,fun i H x H'=>H'=H∧∃ c,z.cps.toList[i]?=some c∧x=.str ⟨#[c]⟩,fun i _=>z.length≤i⟩
section
variable {X:Cx}
def Hg (tl:TE):TI:=fun σ H R=>tl σ H fun x H1=>∃ z,x=.str z∧R (Its z) H1
end
end L2
namespace L2
open PySem PySem.Spec PyProof.Rows
open PySem.Builtin PySem.Builtin.Str
def YR (x:Str):List Nat:=x.cps.toList
def jl (c:Nat):List (List Nat)→List Nat
 |[]=>[]
 |[x]=>x
 |x::y::r=>x++c::jl c (y::r)
def dg (n:Int):Str:=Str.ofString (toString n)
def KK (m:Nat):List Nat:=(Nat.toDigits 10 m).map Char.toNat
theorem N4(m:Nat):YR (dg (m:Int))=KK m:=PySem.W.KIN.signs_num m
def UY (m:Nat):Bool:=decide (1≤(KK m).length)&&decide ((KK m).length≤4)&&(KK m).all (fun c=>decide (48≤c)&&decide (c≤57))&&(if m=0 then KK m==[48]else(KK m).head? != some 48)
theorem Uf:(List.range 1001).all UY=true:=by decide +kernel
structure FigOk (n:Int):Prop where
 one:1≤(YR (dg n)).length
 four:(YR (dg n)).length≤4
 fig:∀ c∈YR (dg n),48≤c∧c≤57
 nought:n=0→YR (dg n)=[48]
 first:n≠0→(YR (dg n)).head?≠some 48
theorem BO{n:Int}(h0:0≤n)(h1:n≤1000):FigOk n:=by
 obtain⟨m,rfl⟩:∃ m:Nat,n=(m:Int):=⟨n.toNat,by omega⟩
 have h:=List.all_eq_true.mp Uf m (List.mem_range.mpr (by omega));unfold UY at h;simp only[bAq,decide_eq_true_eq]at h;obtain⟨⟨⟨a,b⟩,c⟩,d⟩:=h;rw[←N4]at a b c d;refine⟨a,b,fun k hk=>?_,fun e=>?_,fun e=>?_⟩
 ·have:=List.all_eq_true.mp c k hk;simpa using this
 ·have e:m=0:=by omega
  rw[if_pos e]at d;simpa using d
 ·have e:¬ m=0:=by omega
  rw[if_neg e]at d;simpa using d
end L2
namespace L2
open PySem PySem.Spec PyProof.Rows
open PySem.Builtin PySem.Builtin.Str
def wB:Str:="bridge"
def wT:Str:="tie"
def nl:Str:="\n"
def sp1:Str:=" "
def bW (n:Int):Str:=("bridge " : Str)++dg n
def tW (t:Tie):Str:=("tie " : Str)++dg t.1++(" " : Str)++dg t.2.1++(" " : Str)++dg t.2.2
def lns (bs:List Int) (ts:List Tie):List Str:=bs.map bW++ts.map tW
def fl (ls:List Str):List Nat:=(ls.map fun l=>YR l++[10]).flatten
def txt (bs:List Int) (ts:List Tie):Str:=⟨(fl (lns bs ts)).toArray⟩
structure NetOk (bs:List Int) (ts:List Tie):Prop where
 br:BrOk bs
 ti:TsOk bs ts
 so:sortI bs=bs
 lo:ts.map loT=ts
theorem BrOk.fig{bs:List Int}(h:BrOk bs){n:Int}(hn:n∈bs):FigOk n:=BO (h.rng n hn).1 (by have:=(h.rng n hn).2;omega)
structure TFig (t:Tie):Prop where
 a:FigOk t.1
 b:FigOk t.2.1
 c:FigOk t.2.2
theorem FigOk.no{n:Int}(h:FigOk n){c:Nat}(hc:c<48):c∉YR (dg n):=fun m=>by have:=(h.fig c m).1;omega
def bL (n:Int):Str:=Str.empty++("bridge " : Str)++dg n++("\n" : Str)
def tL (t:Tie):Str:=Str.empty++("tie " : Str)++dg t.1++(" " : Str)++dg t.2.1++(" " : Str)++dg t.2.2++("\n" : Str)
end L2
namespace L2
open PySem PySem.Spec PyProof.Rows
theorem ObjOk.obj{P:Program}{w:World}{H:Hp}{h:Heap}{a:Addr}{o:HO}(x:ObjOk P w H h a o):∃ u,h.get? a=some u:=by
 cases o with
 |lst xs=>obtain⟨_,_,_,_,e⟩:=x;exact⟨_,e⟩
 |tup xs=>obtain⟨_,_,_,ob,e,_⟩:=x;exact⟨_,e⟩
 |dK kvs=>obtain⟨_,_,_,_,o,_,_,e,_⟩:=x;exact⟨_,e⟩
 |dT kvs=>obtain⟨_,_,_,_,o,_,_,e,_⟩:=x;exact⟨_,e⟩
 |set S n=>obtain⟨o,_,_,_,e,_⟩:=x;exact⟨_,e⟩
 |ins C dx fs=>obtain⟨_,_,_,e,_⟩:=x;exact⟨_,e⟩
 |own y=>exact x
 |xd fs=>obtain⟨_,⟨_,_,_,e,_⟩,_⟩:=x;exact⟨_,e⟩
 |rng lo hi=>obtain⟨_,_,_,e⟩:=x;exact⟨_,e⟩
 |frz ob u=>exact⟨_,x.1⟩
 |tbl ps=>exact⟨_,(show h.get? a=some _ from x)⟩
 |met f y=>exact⟨_,(show h.get? a=some _ from x)⟩
 |ext φ=>exact x.2.1
def CF (h:Heap) (a:Addr) (cls:Value) (T:Option Addr):Prop :=
 ∃ oe vs a0,h.get? a=some oe∧oe.cls=cls∧oe.data=.fields vs∧vs[0]?=some a0∧
  match T with
  |none=>vs[1]?=some .none
  |some T=>vs[1]?=some (.ref T)∧T≠a∧∃ oT ts,h.get? T=some oT∧oT.data=.fields ts∧ts[3]?=some .none
structure Fl (P:Program) (w:World) (l:List Env) (H:Hp) (s:Shared) (H':Hp) (a:Addr) (cls:Value) (s':Shared):Prop where
 os:s'.os=s.os
 bare:AllBare s'.gens
 un:Un (frs l) [] H H' s.heap s'.heap
 hok:HOk P w H' s'.heap
 na:s.heap.get? a=none
 ha:H' a=none
 ex:∃ T,CF s'.heap a cls T∧∀ t,T=some t→s.heap.get? t=none∧H' t=none
def CX1 (P:Program) (w:World):CXT:=fun l H s E e s'=>∃ a cls H',e=.ref a∧Fl P w l H s H' a cls s'∧E cls none H'
def XW (X:Cx) (E:XK):Prop:=∀ (pins:List (Addr×Obj)) (σ:St) (H:Hp) (s:Shared) (H':Hp) (a:Addr) (cls:Value) (s':Shared),
 Inv X pins σ H s→Fl X.prog X.w X.stack H s H' a cls s'→E cls none H'→X.xe (.ref a) s'
theorem XW.passes{X:Cx}{E:XK}(h:XW X E):Wq (CX1 X.prog X.w) X E:=fun pins σ H s e s' I ⟨a,cls,H',z,f,q⟩=>by subst z;exact h pins σ H s H' a cls s' I f q
section
variable {M:Model}{A:Around}{E:Value→Shared→Prop}{s:Shared}{B:Heap}{env:Env}{outer:List Env}{L a:Addr}{cls:Value}{T:Option Addr}{Q:Unit→Shared→Prop}
def Xc (h:Heap) (l:List Env) (a:Addr) (T:Option Addr):Heap:=PySem.W.hideAll h (a::(T.toList++frs l))
theorem YN(h:Heap)(l:List Env)(a:Addr)(T:Option Addr):(Xc h l a T).StaysIn h:=fun b o e=>PySem.W.of_hideAll _ e
theorem W5{h:Heap}{l:List Env}(a:Addr)(T:Option Addr)(hl:h.FunFrames B l):h.FunFrames (Xc h l a T) l :=
 PySem.W.funFrames_hide hl fun e he b hb=>List.mem_cons_of_mem _ (List.mem_append_right _ (List.mem_filterMap.mpr ⟨e,he,hb⟩))
theorem Ku(h:Heap)(l:List Env)(a:Addr)(T:Option Addr):(Xc h l a T).get? a=none:=PySem.W.hideAll_none _ List.mem_cons_self
theorem Uk(h:Heap)(l:List Env)(a t:Addr):(Xc h l a (some t)).get? t=none:=PySem.W.hideAll_none _ (List.mem_cons_of_mem _ (List.mem_append_left _ (by simp)))
theorem Jq(hfr:A.frames=some (env::outer))(hf:env.frame=some L)(hl:s.heap.FunFrames B (env::outer))(hx:CF s.heap a cls T)
  (h:∀ h' a0,Heap.LeftW (Xc s.heap (env::outer) a T) (env::outer) a cls a0 s.heap h'→Q () {s with heap:=h'}):wpAny M A (leaving env (.ref a)) Q E s:=by
 obtain⟨oe,vs,a0,he,hc,hd,h0,ht⟩:=hx;cases T with
 |none =>subst hc;exact wpAny_leaving_firstW hfr (W5 a none hl) hf he (YN _ _ _ _) (Ku _ _ _ _) hd ht h0 fun h' z=>h h' a0 z
 |some t =>obtain⟨h1,hne,oT,ts,e1,e2,e3⟩:=ht;exact wpAny_leaving_nextW hfr (W5 a (some t) hl) hf ⟨oe,vs,t,oT,ts,he,⟨hc,h0⟩,hd,h1,Uk _ _ _ _,hne,e1,e2,e3⟩ (YN _ _ _ _) (Ku _ _ _ _) fun h' z=>h h' a0 z
end
theorem Fl.left{P:Program}{w:World}{l:List Env}{H H':Hp}{s s':Shared}{a:Addr}{cls a0:Value}{h' B:Heap}(f:Fl P w l H s H' a cls s'){T:Option Addr}(hT:∀ t,T=some t→s.heap.get? t=none∧H' t=none)
  (hl:s'.heap.FunFrames B l) (hfr:∀ b∈frs l,H' b=none) (z:Heap.LeftW (Xc s'.heap l a T) l a cls a0 s'.heap h'):Fl P w l H s H' a cls {s' with heap:=h'}:=by
 obtain⟨k1,k2,k3,k4⟩:=z;have inb:∀ b o,s'.heap.get? b=some o→b≠a→(∀ t,T=some t→b≠t)→b∉frs l→h'.get? b=some o:=fun b o e na nt nf=>k1 b o (PySem.W.hideAll_get _ e (by
   intro m
   rcases List.mem_cons.mp m with m|m
   · exact na m
   · rcases List.mem_append.mp m with m|m
     · cases T with
       |none=>cases m
       |some t=>exact nt t rfl (by simpa using m)
     · exact nf m))
 have slot:∀ b o,s'.heap.get? b=some o→b∈frs l→∃ sl,h'.get? b=some {o with slots:=sl}:=fun b o e hb=>by obtain⟨_,o2,e2,nf⟩:=hl.mem hb;rw[e]at e2;cases e2;exact k4 b o e nf
 have old:∀ b o,s.heap.get? b=some o→b≠a∧∀ t,T=some t→b≠t:=fun b o e=>⟨(fun z=>by rw[z,f.na]at e;cases e),(fun t ht z=>by rw[z,(hT t ht).1]at e;cases e)⟩
 refine⟨f.os,f.bare,⟨fun b o e n nf _=>?_,fun b o e n hb _=>?_,f.un.free,fun b o e _=>?_,f.un.tups,f.un.frzs,f.un.tbls⟩,?_,f.na,f.ha,?_⟩
 ·exact inb b o (f.un.keep b o e n nf (by simp)) (old b o e).1 (old b o e).2 nf
 ·obtain⟨sl,e1⟩:=f.un.slot b o e n hb (by simp);obtain⟨sl',e2⟩:=slot b _ e1 hb;exact⟨sl',e2⟩
 ·obtain⟨o1,e1⟩:=f.un.there b o e (by simp);by_cases hb:b∈frs l
  ·obtain⟨sl,e2⟩:=slot b _ e1 hb;exact⟨_,e2⟩
  ·exact⟨o1,inb b o1 e1 (old b o e).1 (old b o e).2 hb⟩
 ·intro b u e;have good:∀ c v,H' c=some v→∀ ob,s'.heap.get? c=some ob→h'.get? c=some ob:=fun c v ec ob eo =>
   inb c ob eo (fun z=>by rw[z,f.ha]at ec;cases ec) (fun t ht z=>by rw[z,(hT t ht).2]at ec;cases ec) fun m=>by rw[hfr c m]at ec;cases ec
  refine(f.hok b u e).stay (fun c v hc q=>?_) (fun _ q=>q) fun _ _ q=>q;rcases hc with z|z
  ·rw[z]at q ⊢;exact good b u e v q
  ·exact good c _ z v q
 ·obtain⟨oe,vs,t',oT,ts,e1,⟨e2,e3⟩,e4,e5,e6,e7,e8,e9,e10⟩:=k3;refine⟨some t',⟨oe,vs,a0,e1,e2,e4,e3,e5,e7,oT,ts,e8,e9,e10⟩,fun t ht=>?_⟩;cases ht;have hid:∀ o,s'.heap.get? t'=some o→T=some t':=fun o e=>by
   have nin:¬ (t'∉(a::(T.toList++frs l))):=fun m=>by have q:(Xc s'.heap l a T).get? t'=some o:=PySem.W.hideAll_get _ e m;rw[e6]at q;cases q
   have m:=Classical.not_not.mp nin;rcases List.mem_cons.mp m with m|m
   ·exact absurd m e7
   ·rcases List.mem_append.mp m with m|m
    ·cases T with
     |none=>cases m
     |some t=>rw[show t'=t by simpa using m]
    ·obtain⟨_,o2,q,nf⟩:=k2.mem m;rw[e8]at q;cases q;exact absurd e9 (nf ts)
  constructor
  ·cases q:s.heap.get? t' with
   |none=>rfl
   |some o =>obtain⟨o1,q1⟩:=f.un.there t' o q (by simp);have:=(hT t' (hid o1 q1)).1;rw[q]at this;cases this
  ·cases q:H' t' with
   |none=>rfl
   |some u =>obtain⟨o1,q1⟩:=(f.hok t' u q).obj;have:=(hT t' (hid o1 q1)).2;rw[q]at this;cases this
end L2
namespace L2
open PySem PySem.Spec PyProof.Rows
section
variable {P:Program}{w:World}{K:PySem.W.Frag}{mg:Str→Option Value}{base:Heap}
theorem Inv.raised{X:Cx}{pins:List (Addr×Obj)}{σ:St}{H H':Hp}{s s':Shared}{a:Addr}{cls:Value}(I:Inv X pins σ H s)(f:Fl X.prog X.w X.stack H s H' a cls s'):Inv X pins σ H' s' :=
 I.call' (ch:=[]) f.os f.un f.hok f.bare (fun b z=>absurd z (by simp))
theorem JM{X:Cx}(ok:X.Ok)(h:X.stack=X.env::X.outer):X.env.frame=some X.env.locals:=by
 rcases ok.stk with e|e
 ·rw[h]at e;exact absurd (congrArg List.length e) (by simp)
 ·exact e.2
theorem AE{N:List Str}{qual:Str}{scope:Scope}{f:Addr}{cd:Value}{A:Around}{outer:List Env}{s:Shared}{H:Hp}{E:XK}:XW (XG (CX1 P w) P w K mg base N qual scope f cd A outer s H E) E:=by
 intro pins σ H2 s2 H' a cls s' I f q;have J:=I.raised f;obtain⟨T,hx,hT⟩:=f.ex;show wpAny _ _ (leaving _ _) _ _ _;refine Jq (outer:=outer) J.ok.frames (JM J.ok rfl) J.stack hx fun h' a0 z=>?_;have f2:=f.left hT J.stack J.stkFree z;have J2:=I.raised f2;have back:∀ b,s2.heap.get? b=none→s.heap.get? b=none:=fun b e=>by
  cases z:s.heap.get? b with
  |none=>rfl
  |some o =>obtain⟨o',e'⟩:=I.base.there b o z (by intro m;cases m);rw[e]at e';cases e'
 obtain⟨T2,hx2,hT2⟩:=f2.ex;exact⟨a,cls,H',rfl,⟨J2.os,J2.bare,J2.base,J2.hok,back a f2.na,f2.ha,T2,hx2,fun t ht=>⟨back t (hT2 t ht).1,(hT2 t ht).2⟩⟩,q⟩
theorem Fun.ok1{x qual:Str}{st:Stmt}{f:Addr}{fd:FuncData}{N ps:List Str}{k:Nat}{sp:Sp}(F:Fun K x qual st f fd)(S:FnScope N ps (Zi st))(len:∀ vs H Q E,sp vs H Q E→vs.length=ps.length)
  (hbody:∀ (cdv:Value) (A:Around) (outer:List Env) (s:Shared) (H:Hp) (vs:List V) (Q:VK) (E:XK),Room k (A.deeper (envOfC qual (Zi st) s.heap.objs.size f cdv))→sp vs H Q E→
    XW (XG (CX1 P w) P w K mg base N qual (Zi st) f cdv A outer s H E) E→
    ∃ t,PSs (XG (CX1 P w) P w K mg base N qual (Zi st) f cdv A outer s H E) (Zx st) t∧t { nx:=fun _ H'=>Q .non H',rt:=Q } (start N vs) H):FnOk P w K mg base (CX1 P w) (k+1) f fd ps sp:=by
 obtain⟨oc,od,kV,doc,pm,an,cdv,ct,osl,rfl,lk,hcd⟩:=F.ex;exact U3 lk hcd S len fun A outer s H vs Q E hr hsp=>hbody cdv A outer s H vs Q E hr hsp AE
def G9 (P:Program) (w:World) (K:PySem.W.Frag) (mg:Str→Option Value) (base:Heap) (k:Nat) (x:Str) (ps:List Str) (sp:Sp):Prop :=
 ∃ f fd,FnOk P w K mg base (CX1 P w) k f fd ps sp∧mg x=some (.ref f)∧PySem.W.keepIn K (.ref f)=true∧Binds K fd ps []
end
section
variable {X:Cx}{x:Str}{p pos np cpos:Pos}{e:Expr}{es:List Expr}{t:TA}{E:XK}{C:Addr}{bm:List Value}
def Fu (C:Addr) (t:TA) (E:XK):TS:=fun _ σ H=>t σ H fun vs H1=>vs.length≤sizeLine∧E (.ref C) none H1
end
end L2
namespace L2
open PySem PySem.Spec PyProof.Rows
def XP (X:Cx) (pins:List (Addr×Obj)) (σ:St) (E:XK) (v:Value) (s':Shared):Prop :=
 ∃ a cls H1 H' s1,v=.ref a∧Inv X pins σ H1 s1∧Fl X.prog X.w X.stack H1 s1 H' a cls s'∧E cls none H'
def PCx (X:Cx) (e:Expr) (t:St→Hp→VK→XK→Prop):Prop :=
 ∀ (pins:List (Addr×Obj)) (s:Shared) (σ:St) (H:Hp) (Q:VK) (E:XK),Inv X pins σ H s→t σ H Q E→wpAny (model X.prog X.w) X.A (eval e X.env) (EP X pins σ Q) (XP X pins σ E) s
def PB (X:Cx) (body:List Stmt) (t:Ends→XK→St→Hp→Prop):Prop :=
 ∀ (pins:List (Addr×Obj)) (s:Shared) (σ:St) (H:Hp) (D:Ends) (E:XK),Inv X pins σ H s→t D E σ H→wpAny (model X.prog X.w) X.A (execs body X.env) (SP X pins D) (XP X pins σ E) s
section
variable {X:Cx}{x:Str}{p pos:Pos}{e c:Expr}{es:List Expr}{t:TA}
def tC1 (sp:Sp) (t:TA):St→Hp→VK→XK→Prop:=fun σ H Q E=>t σ H fun vs H1=>sp vs H1 Q E
variable {tc:St→Hp→VK→XK→Prop}
end
def xcO (a:Addr) (cls:Value):HO:=.ext fun h=>∃ o vs,h.get? a=some o∧o.cls=cls∧o.data=.fields vs
abbrev Cx.caught (X:Cx) (a:Addr):Cx:={X with A:=X.A.mark (some (.ref a)),calm:=false,xe:=fun _ _=>False}
section
variable {X:Cx}{pins:List (Addr×Obj)}{σ:St}{H H':Hp}{s s':Shared}{a:Addr}{cls:Value}
theorem Inv.caught(I:Inv X pins σ H s)(a:Addr):Inv (X.caught a) pins σ H s :=
 ⟨⟨I.ok.mod,I.ok.kind,I.ok.glob,I.ok.blt,I.ok.above,I.ok.inj,I.ok.has,I.ok.cab,fun z=>Bool.noConfusion z,I.ok.frames,I.ok.stk,I.ok.exf,I.ok.bs,I.ok.bsz,I.ok.noex,I.ok.exfs,I.ok.funs,I.ok.frf⟩,I.os,I.bare,I.base,I.loc,I.cell,I.free,I.freeC,I.pin,I.hok,I.len⟩
end
end L2
namespace L2
open PySem PySem.Spec PyProof.Rows
def Bh (i:Nat) (D:Ends):Ends:={nx:=fun σ H=>D.nx (σ.set i none) H,rt:=D.rt,bk:=fun σ H=>D.bk (σ.set i none) H,ct:=fun σ H=>D.ct (σ.set i none) H}
def Hv (K:PySem.W.Frag) (C:Value) (i:Nat) (tb:Ends→XK→St→Hp→Prop) (ts:TS):TS:=fun D σ H =>
 tb D (fun cls _ H'=>PySem.W.exmOne K cls C=some true∧∀ a,H' a=none→ts (Bh i D) (σ.set i (some (.ref a))) (upd H' a (xcO a cls))) σ H
end L2
namespace L2
open PySem PySem.Spec PySem.W PySem.Calls PyProof.Rows PySem.Builtin PySem.Builtin.ObjectAttr PySem.Builtin.Getset_descriptor
section
variable {prog:Program}{w:World}{A:Around}{E:Value→Shared→Prop}{K:Frag}{h:Heap}{g:Array GenState}{d:Drawn}{t:Nat}{os:OsState}{a C:Addr}{o:Obj}
structure XCls (K:Frag) (C:Addr):Prop where
 ga:findIn K (.ref C) "__getattribute__" = some (some (.builtin "BaseException.__getattribute__"))
 gr:findIn K (.ref C) "__getattr__" = some none
 cl:findIn K (.ref C) "__class__" = some (some (.builtin "object.__class__"))
 mo:mroIn K C (.type "object")=some true
 mb:mroIn K C (.type "BaseException")=some true
 ci:(clsIn K C).isSome=true
end
end L2
namespace L2
open PySem PySem.Spec PyProof.Rows
section
variable {X:Cx}
theorem XJ:CallR X (.type "int") (fun xs H Q=>∃ z n,xs=[.str z]∧PySem.intText? z=some n∧z.length≤640∧Q (.int n) H):=by intro pins s σ H xs us Q I r h;obtain⟨z,n,rfl,e,hl,q⟩:=h;obtain⟨u,rfl,t,rfl⟩:=Z4 r;exact PySem.W.KIN.call_text e hl ⟨.int n,H,I.tok _,⟨_,rfl⟩,q⟩
end
end L2
namespace L2
open PySem PySem.Spec PyProof.Rows
def GP (K:PySem.W.Frag) (C:Value) (tb:Ends→XK→St→Hp→Prop) (ts:TS):TS:=fun D σ H =>
 tb D (fun cls _ H'=>PySem.W.exmOne K cls C=some true∧∀ a,H' a=none→ts D σ (upd H' a (xcO a cls))) σ H
end L2
namespace L2
open PySem PySem.Spec PyProof.Rows
open PySem.Builtin PySem.Builtin.Str
def KH (z:Str) (lo hi:Option Int):Str:=if(strSliceIndices lo hi 1 z.length).length=z.length then z else⟨((strSliceIndices lo hi 1 z.length).filterMap (z.cps[·]?)).toArray⟩
theorem NA(z:Str)(lo hi:Option Int):(KH z lo hi).length≤z.length:=by
 unfold KH;split
 ·exact Nat.le_refl _
 ·show((strSliceIndices lo hi 1 z.length).filterMap (z.cps[·]?)).toArray.size≤_;rw[List.size_toArray];exact Nat.le_trans (List.length_filterMap_le _ _) (indices_len_le lo hi z.length)
section
variable {X:Cx}
def D7:V→Option Int→Option Int→Hp→VK→Prop:=fun x lo hi H Q=>∃ z,x=.str z∧z.length≤sizeLine∧Q (.str (KH z lo hi)) H
theorem Ka{v:Value}{lo:Option Int}(h:IsPart v lo):∃ l:Option (Int×Tok),v=partValue l∧l.map (·.1)=lo:=by
 cases h with
 |none=>exact⟨none,rfl,rfl⟩
 |int i t=>exact⟨some (i,t),rfl,rfl⟩
theorem sl_str:SlR X D7:=by
 intro pins s σ H x v vl vu lo hi sl Q I rx hs pl pu h;obtain⟨z,rfl,hz,q⟩:=h;obtain⟨t,rfl⟩:=rx;refine⟨"str",_,slot_str_getitem.lookup,typeIs_str s z t,?_⟩;obtain⟨l,rfl,el⟩:=Ka pl;obtain⟨u,rfl,eu⟩:=Ka pu;have hs':s.heap.IsSlice sl l u none:=hs;refine wpAny_getItem_str_slice hs' rfl ?_;have e:sliceMade z t l u none=if(strSliceIndices lo hi 1 z.length).length=z.length then .val (.str z t)else .str ⟨((strSliceIndices lo hi 1 z.length).filterMap (z.cps[·]?)).toArray⟩:=by unfold sliceMade slicePicked;rw[el,eu];simp
 rw[e];have cl:=NA z lo hi;unfold KH at q cl;split
 ·rename_i hh;rw[if_pos hh]at q;exact⟨.str z,H,I,⟨t,rfl⟩,q⟩
 ·rename_i hh;rw[if_neg hh]at q cl;exact⟨Nat.le_trans cl hz,.str _,H,I.tok _,⟨_,rfl⟩,q⟩
end
end L2
namespace L2
open PySem PySem.Spec PyProof.Rows
open PySem.Builtin PySem.Builtin.Str
section
variable {X:Cx}
theorem J9(z:Str):∀ (n:Nat) (a:Array Nat),((List.replicate n z.cps).foldl (· ++ ·) a).size=a.size+n*z.cps.size
 |0,a=>by simp
 |n+1,a=>by rw[List.replicate_succ,List.foldl_cons,J9 z n,Array.size_append,Nat.succ_mul];omega
def GV:R2:=fun x y H Q=>∃ z k,x=.str z∧y=.int k∧2≤k∧k≤1000000∧1≤z.length∧z.length*k.toNat≤1000000∧∀ u:Str,u.length=z.length*k.toNat→Q (.str u) H
def EE:V→List V→Hp→VK→Prop:=fun x vs H Q=>∃ l xs i y,x=.ref l∧vs=[.int i,y]∧H l=some (.lst xs)∧0≤i∧i≤xs.length∧xs.length<sizeLine∧Q .non (upd H l (.lst (xs.take i.toNat++y::xs.drop i.toNat)))
theorem Vals.ins{xs:List V}{us:List Value}{y:V}{u:Value}(r:Vals xs us)(ry:RelV y u)(k:Nat):Vals (xs.take k++y::xs.drop k) (us.take k++u::us.drop k):=(r.take k).append (.cons ry (r.drop k))
end
end L2
namespace L2
open PySem PySem.Spec PyProof.Rows
open PySem.Builtin PySem.Builtin.Str
section
variable {X:Cx}{a:Expr}{ta:TE}{y z:Str}{k1 k2 k3:Nat}{p1 p2 p3 p4 apos cpos:Pos}
def GB (K:PySem.W.Frag) (y z:Str) (ta:TE):TE:=fun σ H Q=>ta σ H fun x H1=>∃ p xs w,x=.ref p∧SqL K H1 p xs∧xs[0]?=some (.str w)∧w.length≤1000000∧z.length≤8∧(y==z)=false∧
 ∀ u:Str,u.length≤w.length+(w.length+1)*z.length→Q (.str u) H1
end
end L2
namespace L2
open PySem PySem.Spec PyProof.Rows
section
variable {X:Cx}
def HL (K:PySem.W.Frag):R2:=fun x y H Q=>∃ p q xs,x=.ref p∧y=.ref q∧SqL K H p xs∧SqL K H q []∧Q (.bl (decide (xs.length=0))) H
def HN (K:PySem.W.Frag):R2:=fun x y H Q=>∃ p q xs,x=.ref p∧y=.ref q∧SqL K H p xs∧SqL K H q []∧Q (.bl (!decide (xs.length=0))) H
end
section
variable {X:Cx}(K:PySem.W.Frag) (h:X.K=K)
include h
end
end L2
namespace L2
open PySem PySem.Spec PyProof.Rows
open PySem.Builtin PySem.Builtin.Str
section
variable {X:Cx}
def AT (z:Str) (n:Nat):Str:=⟨(List.replicate n z.cps).foldl (· ++ ·) #[]⟩
theorem X0(z:Array Nat):∀ (n:Nat) (a:Array Nat),((List.replicate n z).foldl (· ++ ·) a).toList=a.toList++(List.replicate n z.toList).flatten
 |0,a=>by simp
 |n+1,a=>by rw[List.replicate_succ,List.foldl_cons,X0 z n,List.replicate_succ,List.flatten_cons,Array.toList_append,List.append_assoc]
def UK:R2:=fun x y H Q=>∃ z k,x=.str z∧y=.int k∧2≤k∧k≤1000000∧1≤z.length∧z.length*k.toNat≤1000000∧Q (.str (AT z k.toNat)) H
theorem Ug:OpR X (binaryOp .Mult) UK:=by
 intro pins s σ H x y v u Q I rx ry h;obtain⟨z,k,rfl,rfl,h2,h6,h1,hz,q⟩:=h;obtain⟨t,rfl⟩:=rx;obtain⟨t',rfl⟩:=ry;have big:(1000000:Nat)≤sizeLine:=by decide
 have nb:(k==1||z.length==0)=false:=by have e1:(k==1)=false:=beq_false_of_ne (by omega);have e2:(z.length==0)=false:=beq_false_of_ne (by omega);rw[e1,e2];rfl
 have zl:z.length≤1000000:=by have:z.length*1≤z.length*k.toNat:=Nat.mul_le_mul_left _ (by omega);omega
 have hr:(decide (k < -(2 ^ 63:Int))||decide (k≥2 ^ 63))=false:=by rw[decide_eq_false (by omega),decide_eq_false (by omega)];rfl
 have hb:¬ k<1→(k==1||z.length==0)=false→¬ ((z.length:Int) > (2 ^ 63 - 1) / k):=fun _ _=>by have:(1000000:Int)≤(2 ^ 63 - 1) / k:=(Int.le_ediv_iff_mul_le (by omega)).mpr (by omega);omega
 have hl:¬ k<1→(k==1||z.length==0)=false→tooLong (z.length*k.toNat)=false:=fun _ _=>by unfold tooLong;exact decide_eq_false (by omega)
 refine P.mul_str hr hb hl ?_;rw[if_neg (by omega),if_neg (by rw[nb];exact Bool.false_ne_true)];have el:(⟨(List.replicate k.toNat z.cps).foldl (· ++ ·) #[]⟩:Str).length=z.length*k.toNat:=by show((List.replicate k.toNat z.cps).foldl (· ++ ·) #[]).size=_;rw[J9,Nat.mul_comm z.length];simp[Str.length]
 exact⟨by rw[el];omega,.str _,H,I.tok _,⟨_,rfl⟩,q⟩
def GY:V→List V→Hp→VK→Prop:=fun x vs H Q=>∃ z y i r,x=.str z∧vs=[.str y]∧occurrences z y 0 z.length 1=i::r∧Q (.int (i:Nat)) H
variable {c y z a b:Str}{k1 k2 k3:Nat}{p1 p2 p3 p4 pa pb apos cpos:Pos}
def tRp (c y z:Str) (i j:Nat):TA:=fun σ H Q=>∃ w u,σ[i]?=some (some (.str w))∧σ[j]?=some (some (.str u))∧c.length+w.length≤1000000∧u.length≤1000000∧z.length≤8∧(y==z)=false∧Q [.str (c++w),.str (Txt.replace u y z)] H
end
end L2
namespace L2
open PySem PySem.Spec PyProof.Rows
section
variable {X:Cx}
def UR (K:PySem.W.Frag):R2:=fun x y H Q=>∃ a b ys,x=.ref a∧y=.ref b∧SqT K H a []∧SqT K H b ys∧Q (.ref b) H
theorem op_cat0:OpR X (binaryOp .Add) (UR X.K):=by
 intro pins s σ H x y v u Q I rx ry h;obtain⟨a,b,ys,rfl,rfl,ha,hb,q⟩:=h;cases rx;cases ry;obtain⟨its,r1,p1,_⟩:=I.tuple ha;obtain⟨its2,r2,p2,_⟩:=I.tuple hb;cases r1;obtain⟨⟨cls,dd,data,sl⟩,ho,hc,n,hd⟩:=id p1;obtain⟨⟨cls2,dd2,data2,sl2⟩,ho2,hc2,n2,hd2⟩:=id p2;simp only at hc hd hc2 hd2;subst hc hd hc2 hd2;exact concat_meets ⟨_,ho,rfl⟩ ⟨_,ho2,rfl⟩ noFill_tuple_add seq_tuple_add PySem.F.slot_tuple_add PySem.F.entry_tuple_add (PySem.F.args_tuple_add_2 _ _)
  (tuple_addW0 a b _ _ n n2 dd dd2 sl sl2 rfl) ⟨ho,ho2,.ref b,H,I,rfl,q⟩
end
end L2
namespace L2
open PySem PySem.Spec PyProof.Rows
def Itz (K:PySem.W.Frag) (a b:Addr):It :=
 ⟨fun i H=>∃ xs ys x y,SqL K H a xs∧SqL K H b ys∧xs[i]?=some x∧ys[i]?=some y,
  fun i H v H'=>∃ p,v=.ref p∧H p=none∧∀ xs ys x y,SqL K H a xs→SqL K H b ys→xs[i]?=some x→ys[i]?=some y→H'=upd H p (.tup [x,y]),
  fun i H=>∃ xs ys,SqL K H a xs∧SqL K H b ys∧(xs.length≤i∨ys.length≤i)⟩
def ZSt (z TI TO i1 i2 a b:Addr) (i:Nat) (h:Heap):Prop:=IsZip h z TI TO .none∧IsPair h TI (.ref i1) (.ref i2)∧(∃ u v,IsPair h TO u v)∧h.IsListIter i1 a i∧h.IsListIter i2 b i
theorem ZSt.keep{z TI TO i1 i2 a b:Addr}{i:Nat}{h h':Heap}(st:ZSt z TI TO i1 i2 a b i h)(k:∀ c∈[z,TI,TO,i1,i2],∀ o,h.get? c=some o→h'.get? c=some o):ZSt z TI TO i1 i2 a b i h':=by obtain⟨h1,h2,⟨u,v,h3⟩,h4,h5⟩:=st;exact⟨k z (by simp) _ h1,k TI (by simp) _ h2,⟨u,v,k TO (by simp) _ h3⟩,h4.at fun o q=>k i1 (by simp) o q,h5.at fun o q=>k i2 (by simp) o q⟩
theorem ZSt.obj {z TI TO i1 i2 a b:Addr}{i:Nat}{h:Heap}(st:ZSt z TI TO i1 i2 a b i h):∀ c∈[z,TI,TO,i1,i2],∃ o,h.get? c=some o∧(∀ v,o.data≠.cell v)∧o.cls≠.type "list":=by
 obtain⟨h1,h2,⟨u,v,h3⟩,⟨o4,e4,c4,d4⟩,⟨o5,e5,c5,d5⟩⟩:=st;intro c hc;simp only[List.mem_cons,List.not_mem_nil,or_false]at hc;rcases hc with rfl|rfl|rfl|rfl|rfl
 ·exact⟨_,h1,(fun v z=>(by cases z)),(show Value.type "zip"≠.type "list" by decide)⟩
 ·exact⟨_,h2,(fun v z=>(by cases z)),(show Value.type "tuple"≠.type "list" by decide)⟩
 ·exact⟨_,h3,(fun v z=>(by cases z)),(show Value.type "tuple"≠.type "list" by decide)⟩
 ·exact⟨_,e4,(fun v z=>(by rw[d4]at z;cases z)),(by rw[c4];decide)⟩
 ·exact⟨_,e5,(fun v z=>(by rw[d5]at z;cases z)),(by rw[c5];decide)⟩
section
variable {X:Cx}
def Hc (K:PySem.W.Frag) (ta:TA):TI:=fun σ H R=>ta σ H fun vs H1=>∃ a b,vs=[.ref a,.ref b]∧(∃ xs,SqL K H1 a xs)∧(∃ ys,SqL K H1 b ys)∧R (Itz K a b) H1
theorem WK:CallR X (.type "str") (fun xs H Q=>∃ z,xs=[.str z]∧Q (.str z) H):=by intro pins s σ H xs us Q I r h;obtain⟨z,rfl,q⟩:=h;obtain⟨u,rfl,t,rfl⟩:=Z4 r;exact PySem.P.str_of_str ⟨.str _,H,I,⟨_,rfl⟩,q⟩
def DP (te:TE):TE:=fun σ H Q=>te σ H fun x H1=>(∃ i,x=.int i∧i.natAbs.log2<1920∧Q (.str (toString i)) H1)∨∃ z,x=.str z∧z.length≤sizeLine∧Q (.str z) H1
theorem Um{e:Expr}{te:TE}{pos:Pos}(he:PE X e te):PE X (.FormattedValue e (-1) none pos) (DP te):=by
 intro pins s σ H Q I h;refine wpAny_FormattedValue_plain (thn (he pins s σ H _ I h) fun v s1 ⟨x,H1,I1,r1,q1⟩=>?_);rcases q1 with⟨i,e1,hd,q1⟩|⟨z,e1,hz,q1⟩
 ·subst e1;obtain⟨t,rfl⟩:=r1;exact wpAny_formatField_int hd ⟨.str _,H1,I1.tok _,⟨_,rfl⟩,q1⟩
 ·subst e1;obtain⟨t,rfl⟩:=r1;exact wpAny_formatField_str ⟨.str _,H1,I1,⟨_,rfl⟩,q1⟩ ⟨.str _,H1,I1.tok _,⟨_,rfl⟩,q1⟩ hz
def OP (K:PySem.W.Frag) (neg:Bool):R2:=fun x y H Q=>∃ ds d,(IsD K H y (.tuple ds)∨IsD K H y (.list ds))∧IsD K H x d∧PyData.canLayAll0 ds=true∧d.canLay0=true∧d.depth≤64∧Q (.bl (if neg then !ds.any (fun e=>PyData.eqv e d)else ds.any fun e=>PyData.eqv e d)) H
theorem AI(hu:X.A.units+65<cLine):OpR X (compareOp .In) (OP X.K false):=by
 intro pins s σ H x y v u Q I rx ry h;obtain⟨ds,d,hd,he,sd,se,hdp,q⟩:=h;obtain⟨bs,rb⟩:=he.reads I rx;have hr:X.A.units+1+min (PyData.depthAll ds) d.depth<cLine:=by have:min (PyData.depthAll ds) d.depth≤d.depth:=Nat.min_le_right _ _;omega
 rcases hd with hd|hd
 ·obtain⟨as,ra⟩:=hd.reads I ry;exact SeqAt.in_tuple_reads ra rb sd se hr ⟨.bl _,H,I,rfl,q⟩
 ·obtain⟨as,ra⟩:=hd.reads I ry;exact SeqAt.in_list_reads ra rb sd se hr ⟨.bl _,H,I,rfl,q⟩
theorem KR(hu:X.A.units+65<cLine):OpR X (compareOp .NotIn) (OP X.K true):=by
 intro pins s σ H x y v u Q I rx ry h;obtain⟨ds,d,hd,he,sd,se,hdp,q⟩:=h;obtain⟨bs,rb⟩:=he.reads I rx;have hr:X.A.units+1+min (PyData.depthAll ds) d.depth<cLine:=by have:min (PyData.depthAll ds) d.depth≤d.depth:=Nat.min_le_right _ _;omega
 rcases hd with hd|hd
 ·obtain⟨as,ra⟩:=hd.reads I ry;exact SeqAt.notIn_tuple_reads ra rb sd se hr ⟨.bl _,H,I,rfl,q⟩
 ·obtain⟨as,ra⟩:=hd.reads I ry;exact SeqAt.notIn_list_reads ra rb sd se hr ⟨.bl _,H,I,rfl,q⟩
end
end L2
namespace L2
open PySem PySem.Spec PyProof.Rows
abbrev zh1 (h:Heap) (l:Addr):Heap:=h.push {cls:=.type "tuple_iterator",data:=.fields #[.ref l,.int 0 0]}
abbrev zh2 (h:Heap) (l m:Addr):Heap:=(zh1 h l).push {cls:=.type "tuple_iterator",data:=.fields #[.ref m,.int 0 0]}
abbrev zh3 (h:Heap) (l m:Addr):Heap:=(zh2 h l m).push {cls:=.type "tuple",data:=.seq #[.ref h.objs.size,.ref (zh1 h l).objs.size]}
abbrev zh4 (h:Heap) (l m:Addr):Heap:=(zh3 h l m).push {cls:=.type "tuple",data:=.seq #[.none,.none]}
abbrev zh5 (h:Heap) (l m:Addr):Heap:=(zh4 h l m).push {cls:=.type "zip",data:=.fields #[.none,.bool false,.bool false,.ref (zh2 h l m).objs.size,.ref (zh3 h l m).objs.size]}
def Ity (K:PySem.W.Frag) (a b:Addr):It :=
 ⟨fun i H=>∃ xs ys x y,SqT K H a xs∧SqT K H b ys∧xs[i]?=some x∧ys[i]?=some y,
  fun i H v H'=>∃ p,v=.ref p∧H p=none∧∀ xs ys x y,SqT K H a xs→SqT K H b ys→xs[i]?=some x→ys[i]?=some y→H'=upd H p (.tup [x,y]),
  fun i H=>∃ xs ys,SqT K H a xs∧SqT K H b ys∧(xs.length≤i∨ys.length≤i)⟩
def ZSy (z TI TO i1 i2 a b:Addr) (i:Nat) (h:Heap):Prop:=IsZip h z TI TO .none∧IsPair h TI (.ref i1) (.ref i2)∧(∃ u v,IsPair h TO u v)∧h.IsTupleIter i1 a i∧h.IsTupleIter i2 b i
theorem ZSy.keep{z TI TO i1 i2 a b:Addr}{i:Nat}{h h':Heap}(st:ZSy z TI TO i1 i2 a b i h)(k:∀ c∈[z,TI,TO,i1,i2],∀ o,h.get? c=some o→h'.get? c=some o):ZSy z TI TO i1 i2 a b i h':=by obtain⟨h1,h2,⟨u,v,h3⟩,h4,h5⟩:=st;exact⟨k z (by simp) _ h1,k TI (by simp) _ h2,⟨u,v,k TO (by simp) _ h3⟩,h4.at fun o q=>k i1 (by simp) o q,h5.at fun o q=>k i2 (by simp) o q⟩
theorem ZSy.obj{z TI TO i1 i2 a b:Addr}{i:Nat}{h:Heap}(st:ZSy z TI TO i1 i2 a b i h):∀ c∈[z,TI,TO,i1,i2],∃ o,h.get? c=some o∧∀ v,o.data≠.cell v:=by
 obtain⟨h1,h2,⟨u,v,h3⟩,⟨o4,e4,c4,d4⟩,⟨o5,e5,c5,d5⟩⟩:=st;intro c hc;simp only[List.mem_cons,List.not_mem_nil,or_false]at hc;rcases hc with rfl|rfl|rfl|rfl|rfl
 ·exact⟨_,h1,fun v z=>by cases z⟩
 ·exact⟨_,h2,fun v z=>by cases z⟩
 ·exact⟨_,h3,fun v z=>by cases z⟩
 ·exact⟨_,e4,fun v z=>by rw[d4]at z;cases z⟩
 ·exact⟨_,e5,fun v z=>by rw[d5]at z;cases z⟩
section
variable {X:Cx}
def GE (K:PySem.W.Frag) (ta:TA):TI:=fun σ H R=>ta σ H fun vs H1=>∃ a b,vs=[.ref a,.ref b]∧(((∃ xs,SqL K H1 a xs)∧(∃ ys,SqL K H1 b ys)∧R (Itz K a b) H1)∨((∃ xs,SqT K H1 a xs)∧(∃ ys,SqT K H1 b ys)∧R (Ity K a b) H1))
end
end L2
namespace L2
open PySem PySem.Spec PyProof.Rows
section
variable {κ:Type} [DecidableEq κ]
def ZQ (kvs:List (κ×V)) (k:κ):Option V:=(kvs.find? fun kv=>decide (kv.1=k)).map (·.2)
def putK (kvs:List (κ×V)) (k:κ) (v:V):List (κ×V) :=
 if(kvs.any fun kv=>decide (kv.1=k))=true then kvs.map (fun kv=>if kv.1=k then(kv.1,v)else kv)else kvs++[(k,v)]
def dropK (kvs:List (κ×V)) (k:κ):List (κ×V):=kvs.filter fun kv=>decide (kv.1≠k)
theorem Yp{p:κ×V}{r:List (κ×V)}{k:κ}(e:p.1=k):ZQ (p::r) k=some p.2:=by simp[ZQ,List.find?_cons,e]
theorem YB{p:κ×V}{r:List (κ×V)}{k:κ}(e:¬ p.1=k):ZQ (p::r) k=ZQ r k:=by simp[ZQ,List.find?_cons,e]
theorem Y6(k:κ):∀ kvs:List (κ×V),(kvs.any fun kv=>decide (kv.1=k))=(ZQ kvs k).isSome
 |[]=>rfl
 |p::r=>by
  rw[List.any_cons];by_cases e:p.1=k
  ·simp only[Yp e,decide_eq_true e,Bool.true_or,Option.isSome_some]
  ·rw[YB e,decide_eq_false e,Bool.false_or];exact Y6 k r
theorem Z7(kvs:List (κ×V))(k:κ)(v:V):(putK kvs k v).length≤kvs.length+1:=by
 unfold putK;split
 ·rw[List.length_map];omega
 ·rw[List.length_append,List.length_cons,List.length_nil];omega
theorem RelO.isSome_eq{o:Option V}{u:Option Value}(r:RelO o u):o.isSome=u.isSome:=by
 cases o with
 |none=>cases u with
  |none=>rfl
  |some _=>exact(show False from r).elim
 |some _=>cases u with
  |none=>exact(show False from r).elim
  |some _=>rfl
theorem RelO.getD{o:Option V}{u:Option Value}{d:V}{d':Value}(r:RelO o u)(rd:RelV d d'):RelV (o.getD d) (u.getD d'):=by
 cases o with
 |none=>cases u with
  |none=>exact rd
  |some _=>exact(show False from r).elim
 |some _=>cases u with
  |none=>exact(show False from r).elim
  |some _=>exact r
theorem KV.val{kvs:List (κ×V)}{vs:List (κ×Value)}(r:KV kvs vs)(k:κ):RelO (ZQ kvs k) (valueAt vs k):=by
 unfold KV at r;induction r with
 |nil=>exact True.intro
 |@cons p q ps qs h t ih =>
  obtain⟨h1,h2⟩:=h;by_cases e:p.1=k
  ·have e':q.1=k:=h1.symm.trans e;have b:valueAt (q::qs) k=some q.2:=by simp[valueAt,List.find?_cons,e']
   rw[Yp e,b];exact h2
  ·have e':¬ q.1=k:=fun z=>e (h1.trans z);have b:valueAt (q::qs) k=valueAt qs k:=by simp[valueAt,List.find?_cons,e']
   rw[YB e,b];exact ih
theorem KV.any{kvs:List (κ×V)}{vs:List (κ×Value)}(r:KV kvs vs)(k:κ):(kvs.any fun kv=>decide (kv.1=k))=vs.any fun kv=>decide (kv.1=k):=by
 unfold KV at r;induction r with
 |nil=>rfl
 |cons h t ih=>rw[List.any_cons,List.any_cons,ih,h.1]
theorem KV.repl{kvs:List (κ×V)}{vs:List (κ×Value)}(r:KV kvs vs)(k:κ){y:V}{u:Value}(ry:RelV y u) :
  KV (kvs.map fun kv=>if kv.1=k then(kv.1,y)else kv) (vs.map fun kv=>if kv.1=k then(kv.1,u)else kv):=by
 unfold KV at r ⊢;induction r with
 |nil=>exact .nil
 |@cons p q ps qs h t ih =>
  rw[List.map_cons,List.map_cons];refine .cons ?_ ih;obtain⟨h1,h2⟩:=h;by_cases e:p.1=k
  ·rw[if_pos e,if_pos (h1.symm.trans e)];exact⟨h1,ry⟩
  ·rw[if_neg e,if_neg (fun z=>e (h1.trans z))];exact⟨h1,h2⟩
theorem KV.put{kvs:List (κ×V)}{vs:List (κ×Value)}(r:KV kvs vs)(k:κ){y:V}{u:Value}(ry:RelV y u):KV (putK kvs k y) (stored vs k u):=by
 unfold putK stored;rw[r.any k];by_cases e:(vs.any fun kv=>decide (kv.1=k))=true
 ·rw[if_pos e,if_pos e];exact r.repl k ry
 ·rw[if_neg e,if_neg e];exact Paired.snoc r ⟨rfl,ry⟩
theorem KV.drop{kvs:List (κ×V)}{vs:List (κ×Value)}(r:KV kvs vs)(k:κ):KV (dropK kvs k) (without vs k):=by
 unfold KV at r ⊢;unfold dropK without;induction r with
 |nil=>exact .nil
 |@cons p q ps qs h t ih =>
  obtain⟨h1,h2⟩:=h;rw[List.filter_cons,List.filter_cons];by_cases e:p.1=k
  ·have a:¬ decide (p.1≠k)=true:=by simp[e]
   have b:¬ decide (q.1≠k)=true:=by simp[h1.symm.trans e]
   rw[if_neg a,if_neg b];exact ih
  ·have e':¬ q.1=k:=fun z=>e (h1.trans z);have a:decide (p.1≠k)=true:=by simp[e]
   have b:decide (q.1≠k)=true:=by simp[e']
   rw[if_pos a,if_pos b];exact .cons ⟨h1,h2⟩ ih
theorem KV.keys{kvs:List (κ×V)}{vs:List (κ×Value)}(r:KV kvs vs):kvs.map (·.1)=vs.map (·.1):=by
 unfold KV at r;induction r with
 |nil=>rfl
 |cons h t ih=>rw[List.map_cons,List.map_cons,ih,h.1]
theorem KV.length{kvs:List (κ×V)}{vs:List (κ×Value)}(r:KV kvs vs):kvs.length=vs.length:=Paired.length r
end
theorem XU{P:Program}{w:World}{k:Key}{u:Value}(r:RelV (kV k) u):(Zh P w).is k u=true:=by
 cases k with
 |inl i=>obtain⟨t,e⟩:=(show ∃ t,u=Value.int i t from r);subst e;exact Jj P w i t
 |inr x=>obtain⟨t,e⟩:=(show ∃ t,u=Value.str x t from r);subst e;exact W0 P w x t
theorem XY{P:Program}{w:World}:∀ {ks:List Key}{us:List Value},Vals (ks.map kV) us→ItemsAre (Zh P w) ks us
 |[],_,r=>by rw[List.map_nil]at r;cases r;exact .nil
 |k::ks,_,r=>by
  rw[List.map_cons]at r;cases r with
  |cons h t=>exact .cons (XU h) (XY t)
abbrev KTd (H:Hp):List (List Key×V)→List (List Key×Addr×Value)→Prop:=Paired fun p q=>p.1=q.1∧H q.2.1=some (.tup (p.1.map kV))∧RelV p.2 q.2.2
theorem KTd.val{H:Hp}{kvs:List (List Key×V)}{xs:List (List Key×Addr×Value)}(r:KTd H kvs xs)(k:List Key):RelO (ZQ kvs k) ((atKey xs k).map (·.2)):=by
 induction r with
 |nil=>exact True.intro
 |@cons p q ps qs h t ih =>
  obtain⟨h1,_,h2⟩:=h;by_cases e:p.1=k
  ·have e':q.1=k:=h1.symm.trans e;have b:atKey (q::qs) k=some q.2:=by simp[atKey,List.find?_cons,e']
   rw[Yp e,b];exact h2
  ·have e':¬ q.1=k:=fun z=>e (h1.trans z);have b:atKey (q::qs) k=atKey qs k:=by simp[atKey,List.find?_cons,e']
   rw[YB e,b];exact ih
theorem KTd.repl{H:Hp}{kvs:List (List Key×V)}{xs:List (List Key×Addr×Value)}(r:KTd H kvs xs)(k:List Key){y:V}{u:Value}(ry:RelV y u) :
  KTd H (kvs.map fun kv=>if kv.1=k then(kv.1,y)else kv) (xs.map (putAt k u)):=by
 induction r with
 |nil=>exact .nil
 |@cons p q ps qs h t ih =>
  rw[List.map_cons,List.map_cons];refine .cons ?_ ih;obtain⟨h1,h2,h3⟩:=h;unfold putAt;by_cases e:p.1=k
  ·rw[if_pos e,if_pos (h1.symm.trans e)];exact⟨h1,h2,ry⟩
  ·rw[if_neg e,if_neg (fun z=>e (h1.trans z))];exact⟨h1,h2,h3⟩
theorem KTd.put{H:Hp}{kvs:List (List Key×V)}{xs:List (List Key×Addr×Value)}(r:KTd H kvs xs)(k:List Key){b:Addr}{y:V}{u:Value}(hb:H b=some (.tup (k.map kV)))(ry:RelV y u) :
  KTd H (putK kvs k y) (storedH xs k b u):=by
 have e:(kvs.any fun kv=>decide (kv.1=k))=(atKey xs k).isSome:=by rw[Y6,(r.val k).isSome_eq,Option.isSome_map]
 unfold putK storedH;rw[e];by_cases q:(atKey xs k).isSome=true
 ·rw[if_pos q,if_pos q];exact r.repl k ry
 ·rw[if_neg q,if_neg q];exact Paired.snoc r ⟨rfl,hb,ry⟩
theorem KTd.keeps{H H':Hp}{kvs:List (List Key×V)}{xs:List (List Key×Addr×Value)}(r:KTd H kvs xs)(ht:∀ b ys,H b=some (.tup ys)→H' b=some (.tup ys)):KTd H' kvs xs :=
 Paired.mapP r fun _ _ z=>⟨z.1,ht _ _ z.2.1,z.2.2⟩
section
variable {P:Program}{w:World}{H:Hp}{h:Heap}{a:Addr}
theorem U6{u:HO}(ok:HOk P w H h)(e:Rd H a u):ObjOk P w H h a u:=e.ok ok
theorem XX{kvs:List (Key×V)}(ok:HOk P w H h)(e:Rd H a (.dK kvs)):kvs.length≤sizeLine∧(a==sysModules)=false∧∃ vs,KV kvs vs∧h.DictOf (Zh P w) a vs :=
 show ObjOk P w H h a (.dK kvs) from U6 ok e
theorem U7{kvs:List (Key×V)}(ok:HOk P w H h)(e:H a=some (.dK kvs)):kvs.length≤sizeLine∧(a==sysModules)=false∧∃ vs,KV kvs vs∧h.DictOf (Zh P w) a vs:=XX ok (.inl e)
theorem key_of{ks:List Key}(ok:HOk P w H h)(e:H a=some (.tup (ks.map kV))):(tupleKind (Zh P w)).is h ks a:=by
 obtain⟨_,its,r,o,h1,h2,n,h3⟩:=(show ObjOk P w H h a (.tup (ks.map kV)) from ok a _ e)
 exact⟨o,its.toArray,n,h1,h2,h3,by simpa using XY r⟩
theorem WU{kvs:List (List Key×V)}(ok:HOk P w H h)(e:Rd H a (.dT kvs)):kvs.length≤sizeLine∧(a==sysModules)=false∧
  ∃ xs,KTd H kvs xs∧h.DictOfH (tupleKind (Zh P w)) a xs:=by
 obtain⟨z,y,xs,r,o,es,ep,h1,h2,h3,h4,h5⟩:=(show ObjOk P w H h a (.dT kvs) from U6 ok e)
 refine⟨z,y,xs,r,o,es,ep,h1,h2,h3,h4,fun x hx=>?_,h5⟩;have all:∀ {l:List (List Key×V)}{m:List (List Key×Addr×Value)},KTd H l m→∀ x∈m,(tupleKind (Zh P w)).is h x.1 x.2.1:=by
  intro l m q;induction q with
  |nil=>intro x hx;exact nomatch hx
  |@cons p q ps qs hq t ih =>
   intro x hx;rcases List.mem_cons.mp hx with e|hx
   ·subst e;exact key_of ok (by rw[←hq.1];exact hq.2.1)
   ·exact ih x hx
 exact all r x hx
theorem Dl{kvs:List (List Key×V)}(ok:HOk P w H h)(e:H a=some (.dT kvs)):kvs.length≤sizeLine∧(a==sysModules)=false∧
  ∃ xs,KTd H kvs xs∧h.DictOfH (tupleKind (Zh P w)) a xs:=WU ok (.inl e)
end
def DGet (H:Hp) (a:Addr) (y:V) (r:Option V):Prop :=
 (∃ kvs k,Rd H a (.dK kvs)∧y=kV k∧r=ZQ kvs k)∨∃ kvs k b,Rd H a (.dT kvs)∧y=.ref b∧H b=some (.tup (k.map kV))∧r=ZQ kvs k
def DPut (H:Hp) (a:Addr) (y v:V) (H':Hp):Prop :=
 (∃ kvs k,H a=some (.dK kvs)∧y=kV k∧kvs.length<sizeLine∧H'=upd H a (.dK (putK kvs k v)))∨
 ∃ kvs k b,H a=some (.dT kvs)∧y=.ref b∧H b=some (.tup (k.map kV))∧kvs.length<sizeLine∧H'=upd H a (.dT (putK kvs k v))
theorem DGet.k{H:Hp}{a:Addr}{kvs:List (Key×V)}{k:Key}(e:H a=some (.dK kvs)):DGet H a (kV k) (ZQ kvs k):=.inl ⟨kvs,k,.inl e,rfl,rfl⟩
theorem DGet.t{H:Hp}{a b:Addr}{kvs:List (List Key×V)}{k:List Key}(e:H a=some (.dT kvs))(eb:H b=some (.tup (k.map kV))):DGet H a (.ref b) (ZQ kvs k):=.inr ⟨kvs,k,b,.inl e,rfl,eb,rfl⟩
theorem DPut.k{H:Hp}{a:Addr}{kvs:List (Key×V)}{k:Key}{v:V}(e:H a=some (.dK kvs))(hl:kvs.length<sizeLine):DPut H a (kV k) v (upd H a (.dK (putK kvs k v))):=.inl ⟨kvs,k,e,rfl,hl,rfl⟩
theorem DPut.t{H:Hp}{a b:Addr}{kvs:List (List Key×V)}{k:List Key}{v:V}(e:H a=some (.dT kvs))(eb:H b=some (.tup (k.map kV)))(hl:kvs.length<sizeLine) :
  DPut H a (.ref b) v (upd H a (.dT (putK kvs k v))):=.inr ⟨kvs,k,b,e,rfl,eb,hl,rfl⟩
section
variable {X:Cx}{pins:List (Addr×Obj)}{σ:St}{H:Hp}{s:Shared}{a:Addr}{y v:V}{u r:Value}{o:Option V}{A:Around}{E:Value→Shared→Prop}
theorem Inv.big(I:Inv X pins σ H s):sysModules<s.heap.objs.size:=by have h:mainGlobals<s.heap.objs.size:=(I.mod.glob.keeps I.bk).lt;exact Nat.lt_trans (by decide) h
theorem Mb{Q:Value→Shared→Prop}(hu:A.units+1<cLine)(I:Inv X pins σ H s)(g:DGet H a y (some v))(ry:RelV y u)(h:∀ w' s',Inv X pins σ H s'→RelV v w'→Q w' s') :
  wpAny (model X.prog X.w) A (getItem (.ref a) u) Q E s:=by
 rcases g with⟨kvs,k,e,ey,l⟩|⟨kvs,k,b,e,ey,eb,l⟩
 ·subst ey;obtain⟨z,hd,vs,rel,dd⟩:=XX I.hok e;obtain⟨w',hw,rw'⟩:=RelO.some_of (v:=v) (o:=valueAt vs k) (by rw[l];exact rel.val k);exact wpAny_getItem_of (XU ry) dd.mapOf hw (h w' _ (I.tok _) rw')
 ·subst ey;cases (show u=Value.ref b from ry);obtain⟨z,hd,xs,rel,dd⟩:=WU I.hok e;obtain⟨w',hw,rw'⟩:=RelO.some_of (v:=v) (o:=(atKey xs k).map (·.2)) (by rw[l];exact rel.val k);obtain⟨p,hp,hp2⟩:=Option.map_eq_some_iff.mp hw;refine wpAny_getItem_heap (tupleKind_room_in1 hu) (key_of I.hok eb) dd hp ?_;rw[hp2];exact h w' _ (I.tok _) rw'
theorem E7{Q:Value→Shared→Prop}(hu:A.units+1<cLine)(I:Inv X pins σ H s)(g:DGet H a y o)(ry:RelV y u)(h:∀ s',Inv X pins σ H s'→Q (.bool o.isSome) s') :
  wpAny (model X.prog X.w) A (compareOp .In u (.ref a)) Q E s:=by
 rcases g with⟨kvs,k,e,ey,l⟩|⟨kvs,k,b,e,ey,eb,l⟩
 ·subst ey;obtain⟨z,hd,vs,rel,dd⟩:=XX I.hok e;refine wpAny_in_of (XU ry) hd dd.mapOf ?_;rw[←(rel.val k).isSome_eq,←l];exact h _ (I.tok _)
 ·subst ey;cases (show u=Value.ref b from ry);obtain⟨z,hd,xs,rel,dd⟩:=WU I.hok e;refine wpAny_in_heap (tupleKind_room_in1 hu) (key_of I.hok eb) hd dd ?_;have q:=(rel.val k).isSome_eq;rw[Option.isSome_map]at q;rw[←q,←l];exact h _ (I.tok _)
theorem Ox{Q:Value→Shared→Prop}(hu:A.units+1<cLine)(I:Inv X pins σ H s)(g:DGet H a y o)(ry:RelV y u)(h:∀ s',Inv X pins σ H s'→Q (.bool (!o.isSome)) s') :
  wpAny (model X.prog X.w) A (compareOp .NotIn u (.ref a)) Q E s:=by
 rcases g with⟨kvs,k,e,ey,l⟩|⟨kvs,k,b,e,ey,eb,l⟩
 ·subst ey;obtain⟨z,hd,vs,rel,dd⟩:=XX I.hok e;refine wpAny_notIn_of (XU ry) hd dd.mapOf ?_;rw[←(rel.val k).isSome_eq,←l];exact h _ (I.tok _)
 ·subst ey;cases (show u=Value.ref b from ry);obtain⟨z,hd,xs,rel,dd⟩:=WU I.hok e;refine wpAny_notIn_heap (tupleKind_room_in1 hu) (key_of I.hok eb) hd dd ?_;have q:=(rel.val k).isSome_eq;rw[Option.isSome_map]at q;rw[←q,←l];exact h _ (I.tok _)
theorem Wk{h':Heap}{t':Nat}{ob:HO}(I:Inv X pins σ H s)(mu:Mut (H a))(hs:Heap.SameBut a s.heap h')(he:∃ q,h'.get? a=some q)(new:ObjOk X.prog X.w (upd H a ob) h' a ob) :
  Inv X pins σ (upd H a ob) {s with heap:=h',toks:=t'} :=
 I.write (x:=a) (e:=a) mu (.inl rfl) (fun b q hb z=>(hs.2 b hb).trans z) he new
theorem Jn{P:Program}{w:World}{H':Hp}{h':Heap}{kvs:List (Key×V)}{vs:List (Key×Value)}(z:kvs.length≤sizeLine)(hd:(a==sysModules)=false)(rel:KV kvs vs)(dd:h'.DictOf (Zh P w) a vs) :
  ObjOk P w H' h' a (.dK kvs):=⟨z,hd,vs,rel,dd⟩
theorem K7{H':Hp}{Q:Unit→Shared→Prop}(hu:A.units+1<cLine)(I:Inv X pins σ H s)(g:DPut H a y v H')(ry:RelV y u)(rv:RelV v r)(h:∀ s',Inv X pins σ H' s'→Q () s') :
  wpAny (model X.prog X.w) A (setItem (.ref a) u r) Q E s:=by
 rcases g with⟨kvs,k,e,ey,l,eH⟩|⟨kvs,k,b,e,ey,eb,l,eH⟩
 ·subst ey eH;obtain⟨z,hd,vs,rel,dd⟩:=U7 I.hok e;have hz:vs.length≤sizeLine:=by rw[←rel.length];exact z
  have hl:(putK kvs k v).length≤sizeLine:=by have:=Z7 kvs k v;omega
  refine wpAny_setItem_pairs (hsz:=hz) (XU ry) dd fun h' dd' hs=>h _ ?_;have he:∃ q,h'.get? a=some q:=let ⟨q,_,_,hq,_⟩:=dd';⟨q,hq⟩;exact Wk I (by rw[e];exact True.intro) hs he (Jn hl hd (rel.put k rv) dd')
 ·subst ey eH;cases (show u=Value.ref b from ry);obtain⟨z,hd,xs,rel,dd⟩:=Dl I.hok e;have hz:xs.length≤sizeLine:=by rw[←Paired.length rel];exact z
  have hl:(putK kvs k v).length≤sizeLine:=by have:=Z7 kvs k v;omega
  refine wpAny_setItem_heap (hsz:=hz) (tupleKind_room_in1 hu) (key_of I.hok eb) dd fun h' dd' hs=>h _ ?_;obtain⟨q,es,ep,hq,h2,h3,h4,_,h5⟩:=dd';refine Wk I (by rw[e];exact True.intro) hs ⟨q,hq⟩ ⟨hl,hd,_,(rel.put k eb rv).keeps fun c ys ec=>?_,q,es,ep,hq,h2,h3,h4,h5⟩;rw[upd_ne (MJ ec e (fun z=>nomatch z))];exact ec
end
section
variable {X:Cx}{pins:List (Addr×Obj)}{σ:St}{H:Hp}{s:Shared}{a:Addr}{kvs:List (Key×V)}{k:Key}{u:Value}{A:Around}{E:Value→Shared→Prop}
theorem CJ {Q:Value→Shared→Prop}(I:Inv X pins σ H s) (e:Rd H a (.dK kvs)) (h:∀ t s',Inv X pins σ H s'→Q (.int kvs.length t) s'):wpAny (model X.prog X.w) A (call (.builtin "len") [.ref a]) Q E s:=by obtain⟨z,hd,vs,rel,dd⟩:=XX I.hok e;refine call_len_dict hd dd (by rw[←rel.length];rw[sizeLine_eq]at z;omega) ?_;rw[←rel.length];exact h _ _ (I.tok _)
end
def Hq (i:Expr):Prop:=∀ ov iv,subscripted i false ov iv=operate [ov,iv] (getItem ov iv)
theorem Jk {X:Cx}{pins:List (Addr×Obj)}{σ:St}{H:Hp}{s:Shared}{a:Addr}{y:V}{o:Option V}(I:Inv X pins σ H s) (g:DGet H a y o):s.TypeIs (.ref a) "dict":=by
 rcases g with⟨kvs,k,e,_,_⟩|⟨kvs,k,b,e,_,_,_⟩
 ·obtain⟨_,_,vs,_,dd⟩:=XX I.hok e;exact dd.typeIs
 ·obtain⟨_,_,xs,_,dd⟩:=WU I.hok e;exact dd.typeIs
def GM (td ty:TE):TE:=fun σ H Q=>td σ H fun x H1=>ty σ H1 fun y H2=>∃ a v,x=.ref a∧DGet H2 a y (some v)∧Q v H2
def HF (ty td:TE):TE:=fun σ H Q=>ty σ H fun y H1=>td σ H1 fun x H2=>∃ a o,x=.ref a∧DGet H2 a y o∧Q (.bl o.isSome) H2
def Ew (ty td:TE):TE:=fun σ H Q=>ty σ H fun y H1=>td σ H1 fun x H2=>∃ a o,x=.ref a∧DGet H2 a y o∧Q (.bl (!o.isSome)) H2
def G0 (td ty tv:TE):TS:=fun D σ H=>tv σ H fun v H1=>td σ H1 fun x H2=>ty σ H2 fun y H3=>∃ a H4,x=.ref a∧DPut H3 a y v H4∧D.nx σ H4
def GQ (td ty tv:TE) (rd:V→V→Hp→VK→Prop):TS:=fun D σ H=>td σ H fun x H1=>ty σ H1 fun y H2=>∃ a v,x=.ref a∧DGet H2 a y (some v)∧
 tv σ H2 fun y2 H3=>rd v y2 H3 fun z H4=>∃ H5,DPut H4 a y z H5∧D.nx σ H5
def GU (td ty:TE):TS:=fun D σ H=>td σ H fun x H1=>ty σ H1 fun y H2=>∃ a kvs k,x=.ref a∧H2 a=some (.dK kvs)∧y=kV k∧(ZQ kvs k).isSome=true∧D.nx σ (upd H2 a (.dK (dropK kvs k)))
theorem WS {P:Program}{w:World}{H:Hp}(h:Heap) (hb:sysModules<h.objs.size):ObjOk P w H (h.push {cls:=.type "dict",data:=.dict #[]}) h.objs.size (.dK []) :=
 ⟨Nat.zero_le _,beq_eq_false_iff_ne.mpr (Ne.symm (Nat.ne_of_lt hb)),[],.nil,Heap.DictOf.new h⟩
def AS:TE:=fun _ H Q=>∀ p,H p=none→Q (.ref p) (upd H p (.dK []))
def Ft:TE:=fun _ H Q=>∀ p,H p=none→Q (.ref p) (upd H p (.dT []))
section
variable {X:Cx}{pos:Pos}
theorem pe_dnewK:PE X (.Dict [] [] pos) AS:=fun pins s σ H Q I h =>
 wpAny_Dict_empty ⟨.ref s.heap.objs.size,_,I.laid (a:=s.heap.objs.size) (o:=.dK []) (t':=s.toks) (fun _ _ q=>Heap.get?_push_of_some _ q) (Nat.le_refl _) (WS s.heap I.big),rfl,h _ (I.hok.fresh (Nat.le_refl _))⟩
end
def Wv:List (TE×TE)→St→Hp→(List (V×V)→Hp→Prop)→Prop
 |[],_,H,Q=>Q [] H
 |(tk,tv)::r,σ,H,Q=>tk σ H fun x H1=>tv σ H1 fun y H2=>Wv r σ H2 fun ps H3=>Q ((x,y)::ps) H3
abbrev VV:List (V×V)→List (Value×Value)→Prop:=Paired fun p q=>RelV p.1 q.1∧RelV p.2 q.2
def PPs (X:Cx) (pos:Pos) (keys:List (Option Expr)) (values:List Expr) (trs:List (TE×TE)):Prop :=
 ∀ (pins:List (Addr×Obj)) (s:Shared) (σ:St) (H:Hp) (Q:List (V×V)→Hp→Prop),Inv X pins σ H s→Wv trs σ H Q→
  wpAny (model X.prog X.w) X.A (evalPairs (pairTrees keys values X.env pos)) (fun vs s'=>∃ ps H',Inv X pins σ H' s'∧VV ps vs∧Q ps H') X.xe s
theorem Uq{X:Cx}{pos:Pos}:PPs X pos [] [] []:=fun pins s σ H Q I h=>pairTrees_nil_walk ⟨[],H,I,.nil,h⟩
theorem MM{X:Cx}{pos:Pos}{k v:Expr}{ks:List (Option Expr)}{vs:List Expr}{tk tv:TE}{trs:List (TE×TE)}(hk:PE X k tk)(hv:PE X v tv)(hr:PPs X pos ks vs trs) :
  PPs X pos (some k::ks) (v::vs) ((tk,tv)::trs):=fun pins s σ H Q I h =>
 pairTrees_cons_walk (thn (hk pins s σ H _ I h) fun u s1 ⟨x,H1,I1,rx,q1⟩=>thn (hv pins s1 σ H1 _ I1 q1) fun w2 s2 ⟨y,H2,I2,ry,q2⟩ =>
   thn (hr pins s2 σ H2 _ I2 q2) fun ws s3 ⟨ps,H3,I3,rel,q3⟩=>⟨(x,y)::ps,H3,I3,.cons ⟨rx,ry⟩ rel,q3⟩)
def Z5 (kvs more:List (Key×V)):List (Key×V):=more.foldl (fun acc kv=>putK acc kv.1 kv.2) kvs
theorem KV.merge:∀ {more:List (Key×V)}{rs:List (Key×Value)}{kvs:List (Key×V)}{vs:List (Key×Value)},KV more rs→KV kvs vs→KV (Z5 kvs more) (merged vs rs):=by
 intro more rs kvs vs r;unfold KV at r;induction r generalizing kvs vs with
 |nil=>intro q;exact q
 |@cons p q ps qs h t ih =>
  intro r0;have e:KV (putK kvs p.1 p.2) (stored vs q.1 q.2):=by have:=r0.put p.1 h.2;rw[←h.1];exact this
  exact ih e
theorem Z9:∀ (more kvs:List (Key×V)),(Z5 kvs more).length≤kvs.length+more.length
 |[],kvs=>by show kvs.length≤kvs.length+0;omega
 |p::r,kvs=>by have h1:=Z9 r (putK kvs p.1 p.2);have h2:=Z7 kvs p.1 p.2;show(Z5 (putK kvs p.1 p.2) r).length≤_;rw[List.length_cons];omega
theorem Xp{P:Program}{w:World}:∀ {kvs:List (Key×V)}{ws:List (Value×Value)},VV (kvs.map fun kv=>(kV kv.1,kv.2)) ws→∃ rs,Carries (Zh P w) ws rs∧KV kvs rs
 |[],_,r=>by rw[List.map_nil]at r;cases r;exact⟨[],True.intro,.nil⟩
 |p::kvs,_,r=>by
  rw[List.map_cons]at r;cases r with
  |@cons a b as bs h t =>obtain⟨rs,c,q⟩:=Xp (P:=P) (w:=w) t;obtain⟨b1,b2⟩:=b;exact⟨(p.1,b2)::rs,⟨XU h.1,rfl,c⟩,.cons ⟨rfl,h.2⟩ q⟩
def DK (trs:List (TE×TE)):TE:=fun σ H Q=>∀ p,H p=none→Wv trs σ (upd H p (.dK [])) fun ps H2=>H2 p=some (.dK [])∧∃ kvs:List (Key×V),ps=kvs.map (fun kv=>(kV kv.1,kv.2))∧kvs.length≤15∧Q (.ref p) (upd H2 p (.dK (Z5 [] kvs)))
theorem O6{X:Cx}{pos:Pos}{keys:List (Option Expr)}{values:List Expr}{trs:List (TE×TE)}(h:PPs X pos keys values trs)(hall:keys.all (·.isSome)=true)(hl:keys.length=values.length)(h0:keys≠[])
  (h15:keys.length≤15):PE X (.Dict keys values pos) (DK trs):=by
 intro pins s σ H Q I q;have hn:=I.hok.fresh (Nat.le_refl s.heap.objs.size);have I1:=I.laid (a:=s.heap.objs.size) (o:=.dK []) (h':=s.heap.push {cls:=.type "dict",data:=.dict #[]}) (t':=s.toks) (fun _ _ q=>Heap.get?_push_of_some _ q) (Nat.le_refl _) (WS s.heap I.big);refine wpAny_Dict_walk (knd:=Zh X.prog X.w) hall hl h0 h15 (thn (h pins _ σ _ _ I1 (q _ hn)) fun ws s2 ⟨ps,H2,I2,rel,e,kvs,ep,lk,q2⟩=>?_);subst ep;obtain⟨rs,c,rk⟩:=Xp (P:=X.prog) (w:=X.w) rel;obtain⟨z,hd,vs0,r0,dd⟩:=U7 I2.hok e;cases r0;refine⟨rs,c,dd,fun h' dd' hs=>⟨.ref s.heap.objs.size,_,?_,rfl,q2⟩⟩;have hz:(Z5 [] kvs).length≤sizeLine:=by have h1:=Z9 kvs [];rw[List.length_nil]at h1;rw[sizeLine_eq];omega
 have he:∃ q,h'.get? s.heap.objs.size=some q:=let ⟨q,_,_,hq,_⟩:=dd';⟨q,hq⟩;exact Wk I2 (by rw[e];exact True.intro) hs he (Jn hz hd (rk.merge .nil) dd')
structure M1 (X:Cx) (o:Expr) (m:Str) (apos:Pos) (e:Expr) (cpos:Pos):Prop where
 base:attributeBase o m X.env (eval o X.env)=eval o X.env
 few:((backTo cpos (starEach [e] X.env)).all (fun x=>!x.1)&&(backToKw cpos (keywordEach [] X.env)).all (fun x=>x.1.isSome)
   && decide (([e]:List Expr).length+([]:List Keyword).length+(if([]:List Keyword).isEmpty then 0 else 1)<30))=true
 line:(apos.endLine==cpos.line)=true
 trees:backTo cpos (starEach [e] X.env)=[(false,eval e X.env)]
structure M2 (X:Cx) (o:Expr) (m:Str) (apos:Pos) (e f:Expr) (cpos:Pos):Prop where
 base:attributeBase o m X.env (eval o X.env)=eval o X.env
 few:((backTo cpos (starEach [e,f] X.env)).all (fun x=>!x.1)&&(backToKw cpos (keywordEach [] X.env)).all (fun x=>x.1.isSome)
   && decide (([e,f]:List Expr).length+([]:List Keyword).length+(if([]:List Keyword).isEmpty then 0 else 1)<30))=true
 line:(apos.endLine==cpos.line)=true
 trees:backTo cpos (starEach [e,f] X.env)=[(false,eval e X.env),(false,eval f X.env)]
def Os (H:Hp) (a:Addr):Prop:=(∃ kvs,Rd H a (.dK kvs))∨∃ kvs,Rd H a (.dT kvs)
def FI (td ty:TE):TE:=fun σ H Q=>td σ H fun x H1=>∃ a,x=.ref a∧Os H1 a∧ty σ H1 fun y H2=>∃ o,DGet H2 a y o∧Q (o.getD .non) H2
def F3 (td ty tx:TE):TE:=fun σ H Q=>td σ H fun x H1=>∃ a,x=.ref a∧Os H1 a∧ty σ H1 fun y H2=>tx σ H2 fun z H3=>∃ o,DGet H3 a y o∧Q (o.getD z) H3
def EY (td ty:TE):TE:=fun σ H Q=>td σ H fun x H1=>∃ a,x=.ref a∧Os H1 a∧ty σ H1 fun y H2=>∃ kvs k v,H2 a=some (.dK kvs)∧y=kV k∧ZQ kvs k=some v∧Q v (upd H2 a (.dK (dropK kvs k)))
def EN (td ty tx:TE):TE:=fun σ H Q=>td σ H fun x H1=>∃ a,x=.ref a∧Os H1 a∧ty σ H1 fun y H2=>tx σ H2 fun z H3=>∃ kvs k,H3 a=some (.dK kvs)∧y=kV k∧
 (∀ v,ZQ kvs k=some v→Q v (upd H3 a (.dK (dropK kvs k))))∧(ZQ kvs k=none→Q z H3)
end L2
namespace L2
open PySem PySem.Spec PyProof.Rows
section
variable {X:Cx}
theorem Mp:CallR X (.builtin "len") (fun xs H Q=>∃ a kvs,xs=[V.ref a]∧H a=some (.dK kvs)∧Q (.int kvs.length) H):=by intro pins s σ H xs us Q I r h;obtain⟨a,kvs,rfl,ha,q⟩:=h;obtain⟨u,rfl,ru⟩:=Z4 r;cases ru;exact CJ I (.inl ha) fun t s' I'=>⟨.int kvs.length,H,I',⟨t,rfl⟩,q⟩
end
end L2
namespace Own
noncomputable abbrev Ad:=Nat
inductive Val where
 |non|bl (b:Bool)|int (i:Int)|str (s:String)|tup (xs:List Val)|ref (a:Ad)|scr (ns:List Int)
 deriving Inhabited
mutual
noncomputable def Val.eqb:Val→Val→Bool
 |.non,.non=>true
 |.bl a,.bl b=>a==b
 |.int a,.int b=>a==b
 |.str a,.str b=>a==b
 |.tup a,.tup b=>Val.eqs a b
 |.ref a,.ref b=>a==b
 |.scr a,.scr b=>a==b
 |_,_=>false
noncomputable def Val.eqs:List Val→List Val→Bool
 |[],[]=>true
 |x::xs,y::ys=>Val.eqb x y&&Val.eqs xs ys
 |_,_=>false
end
mutual
theorem Val.eqb_iff:∀ {a b:Val},Val.eqb a b=true↔a=b
 |.non,b=>by cases b<;>simp[Val.eqb]
 |.bl _,b=>by cases b<;>simp[Val.eqb]
 |.int _,b=>by cases b<;>simp[Val.eqb]
 |.str _,b=>by cases b<;>simp[Val.eqb]
 |.tup _,b=>by cases b<;>simp[Val.eqb,Val.eqs_iff]
 |.ref _,b=>by cases b<;>simp[Val.eqb]
 |.scr _,b=>by cases b<;>simp[Val.eqb]
theorem Val.eqs_iff:∀ {a b:List Val},Val.eqs a b=true↔a=b
 |[],b=>by cases b<;>simp[Val.eqs]
 |_::_,b=>by cases b<;>simp[Val.eqs,Val.eqb_iff,Val.eqs_iff]
end
noncomputable instance:DecidableEq Val:=fun a b=>if h:Val.eqb a b=true then isTrue (Val.eqb_iff.mp h)else isFalse fun e=>h (Val.eqb_iff.mpr e)
inductive Ob where
 |lst (xs:List Val)|dct (kvs:List (Val×Val))|ins (C:String) (fs:List (String×Val))|exc (C:String)|frz (kvs:List (Val×Val))
 deriving Inhabited
noncomputable def U8 (sep:List Char):List (List Char)→List Char
 |[]=>[]
 |[x]=>x
 |x::y::r=>x++(sep++U8 sep (y::r))
noncomputable def UH (sep:String) (xs:List String):String:=String.ofList (U8 sep.toList (xs.map String.toList))
noncomputable def JK (c:Char):List Char→List (List Char)
 |[]=>[[]]
 |x::xs=>if x=c then []::JK c xs else match JK c xs with
  |[]=>[[x]]
  |y::ys=>(x::y)::ys
noncomputable def Jx (c:Char) (s:String):List String:=(JK c s.toList).map String.ofList
noncomputable def figB (c:Char):Bool:=decide (48≤c.toNat)&&decide (c.toNat≤57)
noncomputable def decN (l:List Char):Nat:=l.foldl (fun a c=>10*a+(c.toNat - 48)) 0
noncomputable def Oc:List Val→Option (List String)
 |[]=>some []
 |.str s::xs=>(Oc xs).map (s :: ·)
 |_=>none
noncomputable def YQ:Val→Option String
 |.str s=>some s
 |_=>none
noncomputable def oneC (s:String):Option Char:=match s.toList with
 |[c]=>some c
 |_=>none
noncomputable def Kx (i:Int):String:=toString i
noncomputable def fmtV:Val→Option String
 |.str s=>some s
 |.int i=>if i.natAbs<10 ^ 200 then some (Kx i)else none
 |_=>none
noncomputable abbrev Hs:=Ad→Option Ob
@[irreducible] noncomputable def upd (h:Hs) (a:Ad) (o:Ob):Hs:=fun b=>if b=a then some o else h b
theorem upd_same{h:Hs}{a:Ad}{o:Ob}:upd h a o a=some o:=by simp[upd]
theorem upd_ne{h:Hs}{a b:Ad}{o:Ob}(e:b≠a):upd h a o b=h b:=by simp[upd,e]
theorem upd_upd{h:Hs}{a:Ad}{o u:Ob}:upd (upd h a o) a u=upd h a u:=by funext b;simp only[upd];split<;>rfl
noncomputable abbrev Env:=List (Option Val)
noncomputable abbrev Q1:=Val→Hs→Prop
noncomputable abbrev XQ:=String→Hs→Prop
noncomputable abbrev Fs:=String→List Val→Hs→Q1→XQ→Prop
noncomputable def lim:Nat:=1000000
@[irreducible] noncomputable def go {α:Type}(o:Option α) (k:α→Prop):Prop:=match o with|some a=>k a|none=>False
@[simp] theorem go_some{α:Type}{a:α}{k:α→Prop}:go (some a) k=k a:=by unfold go;rfl
@[simp] theorem Ev{α:Type}{k:α→Prop}:go none k=False:=by unfold go;rfl
theorem go_of{α:Type}{o:Option α}{a:α}{k:α→Prop}(e:o=some a)(h:k a):go o k:=by rw[e,go_some];exact h
inductive Bop where|add|sub|mul|fdiv|mod|pow
inductive Cop where|eq|ne|lt|le|gt|ge|isin|notin|is|isnot
inductive Bi where
 |len|int|str|bool|abs|min2|max2|minL|maxL|minD|sum|all|sorted|sortedSet|lenSet|list|tuple|dict|isi (Ts:List String)|isx (Ts:List String)|repr|listRev|listRange|dictEnum
inductive Bm where
 |append|extend|pop|popAt|insert|remove|clear|reverse|index|count|dget|dgetD|dpop|dpopD|setdefault|join|split|replace|upper|partition|sidx
inductive Pt where|one (i:Nat)|many (is:List Nat)|nest (i:Nat) (is:List Nat)
mutual
inductive E where
 |cst (v:Val)|var (i:Nat)|glob (x:String) (v:Val)
 |bin (op:Bop) (a b:E)|neg (a:E)|not (a:E)|and (a b:E)|or (a b:E)
 |cmp (op:Cop) (a b:E)|chain (o1 o2:Cop) (a b c:E)
 |call (f:String) (as:Es)|make (C:String) (as:Es)|meth (C m:String) (o:E) (as:Es)|fld (o:E) (f:String)
 |bi (f:Bi) (as:Es)|bm (m:Bm) (o:E) (as:Es)
 |idx (a i:E)|slc (a:E) (lo hi:Oe)|rev (a:E)
 |tup (es:Es)|lst (es:Es)|dct (es:Es)
 |ife (c:Tt) (a b:E)
 |comp (caps:List Nat) (n:Nat) (p:Pt) (it:It) (c:Tt) (e:E)
 |fstr (es:Es)
 |split (o a:E)
 |repl (o:E) (y z:String)
inductive Es where|nil|cons (e:E) (es:Es)
inductive Oe where|none|some (e:E)
inductive Tt where|yes|val (e:E)|not (t:Tt)|and (a b:Tt)|or (a b:Tt)
inductive It where
 |seq (e:E)|chars (e:E)|range (a:E)|range2 (a b:E)|enum (e:E)|zip (a b:E)|items (e:E)|rev (e:E)
end
mutual
inductive S where
 |set (p:Pt) (e:E)|setIdx (a i e:E)|setFld (o:E) (f:String) (e:E)
 |augVar (i:Nat) (op:Bop) (e:E)|augFld (o:E) (f:String) (op:Bop) (n:Int)|augIdx (a i:E) (op:Bop) (n:Int)
 |setPair (a i b j e:E)
 |expr (e:E)|ret (e:E)|retN|ite (c:Tt) (a b:Ss)|whl (c:Tt) (b:Ss)|for (p:Pt) (it:It) (b:Ss)|forI (k:Bool) (p:Pt) (e:E) (b:Ss)
 |never|brk|cnt|pass|raise (C:String) (as:Es)|try (t:Option Nat) (e:E) (hs:Hn)
inductive Ss where|nil|cons (s:S) (ss:Ss)
inductive Hn where|nil|cons (C:String) (n:Option Nat) (b:Ss) (r:Hn)
end
noncomputable def ixN (n:Nat) (i:Int):Option Nat:=if 0≤i then(if i<n then some i.toNat else none)else if -(n:Int)≤i then some (i+n).toNat else none
noncomputable def atI {α:Type}(xs:List α) (i:Int):Option α:=(ixN xs.length i).bind fun j=>xs[j]?
noncomputable def cutAt (n d:Nat):Option Int→Nat
 |none=>d
 |some i=>if 0≤i then min i.toNat n else(i+n).toNat
noncomputable def cut {α:Type}(xs:List α) (lo hi:Option Int):List α:=(xs.drop (cutAt xs.length 0 lo)).take (cutAt xs.length xs.length hi - cutAt xs.length 0 lo)
noncomputable def lsOf:Option Ob→Option (List Val)
 |some (.lst xs)=>some xs
 |_=>none
noncomputable def Yc (h:Hs):Val→Option (List Val)
 |.ref a=>lsOf (h a)
 |.tup xs=>some xs
 |.scr ns=>some (ns.map .int)
 |_=>none
noncomputable def Ja:Option Ob→Option (List (Val×Val))
 |some (.dct kvs)=>some kvs
 |_=>none
noncomputable def lookK (kvs:List (Val×Val)) (k:Val):Option Val:=(kvs.find? fun p=>p.1==k).map (·.2)
noncomputable def hasK (kvs:List (Val×Val)) (k:Val):Bool:=kvs.any fun p=>p.1==k
noncomputable def putK (kvs:List (Val×Val)) (k v:Val):List (Val×Val):=if hasK kvs k then kvs.map fun p=>if p.1==k then(k,v)else p else kvs++[(k,v)]
noncomputable def dropK (kvs:List (Val×Val)) (k:Val):List (Val×Val):=kvs.filter fun p=>!(p.1==k)
noncomputable def isKey:Val→Bool
 |.int _=>true
 |.str _=>true
 |_=>false
inductive D where
 |non|bl (b:Bool)|int (i:Int)|str (s:String)|tup (ds:List D)|lst (ds:List D)
 deriving Inhabited
mutual
noncomputable def D.eqv:D→D→Bool
 |.non,.non=>true
 |.bl a,.bl b=>a==b
 |.bl a,.int i=>(if a then 1 else 0)==i
 |.int i,.bl a=>i==(if a then 1 else 0)
 |.int a,.int b=>a==b
 |.str a,.str b=>a==b
 |.tup a,.tup b=>D.eqvs a b
 |.lst a,.lst b=>D.eqvs a b
 |_,_=>false
noncomputable def D.eqvs:List D→List D→Bool
 |[],[]=>true
 |x::xs,y::ys=>D.eqv x y&&D.eqvs xs ys
 |_,_=>false
end
noncomputable def dat (h:Hs):Nat→Val→Option D
 |_,.non=>some .non
 |_,.bl b=>some (.bl b)
 |_,.int i=>some (.int i)
 |_,.str s=>some (.str s)
 |0,_=>none
 |n+1,.tup xs=>(xs.mapM (dat h n)).map .tup
 |n+1,.ref a=>(lsOf (h a)).bind fun xs=>(xs.mapM (dat h n)).map .lst
 |n+1,.scr ns=>some (.lst (ns.map .int))
noncomputable def deep:Nat:=12
noncomputable def eqV (h:Hs) (v u:Val):Option Bool:=(dat h deep v).bind fun d=>(dat h deep u).map fun e=>D.eqv d e
noncomputable def intsOf:List Val→Option (List Int)
 |[]=>some []
 |.int i::xs=>(intsOf xs).map (i :: ·)
 |_=>none
noncomputable def lexI:List Int→List Int→Bool
 |[],[]=>false
 |[],_::_=>true
 |_::_,[]=>false
 |x::xs,y::ys=>if x=y then lexI xs ys else decide (x<y)
noncomputable def ltV:Val→Val→Option Bool
 |.int i,.int j=>some (decide (i<j))
 |.tup xs,.tup ys=>(intsOf xs).bind fun ns=>(intsOf ys).map fun ms=>lexI ns ms
 |_,_=>none
noncomputable def inL (h:Hs) (x:Val) (ys:List Val):Option Bool:=(dat h deep x).bind fun d=>(ys.mapM (dat h (deep - 1))).map fun ds=>ds.any fun e=>D.eqv e d
noncomputable def leV:Val→Val→Option Bool
 |.int i,.int j=>some (decide (i≤j))
 |_,_=>none
noncomputable def inV (h:Hs) (v u:Val):Option Bool:=match u with
 |.tup xs=>inL h v xs
 |.ref a=>match h a with
  |some (.lst xs)=>inL h v xs
  |some (.dct kvs)=>if isKey v then some (hasK kvs v)else none
  |_=>none
 |.str t=>(match v with|.str s=>(oneC s).map fun c=>decide (c∈t.toList)|_=>none)
 |_=>none
noncomputable def isV (v u:Val):Option Bool:=match u with
 |.non=>some (decide (v=.non))
 |.bl b=>some (decide (v=.bl b))
 |_=>none
noncomputable def cmpV (h:Hs) (op:Cop) (v u:Val):Option Bool:=match op with
 |.eq=>eqV h v u
 |.ne=>(eqV h v u).map (!·)
 |.lt=>ltV v u
 |.gt=>ltV u v
 |.le=>leV v u
 |.ge=>leV u v
 |.isin=>inV h v u
 |.notin=>(inV h v u).map (!·)
 |.is=>isV v u
 |.isnot=>(isV v u).map (!·)
noncomputable def Yk (h:Hs):Val→Option Bool
 |.bl b=>some b
 |.int i=>some (decide (i≠0))
 |.non=>some false
 |.str s=>if s.length≤lim then some (decide (s.length≠0))else none
 |.tup xs=>some (!xs.isEmpty)
 |.scr ns=>some (!ns.isEmpty)
 |.ref a=>match h a with
  |some (.lst xs)=>some (!xs.isEmpty)
  |some (.dct kvs)=>some (!kvs.isEmpty)
  |_=>none
noncomputable def mulOk (i j:Int):Prop:=(i.natAbs<2 ^ 64∨j.natAbs<2 ^ 64)∨(i.natAbs≤10 ^ 200∧j.natAbs≤10 ^ 200)
instance (i j:Int):Decidable (mulOk i j):=inferInstanceAs (Decidable (_∨_))
@[irreducible] noncomputable def new (h:Hs) (o:Ob) (Q:Q1):Prop:=∀ p,h p=none→Q (.ref p) (upd h p o)
theorem YC{h:Hs}{o:Ob}{Q:Q1}(q:∀ p,h p=none→Q (.ref p) (upd h p o)):new h o Q:=by unfold new;exact q
inductive Rs where|val (v:Val)|new (o:Ob)|no
@[irreducible] noncomputable def Rs.wp (r:Rs) (h:Hs) (Q:Q1):Prop:=match r with|.val v=>Q v h|.new o=>Own.new h o Q|.no=>False
@[simp] theorem Rs.wp_val{v:Val}{h:Hs}{Q:Q1}:(Rs.val v).wp h Q=Q v h:=by unfold Rs.wp;rfl
@[simp] theorem Rs.wp_new{o:Ob}{h:Hs}{Q:Q1}:(Rs.new o).wp h Q=Own.new h o Q:=by unfold Rs.wp;rfl
@[simp] theorem Rs.wp_no{h:Hs}{Q:Q1}:Rs.no.wp h Q=False:=by unfold Rs.wp;rfl
noncomputable def Rs.ofO:Option Val→Rs
 |some v=>.val v
 |none=>.no
noncomputable def Rs.lst (xs:List Val):Rs:=if xs.length≤lim then .new (.lst xs)else .no
noncomputable def addV (h:Hs):Val→Val→Rs
 |.int i,.int j=>.val (.int (i+j))
 |.str s,.str t=>if s.length+t.length≤lim then .val (.str (s++t))else .no
 |.tup xs,.tup ys=>if xs.length+ys.length≤lim then .val (.tup (xs++ys))else .no
 |.ref a,.ref b=>match h a,h b with
  |some (.lst xs),some (.lst ys)=>Rs.lst (xs++ys)
  |_,_=>.no
 |_,_=>.no
noncomputable def repT (s:String) (n:Nat):String:=String.ofList (List.replicate n s.toList).flatten
noncomputable def mulV (h:Hs):Val→Val→Rs
 |.int i,.int j=>if mulOk i j then .val (.int (i*j))else .no
 |.ref a,.int k=>match h a with
  |some (.lst xs)=>if -(2 ^ 62)<k∧k<2 ^ 62∧xs.length*k.toNat≤lim then Rs.lst (List.replicate k.toNat xs).flatten else .no
  |_=>.no
 |.str s,.int k=>if 2≤k∧k≤1000000∧1≤s.length∧s.length*k.toNat≤lim then .val (.str (repT s k.toNat))else .no
 |_,_=>.no
noncomputable def intV (f:Int→Int→Rs):Val→Val→Rs
 |.int i,.int j=>f i j
 |_,_=>.no
noncomputable def binV (h:Hs) (op:Bop) (v u:Val):Rs:=match op with
 |.add=>addV h v u
 |.sub=>intV (fun i j=>.val (.int (i - j))) v u
 |.mul=>mulV h v u
 |.fdiv=>intV (fun i j=>if 0<j∧j<1073741824 then .val (.int (i / j))else .no) v u
 |.mod=>intV (fun i j=>if 0<j then .val (.int (i % j))else .no) v u
 |.pow=>intV (fun i j=>if 0≤j∧j≤1000000∧i.natAbs<2 ^ 64 then .val (.int (i ^ j.toNat))else .no) v u
noncomputable def asInt:Val→Option Int
 |.int i=>some i
 |_=>none
noncomputable def idxV (h:Hs):Val→Val→Option Val
 |.tup xs,.int k=>atI xs k
 |.str s,.int k=>if s.length≤lim then(atI s.toList k).map fun c=>.str (String.singleton c)else none
 |.ref a,k=>match h a with
  |some (.lst xs)=>(asInt k).bind (atI xs)
  |some (.dct kvs)=>if isKey k then lookK kvs k else none
  |some (.frz kvs)=>if isKey k then lookK kvs k else none
  |_=>none
 |.scr ns,.int i=>atI (ns.map .int) i
 |_,_=>none
noncomputable def slcV (h:Hs) (v:Val) (lo hi:Option Int):Rs :=
 match v with
 |.tup xs=>if cutAt xs.length 0 lo=0∧cutAt xs.length xs.length hi=xs.length then .no else .val (.tup (cut xs lo hi))
 |.ref a=>match lsOf (h a)with
  |some xs=>.new (.lst (cut xs lo hi))
  |none=>.no
 |.scr ns=>.new (.lst (cut (ns.map .int) lo hi))
 |.str s=>if s.length≤lim then .val (.str (String.ofList (cut s.toList lo hi)))else .no
 |_=>.no
noncomputable def sortI (ns:List Int):List Int:=ns.mergeSort fun a b=>decide (a≤b)
noncomputable def blsOf:List Val→Option (List Bool)
 |[]=>some []
 |.bl b::xs=>(blsOf xs).map (b :: ·)
 |_=>none
noncomputable def minL:List Val→Option Val
 |[]=>none
 |x::xs=>xs.foldl (fun m y=>m.bind fun b=>(ltV y b).map fun c=>if c then y else b) (some x)
noncomputable def maxL:List Val→Option Val
 |[]=>none
 |x::xs=>xs.foldl (fun m y=>m.bind fun b=>(ltV b y).map fun c=>if c then y else b) (some x)
noncomputable def ME:List Int→List Int
 |[]=>[]
 |x::xs=>x::(ME xs).filter (· != x)
noncomputable def Dg:List String:=["NoNet","NoLetter","NoDeed","NoFrame","NoOrder","NoLine","NoCommand"]
noncomputable def excSub (c d:String):Bool:=c==d||d == "ShutError" || d == "ValueError" || d == "Exception"
noncomputable def kindV (h:Hs):Val→Option String
 |.non=>some "NoneType"
 |.bl _=>some "bool"
 |.int _=>some "int"
 |.str _=>some "str"
 |.tup _=>some "tuple"
 |.scr _=>some "list"
 |.ref a=>match h a with
  |some (.lst _)=>some "list"
  |some (.dct _)=>some "dict"
  |_=>none
noncomputable def isiV (h:Hs) (v:Val) (T:String):Option Bool:=(kindV h v).map fun t=>t==T||(t == "bool" && T == "int")
noncomputable def C5:Option Ob→Option String
 |some (.exc c)=>some c
 |_=>none
noncomputable def Fx (h:Hs):Val→Option String
 |.ref a=>C5 (h a)
 |_=>none
noncomputable def isiAny (h:Hs) (v:Val):List String→Option Bool
 |[]=>some false
 |T::Ts=>(isiV h v T).bind fun b=>(isiAny h v Ts).map (b || ·)
noncomputable def Kl (h:Hs):List Val→Option (List (Val×Val))
 |[]=>some []
 |v::vs=>match v with
  |.tup [k,x]=>if isKey k then(Kl h vs).map ((k,x) :: ·)else none
  |_=>none
noncomputable def pairUp:List Val→Option (List (Val×Val))
 |[]=>some []
 |k::v::r=>if isKey k then(pairUp r).map ((k,v) :: ·)else none
 |_=>none
noncomputable def putAll (kvs:List (Val×Val)):List (Val×Val)→List (Val×Val)
 |[]=>kvs
 |(k,v)::r=>putAll (putK kvs k v) r
noncomputable def lenV (h:Hs):Val→Rs
 |.ref a=>match h a with
  |some (.lst xs)=>.val (.int xs.length)
  |some (.dct kvs)=>.val (.int kvs.length)
  |_=>.no
 |.tup xs=>.val (.int xs.length)
 |.scr ns=>.val (.int ns.length)
 |.str s=>if s.length≤lim then .val (.int s.length)else .no
 |_=>.no
noncomputable def Eb:Val→Rs
 |.int i=>.val (.int i)
 |.bl b=>.val (.int (if b then 1 else 0))
 |.str s=>if s.length≤640∧s.toList≠[]∧s.toList.all figB=true then .val (.int (decN s.toList))else .no
 |_=>.no
noncomputable def BH:Val→Rs
 |.bl b=>.val (.bl b)
 |_=>.no
noncomputable def Ci:Val→Rs
 |.str s=>.val (.str s)
 |.int i=>if i.natAbs<10 ^ 200 then .val (.str (Kx i))else .no
 |_=>.no
noncomputable def absV:Val→Rs
 |.int i=>.val (.int (if i<0 then -i else i))
 |_=>.no
noncomputable def biOf1 (f:Val→Rs):List Val→Rs
 |[v]=>f v
 |_=>.no
noncomputable def UE (f:Val→Val→Rs):List Val→Rs
 |[v,u]=>f v u
 |_=>.no
noncomputable def JE:List Val→Option (List (List Int))
 |[]=>some []
 |.tup xs::r=>(intsOf xs).bind fun ns=>(JE r).map (ns :: ·)
 |_=>none
noncomputable def DN (b:List Int):List (List Int)→List Int
 |[]=>b
 |y::r=>DN (if lexI y b then y else b) r
noncomputable def AW (h:Hs) (v:Val):Rs:=match v with
 |.ref a=>match (lsOf (h a)).bind JE with
  |some []=>.val .non
  |some (x::r)=>.val (.tup ((DN x r).map .int))
  |none=>.no
 |_=>.no
noncomputable def EK (h:Hs):Val→Rs
 |.ref a=>.ofO ((lsOf (h a)).bind fun xs=>(blsOf xs).map fun bs=>.bl (bs.all id))
 |_=>.no
noncomputable def Ex (h:Hs):Val→Option (List Val)
 |.ref a=>match lsOf (h a)with
  |some xs=>some xs
  |none=>(Ja (h a)).map fun kvs=>kvs.map (·.1)
 |.tup xs=>some xs
 |.scr ns=>some (ns.map .int)
 |_=>none
noncomputable def NM (h:Hs):Val→Option (List Int)
 |.ref a=>(lsOf (h a)).bind intsOf
 |.scr ns=>some ns
 |_=>none
noncomputable def AM (kvs:List (Val×Val)):Option (List Int):=intsOf (kvs.map (·.1))
noncomputable def O5 (h:Hs) (v:Val):Option (List Int):=match v with
 |.ref a=>match h a with
  |some (.lst xs)=>intsOf xs
  |some (.dct kvs)=>AM kvs
  |_=>none
 |.scr ns=>some ns
 |_=>none
noncomputable def Ec (rows:List (List Int)):List (List Int):=rows.mergeSort fun a b=>!lexI b a
noncomputable def Bc (h:Hs) (v:Val):Option (List (List Int)):=match v with
 |.ref a=>(lsOf (h a)).bind JE
 |_=>none
noncomputable def KS (h:Hs) (v:Val):Rs:=match Bc h v with
 |some rows=>if rows.length<64∧(rows.all fun r=>!r.isEmpty)=true then .new (.lst ((Ec rows).map fun r=>.tup (r.map .int)))else .no
 |none=>.no
noncomputable def No (h:Hs) (v:Val):Rs:=match O5 h v with
 |some ns=>if ns.length<64 then .new (.lst ((sortI ns).map .int))else .no
 |none=>KS h v
noncomputable def WV (h:Hs) (v:Val):Rs:=match NM h v with
 |some ns=>if ns.length<64 then .new (.lst ((sortI (ME ns)).map .int))else .no
 |none=>.no
noncomputable def MW (h:Hs) (v:Val):Rs:=match NM h v with
 |some ns=>if ns.length<4000 then .val (.int (ME ns).length)else .no
 |none=>.no
noncomputable def toList (h:Hs):Val→Rs
 |.ref a=>match h a with
  |some (.lst xs)=>.new (.lst xs)
  |_=>.no
 |.tup xs=>.new (.lst xs)
 |_=>.no
noncomputable def WN (h:Hs):Val→Rs
 |.ref a=>match h a with
  |some (.lst xs)=>.val (.tup xs)
  |_=>.no
 |.tup xs=>.val (.tup xs)
 |_=>.no
noncomputable def AB (h:Hs):Val→Rs
 |.ref a=>match h a with
  |some (.dct kvs)=>.new (.dct kvs)
  |some (.lst xs)=>match Kl h xs with
   |some kvs=>.new (.dct (putAll [] kvs))
   |none=>.no
  |_=>.no
 |_=>.no
noncomputable def enumK:Nat→List Val→List (Val×Val)
 |_,[]=>[]
 |k,x::xs=>(.int (k:Nat),x)::enumK (k+1) xs
noncomputable def toDictE:Val→Rs
 |.tup xs=>.new (.dct (enumK 0 xs))
 |_=>.no
noncomputable def EJ:List Int→Int
 |[]=>0
 |x::r=>r.foldl (fun a b=>if b<a then b else a) x
noncomputable def E9:List Int→Int
 |[]=>0
 |x::r=>r.foldl (fun a b=>if b > a then b else a) x
noncomputable def NJ (h:Hs):Val→Option (List Int)
 |.ref a=>(lsOf (h a)).bind intsOf
 |_=>none
noncomputable def Ah:Val→Option (Int×Int)
 |.tup [.int i,.int j]=>some (i,j)
 |_=>none
noncomputable def K9 (h:Hs) (v:Val):Rs:=match Yc h v with
 |some xs=>.new (.lst xs.reverse)
 |none=>.no
noncomputable def BR:Val→Rs
 |.int k=>if 0≤k∧k≤1000 then .new (.lst ((List.range k.toNat).map fun n=>.int (n:Nat)))else .no
 |_=>.no
noncomputable def Cf (h:Hs) (v:Val):Rs:=match Ah v with
 |some p=>.val (.int (if p.2<p.1 then p.2 else p.1))
 |none=>match NJ h v with
  |some (x::r)=>.val (.int (EJ (x::r)))
  |_=>.no
noncomputable def Ak (h:Hs) (v:Val):Rs:=match Ah v with
 |some p=>.val (.int (if p.2 > p.1 then p.2 else p.1))
 |none=>match NJ h v with
  |some (x::r)=>.val (.int (E9 (x::r)))
  |_=>.no
noncomputable def biV (h:Hs) (b:Bi) (vs:List Val):Rs:=match b with
 |.len=>biOf1 (lenV h) vs
 |.int=>biOf1 Eb vs
 |.str=>biOf1 Ci vs
 |.bool=>biOf1 BH vs
 |.abs=>biOf1 absV vs
 |.min2=>UE (intV fun i j=>.val (.int (if j<i then j else i))) vs
 |.max2=>UE (intV fun i j=>.val (.int (if j > i then j else i))) vs
 |.minL=>biOf1 (Cf h) vs
 |.maxL=>biOf1 (Ak h) vs
 |.minD=>biOf1 (AW h) vs
 |.sum=>biOf1 (fun v=>.ofO ((Yc h v).bind fun xs=>(intsOf xs).map fun ns=>.int ns.sum)) vs
 |.all=>biOf1 (EK h) vs
 |.sorted=>biOf1 (No h) vs
 |.sortedSet=>biOf1 (WV h) vs
 |.lenSet=>biOf1 (MW h) vs
 |.list=>biOf1 (toList h) vs
 |.tuple=>biOf1 (WN h) vs
 |.dict=>biOf1 (AB h) vs
 |.isi Ts=>biOf1 (fun v=>.ofO ((isiAny h v Ts).map .bl)) vs
 |.isx Ts=>biOf1 (fun v=>.ofO ((Fx h v).map fun c=>.bl (Ts.any (excSub c)))) vs
 |.repr=>.no
 |.listRev=>biOf1 (K9 h) vs
 |.listRange=>biOf1 BR vs
 |.dictEnum=>biOf1 toDictE vs
noncomputable def bmL (h:Hs) (v:Val) (f:Ad→List Val→Option (Val×Hs)):Option (Val×Hs):=match v with
 |.ref a=>(lsOf (h a)).bind (f a)
 |_=>none
noncomputable def bmD (h:Hs) (v:Val) (f:Ad→List (Val×Val)→Option (Val×Hs)):Option (Val×Hs):=match v with
 |.ref a=>(Ja (h a)).bind (f a)
 |_=>none
noncomputable def NS (h:Hs) (vs:List Val) (a:Ad) (xs:List Val):Option (Val×Hs):=match vs with
 |[v]=>if xs.length<lim then some (.non,upd h a (.lst (xs++[v])))else none
 |_=>none
noncomputable def NL (h:Hs) (vs:List Val) (a:Ad) (xs:List Val):Option (Val×Hs):=match vs with
 |[.ref b]=>(lsOf (h b)).bind fun ys=>if xs.length+ys.length≤lim then some (.non,upd h a (.lst (xs++ys)))else none
 |_=>none
noncomputable def DL (h:Hs) (vs:List Val) (a:Ad) (xs:List Val):Option (Val×Hs):=match vs with
 |[]=>(xs[xs.length - 1]?).map fun v=>(v,upd h a (.lst xs.dropLast))
 |_=>none
noncomputable def Oy (h:Hs) (vs:List Val) (a:Ad) (xs:List Val):Option (Val×Hs):=match vs with
 |[.int i]=>if -(2 ^ 62)<i∧i<2 ^ 62 then(ixN xs.length i).bind fun k=>(xs[k]?).map fun v=>(v,upd h a (.lst (xs.eraseIdx k)))else none
 |_=>none
noncomputable def Nc (h:Hs) (vs:List Val) (a:Ad) (xs:List Val):Option (Val×Hs):=match vs with
 |[.int i,v]=>if 0≤i∧i≤xs.length∧xs.length<lim then some (.non,upd h a (.lst (xs.take i.toNat++v::xs.drop i.toNat)))else none
 |_=>none
noncomputable def N3 (h:Hs) (vs:List Val) (a:Ad) (xs:List Val):Option (Val×Hs):=match vs with
 |[.int i]=>(intsOf xs).bind fun ns=>if i∈ns then some (.non,upd h a (.lst ((ns.erase i).map .int)))else none
 |_=>none
noncomputable def OI (h:Hs) (vs:List Val) (a:Ad) (xs:List Val):Option (Val×Hs):=match vs with
 |[]=>some (.non,upd h a (.lst []))
 |_=>none
noncomputable def Mn (h:Hs) (vs:List Val) (a:Ad) (xs:List Val):Option (Val×Hs):=match vs with
 |[]=>some (.non,upd h a (.lst xs.reverse))
 |_=>none
noncomputable def Cb (h:Hs) (v:Val) (vs:List Val):Option (Val×Hs):=match v,vs with
 |.str sep,[.ref a]=>(lsOf (h a)).bind fun xs=>(Oc xs).bind fun ss=>if(ss.map String.length).sum+ss.length*sep.length≤lim then some (.str (UH sep ss),h)else none
 |_,_=>none
noncomputable def O1 (h:Hs) (v:Val) (vs:List Val):Option (Val×Hs):=match vs with
 |[.int i]=>((Yc h v).bind intsOf).bind fun ns=>if i∈ns then some (.int (ns.idxOf i),h)else none
 |_=>none
noncomputable def Dj (h:Hs) (vs:List Val) (a:Ad) (kvs:List (Val×Val)):Option (Val×Hs):=match vs with
 |[k]=>if isKey k then some ((lookK kvs k).getD .non,h)else none
 |_=>none
noncomputable def Bj (h:Hs) (vs:List Val) (a:Ad) (kvs:List (Val×Val)):Option (Val×Hs):=match vs with
 |[k,d]=>if isKey k then some ((lookK kvs k).getD d,h)else none
 |_=>none
noncomputable def BY (h:Hs) (vs:List Val) (a:Ad) (kvs:List (Val×Val)):Option (Val×Hs):=match vs with
 |[k]=>if isKey k then(lookK kvs k).map fun v=>(v,upd h a (.dct (dropK kvs k)))else none
 |_=>none
noncomputable def O4 (h:Hs) (vs:List Val) (a:Ad) (kvs:List (Val×Val)):Option (Val×Hs):=match vs with
 |[k,d]=>if isKey k then some ((lookK kvs k).getD d,upd h a (.dct (dropK kvs k)))else none
 |_=>none
noncomputable def Ba (h:Hs) (v:Val) (vs:List Val):Option (Val×Hs):=match v,vs with
 |.str t,[.str s]=>if t = "0123456789" then(oneC s).bind fun c=>if figB c=true then some (.int ((c.toNat - 48:Nat):Int),h)else none else none
 |_,_=>none
noncomputable def bmV (h:Hs) (m:Bm) (v:Val) (vs:List Val):Option (Val×Hs):=match m with
 |.append=>bmL h v (NS h vs)
 |.extend=>bmL h v (NL h vs)
 |.pop=>bmL h v (DL h vs)
 |.popAt=>bmL h v (Oy h vs)
 |.insert=>bmL h v (Nc h vs)
 |.remove=>bmL h v (N3 h vs)
 |.clear=>bmL h v (OI h vs)
 |.reverse=>bmL h v (Mn h vs)
 |.index=>O1 h v vs
 |.join=>Cb h v vs
 |.sidx=>Ba h v vs
 |.dget=>bmD h v (Dj h vs)
 |.dgetD=>bmD h v (Bj h vs)
 |.dpop=>bmD h v (BY h vs)
 |.dpopD=>bmD h v (O4 h vs)
 |.count=>none
 |.setdefault=>none
 |.split=>none
 |.replace=>none
 |.upper=>none
 |.partition=>none
noncomputable def M4:Option Ob→Bool
 |some (.lst _)=>true
 |_=>false
noncomputable def UC:Option Ob→Bool
 |some (.dct _)=>true
 |_=>false
inductive Ty where|l|d|s|t
noncomputable def Bm.ty:Bm→Ty
 |.dget=>.d
 |.dgetD=>.d
 |.dpop=>.d
 |.dpopD=>.d
 |.setdefault=>.d
 |.join=>.s
 |.split=>.s
 |.replace=>.s
 |.upper=>.s
 |.partition=>.s
 |.sidx=>.s
 |.index=>.t
 |_=>.l
noncomputable def Y7 (p:Option Ob→Bool) (h:Hs):Val→Bool
 |.ref a=>p (h a)
 |_=>false
noncomputable def AN:Val→Bool
 |.str _=>true
 |_=>false
noncomputable def BM:Val→Bool
 |.tup _=>true
 |_=>false
noncomputable def bmTy (h:Hs) (m:Bm) (v:Val):Bool:=match m.ty with
 |.l=>Y7 M4 h v
 |.d=>Y7 UC h v
 |.s=>AN v
 |.t=>Y7 M4 h v||BM v
noncomputable def putF:List (String×Val)→String→Val→List (String×Val)
 |[],f,v=>[(f,v)]
 |(g,x)::r,f,v=>if g=f then(g,v)::r else(g,x)::putF r f v
noncomputable def getV (env:Env) (i:Nat):Option Val:=match env[i]? with
 |some (some v)=>some v
 |_=>none
noncomputable def asBl:Val→Option Bool
 |.bl b=>some b
 |_=>none
noncomputable def ZP:Val→Option Ad
 |.ref a=>some a
 |_=>none
noncomputable def KD:Option Ob→Option (String×List (String×Val))
 |some (.ins C fs)=>some (C,fs)
 |_=>none
noncomputable def DQ:Val→Option (Val×Val)
 |.tup [x,y]=>some (x,y)
 |_=>none
noncomputable def XT:Val→Option (List Val)
 |.tup xs=>some xs
 |_=>none
noncomputable def bindL:List Nat→List Val→Env→Option Env
 |[],[],env=>some env
 |i::is,x::xs,env=>bindL is xs (env.set i (some x))
 |_,_,_=>none
noncomputable def bind (p:Pt) (h:Hs) (v:Val) (env:Env):Option Env :=
 match p with
 |.one i=>some (env.set i (some v))
 |.many is=>(XT v).bind fun xs=>bindL is xs env
 |.nest i is=>(XT v).bind fun xs=>match xs with
  |[x,y]=>(XT y).bind fun ys=>bindL is ys (env.set i (some x))
  |_=>none
noncomputable def wComp (st:Hs→Prop) (step:Val→Hs→(Option Val→Hs→Prop)→XQ→Prop):List Val→List Val→Hs→(List Val→Hs→Prop)→XQ→Prop
 |[],acc,h,Q,_=>st h∧Q acc h
 |v::vs,acc,h,Q,X=>st h∧step v h (fun r h'=>wComp st step vs (acc++r.toList) h' Q X) X
noncomputable def Na:Nat→List Val→List Val
 |_,[]=>[]
 |k,x::xs=>.tup [.int k,x]::Na (k+1) xs
noncomputable def BQ:List Val→List Val→List Val
 |x::xs,y::ys=>.tup [x,y]::BQ xs ys
 |_,_=>[]
noncomputable def DT (s:String):List Val:=s.toList.map fun c=>.str (String.singleton c)
noncomputable def itV (h:Hs):Val→Option ((Hs→Prop)×List Val)
 |.tup xs=>some (fun _=>True,xs)
 |.scr ns=>some (fun _=>True,ns.map .int)
 |.ref a=>(lsOf (h a)).map fun xs=>(fun g=>lsOf (g a)=some xs,xs)
 |_=>none
noncomputable def D0 (h:Hs):Val→Val→Option ((Hs→Prop)×List Val)
 |.tup xs,.tup ys=>some (fun _=>True,BQ xs ys)
 |.ref p,.ref q=>(lsOf (h p)).bind fun xs=>(lsOf (h q)).map fun ys=>(fun g=>lsOf (g p)=some xs∧lsOf (g q)=some ys,BQ xs ys)
 |_,_=>none
noncomputable def Np (k:Bool) (p:Val×Val):Val:=if k then p.1 else .tup [p.1,p.2]
noncomputable def rangeV (i j:Int):List Val:=(List.range (j - i).toNat).map fun(k:Nat)=>.int (i+k)
noncomputable def putV (h:Hs) (o k v:Val):Option Hs :=
 match o with
 |.ref p=>match h p with
  |some (.lst xs)=>(asInt k).bind fun n=>(ixN xs.length n).map fun j=>upd h p (.lst (xs.set j v))
  |some (.dct kvs)=>if isKey k∧kvs.length<lim then some (upd h p (.dct (putK kvs k v)))else none
  |_=>none
 |_=>none
noncomputable def Wb (h:Hs) (o:Val) (f:String) (v:Val):Option Hs :=
 match o with
 |.ref p=>match h p with
  |some (.ins C fs)=>if fs.length<900 then some (upd h p (.ins C (putF fs f v)))else none
  |_=>none
 |_=>none
noncomputable def KF (h:Hs) (o:Val) (f:String):Option Val:=(ZP o).bind fun a=>(KD (h a)).bind fun p=>p.2.lookup f
noncomputable def M8 (h:Hs) (o:Val) (m:String):Option String:=(ZP o).bind fun a=>(KD (h a)).bind fun p=>if(p.2.lookup m).isNone then some p.1 else none
noncomputable def Jl (op:Bop) (x y:Val):Option Val:=match op,x,y with
 |.add,.int i,.int j=>some (.int (i+j))
 |.sub,.int i,.int j=>some (.int (i - j))
 |_,_,_=>none
mutual
noncomputable def xE (Φ:Fs):E→Env→Hs→Q1→XQ→Prop
 |.cst v,_,h,Q,_=>Q v h
 |.glob _ v,_,h,Q,_=>Q v h
 |.var i,env,h,Q,_=>go (getV env i) fun v=>Q v h
 |.bin op a b,env,h,Q,X=>xE Φ a env h (fun v h1=>xE Φ b env h1 (fun u h2=>(binV h2 op v u).wp h2 Q) X) X
 |.neg a,env,h,Q,X=>xE Φ a env h (fun v h1=>go (asInt v) fun i=>Q (.int (-i)) h1) X
 |.not a,env,h,Q,X=>xE Φ a env h (fun v h1=>go (asBl v) fun b=>Q (.bl (!b)) h1) X
 |.and a b,env,h,Q,X=>xE Φ a env h (fun v h1=>go (asBl v) fun c=>if c=true then xE Φ b env h1 Q X else Q (.bl false) h1) X
 |.or a b,env,h,Q,X=>xE Φ a env h (fun v h1=>go (asBl v) fun c=>if c=true then Q (.bl true) h1 else xE Φ b env h1 Q X) X
 |.cmp op a b,env,h,Q,X=>xE Φ a env h (fun v h1=>xE Φ b env h1 (fun u h2=>go (cmpV h2 op v u) fun c=>Q (.bl c) h2) X) X
 | .chain o1 o2 a b c,env,h,Q,X=>xE Φ a env h (fun v h1=>xE Φ b env h1 (fun u h2=>go (cmpV h2 o1 v u) fun k =>
     if k=true then xE Φ c env h2 (fun w h3=>go (cmpV h3 o2 u w) fun k2=>Q (.bl k2) h3) X else Q (.bl false) h2) X) X
 |.call f as,env,h,Q,X=>xA Φ as env h (fun vs h1=>Φ f vs h1 Q X) X
 |.make C as,env,h,Q,X=>xA Φ as env h (fun vs h1=>∀ p,h1 p=none→Φ (C ++ ".__init__") (.ref p::vs) (upd h1 p (.ins C [])) (fun v h2=>v=.non∧Q (.ref p) h2) X) X
 |.meth C m o as,env,h,Q,X=>xE Φ o env h (fun v h1=>M8 h1 v m=some C∧xA Φ as env h1 (fun vs h2=>Φ (C ++ "." ++ m) (v::vs) h2 Q X) X) X
 |.fld o f,env,h,Q,X=>xE Φ o env h (fun v h1=>go (KF h1 v f) fun u=>Q u h1) X
 |.bi f as,env,h,Q,X=>xA Φ as env h (fun vs h1=>(biV h1 f vs).wp h1 Q) X
 |.bm m o as,env,h,Q,X=>xE Φ o env h (fun v h1=>bmTy h1 m v=true∧xA Φ as env h1 (fun vs h2=>go (bmV h2 m v vs) fun r=>Q r.1 r.2) X) X
 |.idx a i,env,h,Q,X=>xE Φ a env h (fun v h1=>xE Φ i env h1 (fun k h2=>go (idxV h2 v k) fun u=>Q u h2) X) X
 |.slc a lo hi,env,h,Q,X=>xE Φ a env h (fun v h1=>xO Φ lo env h1 (fun l h2=>xO Φ hi env h2 (fun u h3=>(slcV h3 v l u).wp h3 Q) X) X) X
 |.rev a,env,h,Q,X=>xE Φ a env h (fun v h1=>go (ZP v) fun p=>go (lsOf (h1 p)) fun xs=>new h1 (.lst xs.reverse) Q) X
 |.tup es,env,h,Q,X=>xA Φ es env h (fun vs h1=>Q (.tup vs) h1) X
 |.lst es,env,h,Q,X=>xA Φ es env h (fun vs h1=>new h1 (.lst vs) Q) X
 |.dct es,env,h,Q,X=>new h (.dct []) fun r h1=>go (ZP r) fun p=>xA Φ es env h1 (fun vs h2=>go (pairUp vs) fun kvs=>h2 p=some (.dct [])∧Q (.ref p) (upd h2 p (.dct (putAll [] kvs)))) X
 |.ife c a b,env,h,Q,X=>xT Φ c env h (fun k h1=>if k=true then xE Φ a env h1 Q X else xE Φ b env h1 Q X) X
 | .comp caps n p it c e,env,h,Q,X=>xI Φ it env h (fun st xs h1=>xs.length<lim∧
     wComp st (fun v h2 K X2=>go (bind p h2 v (List.replicate n none++caps.map fun j=>(env[j]?).getD none)) fun env2 =>
       xT Φ c env2 h2 (fun k h3=>if k=true then xE Φ e env2 h3 (fun u h4=>K (some u) h4) X2 else K none h3) X2) xs [] h1 (fun ys h5=>new h5 (.lst ys) Q) fun _ _=>False) X
 |.fstr es,env,h,Q,X=>xJ Φ es env h "" (fun s h1=>Q (.str s) h1) X
 |.split o a,env,h,Q,X=>xE Φ o env h (fun v h1=>go (YQ v) fun s=>xE Φ a env h1 (fun u h2=>go ((YQ u).bind oneC) fun c=>s.length+2≤lim∧new h2 (.lst ((Jx c s).map .str)) Q) X) X
 |.repl o y z,env,h,Q,X=>xE Φ o env h (fun v h1=>go (YQ v) fun s=>go (oneC y) fun c=>(s.length≤lim∧z.length≤8∧y≠z)∧Q (.str (UH z (Jx c s))) h1) X
noncomputable def xA (Φ:Fs):Es→Env→Hs→(List Val→Hs→Prop)→XQ→Prop
 |.nil,_,h,Q,_=>Q [] h
 |.cons e es,env,h,Q,X=>xE Φ e env h (fun v h1=>xA Φ es env h1 (fun vs h2=>Q (v::vs) h2) X) X
noncomputable def xJ (Φ:Fs):Es→Env→Hs→String→(String→Hs→Prop)→XQ→Prop
 |.nil,_,h,acc,Q,_=>Q acc h
 |.cons e es,env,h,acc,Q,X=>xE Φ e env h (fun v h1=>go (fmtV v) fun s=>acc.length+s.length≤lim∧xJ Φ es env h1 (acc++s) Q X) X
noncomputable def xO (Φ:Fs):Oe→Env→Hs→(Option Int→Hs→Prop)→XQ→Prop
 |.none,_,h,Q,_=>Q none h
 |.some e,env,h,Q,X=>xE Φ e env h (fun v h1=>go (asInt v) fun i=>Q (some i) h1) X
noncomputable def xT (Φ:Fs):Tt→Env→Hs→(Bool→Hs→Prop)→XQ→Prop
 |.yes,_,h,Q,_=>Q true h
 |.val e,env,h,Q,X=>xE Φ e env h (fun v h1=>go (Yk h1 v) fun k=>Q k h1) X
 |.not a,env,h,Q,X=>xT Φ a env h (fun k h1=>Q (!k) h1) X
 |.and a b,env,h,Q,X=>xT Φ a env h (fun k h1=>if k=true then xT Φ b env h1 Q X else Q false h1) X
 |.or a b,env,h,Q,X=>xT Φ a env h (fun k h1=>if k=true then Q true h1 else xT Φ b env h1 Q X) X
noncomputable def xI (Φ:Fs):It→Env→Hs→((Hs→Prop)→List Val→Hs→Prop)→XQ→Prop
 |.seq e,env,h,Q,X=>xE Φ e env h (fun v h1=>go (itV h1 v) fun p=>Q p.1 p.2 h1) X
 |.chars e,env,h,Q,X=>xE Φ e env h (fun v h1=>go (YQ v) fun s=>Q (fun _=>True) (DT s) h1) X
 |.range a,env,h,Q,X=>xE Φ a env h (fun v h1=>go (asInt v) fun n=>(-(2 ^ 62)≤n∧n<2 ^ 62)∧Q (fun _=>True) (rangeV 0 n) h1) X
 | .range2 a b,env,h,Q,X=>xE Φ a env h (fun v h1=>xE Φ b env h1 (fun u h2=>go (asInt v) fun i=>go (asInt u) fun j =>
     (-(2 ^ 62)≤i∧i<2 ^ 62∧-(2 ^ 62)≤j∧j<2 ^ 62)∧Q (fun _=>True) (rangeV i j) h2) X) X
 |.enum e,env,h,Q,X=>xE Φ e env h (fun v h1=>go (XT v) fun xs=>Q (fun _=>True) (Na 0 xs) h1) X
 |.zip a b,env,h,Q,X=>xE Φ a env h (fun v h1=>xE Φ b env h1 (fun u h2=>go (D0 h2 v u) fun p=>Q p.1 p.2 h2) X) X
 |.items e,env,h,Q,X=>xE Φ e env h (fun v h1=>go (ZP v) fun a=>go (Ja (h1 a)) fun kvs=>Q (fun g=>g a=some (.dct kvs)) (kvs.map fun p=>.tup [p.1,p.2]) h1) X
 |.rev e,env,h,Q,X=>xE Φ e env h (fun v h1=>go (Yc h1 v) fun xs=>Q (fun g=>Yc g v=some xs) xs.reverse h1) X
end
@[irreducible] noncomputable def wE:Fs→E→Env→Hs→Q1→XQ→Prop:=xE
@[irreducible] noncomputable def wA:Fs→Es→Env→Hs→(List Val→Hs→Prop)→XQ→Prop:=xA
@[irreducible] noncomputable def wJ:Fs→Es→Env→Hs→String→(String→Hs→Prop)→XQ→Prop:=xJ
theorem WZ:wJ=xJ:=by unfold wJ;rfl
@[irreducible] noncomputable def wO:Fs→Oe→Env→Hs→(Option Int→Hs→Prop)→XQ→Prop:=xO
@[irreducible] noncomputable def wT:Fs→Tt→Env→Hs→(Bool→Hs→Prop)→XQ→Prop:=xT
@[irreducible] noncomputable def wI:Fs→It→Env→Hs→((Hs→Prop)→List Val→Hs→Prop)→XQ→Prop:=xI
theorem wE_eq:wE=xE:=by unfold wE;rfl
theorem Zd:wA=xA:=by unfold wA;rfl
theorem Zb:wO=xO:=by unfold wO;rfl
theorem Za:wT=xT:=by unfold wT;rfl
theorem Zc:wI=xI:=by unfold wI;rfl
noncomputable abbrev NQ:=Env→Hs→Prop
noncomputable abbrev EQ:=Env→String→Hs→Prop
noncomputable def wFor (st:Hs→Prop) (W:Val→Env→Hs→NQ→NQ→Prop) (N:NQ):List Val→Env→Hs→Prop
 |[],env,h=>st h∧N env h
 |v::vs,env,h=>st h∧W v env h (fun e g=>wFor st W N vs e g) N
noncomputable def JU (T:Env→Hs→(Bool→Hs→Prop)→Prop) (W:Env→Hs→NQ→NQ→Prop) (N:NQ):Nat→Env→Hs→Prop
 |0,_,_=>False
 |n+1,env,h=>T env h fun k h1=>if k=true then W env h1 (fun e g=>JU T W N n e g) N else N env h1
noncomputable def wC (Φ:Fs):E→Env→Hs→Q1→XQ→Prop
 |.call f as,env,h,Q,X=>wA Φ as env h (fun vs h1=>Φ f vs h1 Q X) fun _ _=>False
 |.meth C m o as,env,h,Q,X=>wE Φ o env h (fun v h1=>M8 h1 v m=some C∧wA Φ as env h1 (fun vs h2=>Φ (C ++ "." ++ m) (v::vs) h2 Q X) fun _ _=>False) fun _ _=>False
 |_,_,_,_,_=>False
noncomputable def NR (env:Env):Option Nat→Val→Env
 |none,_=>env
 |some j,v=>env.set j (some v)
mutual
noncomputable def xS (Φ:Fs):S→Env→Hs→NQ→Q1→NQ→NQ→EQ→Prop
 |.set p e,env,h,N,_,_,_,X=>wE Φ e env h (fun v h1=>go (bind p h1 v env) fun env2=>N env2 h1) (X env)
 |.setIdx a i e,env,h,N,_,_,_,X=>wE Φ e env h (fun v h1=>wE Φ a env h1 (fun o h2=>wE Φ i env h2 (fun k h3=>go (putV h3 o k v) fun g=>N env g) (X env)) (X env)) (X env)
 |.setFld o f e,env,h,N,_,_,_,X=>wE Φ e env h (fun v h1=>wE Φ o env h1 (fun u h2=>go (Wb h2 u f v) fun g=>N env g) (X env)) (X env)
 |.augVar i op e,env,h,N,_,_,_,X=>go (getV env i) fun x=>wE Φ e env h (fun v h1=>go (Jl op x v) fun y=>N (env.set i (some y)) h1) (X env)
 |.augFld o f op n,env,h,N,_,_,_,X=>wE Φ o env h (fun u h1=>go (KF h1 u f) fun x=>go (Jl op x (.int n)) fun y=>go (Wb h1 u f y) fun g=>N env g) (X env)
 |.augIdx a i op n,env,h,N,_,_,_,X=>wE Φ a env h (fun o h1=>wE Φ i env h1 (fun k h2=>go (idxV h2 o k) fun x=>go (Jl op x (.int n)) fun y=>go (putV h2 o k y) fun g=>N env g) (X env)) (X env)
 | .setPair a i b j e,env,h,N,_,_,_,X=>wE Φ e env h (fun v h1=>go (DQ v) fun p=>wE Φ a env h1 (fun o h2=>wE Φ i env h2 (fun k h3=>go (putV h3 o k p.1) fun g =>
     wE Φ b env g (fun o2 h4=>wE Φ j env h4 (fun k2 h5=>go (putV h5 o2 k2 p.2) fun g2=>N env g2) (X env)) (X env)) (X env)) (X env)) (X env)
 |.expr e,env,h,N,_,_,_,X=>wE Φ e env h (fun _ h1=>N env h1) (X env)
 |.ret e,env,h,_,R,_,_,X=>wE Φ e env h R (X env)
 |.retN,_,h,_,R,_,_,_=>R .non h
 |.ite c a b,env,h,N,R,B,C,X=>wT Φ c env h (fun k h1=>if k=true then xSs Φ a env h1 N R B C X else xSs Φ b env h1 N R B C X) (X env)
 |.whl c b,env,h,N,R,_,_,X=>∃ n,JU (fun e g K=>wT Φ c e g K (X e)) (fun e g K M=>xSs Φ b e g K R M K X) N n env h
 |.for p it b,env,h,N,R,_,_,X=>wI Φ it env h (fun st xs h1=>wFor st (fun v e g K M=>go (bind p g v e) fun e2=>xSs Φ b e2 g K R M K X) N xs env h1) (X env)
 | .forI k p e b,env,h,N,R,_,_,X=>wE Φ e env h (fun v h1=>go (ZP v) fun a=>go (Ja (h1 a)) fun kvs =>
     wFor (fun g=>g a=some (.frz kvs)) (fun v e g K M=>go (bind p g v e) fun e2=>xSs Φ b e2 g K (fun u g2=>g2 a=some (.frz kvs)∧R u (upd g2 a (.dct kvs))) M K fun _ _ _=>False)
       (fun e g=>g a=some (.frz kvs)∧N e (upd g a (.dct kvs))) (kvs.map (Np k)) env (upd h1 a (.frz kvs))) (X env)
 |.never,_,_,_,_,_,_,_=>False
 |.brk,env,h,_,_,B,_,_=>B env h
 |.cnt,env,h,_,_,_,C,_=>C env h
 |.pass,env,h,N,_,_,_,_=>N env h
 |.raise C as,env,h,_,_,_,_,X=>wA Φ as env h (fun _ h1=>X env C h1) (X env)
 |.try t e hs,env,h,N,R,B,C,X=>wC Φ e env h (fun v h1=>N (NR env t v) h1) fun c g=>xH Φ hs c env g N R B C
noncomputable def xSs (Φ:Fs):Ss→Env→Hs→NQ→Q1→NQ→NQ→EQ→Prop
 |.nil,env,h,N,_,_,_,_=>N env h
 |.cons s ss,env,h,N,R,B,C,X=>xS Φ s env h (fun e g=>xSs Φ ss e g N R B C X) R B C X
noncomputable def xH (Φ:Fs):Hn→String→Env→Hs→NQ→Q1→NQ→NQ→Prop
 |.nil,_,_,_,_,_,_,_=>False
 |.cons K none b r,c,env,h,N,R,B,C=>if excSub c K=true then xSs Φ b env h N R B C (fun _ _ _=>False)else xH Φ r c env h N R B C
 |.cons K (some i) b r,c,env,h,N,R,B,C=>if excSub c K=true then(∀ p,h p=none→xSs Φ b (env.set i (some (.ref p))) (upd h p (.exc c)) (fun e g=>N (e.set i none) g) R (fun e g=>B (e.set i none) g) (fun e g=>C (e.set i none) g) fun _ _ _=>False)
  else xH Φ r c env h N R B C
end
@[irreducible] noncomputable def wS:Fs→S→Env→Hs→NQ→Q1→NQ→NQ→EQ→Prop:=xS
@[irreducible] noncomputable def wSs:Fs→Ss→Env→Hs→NQ→Q1→NQ→NQ→EQ→Prop:=xSs
@[irreducible] noncomputable def wH:Fs→Hn→String→Env→Hs→NQ→Q1→NQ→NQ→Prop:=xH
theorem Zl:wS=xS:=by unfold wS;rfl
theorem Zg:wSs=xSs:=by unfold wSs;rfl
theorem Zo:wH=xH:=by unfold wH;rfl
structure Fn where
 ar:Nat
 sz:Nat
 body:Ss
noncomputable abbrev Pg:=String→Option Fn
class In (P:Pg) (f:String) (d:outParam Fn):Prop where
 eq:P f=some d
noncomputable def Fn.env (d:Fn) (vs:List Val):Env:=vs.map some++List.replicate (d.sz - d.ar) none
noncomputable def wF0 (P:Pg):Nat→Fs
 |0=>fun _ _ _ _ _=>False
 |n+1=>fun f vs h Q X=>go (P f) fun d=>vs.length=d.ar∧wSs (wF0 P n) d.body (d.env vs) h (fun _ g=>Q .non g) Q (fun _ _=>False) (fun _ _=>False) fun _ c g=>X c g
@[irreducible] noncomputable def wF (P:Pg) (n:Nat):Fs:=wF0 P n
theorem wF_eq{P:Pg}{n:Nat}:wF P n=wF0 P n:=by unfold wF;rfl
theorem ZE{P:Pg}{n:Nat}{f:String}{d:Fn}{vs:List Val}{h:Hs}{Q:Q1}{X:XQ}(e:P f=some d)(hl:vs.length=d.ar)
  (q:wSs (wF P n) d.body (d.env vs) h (fun _ g=>Q .non g) Q (fun _ _=>False) (fun _ _=>False) fun _ c g=>X c g):wF P (n+1) f vs h Q X:=by
 rw[wF_eq]at q ⊢;exact go_of e ⟨hl,q⟩
end Own
namespace Own
section
variable {Φ:Fs}{env:Env}{h:Hs}{Q:Q1}{X:XQ}{a b c e o:E}{as:Es}{v u:Val}
theorem Y5(q:Q v h):wE Φ (.cst v) env h Q X:=by simp only[wE_eq,Zd,Zb,Za,Zc]at q ⊢;exact q
theorem M7{x:String}(q:Q v h):wE Φ (.glob x v) env h Q X:=by simp only[wE_eq,Zd,Zb,Za,Zc]at q ⊢;exact q
theorem Z1{i:Nat}(g:getV env i=some v)(q:Q v h):wE Φ (.var i) env h Q X:=by rw[wE_eq];exact go_of g q
theorem CW{op:Bop}(q:wE Φ a env h (fun v h1=>wE Φ b env h1 (fun u h2=>(binV h2 op v u).wp h2 Q) X) X):wE Φ (.bin op a b) env h Q X:=by simp only[wE_eq,Zd,Zb,Za,Zc]at q ⊢;exact q
theorem DR(q:wE Φ a env h (fun v h1=>go (asInt v) fun i=>Q (.int (-i)) h1) X):wE Φ (.neg a) env h Q X:=by simp only[wE_eq,Zd,Zb,Za,Zc]at q ⊢;exact q
theorem Ae(q:wE Φ a env h (fun v h1=>go (asBl v) fun b=>Q (.bl (!b)) h1) X):wE Φ (.not a) env h Q X:=by simp only[wE_eq,Zd,Zb,Za,Zc]at q ⊢;exact q
theorem W3(q:wE Φ a env h (fun v h1=>go (asBl v) fun c=>if c=true then wE Φ b env h1 Q X else Q (.bl false) h1) X):wE Φ (.and a b) env h Q X:=by simp only[wE_eq,Zd,Zb,Za,Zc]at q ⊢;exact q
theorem C2(q:wE Φ a env h (fun v h1=>go (asBl v) fun c=>if c=true then Q (.bl true) h1 else wE Φ b env h1 Q X) X):wE Φ (.or a b) env h Q X:=by simp only[wE_eq,Zd,Zb,Za,Zc]at q ⊢;exact q
theorem N2{op:Cop}(q:wE Φ a env h (fun v h1=>wE Φ b env h1 (fun u h2=>go (cmpV h2 op v u) fun c=>Q (.bl c) h2) X) X):wE Φ (.cmp op a b) env h Q X:=by simp only[wE_eq,Zd,Zb,Za,Zc]at q ⊢;exact q
theorem OR{o1 o2:Cop}(q:wE Φ a env h (fun v h1=>wE Φ b env h1 (fun u h2=>go (cmpV h2 o1 v u) fun k =>
      if k=true then wE Φ c env h2 (fun w h3=>go (cmpV h3 o2 u w) fun k2=>Q (.bl k2) h3) X else Q (.bl false) h2) X) X):wE Φ (.chain o1 o2 a b c) env h Q X:=by simp only[wE_eq,Zd,Zb,Za,Zc]at q ⊢;exact q
theorem YG{f:String}(q:wA Φ as env h (fun vs h1=>Φ f vs h1 Q X) X):wE Φ (.call f as) env h Q X:=by simp only[wE_eq,Zd,Zb,Za,Zc]at q ⊢;exact q
theorem FG {C:String}(q:wA Φ as env h (fun vs h1=>∀ p,h1 p=none→Φ (C ++ ".__init__") (.ref p::vs) (upd h1 p (.ins C [])) (fun v h2=>v=.non∧Q (.ref p) h2) X) X):wE Φ (.make C as) env h Q X:=by simp only[wE_eq,Zd,Zb,Za,Zc]at q ⊢;exact q
theorem Fh {C m:String}(q:wE Φ o env h (fun v h1=>M8 h1 v m=some C∧wA Φ as env h1 (fun vs h2=>Φ (C ++ "." ++ m) (v::vs) h2 Q X) X) X):wE Φ (.meth C m o as) env h Q X:=by simp only[wE_eq,Zd,Zb,Za,Zc]at q ⊢;exact q
theorem Gr{f:String}(q:wE Φ o env h (fun v h1=>go (KF h1 v f) fun u=>Q u h1) X):wE Φ (.fld o f) env h Q X:=by simp only[wE_eq,Zd,Zb,Za,Zc]at q ⊢;exact q
theorem N7{f:Bi}(q:wA Φ as env h (fun vs h1=>(biV h1 f vs).wp h1 Q) X):wE Φ (.bi f as) env h Q X:=by simp only[wE_eq,Zd,Zb,Za,Zc]at q ⊢;exact q
theorem Hk{m:Bm}(q:wE Φ o env h (fun v h1=>bmTy h1 m v=true∧wA Φ as env h1 (fun vs h2=>go (bmV h2 m v vs) fun r=>Q r.1 r.2) X) X):wE Φ (.bm m o as) env h Q X:=by simp only[wE_eq,Zd,Zb,Za,Zc]at q ⊢;exact q
theorem MZ{i:E}(q:wE Φ a env h (fun v h1=>wE Φ i env h1 (fun k h2=>go (idxV h2 v k) fun u=>Q u h2) X) X):wE Φ (.idx a i) env h Q X:=by simp only[wE_eq,Zd,Zb,Za,Zc]at q ⊢;exact q
theorem CB{lo hi:Oe}(q:wE Φ a env h (fun v h1=>wO Φ lo env h1 (fun l h2=>wO Φ hi env h2 (fun u h3=>(slcV h3 v l u).wp h3 Q) X) X) X):wE Φ (.slc a lo hi) env h Q X:=by simp only[wE_eq,Zd,Zb,Za,Zc]at q ⊢;exact q
theorem UW{es:Es}(q:wA Φ es env h (fun vs h1=>Q (.tup vs) h1) X):wE Φ (.tup es) env h Q X:=by simp only[wE_eq,Zd,Zb,Za,Zc]at q ⊢;exact q
theorem Ee{es:Es}(q:wA Φ es env h (fun vs h1=>new h1 (.lst vs) Q) X):wE Φ (.lst es) env h Q X:=by simp only[wE_eq,Zd,Zb,Za,Zc]at q ⊢;exact q
theorem U2{es:Es}(q:new h (.dct []) fun r h1=>go (ZP r) fun p=>wA Φ es env h1 (fun vs h2=>go (pairUp vs) fun kvs=>h2 p=some (.dct [])∧Q (.ref p) (upd h2 p (.dct (putAll [] kvs)))) X):wE Φ (.dct es) env h Q X:=by simp only[wE_eq,Zd,Zb,Za,Zc]at q ⊢;exact q
theorem GR{t:Tt}(q:wT Φ t env h (fun k h1=>if k=true then wE Φ a env h1 Q X else wE Φ b env h1 Q X) X):wE Φ (.ife t a b) env h Q X:=by simp only[wE_eq,Zd,Zb,Za,Zc]at q ⊢;exact q
theorem FU{caps:List Nat}{n:Nat}{p:Pt}{it:It}{t:Tt}(q:wI Φ it env h (fun st xs h1=>xs.length<lim∧
      wComp st (fun v h2 K X2=>go (bind p h2 v (List.replicate n none++caps.map fun j=>(env[j]?).getD none)) fun env2 =>
        wT Φ t env2 h2 (fun k h3=>if k=true then wE Φ e env2 h3 (fun u h4=>K (some u) h4) X2 else K none h3) X2) xs [] h1 (fun ys h5=>new h5 (.lst ys) Q) fun _ _=>False) X):wE Φ (.comp caps n p it t e) env h Q X:=by simp only[wE_eq,Zd,Zb,Za,Zc]at q ⊢;exact q
theorem Gc {es:Es}(q:wJ Φ es env h "" (fun s h1=>Q (.str s) h1) X):wE Φ (.fstr es) env h Q X:=by simp only[wE_eq,WZ]at q ⊢;exact q
theorem G4{acc:String}{QJ:String→Hs→Prop}(q:QJ acc h):wJ Φ .nil env h acc QJ X:=by rw[WZ];exact q
theorem FL{es:Es}{acc:String}{QJ:String→Hs→Prop}(q:wE Φ e env h (fun v h1=>go (fmtV v) fun s=>acc.length+s.length≤lim∧wJ Φ es env h1 (acc++s) QJ X) X):wJ Φ (.cons e es) env h acc QJ X:=by simp only[wE_eq,WZ]at q ⊢;exact q
theorem Er(q:wE Φ o env h (fun v h1=>go (YQ v) fun s=>wE Φ a env h1 (fun u h2=>go ((YQ u).bind oneC) fun c=>s.length+2≤lim∧new h2 (.lst ((Jx c s).map .str)) Q) X) X):wE Φ (.split o a) env h Q X:=by simp only[wE_eq,Zd,Zb,Za,Zc]at q ⊢;exact q
variable {QA:List Val→Hs→Prop}{QO:Option Int→Hs→Prop}{QT:Bool→Hs→Prop}{QI:(Hs→Prop)→List Val→Hs→Prop}
theorem Z2(q:QA [] h):wA Φ .nil env h QA X:=by simp only[wE_eq,Zd,Zb,Za,Zc]at q ⊢;exact q
theorem Zz{es:Es}(q:wE Φ e env h (fun v h1=>wA Φ es env h1 (fun vs h2=>QA (v::vs) h2) X) X):wA Φ (.cons e es) env h QA X:=by simp only[wE_eq,Zd,Zb,Za,Zc]at q ⊢;exact q
theorem B1(q:QO none h):wO Φ .none env h QO X:=by simp only[wE_eq,Zd,Zb,Za,Zc]at q ⊢;exact q
theorem A5(q:wE Φ e env h (fun v h1=>go (asInt v) fun i=>QO (some i) h1) X):wO Φ (.some e) env h QO X:=by simp only[wE_eq,Zd,Zb,Za,Zc]at q ⊢;exact q
theorem Gw(q:QT true h):wT Φ .yes env h QT X:=by simp only[wE_eq,Zd,Zb,Za,Zc]at q ⊢;exact q
theorem NE(q:wE Φ e env h (fun v h1=>go (Yk h1 v) fun k=>QT k h1) X):wT Φ (.val e) env h QT X:=by simp only[wE_eq,Zd,Zb,Za,Zc]at q ⊢;exact q
theorem UF{t:Tt}(q:wT Φ t env h (fun k h1=>QT (!k) h1) X):wT Φ (.not t) env h QT X:=by simp only[wE_eq,Zd,Zb,Za,Zc]at q ⊢;exact q
theorem Eo{s t:Tt}(q:wT Φ s env h (fun k h1=>if k=true then wT Φ t env h1 QT X else QT false h1) X):wT Φ (.and s t) env h QT X:=by simp only[wE_eq,Zd,Zb,Za,Zc]at q ⊢;exact q
theorem DB{s t:Tt}(q:wT Φ s env h (fun k h1=>if k=true then QT true h1 else wT Φ t env h1 QT X) X):wT Φ (.or s t) env h QT X:=by simp only[wE_eq,Zd,Zb,Za,Zc]at q ⊢;exact q
theorem DS(q:wE Φ e env h (fun v h1=>go (itV h1 v) fun p=>QI p.1 p.2 h1) X):wI Φ (.seq e) env h QI X:=by simp only[wE_eq,Zd,Zb,Za,Zc]at q ⊢;exact q
theorem Et(q:wE Φ e env h (fun v h1=>go (YQ v) fun s=>QI (fun _=>True) (DT s) h1) X):wI Φ (.chars e) env h QI X:=by simp only[wE_eq,Zd,Zb,Za,Zc]at q ⊢;exact q
theorem OY(q:wE Φ a env h (fun v h1=>go (asInt v) fun n=>(-(2 ^ 62)≤n∧n<2 ^ 62)∧QI (fun _=>True) (rangeV 0 n) h1) X):wI Φ (.range a) env h QI X:=by simp only[wE_eq,Zd,Zb,Za,Zc]at q ⊢;exact q
theorem Eh (q:wE Φ a env h (fun v h1=>wE Φ b env h1 (fun u h2=>go (asInt v) fun i=>go (asInt u) fun j =>
      (-(2 ^ 62)≤i∧i<2 ^ 62∧-(2 ^ 62)≤j∧j<2 ^ 62)∧QI (fun _=>True) (rangeV i j) h2) X) X):wI Φ (.range2 a b) env h QI X:=by simp only[wE_eq,Zd,Zb,Za,Zc]at q ⊢;exact q
theorem Fa(q:wE Φ e env h (fun v h1=>go (XT v) fun xs=>QI (fun _=>True) (Na 0 xs) h1) X):wI Φ (.enum e) env h QI X:=by simp only[wE_eq,Zd,Zb,Za,Zc]at q ⊢;exact q
theorem Gp(q:wE Φ a env h (fun v h1=>wE Φ b env h1 (fun u h2=>go (D0 h2 v u) fun p=>QI p.1 p.2 h2) X) X):wI Φ (.zip a b) env h QI X:=by simp only[wE_eq,Zd,Zb,Za,Zc]at q ⊢;exact q
theorem EB(q:wE Φ e env h (fun v h1=>go (ZP v) fun a=>go (Ja (h1 a)) fun kvs=>QI (fun g=>g a=some (.dct kvs)) (kvs.map fun p=>.tup [p.1,p.2]) h1) X):wI Φ (.items e) env h QI X:=by simp only[wE_eq,Zd,Zb,Za,Zc]at q ⊢;exact q
theorem GG(q:wE Φ e env h (fun v h1=>go (Yc h1 v) fun xs=>QI (fun g=>Yc g v=some xs) xs.reverse h1) X):wI Φ (.rev e) env h QI X:=by simp only[wE_eq,Zd,Zb,Za,Zc]at q ⊢;exact q
end
section
variable {Φ:Fs}{env:Env}{h:Hs}{N B C:NQ}{R:Q1}{X:EQ}{a b c e o i:E}{as:Es}{v u:Val}{t:Tt}{s1 s2:Ss}{s:S}{p:Pt}{it:It}{hs:Hn}
theorem Do(q:wE Φ e env h (fun v h1=>go (bind p h1 v env) fun env2=>N env2 h1) (X env)):wS Φ (.set p e) env h N R B C X:=by simp only[Zl,Zg,Zo]at q ⊢;exact q
theorem Mu(q:wE Φ e env h (fun v h1=>wE Φ a env h1 (fun o h2=>wE Φ i env h2 (fun k h3=>go (putV h3 o k v) fun g=>N env g) (X env)) (X env)) (X env)):wS Φ (.setIdx a i e) env h N R B C X:=by simp only[Zl,Zg,Zo]at q ⊢;exact q
theorem Ea{f:String}(q:wE Φ e env h (fun v h1=>wE Φ o env h1 (fun u h2=>go (Wb h2 u f v) fun g=>N env g) (X env)) (X env)):wS Φ (.setFld o f e) env h N R B C X:=by simp only[Zl,Zg,Zo]at q ⊢;exact q
theorem Ed{k:Nat}{op:Bop}(q:go (getV env k) fun x=>wE Φ e env h (fun v h1=>go (Jl op x v) fun y=>N (env.set k (some y)) h1) (X env)):wS Φ (.augVar k op e) env h N R B C X:=by simp only[Zl,Zg,Zo]at q ⊢;exact q
theorem DO{f:String}{op:Bop}{n:Int}(q:wE Φ o env h (fun u h1=>go (KF h1 u f) fun x=>go (Jl op x (.int n)) fun y=>go (Wb h1 u f y) fun g=>N env g) (X env)):wS Φ (.augFld o f op n) env h N R B C X:=by simp only[Zl,Zg,Zo]at q ⊢;exact q
theorem Db{i:E}{op:Bop}{n:Int}(q:wE Φ a env h (fun o h1=>wE Φ i env h1 (fun k h2=>go (idxV h2 o k) fun x=>go (Jl op x (.int n)) fun y=>go (putV h2 o k y) fun g=>N env g) (X env)) (X env)):wS Φ (.augIdx a i op n) env h N R B C X:=by simp only[Zl,Zg,Zo]at q ⊢;exact q
theorem F0(q:wE Φ e env h (fun _ h1=>N env h1) (X env)):wS Φ (.expr e) env h N R B C X:=by simp only[Zl,Zg,Zo]at q ⊢;exact q
theorem Wd(q:wE Φ e env h R (X env)):wS Φ (.ret e) env h N R B C X:=by simp only[Zl,Zg,Zo]at q ⊢;exact q
theorem EU(q:R .non h):wS Φ .retN env h N R B C X:=by simp only[Zl,Zg,Zo]at q ⊢;exact q
theorem MD(q:wT Φ t env h (fun k h1=>if k=true then wSs Φ s1 env h1 N R B C X else wSs Φ s2 env h1 N R B C X) (X env)):wS Φ (.ite t s1 s2) env h N R B C X:=by simp only[Zl,Zg,Zo]at q ⊢;exact q
theorem GW(q:∃ n,JU (fun e g K=>wT Φ t e g K (X e)) (fun e g K M=>wSs Φ s1 e g K R M K X) N n env h):wS Φ (.whl t s1) env h N R B C X:=by simp only[Zl,Zg,Zo]at q ⊢;exact q
theorem Ei(q:wI Φ it env h (fun st xs h1=>wFor st (fun v e g K M=>go (bind p g v e) fun e2=>wSs Φ s1 e2 g K R M K X) N xs env h1) (X env)):wS Φ (.for p it s1) env h N R B C X:=by simp only[Zl,Zg,Zo]at q ⊢;exact q
theorem Gn{k:Bool}(q:wE Φ e env h (fun v h1=>go (ZP v) fun a=>go (Ja (h1 a)) fun kvs =>
      wFor (fun g=>g a=some (.frz kvs)) (fun v e g K M=>go (bind p g v e) fun e2=>wSs Φ s1 e2 g K (fun u g2=>g2 a=some (.frz kvs)∧R u (upd g2 a (.dct kvs))) M K fun _ _ _=>False)
        (fun e g=>g a=some (.frz kvs)∧N e (upd g a (.dct kvs))) (kvs.map (Np k)) env (upd h1 a (.frz kvs))) (X env)):wS Φ (.forI k p e s1) env h N R B C X:=by simp only[Zl,Zg,Zo]at q ⊢;exact q
theorem Gv(q:B env h):wS Φ .brk env h N R B C X:=by simp only[Zl,Zg,Zo]at q ⊢;exact q
theorem GL(q:C env h):wS Φ .cnt env h N R B C X:=by simp only[Zl,Zg,Zo]at q ⊢;exact q
theorem FQ(q:N env h):wS Φ .pass env h N R B C X:=by simp only[Zl,Zg,Zo]at q ⊢;exact q
theorem ED{D:String}(q:wA Φ as env h (fun _ h1=>X env D h1) (X env)):wS Φ (.raise D as) env h N R B C X:=by simp only[Zl,Zg,Zo]at q ⊢;exact q
theorem GD{t:Option Nat}(q:wC Φ e env h (fun v h1=>N (NR env t v) h1) fun c g=>wH Φ hs c env g N R B C):wS Φ (.try t e hs) env h N R B C X:=by simp only[Zl,Zg,Zo]at q ⊢;exact q
theorem Z6(q:N env h):wSs Φ .nil env h N R B C X:=by simp only[Zl,Zg,Zo]at q ⊢;exact q
theorem ZM{ss:Ss}(q:wS Φ s env h (fun e g=>wSs Φ ss e g N R B C X) R B C X):wSs Φ (.cons s ss) env h N R B C X:=by simp only[Zl,Zg,Zo]at q ⊢;exact q
end
section
variable {h:Hs}{Q:Q1}{i j k:Int}{a b:Ad}{xs ys:List Val}{v u:Val}{K:Val→Prop}{KB:Bool→Prop}
theorem wp_val{r:Rs}(e:r=.val v)(q:Q v h):r.wp h Q:=by rw[e,Rs.wp_val];exact q
theorem wp_new{r:Rs}{o:Ob}(e:r=.new o)(q:new h o Q):r.wp h Q:=by rw[e,Rs.wp_new];exact q
theorem b_add(q:Q (.int (i+j)) h):(binV h .add (.int i) (.int j)).wp h Q:=wp_val rfl q
theorem b_sub(q:Q (.int (i - j)) h):(binV h .sub (.int i) (.int j)).wp h Q:=wp_val rfl q
theorem b_mul(m:mulOk i j)(q:Q (.int (i*j)) h):(binV h .mul (.int i) (.int j)).wp h Q:=wp_val (if_pos m) q
theorem b_fdiv(m:0<j∧j<1073741824)(q:Q (.int (i / j)) h):(binV h .fdiv (.int i) (.int j)).wp h Q:=wp_val (if_pos m) q
theorem b_mod(m:0<j)(q:Q (.int (i % j)) h):(binV h .mod (.int i) (.int j)).wp h Q:=wp_val (if_pos m) q
theorem b_pow(m:0≤j∧j≤1000000∧i.natAbs<2 ^ 64)(q:Q (.int (i ^ j.toNat)) h):(binV h .pow (.int i) (.int j)).wp h Q:=wp_val (if_pos m) q
theorem AK{z:Int}(m:0≤j∧j≤1000000∧i.natAbs<2 ^ 64)(e:i ^ j.toNat=z)(q:Q (.int z) h):(binV h .pow (.int i) (.int j)).wp h Q:=b_pow m (by rw[e];exact q)
theorem Xk(m:xs.length+ys.length≤lim)(q:Q (.tup (xs++ys)) h):(binV h .add (.tup xs) (.tup ys)).wp h Q:=wp_val (if_pos m) q
theorem Mw(e1:h a=some (.lst xs))(e2:h b=some (.lst ys))(m:(xs++ys).length≤lim)(q:new h (.lst (xs++ys)) Q):(binV h .add (.ref a) (.ref b)).wp h Q:=by refine wp_new ?_ q;show(match h a,h b with|some (.lst xs),some (.lst ys)=>Rs.lst (xs++ys)|_,_=>.no:Rs)=_;simp only[e1,e2,Rs.lst];rw[if_pos m]
theorem lsE(e1:h a=some (.lst xs)):lsOf (h a)=some xs:=by rw[e1];rfl
theorem dcE{kvs:List (Val×Val)}(e1:h a=some (.dct kvs)):Ja (h a)=some kvs:=by rw[e1];rfl
theorem Cy{K:Int→Prop}(q:K i):go (asInt (.int i)) K:=go_of rfl q
theorem Jw{b:Bool}(q:KB b):go (asBl (.bl b)) KB:=go_of rfl q
theorem U1{K:Ad→Prop}(q:K a):go (ZP (.ref a)) K:=go_of rfl q
theorem JZ{b:Bool}(q:KB b):go (Yk h (.bl b)) KB:=go_of rfl q
theorem Fg(q:KB (decide (i≠0))):go (Yk h (.int i)) KB:=go_of rfl q
theorem FF(e:h a=some (.lst xs))(q:KB (!xs.isEmpty)):go (Yk h (.ref a)) KB:=go_of (by unfold Yk;simp only[e]) q
theorem ix_tup(e:atI xs i=some v)(q:K v):go (idxV h (.tup xs) (.int i)) K:=go_of e q
theorem Ye(e1:h a=some (.lst xs))(e:atI xs i=some v)(q:K v):go (idxV h (.ref a) (.int i)) K:=go_of (by unfold idxV;simp only[e1];exact e) q
theorem c_lt(q:KB (decide (i<j))):go (cmpV h .lt (.int i) (.int j)) KB:=go_of rfl q
theorem c_gt(q:KB (decide (j<i))):go (cmpV h .gt (.int i) (.int j)) KB:=go_of rfl q
theorem c_le(q:KB (decide (i≤j))):go (cmpV h .le (.int i) (.int j)) KB:=go_of rfl q
theorem c_ge(q:KB (decide (j≤i))):go (cmpV h .ge (.int i) (.int j)) KB:=go_of rfl q
theorem UM:D.eqv (.int i) (.int j)=decide (i=j):=by rw[D.eqv];by_cases e:i=j<;>simp[e]
theorem UX{s t:String}:D.eqv (.str s) (.str t)=decide (s=t):=by rw[D.eqv];by_cases e:s=t<;>simp[e]
theorem DV(q:KB (decide (i=j))):go (cmpV h .eq (.int i) (.int j)) KB:=go_of (by show some (D.eqv (.int i) (.int j))=_;rw[UM]) q
theorem CM(q:KB (!decide (i=j))):go (cmpV h .ne (.int i) (.int j)) KB:=go_of (by show some (!D.eqv (.int i) (.int j))=_;rw[UM]) q
theorem Gy{s t:String}(q:KB (decide (s=t))):go (cmpV h .eq (.str s) (.str t)) KB:=go_of (by show some (D.eqv (.str s) (.str t))=_;rw[UX]) q
theorem GS{s t:String}(q:KB (!decide (s=t))):go (cmpV h .ne (.str s) (.str t)) KB:=go_of (by show some (!D.eqv (.str s) (.str t))=_;rw[UX]) q
theorem CT{c d:Bool}(q:KB (c==d)):go (cmpV h .eq (.bl c) (.bl d)) KB:=go_of (by show some (D.eqv (.bl c) (.bl d))=_;rw[D.eqv]) q
theorem UV(q:KB (decide (v=.non))):go (cmpV h .is v .non) KB:=go_of (by unfold cmpV;rfl) q
theorem EM(q:KB (!decide (v=.non))):go (cmpV h .isnot v .non) KB:=go_of (by unfold cmpV;rfl) q
theorem Ww{n:Nat}{env env':Env}{K:Env→Prop}(e:env.set n (some v)=env')(q:K env'):go (bind (.one n) h v env) K:=by subst e;exact go_of rfl q
theorem BK{is:List Nat}{env env':Env}{K:Env→Prop}(e:bindL is xs env=some env')(q:K env'):go (bind (.many is) h (.tup xs) env) K:=go_of e q
theorem AY{n:Nat}{K:Hs→Prop}(e1:h a=some (.lst xs))(e:ixN xs.length i=some n)(q:K (upd h a (.lst (xs.set n v)))):go (putV h (.ref a) (.int i) v) K:=go_of (by unfold putV;simp only[e1,asInt,Option.bind_some,e,Option.map_some]) q
theorem FW{C f:String}{fs:List (String×Val)}{K:Hs→Prop}(e1:h a=some (.ins C fs))(m:fs.length<900)(q:K (upd h a (.ins C (putF fs f v)))):go (Wb h (.ref a) f v) K:=go_of (by unfold Wb;simp only[e1];rw[if_pos m]) q
theorem Gb{C f:String}{fs:List (String×Val)}(e1:h a=some (.ins C fs))(e:fs.lookup f=some v)(q:K v):go (KF h (.ref a) f) K:=go_of (by unfold KF ZP;simp only[e1,KD,Option.bind_some];exact e) q
theorem Fp{C m:String}{fs:List (String×Val)}{P:Prop}(e1:h a=some (.ins C fs))(e:fs.lookup m=none)(q:P):M8 h (.ref a) m=some C∧P:=⟨by unfold M8 ZP;simp only[e1,KD,Option.bind_some,e,Option.isNone_none,if_true],q⟩
theorem E6(q:K (.int (i+j))):go (Jl .add (.int i) (.int j)) K:=go_of rfl q
theorem AZ(e1:h a=some (.lst xs))(q:Q (.int xs.length) h):(biV h .len [.ref a]).wp h Q:=wp_val (by show lenV h (.ref a)=_;unfold lenV;dsimp only;rw[e1]) q
theorem Fz{ns:List Int}(q:Q (.int ns.length) h):(biV h .len [.scr ns]).wp h Q:=wp_val rfl q
theorem B7(q:Q (.int xs.length) h):(biV h .len [.tup xs]).wp h Q:=wp_val rfl q
theorem FA{s:String}(q:Q (.str s) h):(biV h .str [.str s]).wp h Q:=wp_val rfl q
theorem in_str{s:String}(m:s.length≤640∧s.toList≠[]∧s.toList.all figB=true)(q:Q (.int (decN s.toList)) h):(biV h .int [.str s]).wp h Q:=wp_val (if_pos m) q
theorem Fq(q:Q (.int (if i<0 then -i else i)) h):(biV h .abs [.int i]).wp h Q:=wp_val rfl q
theorem G7{K:String→Prop}{s:String}(q:K s):go (YQ (.str s)) K:=go_of rfl q
theorem FB{m:Bm}{P:Prop}{s:String}(hm:m=.join)(q:P):bmTy h m (.str s)=true∧P:=⟨by subst hm;rfl,q⟩
theorem OO(q:new h (.dct (enumK 0 xs)) Q):(biV h .dictEnum [.tup xs]).wp h Q:=wp_new rfl q
theorem Fe(q:Q (.int i) h):(biV h .int [.int i]).wp h Q:=wp_val rfl q
theorem Dr{c:Bool}(q:Q (.int (if c then 1 else 0)) h):(biV h .int [.bl c]).wp h Q:=wp_val rfl q
theorem mn2(q:Q (.int (if j<i then j else i)) h):(biV h .min2 [.int i,.int j]).wp h Q:=wp_val rfl q
theorem mx2(q:Q (.int (if j > i then j else i)) h):(biV h .max2 [.int i,.int j]).wp h Q:=wp_val rfl q
theorem Gf(e1:h a=some (.lst xs))(q:Q (.tup xs) h):(biV h .tuple [.ref a]).wp h Q:=wp_val (by show WN h (.ref a)=_;unfold WN;dsimp only;rw[e1]) q
theorem FV(q:Q (.tup xs) h):(biV h .tuple [.tup xs]).wp h Q:=wp_val rfl q
theorem Dh{Ts:List String}{c:Bool}(e:isiAny h v Ts=some c)(q:Q (.bl c) h):(biV h (.isi Ts) [v]).wp h Q:=wp_val (by show Rs.ofO ((isiAny h v Ts).map .bl)=_;rw[e];rfl) q
theorem ER(e1:h a=some (.lst xs))(q:new h (.lst xs) Q):(biV h .list [.ref a]).wp h Q:=wp_new (by show toList h (.ref a)=_;unfold toList;dsimp only;rw[e1]) q
theorem Ay(q:new h (.lst xs) Q):(biV h .list [.tup xs]).wp h Q:=wp_new rfl q
theorem sl_tup{lo hi:Option Int}(n:¬ (cutAt xs.length 0 lo=0∧cutAt xs.length xs.length hi=xs.length))(q:Q (.tup (cut xs lo hi)) h):(slcV h (.tup xs) lo hi).wp h Q:=wp_val (by unfold slcV;simp only;rw[if_neg n]) q
theorem F4{m:Bm}{P:Prop}(hm:m.ty=.l∨m.ty=.t)(e:h a=some (.lst xs))(q:P):bmTy h m (.ref a)=true∧P:=⟨by unfold bmTy;rcases hm with hm|hm<;>rw[hm]<;>simp[Y7,e,M4],q⟩
theorem Fy{m:Bm}{P:Prop}{kvs:List (Val×Val)}(hm:m.ty=.d)(e:h a=some (.dct kvs))(q:P):bmTy h m (.ref a)=true∧P:=⟨by unfold bmTy;rw[hm];simp[Y7,e,UC],q⟩
theorem sl_str{s:String}{lo hi:Option Int}(n:s.length≤lim)(q:Q (.str (String.ofList (cut s.toList lo hi))) h):(slcV h (.str s) lo hi).wp h Q:=wp_val (by unfold slcV;simp only;rw[if_pos n]) q
theorem Fo{lo hi:Option Int}(e1:h a=some (.lst xs))(q:new h (.lst (cut xs lo hi)) Q):(slcV h (.ref a) lo hi).wp h Q:=wp_new (by unfold slcV;simp only[e1,lsOf]) q
theorem AQ{ns:List Int}{lo hi:Option Int}(q:new h (.lst (cut (ns.map Val.int) lo hi)) Q):(slcV h (.scr ns) lo hi).wp h Q:=wp_new rfl q
theorem CD{K:Val×Hs→Prop}(e1:h a=some (.lst xs))(m:xs.length<lim)(q:K (.non,upd h a (.lst (xs++[v])))):go (bmV h .append (.ref a) [v]) K:=go_of (by show(lsOf (h a)).bind _=_;rw[lsE e1];exact if_pos m) q
theorem it_lst{K:(Hs→Prop)×List Val→Prop}(e1:h a=some (.lst xs))(q:K (fun g=>lsOf (g a)=some xs,xs)):go (itV h (.ref a)) K:=go_of (by unfold itV;simp only[e1,lsOf,Option.map_some]) q
theorem it_scr{ns:List Int}{K:(Hs→Prop)×List Val→Prop}(q:K (fun _=>True,ns.map Val.int)):go (itV h (.scr ns)) K:=go_of rfl q
theorem it_tup{K:(Hs→Prop)×List Val→Prop}(q:K (fun _=>True,xs)):go (itV h (.tup xs)) K:=go_of rfl q
theorem FN{K:List Val→Prop}(q:K xs):go (Yc h (.tup xs)) K:=go_of rfl q
theorem E2{K:List Val→Prop}(e1:h a=some (.lst xs))(q:K xs):go (Yc h (.ref a)) K:=go_of (by unfold Yc;simp only[e1,lsOf]) q
theorem ifT{c:Bool}{A B:Prop}(e:c=true)(q:A):if c=true then A else B:=by rw[if_pos e];exact q
theorem ifF{c:Bool}{A B:Prop}(e:c=false)(q:B):if c=true then A else B:=by rw[if_neg (by rw[e];decide)];exact q
theorem ifP{p:Prop}[Decidable p]{A B:Prop}(q:p→A)(r:¬p→B):if decide p=true then A else B:=by
 by_cases e:p
 ·rw[if_pos (decide_eq_true e)];exact q e
 ·rw[if_neg (by simpa using e)];exact r e
end
structure Ext (h g:Hs):Prop where
 get:∀ {a:Ad}{o:Ob},h a=some o→g a=some o
theorem Ext.refl{h:Hs}:Ext h h:=⟨fun e=>e⟩
theorem Ext.trans{h g k:Hs}(e:Ext h g)(f:Ext g k):Ext h k:=⟨fun x=>f.get (e.get x)⟩
theorem Ext.new{h:Hs}{p:Ad}{o:Ob}(e:h p=none):Ext h (upd h p o):=⟨fun {a u} x=>by
  rw[upd_ne (by intro z;rw[z,e]at x;cases x)];exact x⟩
structure ExtB (w:Ad) (h g:Hs):Prop where
 get:∀ {a:Ad}{o:Ob},a≠w→h a=some o→g a=some o
theorem ExtB.refl{h:Hs}{w:Ad}:ExtB w h h:=⟨fun _ e=>e⟩
theorem ExtB.trans{h g k:Hs}{w:Ad}(e:ExtB w h g)(f:ExtB w g k):ExtB w h k:=⟨fun n x=>f.get n (e.get n x)⟩
theorem ExtB.upd{h:Hs}{w:Ad}{o:Ob}:ExtB w h (upd h w o):=⟨fun n x=>by rw[upd_ne n];exact x⟩
theorem ExtB.of{h g:Hs}{w:Ad}(e:Ext h g):ExtB w h g:=⟨fun _ x=>e.get x⟩
theorem WI{h:Hs}{a p:Ad}{o:Ob}(x:h a=some o)(n:h p=none):a≠p:=by intro z;rw[z,n]at x;cases x
theorem ne_none'{h:Hs}{a p:Ad}{o:Ob}(n:h p=none)(x:h a=some o):a≠p:=WI x n
theorem upd_ne'{h:Hs}{a b:Ad}{o:Ob}{r:Option Ob}(n:b≠a)(e:h b=r):upd h a o b=r:=by rw[upd_ne n];exact e
theorem Wy{st:Hs→Prop}{W:Val→Env→Hs→NQ→NQ→Prop}{N:NQ}(I:Nat→Env→Hs→Prop){xs:List Val}{env:Env}{h:Hs}(h0:I 0 env h)(hst:∀ i e g,i≤xs.length→I i e g→st g)
  (step:∀ i v e g,xs[i]?=some v→I i e g→∀ K:NQ,(∀ e' g',I (i+1) e' g'→K e' g')→W v e g K N) (fin:∀ e g,I xs.length e g→N e g):wFor st W N xs env h:=by
 have key:∀ (ys:List Val) (i:Nat) e g,xs.drop i=ys→i≤xs.length→I i e g→wFor st W N ys e g:=by
  intro ys;induction ys with
  |nil =>
   intro i e g hd hi hI;have:i=xs.length:=by have:=congrArg List.length hd;simp at this;omega
   subst this;exact⟨hst _ e g (Nat.le_refl _) hI,fin e g hI⟩
  |cons v vs ih =>
   intro i e g hd hi hI;have hlt:i<xs.length:=by have:=congrArg List.length hd;simp at this;omega
   have hv:xs[i]?=some v:=by have:=congrArg (fun l=>l[0]?) hd;simpa using this
   refine⟨hst i e g hi hI,step i v e g hv hI _ fun e' g' hI'=>ih (i+1) e' g' ?_ (by omega) hI'⟩;have:=congrArg List.tail hd;simpa using this
 exact key xs 0 env h (by simp) (by omega) h0
end Own
namespace Own
section
variable {Φ:Fs}{env:Env}{h:Hs}{Q:Q1}{X:XQ}{a b c e o:E}{as:Es}{v u:Val}
theorem q_e_cst:(wE Φ (.cst v) env h Q X)=(Q v h):=by simp only[wE_eq,Zd,Zb,Za,Zc];rfl
theorem q_e_glob{x:String}:(wE Φ (.glob x v) env h Q X)=(Q v h):=by simp only[wE_eq,Zd,Zb,Za,Zc];rfl
theorem q_e_bin{op:Bop}:(wE Φ (.bin op a b) env h Q X)=(wE Φ a env h (fun v h1=>wE Φ b env h1 (fun u h2=>(binV h2 op v u).wp h2 Q) X) X):=by simp only[wE_eq,Zd,Zb,Za,Zc];rfl
theorem q_e_neg:(wE Φ (.neg a) env h Q X)=(wE Φ a env h (fun v h1=>go (asInt v) fun i=>Q (.int (-i)) h1) X):=by simp only[wE_eq,Zd,Zb,Za,Zc];rfl
theorem q_e_not:(wE Φ (.not a) env h Q X)=(wE Φ a env h (fun v h1=>go (asBl v) fun b=>Q (.bl (!b)) h1) X):=by simp only[wE_eq,Zd,Zb,Za,Zc];rfl
theorem q_e_and:(wE Φ (.and a b) env h Q X)=(wE Φ a env h (fun v h1=>go (asBl v) fun c=>if c=true then wE Φ b env h1 Q X else Q (.bl false) h1) X):=by simp only[wE_eq,Zd,Zb,Za,Zc];rfl
theorem q_e_or:(wE Φ (.or a b) env h Q X)=(wE Φ a env h (fun v h1=>go (asBl v) fun c=>if c=true then Q (.bl true) h1 else wE Φ b env h1 Q X) X):=by simp only[wE_eq,Zd,Zb,Za,Zc];rfl
theorem q_e_cmp{op:Cop}:(wE Φ (.cmp op a b) env h Q X)=(wE Φ a env h (fun v h1=>wE Φ b env h1 (fun u h2=>go (cmpV h2 op v u) fun c=>Q (.bl c) h2) X) X):=by simp only[wE_eq,Zd,Zb,Za,Zc];rfl
theorem q_e_chain{o1 o2:Cop}:(wE Φ (.chain o1 o2 a b c) env h Q X)=(wE Φ a env h (fun v h1=>wE Φ b env h1 (fun u h2=>go (cmpV h2 o1 v u) fun k=>if k=true then wE Φ c env h2 (fun w h3=>go (cmpV h3 o2 u w) fun k2=>Q (.bl k2) h3) X else Q (.bl false) h2) X) X):=by simp only[wE_eq,Zd,Zb,Za,Zc];rfl
theorem q_e_call{f:String}:(wE Φ (.call f as) env h Q X)=(wA Φ as env h (fun vs h1=>Φ f vs h1 Q X) X):=by simp only[wE_eq,Zd,Zb,Za,Zc];rfl
theorem q_e_bi{f:Bi}:(wE Φ (.bi f as) env h Q X)=(wA Φ as env h (fun vs h1=>(biV h1 f vs).wp h1 Q) X):=by simp only[wE_eq,Zd,Zb,Za,Zc];rfl
theorem q_e_idx{i:E}:(wE Φ (.idx a i) env h Q X)=(wE Φ a env h (fun v h1=>wE Φ i env h1 (fun k h2=>go (idxV h2 v k) fun u=>Q u h2) X) X):=by simp only[wE_eq,Zd,Zb,Za,Zc];rfl
theorem q_e_slc{lo hi:Oe}:(wE Φ (.slc a lo hi) env h Q X)=(wE Φ a env h (fun v h1=>wO Φ lo env h1 (fun l h2=>wO Φ hi env h2 (fun u h3=>(slcV h3 v l u).wp h3 Q) X) X) X):=by simp only[wE_eq,Zd,Zb,Za,Zc];rfl
theorem q_e_tup{es:Es}:(wE Φ (.tup es) env h Q X)=(wA Φ es env h (fun vs h1=>Q (.tup vs) h1) X):=by simp only[wE_eq,Zd,Zb,Za,Zc];rfl
theorem q_e_lst{es:Es}:(wE Φ (.lst es) env h Q X)=(wA Φ es env h (fun vs h1=>new h1 (.lst vs) Q) X):=by simp only[wE_eq,Zd,Zb,Za,Zc];rfl
theorem q_e_dct{es:Es}:(wE Φ (.dct es) env h Q X)=(new h (.dct []) fun r h1=>go (ZP r) fun p=>wA Φ es env h1 (fun vs h2=>go (pairUp vs) fun kvs=>h2 p=some (.dct [])∧Q (.ref p) (upd h2 p (.dct (putAll [] kvs)))) X):=by simp only[wE_eq,Zd,Zb,Za,Zc];rfl
theorem q_e_comp{caps:List Nat}{n:Nat}{p:Pt}{it:It}{t:Tt}:(wE Φ (.comp caps n p it t e) env h Q X)=(wI Φ it env h (fun st xs h1=>xs.length<lim∧wComp st (fun v h2 K X2=>go (bind p h2 v (List.replicate n none++caps.map fun j=>(env[j]?).getD none)) fun env2=>  wT Φ t env2 h2 (fun k h3=>if k=true then wE Φ e env2 h3 (fun u h4=>K (some u) h4) X2 else K none h3) X2) xs [] h1 (fun ys h5=>new h5 (.lst ys) Q) fun _ _=>False) X):=by simp only[wE_eq,Zd,Zb,Za,Zc];rfl
theorem q_j_nil{acc:String}{QJ:String→Hs→Prop}:(wJ Φ .nil env h acc QJ X)=QJ acc h:=by rw[WZ];rfl
theorem q_j_cons{es:Es}{acc:String}{QJ:String→Hs→Prop}:(wJ Φ (.cons e es) env h acc QJ X)=(wE Φ e env h (fun v h1=>go (fmtV v) fun s=>acc.length+s.length≤lim∧wJ Φ es env h1 (acc++s) QJ X) X):=by simp only[wE_eq,WZ];rfl
variable {QA:List Val→Hs→Prop}{QO:Option Int→Hs→Prop}{QT:Bool→Hs→Prop}{QI:(Hs→Prop)→List Val→Hs→Prop}
theorem q_a_nil:(wA Φ .nil env h QA X)=(QA [] h):=by simp only[wE_eq,Zd,Zb,Za,Zc];rfl
theorem q_a_cons{es:Es}:(wA Φ (.cons e es) env h QA X)=(wE Φ e env h (fun v h1=>wA Φ es env h1 (fun vs h2=>QA (v::vs) h2) X) X):=by simp only[wE_eq,Zd,Zb,Za,Zc];rfl
theorem q_o_none:(wO Φ .none env h QO X)=(QO none h):=by simp only[wE_eq,Zd,Zb,Za,Zc];rfl
theorem q_o_some:(wO Φ (.some e) env h QO X)=(wE Φ e env h (fun v h1=>go (asInt v) fun i=>QO (some i) h1) X):=by simp only[wE_eq,Zd,Zb,Za,Zc];rfl
theorem q_t_yes:(wT Φ .yes env h QT X)=(QT true h):=by simp only[wE_eq,Zd,Zb,Za,Zc];rfl
theorem q_t_val:(wT Φ (.val e) env h QT X)=(wE Φ e env h (fun v h1=>go (Yk h1 v) fun k=>QT k h1) X):=by simp only[wE_eq,Zd,Zb,Za,Zc];rfl
theorem q_t_not{t:Tt}:(wT Φ (.not t) env h QT X)=(wT Φ t env h (fun k h1=>QT (!k) h1) X):=by simp only[wE_eq,Zd,Zb,Za,Zc];rfl
theorem q_t_and{s t:Tt}:(wT Φ (.and s t) env h QT X)=(wT Φ s env h (fun k h1=>if k=true then wT Φ t env h1 QT X else QT false h1) X):=by simp only[wE_eq,Zd,Zb,Za,Zc];rfl
theorem q_t_or{s t:Tt}:(wT Φ (.or s t) env h QT X)=(wT Φ s env h (fun k h1=>if k=true then QT true h1 else wT Φ t env h1 QT X) X):=by simp only[wE_eq,Zd,Zb,Za,Zc];rfl
theorem q_i_seq:(wI Φ (.seq e) env h QI X)=(wE Φ e env h (fun v h1=>go (itV h1 v) fun p=>QI p.1 p.2 h1) X):=by simp only[wE_eq,Zd,Zb,Za,Zc];rfl
theorem q_i_range:(wI Φ (.range a) env h QI X)=(wE Φ a env h (fun v h1=>go (asInt v) fun n=>(-(2 ^ 62)≤n∧n<2 ^ 62)∧QI (fun _=>True) (rangeV 0 n) h1) X):=by simp only[wE_eq,Zd,Zb,Za,Zc];rfl
end
section
variable {Φ:Fs}{env:Env}{h:Hs}{N B C:NQ}{R:Q1}{X:EQ}{a b c e o i:E}{as:Es}{v u:Val}{t:Tt}{s1 s2:Ss}{s:S}{p:Pt}{it:It}{hs:Hn}
theorem q_s_set:(wS Φ (.set p e) env h N R B C X)=(wE Φ e env h (fun v h1=>go (bind p h1 v env) fun env2=>N env2 h1) (X env)):=by simp only[Zl,Zg,Zo];rfl
theorem q_s_setIdx:(wS Φ (.setIdx a i e) env h N R B C X)=(wE Φ e env h (fun v h1=>wE Φ a env h1 (fun o h2=>wE Φ i env h2 (fun k h3=>go (putV h3 o k v) fun g=>N env g) (X env)) (X env)) (X env)):=by simp only[Zl,Zg,Zo];rfl
theorem q_s_ret:(wS Φ (.ret e) env h N R B C X)=(wE Φ e env h R (X env)):=by simp only[Zl,Zg,Zo];rfl
theorem q_s_ite:(wS Φ (.ite t s1 s2) env h N R B C X)=(wT Φ t env h (fun k h1=>if k=true then wSs Φ s1 env h1 N R B C X else wSs Φ s2 env h1 N R B C X) (X env)):=by simp only[Zl,Zg,Zo];rfl
theorem q_s_for:(wS Φ (.for p it s1) env h N R B C X)=(wI Φ it env h (fun st xs h1=>wFor st (fun v e g K M=>go (bind p g v e) fun e2=>wSs Φ s1 e2 g K R M K X) N xs env h1) (X env)):=by simp only[Zl,Zg,Zo];rfl
theorem q_s_never:(wS Φ .never env h N R B C X)=False:=by simp only[Zl];rfl
theorem q_ss_nil:(wSs Φ .nil env h N R B C X)=(N env h):=by simp only[Zl,Zg,Zo];rfl
theorem q_ss_cons{ss:Ss}:(wSs Φ (.cons s ss) env h N R B C X)=(wS Φ s env h (fun e g=>wSs Φ ss e g N R B C X) R B C X):=by simp only[Zl,Zg,Zo];rfl
end
end Own
namespace Own
mutual
theorem D.eqv_refl:∀ d:D,D.eqv d d=true
 |.non=>by simp[D.eqv]
 |.bl _=>by simp[D.eqv]
 |.int _=>by simp[D.eqv]
 |.str _=>by simp[D.eqv]
 |.tup ds=>by simp only[D.eqv];exact D.eqvs_refl ds
 |.lst ds=>by simp only[D.eqv];exact D.eqvs_refl ds
theorem D.eqvs_refl:∀ ds:List D,D.eqvs ds ds=true
 |[]=>by simp[D.eqvs]
 |d::ds=>by simp only[D.eqvs,D.eqv_refl d,D.eqvs_refl ds,Bool.and_self]
end
end Own
namespace Own
section
variable {Φ:Fs}{env:Env}{h:Hs}{Q:Q1}{X:XQ}{a:Ad}{v:Val}{kvs:List (Val×Val)}
theorem Bx(q:∀ p,h p=none→Q (.ref p) (upd h p (.dct []))):wE Φ (.dct .nil) env h Q X:=by refine U2 (YC fun p hp=>U1 (Z2 (go_of rfl ⟨upd_same,?_⟩)));rw[upd_upd];exact q p hp
theorem GJ{K:List (Val×Val)→Prop}(e1:h a=some (.dct kvs))(q:K kvs):go (Ja (h a)) K:=go_of (dcE e1) q
end
end Own
namespace Snd
open PySem L2
noncomputable def KT (K:PySem.W.Frag) (a:Addr) (xs:List V):Prop :=
 ∃ (o:Obj) (its:Array Value) (n:Nat),K.lookup a=some o∧o.cls=.type "tuple"∧o.data=.seq its n∧its.size≤sizeLine∧Vals xs its.toList
noncomputable def KL (K:PySem.W.Frag) (a:Addr) (xs:List V):Prop :=
 ∃ (o:Obj) (its:Array Value) (n:Nat),K.lookup a=some o∧o.cls=.type "list"∧o.dict=none∧o.data=.seq its n∧its.size≤sizeLine∧Vals xs its.toList
mutual
inductive RV (K:PySem.W.Frag) (H:Hp):Own.Val→V→Prop
 |non:RV K H .non .non
 |bl (b:Bool):RV K H (.bl b) (.bl b)
 |int (i:Int):RV K H (.int i) (.int i)
 |str (s:String):RV K H (.str s) (.str (Str.ofString s))
 |tup {xs:List Own.Val}{a:Addr}{vs:List V}:(H a=some (.tup vs)∨KT K a vs)→RVs K H xs vs→RV K H (.tup xs) (.ref a)
 |ref (a:Addr):RV K H (.ref a) (.ref a)
 |scr {ns:List Int}{a:Addr}:((∃ o,H a=some (.frz o (.lst (ns.map V.int))))∨KL K a (ns.map V.int))→RV K H (.scr ns) (.ref a)
inductive RVs (K:PySem.W.Frag) (H:Hp):List Own.Val→List V→Prop
 |nil:RVs K H [] []
 |cons {v:Own.Val}{x:V}{vs:List Own.Val}{xs:List V}:RV K H v x→RVs K H vs xs→RVs K H (v::vs) (x::xs)
end
structure Keep (H H':Hp):Prop where
 t:∀ a xs,H a=some (.tup xs)→H' a=some (.tup xs)
 f:∀ a o u,H a=some (.frz o u)→H' a=some (.frz o u)
theorem Keep.refl(H:Hp):Keep H H:=⟨fun _ _ e=>e,fun _ _ _ e=>e⟩
theorem Keep.trans{H H1 H2:Hp}(a:Keep H H1)(b:Keep H1 H2):Keep H H2:=⟨fun c xs e=>b.t c xs (a.t c xs e),fun c o u e=>b.f c o u (a.f c o u e)⟩
theorem Keep.put{H:Hp}{a:Addr}{o:HO}(h:∀ xs,H a≠some (.tup xs))(h2:∀ p u,H a≠some (.frz p u)):Keep H (upd H a o):=⟨fun b xs e=>by
  rw[upd_ne (by rintro rfl;exact h xs e)];exact e,fun b p u e=>by rw[upd_ne (by rintro rfl;exact h2 p u e)];exact e⟩
theorem Keep.new{H:Hp}{a:Addr}{o:HO}(h:H a=none):Keep H (upd H a o):=Keep.put (fun xs e=>by rw[h]at e;cases e) fun p u e=>by rw[h]at e;cases e
variable {K:PySem.W.Frag}{H H':Hp}
mutual
theorem RV.keep(k:Keep H H'):∀ {v:Own.Val}{x:V},RV K H v x→RV K H' v x
 |_,_,.non=>.non
 |_,_,.bl b=>.bl b
 |_,_,.int i=>.int i
 |_,_,.str s=>.str s
 |_,_,.tup (.inl e) r=>.tup (.inl (k.t _ _ e)) (RVs.keep k r)
 |_,_,.tup (.inr e) r=>.tup (.inr e) (RVs.keep k r)
 |_,_,.ref a=>.ref a
 |_,_,.scr (.inl ⟨o,e⟩)=>.scr (.inl ⟨o,k.f _ _ _ e⟩)
 |_,_,.scr (.inr e)=>.scr (.inr e)
theorem RVs.keep(k:Keep H H'):∀ {vs:List Own.Val}{xs:List V},RVs K H vs xs→RVs K H' vs xs
 |_,_,.nil=>.nil
 |_,_,.cons r t=>.cons (RV.keep k r) (RVs.keep k t)
end
theorem RVs.length:∀ {vs:List Own.Val}{xs:List V},RVs K H vs xs→vs.length=xs.length
 |_,_,.nil=>rfl
 |_,_,.cons _ t=>by rw[List.length_cons,List.length_cons,RVs.length t]
theorem RVs.get:∀ {vs:List Own.Val}{xs:List V}{i:Nat}{v:Own.Val},RVs K H vs xs→vs[i]?=some v→∃ x,xs[i]?=some x∧RV K H v x
 |_,_,_,_,.nil,e=>by simp at e
 |_,_,0,_,.cons r _,e=>by simp at e;subst e;exact⟨_,rfl,r⟩
 |_,_,i+1,v,.cons _ t,e=>by obtain⟨x,h1,h2⟩:=RVs.get (i:=i) (v:=v) t (by simpa using e);exact⟨x,by simpa using h1,h2⟩
theorem RVs.append:∀ {vs us:List Own.Val}{xs ys:List V},RVs K H vs xs→RVs K H us ys→RVs K H (vs++us) (xs++ys)
 |_,_,_,_,.nil,h=>h
 |_,_,_,_,.cons r t,h=>.cons r (RVs.append t h)
theorem RVs.set{v:Own.Val}{x:V}(r:RV K H v x):∀ {vs:List Own.Val}{xs:List V}(i:Nat),RVs K H vs xs→RVs K H (vs.set i v) (xs.set i x)
 |_,_,_,.nil=>.nil
 |_,_,0,.cons _ t=>.cons r t
 |_,_,i+1,.cons q t=>.cons q (RVs.set r i t)
theorem RVs.take:∀ {vs:List Own.Val}{xs:List V}(n:Nat),RVs K H vs xs→RVs K H (vs.take n) (xs.take n)
 |_,_,0,_=>.nil
 |_,_,_+1,.nil=>.nil
 |_,_,n+1,.cons r t=>.cons r (RVs.take n t)
theorem RVs.drop:∀ {vs:List Own.Val}{xs:List V}(n:Nat),RVs K H vs xs→RVs K H (vs.drop n) (xs.drop n)
 |_,_,0,r=>r
 |_,_,_+1,.nil=>.nil
 |_,_,n+1,.cons _ t=>RVs.drop n t
theorem RVs.reverse{vs:List Own.Val}{xs:List V}(r:RVs K H vs xs):RVs K H vs.reverse xs.reverse:=by
 induction r using RVs.rec (motive_1:=fun _ _ _=>True)with
 |nil=>exact .nil
 |cons r t _ ih=>rw[List.reverse_cons,List.reverse_cons];exact ih.append (.cons r .nil)
 |_=>trivial
theorem RVs.eraseIdx:∀ {vs:List Own.Val}{xs:List V}(i:Nat),RVs K H vs xs→RVs K H (vs.eraseIdx i) (xs.eraseIdx i)
 |_,_,_,.nil=>.nil
 |_,_,0,.cons _ t=>t
 |_,_,i+1,.cons q t=>.cons q (RVs.eraseIdx i t)
theorem RVs.dropLast{vs:List Own.Val}{xs:List V}(r:RVs K H vs xs):RVs K H vs.dropLast xs.dropLast:=by rw[List.dropLast_eq_take,List.dropLast_eq_take,r.length];exact r.take _
theorem Zr{a:Addr}{vs:List V}(h:H a=some (.tup vs)∨KT K a vs):SqT K H a vs:=by
 rcases h with h|h
 ·exact SqT.of h
 ·exact .inr h
structure Inf where
 K:PySem.W.Frag
 cl:String→Addr→Prop
 ins:String→Bool
 xc:String→Addr→Prop
noncomputable def Xf:Own.Val→Key→Prop
 |.int i,.inl j=>i=j
 |.str s,.inr t=>t=Str.ofString s
 |_,_=>False
inductive RKs (K:PySem.W.Frag) (H:Hp):List (Own.Val×Own.Val)→List (Key×V)→Prop
 |nil:RKs K H [] []
 |cons {k v:Own.Val}{c:Key}{x:V}{kvs:List (Own.Val×Own.Val)}{ps:List (Key×V)}:Xf k c→RV K H v x→RKs K H kvs ps→RKs K H ((k,v)::kvs) ((c,x)::ps)
inductive RFs (K:PySem.W.Frag) (H:Hp):List (String×Own.Val)→List (Str×V)→Prop
 |nil:RFs K H [] []
 |cons {f:String}{v:Own.Val}{x:V}{fs:List (String×Own.Val)}{ps:List (Str×V)}:RV K H v x→RFs K H fs ps→RFs K H ((f,v)::fs) ((Str.ofString f,x)::ps)
theorem RKs.keep(k:Keep H H'):∀ {kvs:List (Own.Val×Own.Val)}{ps:List (Key×V)},RKs K H kvs ps→RKs K H' kvs ps
 |_,_,.nil=>.nil
 |_,_,.cons a r t=>.cons a (r.keep k) (RKs.keep k t)
theorem RFs.keep(k:Keep H H'):∀ {fs:List (String×Own.Val)}{ps:List (Str×V)},RFs K H fs ps→RFs K H' fs ps
 |_,_,.nil=>.nil
 |_,_,.cons r t=>.cons (r.keep k) (RFs.keep k t)
noncomputable def RO (i:Inf) (H:Hp) (a:Addr):Own.Ob→Prop
 |.lst xs=>∃ vs,H a=some (.lst vs)∧RVs i.K H xs vs
 |.dct kvs=>∃ ps,H a=some (.dK ps)∧RKs i.K H kvs ps
 |.ins C fs=>∃ c dx ps,i.ins C=true∧i.cl C c∧H a=some (.ins c dx ps)∧RFs i.K H fs ps
 |.exc C=>∃ c,i.xc C c∧H a=some (xcO a (.ref c))
 |.frz kvs=>∃ o ps,H a=some (.frz o (.dK ps))∧RKs i.K H kvs ps
theorem RO.there{i:Inf}{a:Addr}{o:Own.Ob}(r:RO i H a o):∃ u,H a=some u:=by
 cases o with
 |lst xs=>obtain⟨_,e,_⟩:=r;exact⟨_,e⟩
 |dct kvs=>obtain⟨_,e,_⟩:=r;exact⟨_,e⟩
 |ins C fs=>obtain⟨_,_,_,_,_,e,_⟩:=r;exact⟨_,e⟩
 |exc C=>obtain⟨_,_,e⟩:=r;exact⟨_,e⟩
 |frz kvs=>obtain⟨_,_,e,_⟩:=r;exact⟨_,e⟩
theorem RO.move{i:Inf}{a:Addr}{o:Own.Ob}(r:RO i H a o)(k:Keep H H')(e:H' a=H a):RO i H' a o:=by
 cases o with
 |lst xs=>obtain⟨vs,q,r⟩:=r;exact⟨vs,e.trans q,r.keep k⟩
 |dct kvs=>obtain⟨ps,q,r⟩:=r;exact⟨ps,e.trans q,r.keep k⟩
 |ins C fs=>obtain⟨c,dx,ps,h0,h,q,r⟩:=r;exact⟨c,dx,ps,h0,h,e.trans q,r.keep k⟩
 |exc C=>obtain⟨c,h,q⟩:=r;exact⟨c,h,e.trans q⟩
 |frz kvs=>obtain⟨o,ps,q,r⟩:=r;exact⟨o,ps,e.trans q,r.keep k⟩
noncomputable def RH (i:Inf) (G:Own.Hs) (H:Hp):Prop:=∀ a o,G a=some o→RO i H a o
theorem RH.free{i:Inf}{G:Own.Hs}{a:Addr}(r:RH i G H)(e:H a=none):G a=none:=by
 cases q:G a with
 |none=>rfl
 |some o=>obtain⟨u,z⟩:=(r a o q).there;rw[e]at z;cases z
theorem RH.put{i:Inf}{G:Own.Hs}{a:Addr}{o:Own.Ob}{u:HO}(r:RH i G H)(k:Keep H (upd H a u))(n:RO i (upd H a u) a o):RH i (Own.upd G a o) (upd H a u):=fun b p e=>by
 by_cases hb:b=a
 ·subst hb;rw[Own.upd_same]at e;cases e;exact n
 ·rw[Own.upd_ne hb]at e;exact(r b p e).move k (upd_ne hb)
theorem RH.hid{i:Inf}{G:Own.Hs}(r:RH i G H)(k:Keep H H')(e:∀ a o,G a=some o→H' a=H a):RH i G H':=fun b p q=>(r b p q).move k (e b p q)
structure REn (K:PySem.W.Frag) (H:Hp) (env:Own.Env) (σ:St):Prop where
 len:env.length=σ.length
 get:∀ (i:Nat) (v:Own.Val),env[i]?=some (some v)→∃ x,σ[i]?=some (some x)∧RV K H v x
theorem REn.keep{env:Own.Env}{σ:St}(r:REn K H env σ)(k:Keep H H'):REn K H' env σ:=⟨r.len,fun i v e=>by
  obtain⟨x,h1,h2⟩:=r.get i v e
  exact⟨x,h1,h2.keep k⟩⟩
theorem REn.set{env:Own.Env}{σ:St}{v:Own.Val}{x:V}(r:REn K H env σ)(q:RV K H v x)(j:Nat):REn K H (env.set j (some v)) (σ.set j (some x)):=⟨by simp[r.len],fun i u e=>by
  by_cases hij:j=i
  · subst hij
    rw[List.getElem?_set_self']at e
    cases z:env[j]? with
    |none=>rw[z]at e;cases e
    |some w =>
      rw[z]at e
      cases e
      have hj:j<σ.length:=by rw[←r.len];exact(List.getElem?_eq_some_iff.mp z).1
      exact⟨x,List.getElem?_set_self hj,q⟩
  · rw[List.getElem?_set_ne hij]at e
    obtain⟨y,h1,h2⟩:=r.get i u e
    exact⟨y,by rw[List.getElem?_set_ne hij];exact h1,h2⟩⟩
theorem REn.start{vs:List Own.Val}{xs:List V}{n:Nat}(r:RVs K H vs xs):REn K H (vs.map some++List.replicate n none) (xs.map some++List.replicate n none):=⟨by simp[r.length],fun i v e=>by
  by_cases hi:i<vs.length
  · rw[List.getElem?_append_left (by simpa using hi),List.getElem?_map]at e
    cases z:vs[i]? with
    |none=>rw[z]at e;cases e
    |some w =>
      rw[z]at e
      cases e
      obtain⟨x,h1,h2⟩:=r.get z
      exact⟨x,by rw[List.getElem?_append_left (by rw[List.length_map,←r.length];exact hi),List.getElem?_map,h1];rfl,h2⟩
  · rw[List.getElem?_append_right (by simpa using hi),List.getElem?_replicate]at e
    split at e<;>cases e⟩
theorem RVs.ints{K:PySem.W.Frag}{H:Hp}:∀ ns:List Int,RVs K H (ns.map Own.Val.int) (ns.map V.int)
 |[]=>.nil
 |n::ns=>.cons (.int n) (RVs.ints ns)
theorem ZX{a:Addr}{ns:List Int}(h:(∃ o,H a=some (.frz o (.lst (ns.map V.int))))∨KL K a (ns.map V.int)):SqL K H a (ns.map V.int):=by
 rcases h with⟨o,h⟩|h
 ·exact .inl (.inr ⟨o,h⟩)
 ·exact .inr h
end Snd
namespace Snd
open PySem L2
variable {i:Inf}{X:Cx}{Φ:Own.Fs}
noncomputable def XK1 (i:Inf) (H:Hp) (Em:Own.XQ):XK:=fun cls _ H'=>∃ c G' ad,cls=.ref ad∧i.xc c ad∧Keep H H'∧RH i G' H'∧Em c G'
noncomputable def XOk (X:Cx) (i:Inf) (H:Hp) (Em:Own.XQ):Prop:=XW X (XK1 i H Em)
theorem XK1.go{H H1 H':Hp}{Em:Own.XQ}{cls:Value}{d:Option Addr}(k:Keep H H1)(h:XK1 i H1 Em cls d H'):XK1 i H Em cls d H':=by obtain⟨c,G',ad,e,q,k',r,m⟩:=h;exact⟨c,G',ad,e,q,k.trans k',r,m⟩
theorem XOk.go{H H1:Hp}{Em:Own.XQ}(x:XOk X i H Em)(k:Keep H H1):XOk X i H1 Em:=fun pins σ H0 s H' a cls s' I f e=>x pins σ H0 s H' a cls s' I f (e.go k)
structure Pre (X:Cx) (i:Inf) (σ:St) (H:Hp) (env:Own.Env) (G:Own.Hs) (Em:Own.XQ):Prop where
 en:REn i.K H env σ
 hp:RH i G H
 xo:XOk X i H Em
theorem Pre.go{σ:St}{H H1:Hp}{env:Own.Env}{G G1:Own.Hs}{Em:Own.XQ}(p:Pre X i σ H env G Em)(k:Keep H H1)(r:RH i G1 H1):Pre X i σ H1 env G1 Em:=⟨p.en.keep k,r,p.xo.go k⟩
noncomputable def Cn (i:Inf) (H:Hp) (Q:VK) (Qm:Own.Q1):Prop:=∀ v G' H' x,Keep H H'→RH i G' H'→RV i.K H' v x→Qm v G'→Q x H'
theorem Cn.go{H H1:Hp}{Q:VK}{Qm:Own.Q1}(c:Cn i H Q Qm)(k:Keep H H1):Cn i H1 Q Qm:=fun v G' H' x k'=>c v G' H' x (k.trans k')
noncomputable def tE (X:Cx) (i:Inf) (Φ:Own.Fs) (m:Own.E):TE:=fun σ H Q=>∃ env G Qm Em,Pre X i σ H env G Em∧Own.wE Φ m env G Qm Em∧Cn i H Q Qm
noncomputable def tAr (X:Cx) (i:Inf) (Φ:Own.Fs) (ms:Own.Es) (n:Nat):TA:=fun σ H Q=>∃ env G Qm Em,Pre X i σ H env G Em∧Own.wA Φ ms env G Qm Em∧∀ vs G' H' xs,Keep H H'→RH i G' H'→RVs i.K H' vs xs→xs.length=n→Qm vs G'→Q xs H'
noncomputable def tTt (X:Cx) (i:Inf) (Φ:Own.Fs) (m:Own.Tt):TT:=fun σ H Q=>∃ env G Qm Em,Pre X i σ H env G Em∧Own.wT Φ m env G Qm Em∧∀ b G' H',Keep H H'→RH i G' H'→Qm b G'→Q b H'
theorem _root_.L2.PE.imp{X:Cx}{e:Expr}{t t':TE}(h:PE X e t)(f:∀ σ H Q,t' σ H Q→t σ H Q):PE X e t':=fun pins s σ H Q I q=>h pins s σ H Q I (f σ H Q q)
theorem _root_.L2.PT.imp{X:Cx}{e:Expr}{t t':TT}(h:PT X e t)(f:∀ σ H Q,t' σ H Q→t σ H Q):PT X e t':=fun pins s σ H Q I q=>h pins s σ H Q I (f σ H Q q)
theorem _root_.L2.PW.imp{X:Cx}{e:Expr}{t t':TT}(h:PW X e t)(f:∀ σ H Q,t' σ H Q→t σ H Q):PW X e t':=fun wh pins s σ H Q I q=>h wh pins s σ H Q I (f σ H Q q)
theorem _root_.L2.PA.imp{X:Cx}{es:List Expr}{t t':TA}(h:PA X es t)(f:∀ σ H Q,t' σ H Q→t σ H Q):PA X es t':=fun pos pins s σ H Q I q=>h pos pins s σ H Q I (f σ H Q q)
theorem Dw{env:Own.Env}{h:Own.Hs}{Q:Own.Q1}{E:Own.XQ}{j:Nat}:(Own.wE Φ (.var j) env h Q E)=(Own.go (Own.getV env j) fun v=>Q v h):=by simp only[Own.wE_eq];rfl
theorem go_some{α:Type}{o:Option α}{k:α→Prop}(h:Own.go o k):∃ a,o=some a∧k a:=by
 cases o with
 |none=>simp at h
 |some a=>exact⟨a,rfl,by simpa using h⟩
theorem K6{env:Own.Env}{j:Nat}{v:Own.Val}(h:Own.getV env j=some v):env[j]?=some (some v):=by
 unfold Own.getV at h;split at h
 ·rename_i u e;cases h;exact e
 ·cases h
theorem CZ {x:Str}{pos:Pos}{j:Nat}(hN:X.N[j]?=some x) (hv:Vis X.env.scope x) (hd:(x==("__debug__" : Str))=false) (hcd:(x==("__classdict__" : Str))=false):PE X (.Name x pos) (tE X i Φ (.var j)) :=
 (NX hN hv hd hcd).imp fun σ H Q ⟨env,G,Qm,Em,p,w,c⟩=>by rw[Dw]at w;obtain⟨v,e,q⟩:=go_some w;obtain⟨y,h1,h2⟩:=p.en.get j v (K6 e);exact⟨y,h1,c v G H y (Keep.refl H) p.hp h2 q⟩
theorem Y1{e:Expr}{v:Own.Val}{x:V}(h:PE X e (tC x))(r:∀ H,RV i.K H v x):PE X e (tE X i Φ (.cst v)) :=
 h.imp fun σ H Q ⟨env,G,Qm,Em,p,w,c⟩=>by rw[Own.q_e_cst]at w;exact c v G H x (Keep.refl H) p.hp (r H) w
theorem BL{e:Expr}{y:String}{v:Own.Val}{x:V}(h:PE X e (tC x))(r:∀ H,RV i.K H v x):PE X e (tE X i Φ (.glob y v)) :=
 h.imp fun σ H Q ⟨env,G,Qm,Em,p,w,c⟩=>by rw[Own.q_e_glob]at w;exact c v G H x (Keep.refl H) p.hp (r H) w
theorem two{a b:Own.E}{σ:St}{H:Hp}{env:Own.Env}{G:Own.Hs}{Em:Own.XQ}{F:Own.Val→Own.Val→Own.Hs→Prop}{R:V→V→Hp→Prop}(p:Pre X i σ H env G Em)
  (w:Own.wE Φ a env G (fun v G1=>Own.wE Φ b env G1 (fun u G2=>F v u G2) Em) Em)
  (h:∀ v u G2 H2 x y,Keep H H2→Pre X i σ H2 env G2 Em→RV i.K H2 v x→RV i.K H2 u y→F v u G2→R x y H2):tE X i Φ a σ H fun x H1=>tE X i Φ b σ H1 fun y H2=>R x y H2 :=
 ⟨env,G,_,Em,p,w,fun v G1 H1 x k1 g1 r1 w1=>⟨env,G1,_,Em,p.go k1 g1,w1,fun u G2 H2 y k2 g2 r2 w2=>h v u G2 H2 x y (k1.trans k2) ((p.go k1 g1).go k2 g2) (r1.keep k2) r2 w2⟩⟩
theorem one{a:Own.E}{σ:St}{H:Hp}{env:Own.Env}{G:Own.Hs}{Em:Own.XQ}{F:Own.Val→Own.Hs→Prop}{R:V→Hp→Prop}(p:Pre X i σ H env G Em)
  (w:Own.wE Φ a env G (fun v G1=>F v G1) Em) (h:∀ v G1 H1 x,Keep H H1→Pre X i σ H1 env G1 Em→RV i.K H1 v x→F v G1→R x H1):tE X i Φ a σ H fun x H1=>R x H1 :=
 ⟨env,G,_,Em,p,w,fun v G1 H1 x k1 g1 r1 w1=>h v G1 H1 x k1 (p.go k1 g1) r1 w1⟩
noncomputable def Y9 (i:Inf) (op:Own.Bop) (r:R2):Prop:=∀ (v u:Own.Val) (G:Own.Hs) (H:Hp) (x y:V) (Q:VK) (Qm:Own.Q1),RH i G H→RV i.K H v x→RV i.K H u y→(Own.binV G op v u).wp G Qm→Cn i H Q Qm→r x y H Q
theorem X7{a b:Expr}{ma mb:Own.E}{op:Operator}{bop:Own.Bop}{r:R2}{pos:Pos}(ho:OpR X (binaryOp op) r)(hr:Y9 i bop r)(ha:PE X a (tE X i Φ ma))(hb:PE X b (tE X i Φ mb)):PE X (.BinOp a op b pos) (tE X i Φ (.bin bop ma mb)) :=
 (CP ho ha hb).imp fun σ H Q ⟨env,G,Qm,Em,p,w,c⟩=>by rw[Own.q_e_bin]at w;exact two p w fun v u G2 H2 x y k2 p2 rx ry q=>hr v u G2 H2 x y Q Qm p2.hp rx ry q (c.go k2)
noncomputable def ZJ (i:Inf) (op:Own.Cop) (r:R2):Prop:=∀ (v u:Own.Val) (G:Own.Hs) (H:Hp) (x y:V) (c:Bool) (Q:VK),RH i G H→RV i.K H v x→RV i.K H u y→Own.cmpV G op v u=some c→Q (.bl c) H→r x y H Q
theorem En{a b:Expr}{ma mb:Own.E}{op:CmpOp}{cop:Own.Cop}{r:R2}{pos:Pos}(ho:OpR X (compareOp op) r)(hr:ZJ i cop r)(ha:PE X a (tE X i Φ ma))(hb:PE X b (tE X i Φ mb))(hm:behindInMarks op b=false):PE X (.Compare a [op] [b] pos) (tE X i Φ (.cmp cop ma mb)) :=
 (OT ho ha hb hm).imp fun σ H Q ⟨env,G,Qm,Em,p,w,c⟩=>by
  rw[Own.q_e_cmp]at w;exact two p w fun v u G2 H2 x y k2 p2 rx ry q=>by obtain⟨d,e,q⟩:=go_some q;exact hr v u G2 H2 x y d Q p2.hp rx ry e (c (.bl d) G2 H2 (.bl d) k2 p2.hp (.bl d) q)
theorem Bv{a b:Expr}{ma mb:Own.E}{op:CmpOp}{cop:Own.Cop}{r:R2}{pos:Pos}(ho:OpR X (compareOp op) r)(hr:ZJ i cop r)(ha:PE X a (tE X i Φ ma))(hb:PE X b (tE X i Φ mb))(hm:behindInMarks op b=false):PT X (.Compare a [op] [b] pos) (tTt X i Φ (.val (.cmp cop ma mb))) :=
 (Ur ho ha hb hm).imp fun σ H Q ⟨env,G,Qm,Em,p,w,c⟩=>by
  rw[Own.q_t_val,Own.q_e_cmp]at w;exact two p w fun v u G2 H2 x y k2 p2 rx ry q=>by obtain⟨d,e,q⟩:=go_some q;obtain⟨d',e',q⟩:=go_some q;cases e';exact hr v u G2 H2 x y d _ p2.hp rx ry e ⟨d,rfl,c d G2 H2 k2 p2.hp q⟩
theorem YJ{v:Own.Val}{b:Bool}(h:Own.asBl v=some b):v=.bl b:=by cases v<;>simp_all [Own.asBl]
theorem ZK{v:Own.Val}{b:Int}(h:Own.asInt v=some b):v=.int b:=by cases v<;>simp_all [Own.asInt]
theorem RV.bl_inv{K:PySem.W.Frag}{H:Hp}{b:Bool}{x:V}(r:RV K H (.bl b) x):x=.bl b:=by cases r;rfl
theorem RV.int_inv{K:PySem.W.Frag}{H:Hp}{b:Int}{x:V}(r:RV K H (.int b) x):x=.int b:=by cases r;rfl
theorem RV.ref_inv{K:PySem.W.Frag}{H:Hp}{b:Addr}{x:V}(r:RV K H (.ref b) x):x=.ref b:=by cases r;rfl
theorem RV.str_inv{K:PySem.W.Frag}{H:Hp}{b:String}{x:V}(r:RV K H (.str b) x):x=.str (Str.ofString b):=by cases r;rfl
theorem C8{a:Expr}{ma:Own.E}{pos:Pos}(ha:PE X a (tE X i Φ ma)):PE X (.UnaryOp .Not a pos) (tE X i Φ (.not ma)) :=
 (Bs ha).imp fun σ H Q ⟨env,G,Qm,Em,p,w,c⟩=>by
  rw[Own.q_e_not]at w;exact one p w fun v G1 H1 x k1 p1 r q=>by obtain⟨b,e,q2⟩:=go_some q;clear q;cases YJ e;exact⟨b,r.bl_inv,c _ G1 H1 _ k1 p1.hp (.bl _) q2⟩
theorem Cr{a:Expr}{ma:Own.E}{pos:Pos}(ha:PE X a (tE X i Φ ma)):PE X (.UnaryOp .USub a pos) (tE X i Φ (.neg ma)) :=
 (Dz AG ha).imp fun σ H Q ⟨env,G,Qm,Em,p,w,c⟩=>by
  rw[Own.q_e_neg]at w;exact one p w fun v G1 H1 x k1 p1 r q=>by obtain⟨b,e,q2⟩:=go_some q;clear q;cases ZK e;exact⟨b,r.int_inv,c _ G1 H1 _ k1 p1.hp (.int _) q2⟩
theorem Dt{a b:Expr}{rest:List Expr}{ma mb:Own.E}{pos:Pos}(ha:PE X a (tE X i Φ ma))(hb:PE X (.BoolOp .And (b::rest) pos) (tE X i Φ mb)):PE X (.BoolOp .And (a::b::rest) pos) (tE X i Φ (.and ma mb)) :=
 (B6 ha hb).imp fun σ H Q ⟨env,G,Qm,Em,p,w,c⟩=>by
  rw[Own.q_e_and]at w;exact one p w fun v G1 H1 x k1 p1 r q=>by
   obtain⟨d,e,q2⟩:=go_some q;clear q;cases YJ e;refine⟨d,r.bl_inv,?_⟩;cases d with
   |true=>exact⟨env,G1,Qm,Em,p1,by simpa using q2,c.go k1⟩
   |false=>simp at q2 ⊢;exact c _ G1 H1 _ k1 p1.hp (.bl _) q2
theorem Go{a b:Expr}{rest:List Expr}{ma mb:Own.E}{pos:Pos}(ha:PE X a (tE X i Φ ma))(hb:PE X (.BoolOp .Or (b::rest) pos) (tE X i Φ mb)):PE X (.BoolOp .Or (a::b::rest) pos) (tE X i Φ (.or ma mb)) :=
 (Dq ha hb).imp fun σ H Q ⟨env,G,Qm,Em,p,w,c⟩=>by
  rw[Own.q_e_or]at w;exact one p w fun v G1 H1 x k1 p1 r q=>by
   obtain⟨d,e,q2⟩:=go_some q;clear q;cases YJ e;refine⟨d,r.bl_inv,?_⟩;cases d with
   |false=>exact⟨env,G1,Qm,Em,p1,by simpa using q2,c.go k1⟩
   |true=>simp at q2 ⊢;exact c _ G1 H1 _ k1 p1.hp (.bl _) q2
theorem A2{a:Expr}{ma:Own.Tt}{pos:Pos}(ha:PT X a (tTt X i Φ ma)):PT X (.UnaryOp .Not a pos) (tTt X i Φ (.not ma)) :=
 (BW ha).imp fun σ H Q ⟨env,G,Qm,Em,p,w,c⟩=>by rw[Own.q_t_not]at w;exact⟨env,G,_,Em,p,w,fun b G1 H1 k1 g1 q=>c (!b) G1 H1 k1 g1 q⟩
theorem Aw{a b:Expr}{rest:List Expr}{ma mb:Own.Tt}{pos:Pos}(ha:PT X a (tTt X i Φ ma))(hb:PW X (.BoolOp .And (b::rest) pos) (tTt X i Φ mb)):PW X (.BoolOp .And (a::b::rest) pos) (tTt X i Φ (.and ma mb)) :=
 (BZ ha hb).imp fun σ H Q ⟨env,G,Qm,Em,p,w,c⟩=>by
  rw[Own.q_t_and]at w;refine⟨env,G,_,Em,p,w,fun d G1 H1 k1 g1 q=>?_⟩;cases d with
  |true=>exact⟨env,G1,Qm,Em,p.go k1 g1,by simpa using q,fun b G2 H2 k2=>c b G2 H2 (k1.trans k2)⟩
  |false=>simp at q ⊢;exact c false G1 H1 k1 g1 q
theorem Da{a b:Expr}{rest:List Expr}{ma mb:Own.Tt}{pos:Pos}(ha:PT X a (tTt X i Φ ma))(hb:PW X (.BoolOp .Or (b::rest) pos) (tTt X i Φ mb)):PW X (.BoolOp .Or (a::b::rest) pos) (tTt X i Φ (.or ma mb)) :=
 (CN ha hb).imp fun σ H Q ⟨env,G,Qm,Em,p,w,c⟩=>by
  rw[Own.q_t_or]at w;refine⟨env,G,_,Em,p,w,fun d G1 H1 k1 g1 q=>?_⟩;cases d with
  |false=>exact⟨env,G1,Qm,Em,p.go k1 g1,by simpa using q,fun b G2 H2 k2=>c b G2 H2 (k1.trans k2)⟩
  |true=>simp at q ⊢;exact c true G1 H1 k1 g1 q
theorem Oz{a:Expr}{ma:Own.Tt}{pos:Pos}(ha:PT X a (tTt X i Φ ma)):PW X (.BoolOp .And [a] pos) (tTt X i Φ ma):=OV ha
theorem BG{a:Expr}{ma:Own.Tt}{pos:Pos}(ha:PT X a (tTt X i Φ ma)):PW X (.BoolOp .Or [a] pos) (tTt X i Φ ma):=Cg ha
theorem AV:PA X [] (tAr X i Φ .nil 0):=pa_nil.imp fun σ H Q ⟨env,G,Qm,Em,p,w,c⟩=>by rw[Own.q_a_nil]at w;exact c [] G H [] (Keep.refl H) p.hp .nil rfl w
theorem OE{e:Expr}{es:List Expr}{m:Own.E}{ms:Own.Es}{n:Nat}(he:PE X e (tE X i Φ m))(hes:PA X es (tAr X i Φ ms n))(hs:starEach (e::es) X.env=(false,eval e X.env)::starEach es X.env):PA X (e::es) (tAr X i Φ (.cons m ms) (n+1)) :=
 (Yo he hes hs).imp fun σ H Q ⟨env,G,Qm,Em,p,w,c⟩=>by rw[Own.q_a_cons]at w;exact⟨env,G,_,Em,p,w,fun v G1 H1 x k1 g1 r1 w1=>⟨env,G1,_,Em,p.go k1 g1,w1,fun vs G2 H2 xs k2 g2 r2 hn w2=>c (v::vs) G2 H2 (x::xs) (k1.trans k2) g2 (.cons (r1.keep k2) r2) (by rw[List.length_cons,hn]) w2⟩⟩
theorem ZF:Own.lim≤sizeLine:=by decide
theorem ZY{H:Hp}{G:Own.Hs}{Q:VK}{Qm:Own.Q1}{o:Own.Ob}{u:HO}(g:RH i G H)(w:Own.new G o Qm)(c:Cn i H Q Qm)(r:∀ p,H p=none→RO i (upd H p u) p o):∀ p,H p=none→Q (.ref p) (upd H p u):=fun p hp=>by unfold Own.new at w;exact c (.ref p) _ _ (.ref p) (Keep.new hp) (g.put (Keep.new hp) (r p hp)) (.ref p) (w p (g.free hp))
end Snd
namespace HT2
open PySem PySem.Spec PyProof.Rows L2
def ZL:List Int→List Int→Bool
 |[],[]=>false
 |[],_::_=>false
 |_::_,[]=>true
 |x::xs,y::ys=>if x=y then ZL xs ys else decide (x > y)
theorem NF(A:Around)(s:Shared)(a:Int)(t:Tok)(c:Int)(u:Tok)(prog:Program)(w:World)(E:Value→Shared→Prop)(Q:Value→Shared→Prop)(h:Q (.bool (decide (a > c))) s) :
  wpAny (model prog w) A (richCompare .Gt (.int a t) (.int c u)) Q E s :=
 (PyProof.Rows.gt_int h:wpAny (model prog w) A (compareOp .Gt (.int a t) (.int c u)) Q E s)
section
open PySem.SeqAt
open PySem.AutoSeq1 (wpAny_loadPart')
open PySem.MeetsSeq PySem.MeetsSeq2 PySem.MeetsSeq3
theorem XE(l b:Addr)(items items2:Array Value)(n n2:Nat)(dd dd2:Option Addr)(sl sl2:Array (Option Value))(ns ms:List Int)(hi:IntsAre items.toList ns)(hj:IntsAre items2.toList ms) :
  Meets (Builtin.«tuple.__gt__» ⟨[.ref l,.ref b],[]⟩)
   (fun _ R s=>s.heap.get? l=some { cls:=.type "tuple",dict:=dd,data:=.seq items n,slots:=sl }∧s.heap.get? b=some { cls:=.type "tuple",dict:=dd2,data:=.seq items2 n2,slots:=sl2 }∧
     R (.ok (.ret (.bool (ZL ns ms)))) s) :=
 .of_wp fun prog w A R s h=>by
  obtain⟨hp,g,d,tk,os⟩:=s;obtain⟨hl,hb,h⟩:=h;have f2:=AutoSeq1.sub_tuple_tuple;have z1:items.size=ns.length:=by rw[←hi.length];simp
  have z2:items2.size=ms.length:=by rw[←hj.length];simp
  wp_walk using wpAny_loadPart' hl,wpAny_loadPart' hb,wpAny_forIn_list _ (fun rest b s'=>b.1=none∧s'=⟨hp,g,d,tk,os⟩∧∃ (vs ws:List Value) (ns' ms':List Int),rest=vs.zip ws∧
    IntsAre vs ns'∧IntsAre ws ms'∧ns'.length+items2.size=ms'.length+items.size∧R (.ok (.ret (.bool (ZL ns' ms')))) ⟨hp,g,d,tk,os⟩) _
  case turn =>
   rintro⟨y,x⟩ rest b s' ⟨hb',rfl,vs,ws,ns',ms',hz,hvi,hwi,hlen,hR⟩;cases hvi with
   |nil=>rw[List.zip_nil_left]at hz;cases hz
   |cons a t hvi' =>
    cases hwi with
    |nil=>rw[List.zip_nil_right]at hz;cases hz
    |cons c u hwi' =>
     rw[List.zip_cons_cons]at hz;injection hz with hyx hrest;injection hyx with hy hx;subst hy hx;rw[ZL]at hR;simp only[List.length_cons]at hlen;obtain⟨e,he,hiff⟩:=HT.eqAt_int A.in1 ⟨hp,g,d,tk,os⟩ a t c u;refine wpAny_bind (he prog w _ _ ?_);cases e with
     |true =>
      rw[if_pos (hiff.mp rfl)]at hR
      wp_walk
      exact⟨rfl,rfl,_,_,_,_,hrest,hvi',hwi',by omega,hR⟩
     |false =>
      rw[if_neg (fun q=>absurd (hiff.mpr q) Bool.false_ne_true)]at hR;have hri:=NF A.in1 ⟨hp,g,d,tk,os⟩ a t c u prog w
      wp_walk using hri
      exact⟨_,rfl,by simpa using hR⟩
  case fin =>
   rintro⟨b1,b2⟩ s' ⟨hb',rfl,vs,ws,ns',ms',hz,hvi,hwi,hlen,hR⟩;simp only at hb';subst hb';have hv:ZL ns' ms'=decide (items.size > items2.size):=by
    cases hvi with
    |nil =>
     cases hwi with
     |nil =>simp only[List.length_nil]at hlen;rw[ZL];exact(decide_eq_false (by omega)).symm
     |cons c u hw =>simp only[List.length_nil,List.length_cons]at hlen;rw[ZL];exact(decide_eq_false (by omega)).symm
    |cons a t hv =>
     cases hwi with
     |nil =>simp only[List.length_nil,List.length_cons]at hlen;rw[ZL];exact(decide_eq_true (by omega)).symm
     |cons c u hw =>rw[List.zip_cons_cons]at hz;cases hz
   rw[hv]at hR
   wp_walk
   exact⟨_,rfl,by simpa[Builtin.Tuple.tupleCompareSizes]using hR⟩
  case h =>exact⟨rfl,rfl,items.toList,items2.toList,ns,ms,rfl,hi,hj,by omega,h⟩
end
theorem JL{prog:Program}{w:World}{A:Around}{E:Value→Shared→Prop}{s:Shared}{l b:Addr}{items items2:Array Value}{ns ms:List Int}{Q:Value→Shared→Prop}(hl:IsTup s.heap l items)(hb:IsTup s.heap b items2)(hi:IntsAre items.toList ns)(hj:IntsAre items2.toList ms)
  (hu:A.units<cLine) (h:Q (.bool (ZL ns ms)) s):wpAny (model prog w) A (compareOp .Gt (.ref l) (.ref b)) Q E s:=by
 obtain⟨⟨cls,dd,data,sl⟩,ho,hc,n,hd⟩:=id hl;obtain⟨⟨cls2,dd2,data2,sl2⟩,ho2,hc2,n2,hd2⟩:=id hb;simp only at hc hd hc2 hd2;subst hc hd hc2 hd2;exact richCompare_meets_room (op:=.Gt) ⟨_,ho,rfl⟩ ⟨_,ho2,rfl⟩ PySem.F.slot_tuple_gt PySem.F.entry_tuple_gt (PySem.F.args_tuple_gt_2 _ _) (XE l b items items2 n n2 dd dd2 sl sl2 ns ms hi hj)
  ⟨ho,ho2,show Value.bool (ZL ns ms)≠Value.notImplemented∧Q (.bool (ZL ns ms)) s from ⟨(fun x=>nomatch x),h⟩⟩ hu
def rGtT (K:PySem.W.Frag):R2:=fun x y H Q=>∃ a b ns ms,x=.ref a∧y=.ref b∧SqT K H a (ns.map V.int)∧SqT K H b (ms.map V.int)∧Q (.bl (ZL ns ms)) H
theorem op_gtT{X:Cx}(hu:X.A.units<cLine):OpR X (compareOp .Gt) (rGtT X.K):=by intro pins s σ H x y v u Q I rx ry h;obtain⟨a,b,ns,ms,rfl,rfl,ha,hb,q⟩:=h;cases rx;cases ry;obtain⟨its,r1,p1,_⟩:=I.tuple ha;obtain⟨its2,r2,p2,_⟩:=I.tuple hb;have i1:IntsAre its.toArray.toList ns:=ZW r1;have i2:IntsAre its2.toArray.toList ms:=ZW r2;exact JL p1 p2 i1 i2 hu ⟨.bl (ZL ns ms),H,I,rfl,q⟩
theorem lexGt_lt:∀ (ns ms:List Int),ZL ns ms=HT.lexLt ms ns
 |[],[]=>rfl
 |[],_::_=>rfl
 |_::_,[]=>rfl
 |x::xs,y::ys=>by
  rw[ZL,HT.lexLt_cons,lexGt_lt xs ys];by_cases e:x=y
  ·rw[if_pos e,if_pos e.symm]
  ·rw[if_neg e,if_neg (fun z=>e z.symm)]
end HT2
namespace Snd
open PySem L2
mutual
noncomputable def toD:Own.D→PyData
 |.non=>.none
 |.bl b=>.bool b
 |.int i=>.int i
 |.str s=>.str (Str.ofString s)
 |.tup ds=>.tuple (toDs ds)
 |.lst ds=>.list (toDs ds)
noncomputable def toDs:List Own.D→List PyData
 |[]=>[]
 |d::ds=>toD d::toDs ds
end
theorem ofS_inj{s t:String}:Str.ofString s=Str.ofString t↔s=t:=by
 constructor
 ·intro h;rw[Str.ofString_eq_toList,Str.ofString_eq_toList]at h;injection h with h;have h2:s.toList.map Char.toNat=t.toList.map Char.toNat:=by simpa using congrArg Array.toList h
  have inj:∀ {a b:Char},a.toNat=b.toNat→a=b:=fun {a b} e=>Char.ext (UInt32.toNat.inj e);have:s.toList=t.toList:=by
   revert h2;generalize s.toList=a;generalize t.toList=b;intro h2;induction a generalizing b with
   |nil=>cases b with
    |nil=>rfl
    |cons _ _=>cases h2
   |cons x xs ih=>cases b with
    |nil=>cases h2
    |cons y ys =>simp only[List.map_cons,List.cons.injEq]at h2;rw[inj h2.1,ih _ h2.2]
  exact String.toList_inj.mp this
 ·rintro rfl;rfl
theorem OU(s t:String):(Str.ofString s==Str.ofString t)=(s==t):=by
 by_cases e:s=t
 ·subst e;simp
 ·have:Str.ofString s≠Str.ofString t:=fun z=>e (ofS_inj.mp z);rw[beq_eq_false_iff_ne.mpr this,beq_eq_false_iff_ne.mpr e]
theorem K8(s:String):PyData.strOk (Str.ofString s)=true:=by
 rw[Str.ofString_eq_toList];unfold PyData.strOk;rw[Array.all_eq_true'];intro n hn;have:n∈s.toList.map Char.toNat:=by simpa using hn
 obtain⟨c,_,rfl⟩:=List.mem_map.mp this;have:=c.valid;have h2:c.toNat=c.val.toNat:=rfl;simp only[UInt32.isValidChar,Nat.isValidChar]at this;simp only[decide_eq_true_eq];omega
mutual
theorem WM:∀ d e:Own.D,PyData.eqv (toD d) (toD e)=Own.D.eqv d e
 |.non,e=>by cases e<;>simp[toD,PyData.eqv,Own.D.eqv]
 |.bl _,e=>by cases e<;>simp[toD,PyData.eqv,Own.D.eqv]
 |.int _,e=>by cases e<;>simp[toD,PyData.eqv,Own.D.eqv]
 |.str s,e=>by cases e<;>simp only[toD,PyData.eqv,Own.D.eqv];exact OU _ _
 |.tup ds,e=>by cases e<;>simp only[toD,PyData.eqv,Own.D.eqv];exact toDs_eqv _ _
 |.lst ds,e=>by cases e<;>simp only[toD,PyData.eqv,Own.D.eqv];exact toDs_eqv _ _
theorem toDs_eqv:∀ ds es:List Own.D,PyData.eqvAll (toDs ds) (toDs es)=Own.D.eqvs ds es
 |[],[]=>by simp[toDs,PyData.eqvAll,Own.D.eqvs]
 |[],_::_=>by simp[toDs,PyData.eqvAll,Own.D.eqvs]
 |_::_,[]=>by simp[toDs,PyData.eqvAll,Own.D.eqvs]
 |d::ds,e::es=>by simp only[toDs,PyData.eqvAll,Own.D.eqvs,WM d e,toDs_eqv ds es]
end
mutual
theorem WE:∀ d:Own.D,(toD d).canLay0=true
 |.non=>by simp[toD,PyData.canLay0]
 |.bl _=>by simp[toD,PyData.canLay0]
 |.int _=>by simp[toD,PyData.canLay0]
 |.str s=>by simp only[toD,PyData.canLay0];exact K8 s
 |.tup ds=>by simp only[toD,PyData.canLay0];exact toDs_lay ds
 |.lst ds=>by simp only[toD,PyData.canLay0];exact toDs_lay ds
theorem toDs_lay:∀ ds:List Own.D,PyData.canLayAll0 (toDs ds)=true
 |[]=>by simp[toDs,PyData.canLayAll0]
 |d::ds=>by simp only[toDs,PyData.canLayAll0,WE d,toDs_lay ds,Bool.and_self]
end
section
variable {i:Inf}{G:Own.Hs}{H:Hp}
theorem Mj{α β:Type}{f:α→Option β}:∀ {xs:List α}{ys:List β},xs.mapM f=some ys→List.length xs=ys.length∧∀ (n:Nat) (x:α),xs[n]?=some x→∃ y,ys[n]?=some y∧f x=some y:=by
 intro xs;induction xs with
 |nil=>intro ys h;simp at h;subst h;exact⟨rfl,fun n x e=>by simp at e⟩
 |cons a as ih =>
  intro ys h;rw[List.mapM_cons]at h;cases e:f a with
  |none=>rw[e]at h;simp at h
  |some b =>
   rw[e]at h;cases e2:as.mapM f with
   |none=>rw[e2]at h;simp at h
   |some bs =>
    rw[e2]at h;simp at h;subst h;obtain⟨h1,h2⟩:=ih e2;refine⟨by simp[h1],fun n x hn=>?_⟩;cases n with
    |zero=>simp at hn;subst hn;exact⟨b,rfl,e⟩
    |succ n=>simp at hn ⊢;exact h2 n x hn
theorem JY{K:PySem.W.Frag}{f:Own.Val→Option Own.D}(hf:∀ v d x,f v=some d→RV K H v x→IsD K H x (toD d)):∀ {vs:List Own.Val}{xs:List V}{ds:List Own.D},vs.mapM f=some ds→RVs K H vs xs→IsDs K H xs (toDs ds):=by
 intro vs;induction vs with
 |nil=>intro xs ds h r;simp at h;subst h;cases r;exact .nil
 |cons a as ih =>
  intro xs ds h r;rw[List.mapM_cons]at h;cases e:f a with
  |none=>rw[e]at h;simp at h
  |some b =>
   rw[e]at h;cases e2:as.mapM f with
   |none=>rw[e2]at h;simp at h
   |some bs =>
    rw[e2]at h;simp at h;subst h;cases r with
    |cons r1 r2=>exact .cons (hf a b _ e r1) (ih e2 r2)
theorem ZS(g:RH i G H){a:Addr}{xs:List Own.Val}(e:Own.lsOf (G a)=some xs):∃ vs,SqL i.K H a vs∧RVs i.K H xs vs:=by
 cases q:G a with
 |none=>rw[q]at e;cases e
 |some o =>
  rw[q]at e;cases o with
  |lst ys=>cases e;obtain⟨vs,h,r⟩:=g a _ q;exact⟨vs,SqL.of h,r⟩
  |dct _=>cases e
  |ins _ _=>cases e
  |exc _=>cases e
  |frz _=>cases e
theorem Wj:∀ ns:List Int,toDs (ns.map Own.D.int)=ns.map PyData.int
 |[]=>by simp[toDs]
 |n::ns=>by simp only[List.map_cons,toDs,toD,Wj ns]
theorem Yy(g:RH i G H):∀ (n:Nat) (v:Own.Val) (d:Own.D) (x:V),Own.dat G n v=some d→RV i.K H v x→IsD i.K H x (toD d):=by
 intro n;induction n with
 |zero =>
  intro v d x e r;cases v with
  |non=>cases r;simp[Own.dat]at e;subst e;rw[toD];exact .non
  |bl b=>cases r;simp[Own.dat]at e;subst e;rw[toD];exact .bl b
  |int b=>cases r;simp[Own.dat]at e;subst e;rw[toD];exact .int b
  |str s=>cases r;simp[Own.dat]at e;subst e;rw[toD];exact .str _
  |tup xs=>simp[Own.dat]at e
  |ref a=>simp[Own.dat]at e
  |scr ns=>simp[Own.dat]at e
 |succ n ih =>
  intro v d x e r;cases v with
  |non=>cases r;simp[Own.dat]at e;subst e;rw[toD];exact .non
  |bl b=>cases r;simp[Own.dat]at e;subst e;rw[toD];exact .bl b
  |int b=>cases r;simp[Own.dat]at e;subst e;rw[toD];exact .int b
  |str s=>cases r;simp[Own.dat]at e;subst e;rw[toD];exact .str _
  |tup xs =>
   rw[Own.dat]at e;cases z:xs.mapM (Own.dat G n)with
   |none=>rw[z]at e;cases e
   |some ds =>
    rw[z]at e;cases e;cases r with
    |tup hp hr=>rw[toD];exact .tup (Zr hp) (JY ih z hr)
  |ref a =>
   rw[Own.dat]at e;cases q:Own.lsOf (G a)with
   |none=>rw[q]at e;cases e
   |some xs =>
    rw[q]at e;simp only[Option.bind_some]at e;cases z:xs.mapM (Own.dat G n)with
    |none=>rw[z]at e;cases e
    |some ds =>rw[z]at e;cases e;cases r.ref_inv;obtain⟨vs,h1,h2⟩:=ZS g q;rw[toD];exact .lst h1 (JY ih z h2)
  |scr ns =>
   simp[Own.dat]at e;subst e;cases r with
   |scr h =>rw[toD,Wj];exact .lst (ZX h) (IsDs.ints ns)
theorem Yg{n:Nat}:∀ {ds:List Own.D},(∀ d∈ds,(toD d).depth≤n)→PyData.depthAll (toDs ds)≤n
 |[],_=>by rw[toDs];simp[PyData.depthAll]
 |d::ds,h=>by rw[toDs];simp only[PyData.depthAll];exact Nat.max_le.mpr ⟨h d (by simp),Yg fun e he=>h e (by simp[he])⟩
theorem XZ:∀ (n:Nat) (v:Own.Val) (d:Own.D),Own.dat G n v=some d→(toD d).depth≤n:=by
 have sc:∀ (n:Nat) (v:Own.Val) (d:Own.D),(∀ xs,v≠.tup xs)→(∀ a,v≠.ref a)→(∀ ns,v≠.scr ns)→Own.dat G n v=some d→(toD d).depth≤n:=by
  intro n v d h1 h2 h3 e;cases v with
  |tup xs=>exact absurd rfl (h1 xs)
  |ref a=>exact absurd rfl (h2 a)
  |scr ns=>exact absurd rfl (h3 ns)
  |_=>simp[Own.dat]at e;subst e;simp[toD,PyData.depth]
 have ms:∀ (n:Nat),(∀ v d,Own.dat G n v=some d→(toD d).depth≤n)→∀ (xs:List Own.Val) (ds:List Own.D),xs.mapM (Own.dat G n)=some ds→PyData.depthAll (toDs ds)≤n:=by
  intro n ih xs ds z;refine Yg fun d hd=>?_;obtain⟨k,hk⟩:=List.mem_iff_getElem?.mp hd;obtain⟨h1,h2⟩:=Mj z;have hlt:k<xs.length:=by rw[h1];exact(List.getElem?_eq_some_iff.mp hk).1
  obtain⟨y,hy,hf⟩:=h2 k xs[k] (List.getElem?_eq_getElem hlt);rw[hk]at hy;cases hy;exact ih _ _ hf
 intro n;induction n with
 |zero =>
  intro v d e;cases v with
  |tup xs=>simp[Own.dat]at e
  |ref a=>simp[Own.dat]at e
  |scr ns=>simp[Own.dat]at e
  |_=>exact sc 0 _ d (by simp) (by simp) (by simp) e
 |succ n ih =>
  intro v d e;cases v with
  |tup xs =>
   rw[Own.dat]at e;cases z:xs.mapM (Own.dat G n)with
   |none=>rw[z]at e;cases e
   |some ds =>rw[z]at e;cases e;rw[toD];exact Nat.succ_le_succ (ms n ih xs ds z)
  |ref a =>
   rw[Own.dat]at e;cases q:Own.lsOf (G a)with
   |none=>rw[q]at e;cases e
   |some xs =>
    rw[q]at e;simp only[Option.bind_some]at e;cases z:xs.mapM (Own.dat G n)with
    |none=>rw[z]at e;cases e
    |some ds =>rw[z]at e;cases e;rw[toD];exact Nat.succ_le_succ (ms n ih xs ds z)
  |scr ns =>simp[Own.dat]at e;subst e;rw[toD];refine Nat.succ_le_succ (Nat.le_trans ?_ (Nat.zero_le n));refine Yg fun d hd=>?_;obtain⟨m,_,rfl⟩:=List.mem_map.mp hd;simp[toD,PyData.depth]
  |_=>exact sc (n+1) _ d (by simp) (by simp) (by simp) e
theorem Xw{v:Own.Val}{d:Own.D}(e:Own.dat G Own.deep v=some d):SeqAt.shaped (toD d)=true:=by show((toD d).canLay0&&decide ((toD d).depth≤64))=true;rw[WE,decide_eq_true (Nat.le_trans (XZ _ _ _ e) (by decide))];rfl
theorem Ko(g:RH i G H){v u:Own.Val}{x y:V}{c:Bool}(rx:RV i.K H v x)(ry:RV i.K H u y)(e:Own.eqV G v u=some c):∃ d d',IsD i.K H x d∧IsD i.K H y d'∧SeqAt.shaped d=true∧SeqAt.shaped d'=true∧PyData.eqv d d'=c:=by
 unfold Own.eqV at e;cases z:Own.dat G Own.deep v with
 |none=>rw[z]at e;cases e
 |some d =>
  cases z2:Own.dat G Own.deep u with
  |none=>rw[z,z2]at e;cases e
  |some d' =>rw[z,z2]at e;cases e;exact⟨_,_,Yy g _ _ _ _ z rx,Yy g _ _ _ _ z2 ry,Xw z,Xw z2,WM d d'⟩
theorem Fi:ZJ i .eq (Cp i.K):=by intro v u G H x y c Q g rx ry e q;obtain⟨d,d',h1,h2,h3,h4,h5⟩:=Ko g rx ry e;exact⟨d,d',h1,h2,h3,h4,by rw[h5];exact q⟩
theorem Gh:ZJ i .ne (Dv i.K):=by
 intro v u G H x y c Q g rx ry e q;have e:(Own.eqV G v u).map (!·)=some c:=e;cases z:Own.eqV G v u with
 |none=>rw[z]at e;cases e
 |some b =>rw[z]at e;cases e;obtain⟨d,d',h1,h2,h3,h4,h5⟩:=Ko g rx ry z;exact⟨d,d',h1,h2,h3,h4,by rw[h5];exact q⟩
end
end Snd
namespace Snd
open PySem L2
variable {i:Inf}{X:Cx}{Φ:Own.Fs}
theorem Zm(s:String):(Str.ofString s).length=s.length:=by rw[Str.ofString_eq_toList];show(List.map Char.toNat s.toList).toArray.size=_;rw[List.size_toArray,List.length_map];first|rfl|exact String.length_toList
theorem Wu(s t:String):Str.ofString (s++t)=Str.ofString s++Str.ofString t:=by rw[Str.ofString_eq_toList,Str.ofString_eq_toList,Str.ofString_eq_toList];show _=Str.append _ _;unfold Str.append;simp
theorem Yz{α:Type}{p:Prop}[Decidable p]{o:Option α}{a:α}(e:(if p then o else none)=some a):p∧o=some a:=by
 by_cases q:p
 ·rw[if_pos q]at e;exact⟨q,e⟩
 ·rw[if_neg q]at e;cases e
theorem Zt{h:Own.Hs}{Q:Own.Q1}(w:Own.Rs.no.wp h Q):False:=by rw[Own.Rs.wp_no]at w;exact w
theorem Zn{v:Own.Val}{h:Own.Hs}{Q:Own.Q1}(w:(Own.Rs.val v).wp h Q):Q v h:=by rw[Own.Rs.wp_val]at w;exact w
theorem JJ{o:Own.Ob}{h:Own.Hs}{Q:Own.Q1}(w:(Own.Rs.new o).wp h Q):Own.new h o Q:=by rw[Own.Rs.wp_new]at w;exact w
theorem Yb{p:Prop}[Decidable p]{r:Own.Rs}{h:Own.Hs}{Q:Own.Q1}(w:(if p then r else .no).wp h Q):p∧r.wp h Q:=by
 by_cases e:p
 ·rw[if_pos e]at w;exact⟨e,w⟩
 ·rw[if_neg e]at w;exact(Zt w).elim
theorem Y0{f:Int→Int→Own.Rs}{v u:Own.Val}{h:Own.Hs}{Q:Own.Q1}(w:(Own.intV f v u).wp h Q):∃ i j,v=.int i∧u=.int j∧(f i j).wp h Q:=by
 cases v with
 |int i=>cases u with
  |int j=>exact⟨i,j,rfl,rfl,w⟩
  |_=>exact(Zt w).elim
 |_=>exact(Zt w).elim
noncomputable def UU (K:PySem.W.Frag):R2:=fun x y H Q=>(rI0 (fun i j=>.int (i+j))) x y H Q∨(((UR K x y H Q∨UP K x y H Q)∨DZ x y H Q)∨∃ i j,x=.str i∧y=.str j∧i.length+j.length≤sizeLine∧Q (.str (i++j)) H)
theorem Ck:OpR X (binaryOp .Add) (UU X.K):=op_add.or (((op_cat0.or Ub).or An).or Jv)
theorem b_add:Y9 i .add (UU i.K):=by
 intro v u G H x y Q Qm g rx ry w c;cases v<;>cases u<;>first|exact(Zt w).elim|skip
 case int.int a b =>
  replace w:=Zn w
  exact .inl ⟨a,b,rx.int_inv,ry.int_inv,c _ G H _ (Keep.refl H) g (.int _) w⟩
 case str.str a b =>
  obtain⟨h,w⟩:=Yb w
  replace w:=Zn w
  refine .inr (.inr ⟨_,_,rx.str_inv,ry.str_inv,?_,?_⟩)
  ·rw[Zm,Zm];exact Nat.le_trans h ZF
  ·rw[←Wu];exact c _ G H _ (Keep.refl H) g (.str _) w
 case tup.tup xs ys =>
  obtain⟨h,w⟩:=Yb w
  replace w:=Zn w
  ·skip
   cases rx with
   |@tup _ p vs hp hr =>
   cases ry with
   |@tup _ q us hq hs =>
   by_cases h0:vs=[]
   ·subst h0;have:xs=[]:=List.eq_nil_of_length_eq_zero hr.length;subst this;exact .inr (.inl (.inl (.inl ⟨p,q,us,rfl,rfl,Zr hp,Zr hq,c _ G H _ (Keep.refl H) g (.tup hq hs) w⟩)))
   refine .inr (.inl (.inl (.inr ⟨p,q,vs,us,rfl,rfl,Zr hp,Zr hq,h0,?_,fun z=>?_,fun z a ha=>?_⟩)))
   ·rw[←hr.length,←hs.length];exact Nat.le_trans h ZF
   ·have:ys=[]:=List.eq_nil_of_length_eq_zero (by rw[hs.length,z];rfl);subst this;rw[List.append_nil]at w;exact c _ G H _ (Keep.refl H) g (.tup hp hr) w
   ·have k:=Keep.new (o:=.tup (vs++us)) ha;refine c _ G _ _ k (g.hid k fun b o e=>upd_ne ?_) (.tup (.inl upd_same) ((hr.keep k).append (hs.keep k))) w;rintro rfl;rw[g.free ha]at e;cases e
 case ref.ref a b =>
  dsimp only[Own.binV,Own.addV]at w;split at w
  ·rename_i xs ys e1 e2;unfold Own.Rs.lst at w;split at w
   ·rename_i hl;rw[Own.Rs.wp_new]at w;cases rx.ref_inv;cases ry.ref_inv;obtain⟨vs,h1,r1⟩:=g a _ e1;obtain⟨us,h2,r2⟩:=g b _ e2;refine .inr (.inl (.inr ⟨a,b,vs,us,rfl,rfl,h1,h2,?_,ZY g w c fun p hp=>?_⟩))
    ·rw[←r1.length,←r2.length,←List.length_append];exact Nat.le_trans hl ZF
    ·have k:=Keep.new (o:=.lst (vs++us)) hp;exact⟨_,upd_same,(r1.keep k).append (r2.keep k)⟩
   ·exact(Zt w).elim
  ·exact(Zt w).elim
theorem b_sub:Y9 i .sub (rI0 fun i j=>.int (i - j)):=by intro v u G H x y Q Qm g rx ry w c;obtain⟨a,b,rfl,rfl,w⟩:=Y0 w;exact⟨a,b,rx.int_inv,ry.int_inv,c _ G H _ (Keep.refl H) g (.int _) (Zn w)⟩
theorem RVs.rep{K:PySem.W.Frag}{H:Hp}{vs:List Own.Val}{xs:List V}(r:RVs K H vs xs):∀ n,RVs K H (List.replicate n vs).flatten (List.replicate n xs).flatten
 |0=>.nil
 |n+1=>by rw[List.replicate_succ,List.replicate_succ,List.flatten_cons,List.flatten_cons];exact r.append (RVs.rep r n)
set_option exponentiation.threshold 2000 in
theorem Bb{i j:Int}(h:Own.mulOk i j):IntMulOk i j:=by
 rcases h with(h|h)|⟨h1,h2⟩
 ·exact .of_left (intBits_le_64 (by omega) (by omega))
 ·exact .of_right (intBits_le_64 (by omega) (by omega))
 ·have e:(10:Nat) ^ 200<2 ^ 1000:=by decide
  exact .of_bits (Nat.le_trans (PyProof.Rows.intBits_le (Nat.lt_of_le_of_lt h1 e)) (by decide)) (Nat.le_trans (PyProof.Rows.intBits_le (Nat.lt_of_le_of_lt h2 e)) (by decide))
theorem Uu(s:String)(n:Nat):AT (Str.ofString s) n=Str.ofString (Own.repT s n):=by unfold AT Own.repT;rw[Str.ofString_eq_toList,Str.ofString_eq_toList,String.toList_ofList];congr 1;apply Array.toList_inj.mp;rw[X0];simp[List.map_flatten,List.map_replicate]
noncomputable def UJ:R2:=fun x y H Q=>rI Own.mulOk (fun i j=>.int (i*j)) x y H Q∨(DE x y H Q∨UK x y H Q)
theorem Dm:OpR X (binaryOp .Mult) UJ:=OpR.or (opI fun _ _ _ _ _ _ _ hc q=>PyProof.Rows.mul_int q (Bb hc)) (op_rep.or Ug)
theorem b_mul:Y9 i .mul UJ:=by
 intro v u G H x y Q Qm g rx ry w c;cases v<;>cases u<;>first|exact(Zt w).elim|skip
 case int.int a b =>obtain⟨h,w⟩:=Yb w;exact .inl ⟨a,b,rx.int_inv,ry.int_inv,h,c _ G H _ (Keep.refl H) g (.int _) (Zn w)⟩
 case ref.int a k =>
  dsimp only[Own.binV,Own.mulV]at w;split at w
  ·rename_i xs e1;split at w
   ·rename_i hk;unfold Own.Rs.lst at w;split at w
    ·rw[Own.Rs.wp_new]at w;cases rx.ref_inv;cases ry.int_inv;obtain⟨vs,h1,r1⟩:=g a _ e1;refine .inr (.inl ⟨a,k,vs,rfl,rfl,h1,by omega,by omega,?_,ZY g w c fun p hp=>?_⟩)
     ·rw[←r1.length];exact Nat.le_trans hk.2.2 ZF
     ·have kk:=Keep.new (o:=.lst (List.replicate k.toNat vs).flatten) hp;exact⟨_,upd_same,(r1.keep kk).rep _⟩
    ·exact(Zt w).elim
   ·exact(Zt w).elim
  ·exact(Zt w).elim
 case str.int a k =>
  obtain⟨hk,w⟩:=Yb w
  replace w:=Zn w
  refine .inr (.inr ⟨_,k,rx.str_inv,ry.int_inv,hk.1,hk.2.1,by rw[Zm];exact hk.2.2.1,by rw[Zm];exact hk.2.2.2,?_⟩);rw[Uu];exact c _ G H _ (Keep.refl H) g (.str _) w
theorem b_fdiv:Y9 i .fdiv (rI D6 fun i j=>.int (i / j)):=by intro v u G H x y Q Qm g rx ry w c;obtain⟨a,b,rfl,rfl,w⟩:=Y0 w;obtain⟨h,w⟩:=Yb w;exact⟨a,b,rx.int_inv,ry.int_inv,h,c _ G H _ (Keep.refl H) g (.int _) (Zn w)⟩
theorem b_mod:Y9 i .mod (rI (fun _ j=>0<j) fun i j=>.int (i % j)):=by intro v u G H x y Q Qm g rx ry w c;obtain⟨a,b,rfl,rfl,w⟩:=Y0 w;obtain⟨h,w⟩:=Yb w;exact⟨a,b,rx.int_inv,ry.int_inv,h,c _ G H _ (Keep.refl H) g (.int _) (Zn w)⟩
theorem b_pow:Y9 i .pow (rI Di fun i j=>.int (i ^ j.toNat)):=by intro v u G H x y Q Qm g rx ry w c;obtain⟨a,b,rfl,rfl,w⟩:=Y0 w;obtain⟨h,w⟩:=Yb w;exact⟨a,b,rx.int_inv,ry.int_inv,h,c _ G H _ (Keep.refl H) g (.int _) (Zn w)⟩
theorem Yi{K:PySem.W.Frag}{H:Hp}:∀ {xs:List Own.Val}{ns:List Int}{vs:List V},Own.intsOf xs=some ns→RVs K H xs vs→vs=ns.map V.int
 |[],_,_,e,.nil=>by cases e;rfl
 |.int k::xs,_,_,e,.cons r t=>by
  simp only[Own.intsOf]at e;cases z:Own.intsOf xs with
  |none=>rw[z]at e;cases e
  |some ns=>rw[z]at e;cases e;cases r;rw[Yi z t];rfl
 |.non::_,_,_,e,_=>by cases e
 |.bl _::_,_,_,e,_=>by cases e
 |.str _::_,_,_,e,_=>by cases e
 |.tup _::_,_,_,e,_=>by cases e
 |.ref _::_,_,_,e,_=>by cases e
 |.scr _::_,_,_,e,_=>by cases e
theorem Kc:∀ (ns ms:List Int),Own.lexI ns ms=HT.lexLt ns ms
 |[],[]=>rfl
 |[],_::_=>rfl
 |_::_,[]=>rfl
 |x::xs,y::ys=>by rw[Own.lexI,HT.lexLt_cons,Kc xs ys]
noncomputable def D9 (K:PySem.W.Frag):R2:=fun x y H Q=>rI0 (fun i j=>.bl (decide (i<j))) x y H Q∨DU K x y H Q
theorem Ga(hu:X.A.units<cLine):OpR X (compareOp .Lt) (D9 X.K):=op_lt.or (BB hu)
noncomputable def DG (K:PySem.W.Frag):R2:=fun x y H Q=>rI0 (fun i j=>.bl (decide (j<i))) x y H Q∨HT2.rGtT K x y H Q
theorem EV(hu:X.A.units<cLine):OpR X (compareOp .Gt) (DG X.K):=op_gt.or (HT2.op_gtT hu)
theorem UG{H:Hp}{K:PySem.W.Frag}{xs ys:List Own.Val}{x y:V}{c:Bool}(rx:RV K H (.tup xs) x)(ry:RV K H (.tup ys) y)(e:Own.ltV (.tup xs) (.tup ys)=some c):∃ a b ns ms,x=.ref a∧y=.ref b∧SqT K H a (ns.map V.int)∧SqT K H b (ms.map V.int)∧HT.lexLt ns ms=c:=by
 simp only[Own.ltV]at e;cases z1:Own.intsOf xs with
 |none=>rw[z1]at e;cases e
 |some ns =>
  cases z2:Own.intsOf ys with
  |none=>rw[z1,z2]at e;cases e
  |some ms =>
   rw[z1,z2]at e;cases e;cases rx with
   |@tup _ p vs hp hr =>
   cases ry with
   |@tup _ q us hq hs =>
   have h1:=Yi z1 hr;have h2:=Yi z2 hs;subst h1 h2;exact⟨p,q,ns,ms,rfl,rfl,Zr hp,Zr hq,(Kc _ _).symm⟩
theorem c_lt:ZJ i .lt (D9 i.K):=by
 intro v u G H x y c Q g rx ry e q
 replace e:Own.ltV v u=some c:=e
 cases v<;>cases u<;>first|(cases e;done)|skip
 case int.int a b=>cases e;exact .inl ⟨a,b,rx.int_inv,ry.int_inv,q⟩
 case tup.tup xs ys =>obtain⟨a,b,ns,ms,h1,h2,h3,h4,h5⟩:=UG rx ry e;exact .inr ⟨a,b,ns,ms,h1,h2,h3,h4,by rw[h5];exact q⟩
theorem c_gt:ZJ i .gt (DG i.K):=by
 intro v u G H x y c Q g rx ry e q
 replace e:Own.ltV u v=some c:=e
 cases v<;>cases u<;>first|(cases e;done)|skip
 case int.int a b=>cases e;exact .inl ⟨a,b,rx.int_inv,ry.int_inv,q⟩
 case tup.tup xs ys =>obtain⟨a,b,ns,ms,h1,h2,h3,h4,h5⟩:=UG ry rx e;exact .inr ⟨b,a,ms,ns,h2,h1,h4,h3,by rw[HT2.lexGt_lt,h5];exact q⟩
theorem U5{v u:Own.Val}{c:Bool}(e:Own.leV v u=some c):∃ i j,v=.int i∧u=.int j∧decide (i≤j)=c:=by
 cases v with
 |int i=>cases u with
  |int j=>cases e;exact⟨i,j,rfl,rfl,rfl⟩
  |_=>cases e
 |_=>cases e
theorem c_le:ZJ i .le (rI0 fun i j=>.bl (decide (i≤j))):=by intro v u G H x y c Q g rx ry e q;obtain⟨a,b,rfl,rfl,rfl⟩:=U5 e;exact⟨a,b,rx.int_inv,ry.int_inv,q⟩
theorem c_ge:ZJ i .ge (rI0 fun i j=>.bl (decide (j≤i))):=by intro v u G H x y c Q g rx ry e q;obtain⟨a,b,rfl,rfl,rfl⟩:=U5 e;exact⟨b,a,rx.int_inv,ry.int_inv,q⟩
theorem RV.isN{K:PySem.W.Frag}{H:Hp}{v:Own.Val}{x:V}(r:RV K H v x):decide (x=.non)=decide (v=.non):=by cases r<;>simp
theorem Cs{a:Expr}{ma:Own.E}{pos p2:Pos}{j:Nat}(ha:PE X a (tE X i Φ ma)):PE X (.Compare a [.Is] [.Constant .none j p2] pos) (tE X i Φ (.cmp .is ma (.cst .non))) :=
 (MF (N9 ha) rfl).imp fun σ H Q ⟨env,G,Qm,Em,p,w,c⟩=>by rw[Own.q_e_cmp]at w;refine one p w fun v G1 H1 x k1 p1 r q=>?_;rw[Own.q_e_cst]at q;obtain⟨d,e,q2⟩:=go_some q;have e:some (decide (v=.non))=some d:=e;cases e;rw[r.isN];exact c _ G1 H1 _ k1 p1.hp (.bl _) q2
theorem Bq{a:Expr}{ma:Own.E}{pos p2:Pos}{j:Nat}(ha:PE X a (tE X i Φ ma)):PE X (.Compare a [.IsNot] [.Constant .none j p2] pos) (tE X i Φ (.cmp .isnot ma (.cst .non))) :=
 (MF (Kt ha) rfl).imp fun σ H Q ⟨env,G,Qm,Em,p,w,c⟩=>by rw[Own.q_e_cmp]at w;refine one p w fun v G1 H1 x k1 p1 r q=>?_;rw[Own.q_e_cst]at q;obtain⟨d,e,q2⟩:=go_some q;have e:some (!decide (v=.non))=some d:=e;cases e;rw[r.isN];exact c _ G1 H1 _ k1 p1.hp (.bl _) q2
theorem Am{a:Expr}{ma:Own.E}{pos p2:Pos}{j:Nat}(ha:PE X a (tE X i Φ ma)):PT X (.Compare a [.Is] [.Constant .none j p2] pos) (tTt X i Φ (.val (.cmp .is ma (.cst .non)))) :=
 (MO (N9 ha) rfl).imp fun σ H Q ⟨env,G,Qm,Em,p,w,c⟩=>by rw[Own.q_t_val,Own.q_e_cmp]at w;refine one p w fun v G1 H1 x k1 p1 r q=>?_;rw[Own.q_e_cst]at q;obtain⟨d,e,q2⟩:=go_some q;obtain⟨d',e',q3⟩:=go_some q2;cases e';have e:some (decide (v=.non))=some d:=e;cases e;rw[r.isN];exact⟨_,rfl,c _ G1 H1 k1 p1.hp q3⟩
theorem Uc{a:Expr}{ma:Own.E}{pos p2:Pos}{j:Nat}(ha:PE X a (tE X i Φ ma)):PT X (.Compare a [.IsNot] [.Constant .none j p2] pos) (tTt X i Φ (.val (.cmp .isnot ma (.cst .non)))) :=
 (MO (Kt ha) rfl).imp fun σ H Q ⟨env,G,Qm,Em,p,w,c⟩=>by rw[Own.q_t_val,Own.q_e_cmp]at w;refine one p w fun v G1 H1 x k1 p1 r q=>?_;rw[Own.q_e_cst]at q;obtain⟨d,e,q2⟩:=go_some q;obtain⟨d',e',q3⟩:=go_some q2;cases e';have e:some (!decide (v=.non))=some d:=e;cases e;rw[r.isN];exact⟨_,rfl,c _ G1 H1 k1 p1.hp q3⟩
end Snd
namespace Snd
open PySem L2 PySem.Spec PyProof.Rows
variable {i:Inf}{X:Cx}{Φ:Own.Fs}
theorem RKs.length{K:PySem.W.Frag}{H:Hp}:∀ {kvs:List (Own.Val×Own.Val)}{ps:List (Key×V)},RKs K H kvs ps→kvs.length=ps.length
 |_,_,.nil=>rfl
 |_,_,.cons _ _ t=>by rw[List.length_cons,List.length_cons,RKs.length t]
theorem YX{k j:Own.Val}{c d:Key}(a:Xf k c)(b:Xf j d):(k==j)=decide (c=d):=by
 have key:k=j↔c=d:=by
  cases k<;>cases c<;>first|(cases a;done)|skip
  ·cases j<;>cases d<;>first|(cases b;done)|skip
   ·cases a;cases b;simp
   ·cases a;cases b;simp
  ·cases j<;>cases d<;>first|(cases b;done)|skip
   ·cases a;cases b;simp
   ·cases a;cases b;simp[ofS_inj]
 by_cases e:k=j
 ·rw[decide_eq_true (key.mp e),e];simp
 ·rw[decide_eq_false fun z=>e (key.mpr z)];simpa using e
theorem key_of{k:Own.Val}{x:V}{K:PySem.W.Frag}{H:Hp}(h:Own.isKey k=true)(r:RV K H k x):∃ c,Xf k c∧x=kV c:=by
 cases k with
 |int n=>cases r.int_inv;exact⟨.inl n,rfl,rfl⟩
 |str s=>cases r.str_inv;exact⟨.inr (Str.ofString s),rfl,rfl⟩
 |_=>cases h
theorem RKs.look{K:PySem.W.Frag}{H:Hp}{k:Own.Val}{c:Key}(a:Xf k c):∀ {kvs:List (Own.Val×Own.Val)}{ps:List (Key×V)},RKs K H kvs ps→
  (∀ v,Own.lookK kvs k=some v→∃ x,ZQ ps c=some x∧RV K H v x)∧(Own.lookK kvs k=none→ZQ ps c=none)
 |_,_,.nil=>⟨fun v e=>(by cases e),fun _=>rfl⟩
 |_,_,.cons (k:=j) (v:=u) (c:=d) (x:=y) (kvs:=kvs) (ps:=ps) b r t=>by
  have ih:=RKs.look a t;have q:=YX b a;by_cases e:d=c
  ·rw[decide_eq_true e]at q;have e1:Own.lookK ((j,u)::kvs) k=some u:=by simp[Own.lookK,List.find?_cons,q]
   rw[e1,Yp e];exact⟨fun v z=>(by cases z;exact⟨y,rfl,r⟩),fun z=>(by cases z)⟩
  ·rw[decide_eq_false e]at q;have e1:Own.lookK ((j,u)::kvs) k=Own.lookK kvs k:=by simp[Own.lookK,List.find?_cons,q]
   rw[e1,YB e];exact ih
theorem RKs.has{K:PySem.W.Frag}{H:Hp}{k:Own.Val}{c:Key}(a:Xf k c):∀ {kvs:List (Own.Val×Own.Val)}{ps:List (Key×V)},RKs K H kvs ps→Own.hasK kvs k=ps.any fun kv=>decide (kv.1=c)
 |_,_,.nil=>rfl
 |_,_,.cons b r t=>by have ih:=RKs.has a t;unfold Own.hasK at ih ⊢;rw[List.any_cons,List.any_cons,ih,YX b a]
theorem RKs.app{K:PySem.W.Frag}{H:Hp}{k v:Own.Val}{c:Key}{x:V}(a:Xf k c)(q:RV K H v x):∀ {kvs:List (Own.Val×Own.Val)}{ps:List (Key×V)},RKs K H kvs ps→RKs K H (kvs++[(k,v)]) (ps++[(c,x)])
 |_,_,.nil=>.cons a q .nil
 |_,_,.cons b r t=>.cons b r (RKs.app a q t)
theorem RKs.repl{K:PySem.W.Frag}{H:Hp}{k v:Own.Val}{c:Key}{x:V}(a:Xf k c)(q:RV K H v x):∀ {kvs:List (Own.Val×Own.Val)}{ps:List (Key×V)},RKs K H kvs ps→
  RKs K H (kvs.map fun p=>if p.1==k then(k,v)else p) (ps.map fun kv=>if kv.1=c then(kv.1,x)else kv)
 |_,_,.nil=>.nil
 |_,_,.cons (k:=j) (v:=u) (c:=d) (x:=y) b r t=>by
  have ih:=RKs.repl a q t;have z:=YX b a;rw[List.map_cons,List.map_cons];by_cases e:d=c
  ·rw[decide_eq_true e]at z;rw[if_pos z,if_pos e];exact .cons (e▸a) q ih
  ·rw[decide_eq_false e]at z;rw[if_neg (by rw[z];decide),if_neg e];exact .cons b r ih
theorem RKs.put{K:PySem.W.Frag}{H:Hp}{k v:Own.Val}{c:Key}{x:V}(a:Xf k c)(q:RV K H v x){kvs:List (Own.Val×Own.Val)}{ps:List (Key×V)}(r:RKs K H kvs ps):RKs K H (Own.putK kvs k v) (L2.putK ps c x):=by
 unfold Own.putK L2.putK;rw[r.has a];by_cases e:(ps.any fun kv=>decide (kv.1=c))=true
 ·rw[if_pos e,if_pos e];exact r.repl a q
 ·rw[if_neg e,if_neg e];exact r.app a q
theorem RKs.drop{K:PySem.W.Frag}{H:Hp}{k:Own.Val}{c:Key}(a:Xf k c):∀ {kvs:List (Own.Val×Own.Val)}{ps:List (Key×V)},RKs K H kvs ps→RKs K H (Own.dropK kvs k) (L2.dropK ps c)
 |_,_,.nil=>.nil
 |_,_,.cons (k:=j) (v:=u) (c:=d) (x:=y) b r t=>by
  have ih:=RKs.drop a t;have z:=YX b a;unfold Own.dropK L2.dropK at ih ⊢;rw[List.filter_cons,List.filter_cons];by_cases e:d=c
  ·rw[decide_eq_true e]at z;rw[if_neg (by rw[z];decide),if_neg (by simpa using e)];exact ih
  ·rw[decide_eq_false e]at z;rw[if_pos (by rw[z];rfl),if_pos (by simpa using e)];exact .cons b r ih
theorem Op{G:Own.Hs}{H:Hp}{a:Addr}{kvs kvs':List (Own.Val×Own.Val)}{ps ps':List (Key×V)}(g:RH i G H)(h:H a=some (.dK ps))(r:RKs i.K H kvs' ps'):Keep H (upd H a (.dK ps'))∧RH i (Own.upd G a (.dct kvs')) (upd H a (.dK ps')):=by
 have k:Keep H (upd H a (.dK ps')):=Keep.put (fun xs e=>by rw[h]at e;cases e) fun p u e=>by rw[h]at e;cases e
 exact⟨k,g.put k ⟨ps',upd_same,r.keep k⟩⟩
noncomputable def CH:R2:=fun x y H Q=>∃ a v,x=.ref a∧DGet H a y (some v)∧Q v H
theorem Uy(hu:X.A.units+1<cLine):IxR X CH:=by
 intro value slice pins s σ H x y v u Q I rx ry h hs;obtain⟨a,z,rfl,g,q⟩:=h;cases rx;have hT:=Jk I g;unfold subscriptTail;refine wpAny_bind ?_;rw[getitemInPython_of_ne hT.not_modules];refine wpAny_bind (wpAny_specialOf hT PySem.F.slot_dict_getitem.lookup ?_);have fin:wpAny (model X.prog X.w) X.A (subscripted slice false (.ref a) u) (fun r s₃=>wpAny (model X.prog X.w) X.A (letTemporaryGo value (.ref a) r >>= fun _=>pure r) (EP X pins σ Q) X.xe s₃) X.xe s:=by rw[hs];exact wpAny_operating (Mb hu I g ry fun w' s' I' rw'=>wpAny_bind (wpAny_letTemporaryGo (wpAny_pure ⟨_,_,I',rw',q⟩)))
 first
  |exact wpAny_pure (wpAny_bind fin)
  |exact wpAny_bind (wpAny_pure (wpAny_bind fin))
  |exact wpAny_bind fin
noncomputable def Uw (b:Bool):R2:=fun x y H Q=>∃ a o,y=.ref a∧DGet H a x o∧Q (.bl (b ^^ o.isSome)) H
theorem AR(hu:X.A.units+1<cLine):OpR X (compareOp .In) (Uw false):=by intro pins s σ H x y v u Q I rx ry h;obtain⟨a,o,rfl,g,q⟩:=h;cases ry;rw[Bool.false_xor]at q;exact E7 hu I g rx fun s' I'=>⟨.bl o.isSome,_,I',rfl,q⟩
theorem Ao(hu:X.A.units+1<cLine):OpR X (compareOp .NotIn) (Uw true):=by intro pins s σ H x y v u Q I rx ry h;obtain⟨a,o,rfl,g,q⟩:=h;cases ry;rw[Bool.true_xor]at q;exact Ox hu I g rx fun s' I'=>⟨.bl (!o.isSome),_,I',rfl,q⟩
noncomputable def UI:V→V→V→Hp→(Hp→Prop)→Prop:=fun o y v H Q=>∃ a H',o=.ref a∧DPut H a y v H'∧Q H'
theorem Nl(hu:X.A.units+1<cLine):PSet X UI:=by intro pins s σ H o y v ov iv u Q I ro ri rv h;obtain⟨a,H',rfl,g,q⟩:=h;cases ro;exact K7 hu I g ri rv fun s' I'=>⟨H',I',q⟩
theorem PSet.or{r r':V→V→V→Hp→(Hp→Prop)→Prop}(h:PSet X r)(h':PSet X r'):PSet X (fun o y v H Q=>r o y v H Q∨r' o y v H Q):=by
 intro pins s σ H o y v ov iv u Q I ro ri rv q;rcases q with q|q
 ·exact h pins s σ H o y v ov iv u Q I ro ri rv q
 ·exact h' pins s σ H o y v ov iv u Q I ro ri rv q
end Snd
namespace Snd
open PySem L2
variable {i:Inf}{X:Cx}{Φ:Own.Fs}
theorem JR(n:Nat)(k:Int):Own.ixN n k=L2.ixN n k:=rfl
theorem WD{K:PySem.W.Frag}{H:Hp}{xs:List Own.Val}{vs:List V}{k:Int}{v:Own.Val}(r:RVs K H xs vs)(e:Own.atI xs k=some v):∃ x,L2.atI vs k=some x∧RV K H v x:=by
 unfold Own.atI at e;unfold L2.atI;rw[JR,r.length]at e;cases z:L2.ixN vs.length k with
 |none=>rw[z]at e;cases e
 |some j =>rw[z]at e;obtain⟨x,h1,h2⟩:=r.get (show xs[j]?=some v from e);exact⟨x,h1,h2⟩
noncomputable def Du (i:Inf) (r:R2):Prop:=∀ (v u:Own.Val) (G:Own.Hs) (H:Hp) (x y:V) (w:Own.Val) (Q:VK),RH i G H→RV i.K H v x→RV i.K H u y→Own.idxV G v u=some w→(∀ z,RV i.K H w z→Q z H)→r x y H Q
theorem DW{a b:Expr}{ma mb:Own.E}{r:R2}{pos:Pos}(hr:IxR X r)(ho:Du i r)(ha:PE X a (tE X i Φ ma))(hb:PE X b (tE X i Φ mb))(hs:Wr b):PE X (.Subscript a b pos) (tE X i Φ (.idx ma mb)) :=
 (C9 hr ha hb hs).imp fun σ H Q ⟨env,G,Qm,Em,p,w,c⟩=>by
  rw[Own.q_e_idx]at w;exact two p w fun v u G2 H2 x y k2 p2 rx ry q=>by obtain⟨z,e,q⟩:=go_some q;exact ho v u G2 H2 x y z Q p2.hp rx ry e fun t rt=>c z G2 H2 t k2 p2.hp rt q
theorem OB{s:String}{k:Int}{c:Char}(e:Own.atI s.toList k=some c):L2.atI (Str.ofString s).cps.toList k=some c.toNat:=by
 rw[Str.ofString_eq_toList];show L2.atI (List.map Char.toNat s.toList).toArray.toList k=_;unfold Own.atI at e;unfold L2.atI;simp only[List.length_map];rw[JR]at e;cases z:L2.ixN s.toList.length k with
 |none=>rw[z]at e;cases e
 |some j =>rw[z]at e;have e:s.toList[j]?=some c:=e;show(List.map Char.toNat s.toList)[j]?=_;rw[List.getElem?_map,e];rfl
theorem JQ(c:Char):Str.ofString (String.singleton c)=⟨#[c.toNat]⟩:=by rw[Str.ofString_eq_toList];simp
noncomputable def Fk (K:PySem.W.Frag):R2:=fun x y H Q=>rIx K x y H Q∨CH x y H Q
theorem DC:Du i (Fk i.K):=by
 intro v u G H x y w Q g rx ry e q;cases v with
 |tup xs =>
  cases u with
  |int k =>
   cases rx with
   |tup hp hr =>obtain⟨z,h1,h2⟩:=WD hr (show Own.atI xs k=some w from e);exact .inl (.inr (.inl ⟨_,_,k,z,rfl,ry.int_inv,Zr hp,h1,q z h2⟩))
  |_=>cases e
 |str s =>
  cases u with
  |int k =>
   simp only[Own.idxV]at e;split at e
   ·rename_i hl;cases z:Own.atI s.toList k with
    |none=>rw[z]at e;cases e
    |some c =>rw[z]at e;cases e;refine .inl (.inr (.inr ⟨_,k,_,rx.str_inv,ry.int_inv,by rw[Zm];exact Nat.le_trans hl ZF,OB z,?_⟩));have:=q _ (.str (String.singleton c));rw[JQ]at this;exact this
   ·cases e
  |_=>cases e
 |ref a =>
  cases rx.ref_inv
  replace e:(match G a with|some (.lst xs)=>(Own.asInt u).bind (Own.atI xs)|some (.dct kvs)=>if Own.isKey u then Own.lookK kvs u else none|some (.frz kvs)=>if Own.isKey u then Own.lookK kvs u else none|_=>none)=some w:=e
  cases z:G a with
  |none=>rw[z]at e;cases e
  |some o =>
   rw[z]at e;cases o with
   |lst xs =>obtain⟨k,hk,e⟩:=Option.bind_eq_some_iff.mp e;cases ZK hk;obtain⟨vs,h1,h2⟩:=g a _ z;obtain⟨t,h3,h4⟩:=WD h2 e;exact .inl (.inl ⟨a,vs,k,t,rfl,ry.int_inv,SqL.of h1,h3,q t h4⟩)
   |dct kvs =>obtain⟨hk,e⟩:=Yz (show(if Own.isKey u then Own.lookK kvs u else none)=some w from e);obtain⟨ps,h1,h2⟩:=g a _ z;obtain⟨d,kr,rfl⟩:=key_of hk ry;obtain⟨t,hx,rv⟩:=(h2.look kr).1 w e;exact .inr ⟨a,t,rfl,by rw[←hx];exact DGet.k h1,q t rv⟩
   |frz kvs =>obtain⟨hk,e⟩:=Yz (show(if Own.isKey u then Own.lookK kvs u else none)=some w from e);obtain⟨ob,ps,h1,h2⟩:=g a _ z;obtain⟨d,kr,rfl⟩:=key_of hk ry;obtain⟨t,hx,rv⟩:=(h2.look kr).1 w e;exact .inr ⟨a,t,rfl,.inl ⟨ps,d,.inr ⟨ob,h1⟩,rfl,hx.symm⟩,q t rv⟩
   |_=>cases e
 |scr ns =>
  cases u with
  |int k =>
   cases rx with
   |scr h =>obtain⟨t,h3,h4⟩:=WD (RVs.ints ns) (show Own.atI (ns.map .int) k=some w from e);exact .inl (.inl ⟨_,_,k,t,rfl,ry.int_inv,ZX h,h3,q t h4⟩)
  |_=>cases e
 |_=>cases e
noncomputable def tOx (X:Cx) (i:Inf) (Φ:Own.Fs) (m:Own.Oe):TO:=fun σ H Q=>∃ env G Qm Em,Pre X i σ H env G Em∧Own.wO Φ m env G Qm Em∧∀ k G' H',Keep H H'→RH i G' H'→Qm k G'→Q k H'
theorem _root_.L2.PO.imp{X:Cx}{e:Option Expr}{t t':TO}(h:PO X e t)(f:∀ σ H Q,t' σ H Q→t σ H Q):PO X e t':=fun pins s σ H Q I q=>h pins s σ H Q I (f σ H Q q)
theorem Ul:PO X none (tOx X i Φ .none):=po_none.imp fun σ H Q ⟨env,G,Qm,Em,p,w,c⟩=>by rw[Own.q_o_none]at w;exact c none G H (Keep.refl H) p.hp w
theorem OW{e:Expr}{m:Own.E}(he:PE X e (tE X i Φ m)):PO X (some e) (tOx X i Φ (.some m)):=(Uv he).imp fun σ H Q ⟨env,G,Qm,Em,p,w,c⟩=>by
 rw[Own.q_o_some]at w;exact one p w fun v G1 H1 x k1 p1 r q=>by obtain⟨b,e,q2⟩:=go_some q;cases ZK e;exact⟨b,r.int_inv,c _ G1 H1 k1 p1.hp q2⟩
theorem Ju{xs:List Own.Val}{vs:List V}{K:PySem.W.Frag}{H:Hp}(r:RVs K H xs vs)(lo hi:Option Int):RVs K H (Own.cut xs lo hi) (WB vs lo hi):=by
 have e:∀ (n d:Nat) (o:Option Int),Own.cutAt n d o=HT.sIx n d o:=by
  intro n d o;cases o with
  |none=>rfl
  |some k =>
   show(if 0≤k then min k.toNat n else(k+n).toNat)=(if k<0 then(k+(n:Int)).toNat else min k.toNat n)
   by_cases h:k<0
   ·rw[if_pos h,if_neg (by omega)]
   ·rw[if_neg h,if_pos (by omega)]
 unfold Own.cut WB;rw[e,e,r.length];exact(r.drop _).take _
noncomputable def DD (i:Inf) (r:V→Option Int→Option Int→Hp→VK→Prop):Prop:=∀ (v:Own.Val) (lo hi:Option Int) (G:Own.Hs) (H:Hp) (x:V) (Q:VK) (Qm:Own.Q1),RH i G H→RV i.K H v x→(Own.slcV G v lo hi).wp G Qm→Cn i H Q Qm→r x lo hi H Q
theorem CI{a:Expr}{lo hi:Option Expr}{ma:Own.E}{ml mh:Own.Oe}{r:V→Option Int→Option Int→Hp→VK→Prop}{p2 pos:Pos}(hr:SlR X r)(ho:DD i r)(ha:PE X a (tE X i Φ ma))(hl:PO X lo (tOx X i Φ ml))(hh:PO X hi (tOx X i Φ mh)):PE X (.Subscript a (.Slice lo hi none p2) pos) (tE X i Φ (.slc ma ml mh)) :=
 (MX hr ha hl hh).imp fun σ H Q ⟨env,G,Qm,Em,p,w,c⟩=>by
  rw[Own.q_e_slc]at w;exact⟨env,G,_,Em,p,w,fun v G1 H1 x k1 g1 r1 w1=>⟨env,G1,_,Em,p.go k1 g1,w1,fun l G2 H2 k2 g2 w2=>⟨env,G2,_,Em,(p.go k1 g1).go k2 g2,w2,fun u G3 H3 k3 g3 w3 =>
    ho v l u G3 H3 x Q Qm g3 ((r1.keep k2).keep k3) w3 (((c.go k1).go k2).go k3)⟩⟩⟩
noncomputable def Cz (K:PySem.W.Frag):V→Option Int→Option Int→Hp→VK→Prop:=fun x lo hi H Q=>DX K x lo hi H Q∨DH K x lo hi H Q∨D7 x lo hi H Q
theorem FC:SlR X (Cz X.K):=sl_list.or (sl_tup.or sl_str)
theorem Jg(n d:Nat)(o:Option Int):Own.cutAt n d o=HT.sIx n d o:=by
 cases o with
 |none=>rfl
 |some k =>
  show(if 0≤k then min k.toNat n else(k+n).toNat)=(if k<0 then(k+(n:Int)).toNat else min k.toNat n)
  by_cases h:k<0
  ·rw[if_pos h,if_neg (by omega)]
  ·rw[if_neg h,if_pos (by omega)]
theorem WY(n d:Nat)(h:d≤n)(o:Option Int):Own.cutAt n d o≤n:=by
 cases o with
 |none=>exact h
 |some k =>show(if 0≤k then min k.toNat n else(k+n).toNat)≤n;split<;>omega
theorem clip_eq(n d:Nat)(h:d≤n)(o:Option Int):(match o with
    |none=>(d:Int)
    | some i=>max 0 (min (if i<0 then i+(n:Int)else i) (n:Int)))=(Own.cutAt n d o:Int):=by
 cases o with
 |none=>rfl
 |some k =>
  show _=(((if 0≤k then min k.toNat n else(k+n).toNat):Nat):Int)
  by_cases hk:k<0
  ·rw[if_neg (show ¬ 0≤k by omega)];simp only[hk,if_true];omega
  ·rw[if_pos (show 0≤k by omega)];simp only[hk,if_false];omega
theorem Bf(n:Nat)(lo hi:Option Int):PySem.Builtin.Str.strSliceIndices lo hi 1 n=(List.range (Own.cutAt n n hi - Own.cutAt n 0 lo)).map fun k=>Own.cutAt n 0 lo+k:=by
 have e1:=clip_eq n 0 (Nat.zero_le _) lo;have e2:=clip_eq n n (Nat.le_refl _) hi;have e3:PySem.Builtin.Str.strSliceIndices lo hi 1 n=sliceRange (Own.cutAt n 0 lo:Int) (Own.cutAt n n hi:Int) 1:=by unfold PySem.Builtin.Str.strSliceIndices;rw[←e1,←e2];cases lo<;>cases hi<;>rfl
 rw[e3];unfold sliceRange;have e4:(if(1:Int) > 0 then(if(Own.cutAt n 0 lo:Int)<(Own.cutAt n n hi:Int)then((Own.cutAt n n hi:Int) - (Own.cutAt n 0 lo:Int)+1 - 1) / 1 else 0)else(if(Own.cutAt n 0 lo:Int) > (Own.cutAt n n hi:Int)then((Own.cutAt n 0 lo:Int) - (Own.cutAt n n hi:Int) - 1 - 1) / (-1)else 0)).toNat=Own.cutAt n n hi - Own.cutAt n 0 lo:=by rw[if_pos (by decide),Int.ediv_one];split<;>omega
 show(List.range (Int.toNat (if(1:Int) > 0 then _ else _))).map _=_;rw[e4];refine List.map_congr_left fun k _=>?_;omega
theorem OM(s:String)(lo hi:Option Int):KH (Str.ofString s) lo hi=Str.ofString (String.ofList (Own.cut s.toList lo hi)):=by
 have hl:(Str.ofString s).length=s.toList.length:=by rw[Zm,String.length_toList]
 have ha:=WY s.toList.length 0 (Nat.zero_le _) lo;have hb:=WY s.toList.length s.toList.length (Nat.le_refl _) hi;have e:=Bf s.toList.length lo hi;rw[←hl]at e;unfold KH;rw[e];simp only[hl];have ec:(Str.ofString s).cps.toList=s.toList.map Char.toNat:=by rw[Str.ofString_eq_toList]
 split
 ·rename_i z;rw[List.length_map,List.length_range]at z;have e0:Own.cutAt s.toList.length 0 lo=0∨s.toList.length=0:=by omega
  have e5:Own.cut s.toList lo hi=s.toList:=by
   unfold Own.cut;rw[z];rcases e0 with e0|e0
   ·rw[e0,List.drop_zero,List.take_length]
   ·have:s.toList=[]:=List.length_eq_zero_iff.mp e0;rw[this];simp
  rw[e5,String.ofList_toList]
 ·rw[Str.ofString_eq_toList (String.ofList _),String.toList_ofList];congr 2;have e3:(fun i:Nat=>(Str.ofString s).cps[i]?)=fun i:Nat=>(s.toList.map Char.toNat)[i]?:=by
   funext i;rw[←ec];simp
  rw[e3];by_cases hab:Own.cutAt s.toList.length 0 lo≤Own.cutAt s.toList.length s.toList.length hi
  ·rw[PySem.StrLaws.picks _ _ _ (by rw[List.length_map];omega)];unfold Own.cut;rw[List.map_take,List.map_drop]
  ·have:Own.cutAt s.toList.length s.toList.length hi - Own.cutAt s.toList.length 0 lo=0:=by omega
   unfold Own.cut;rw[this];simp
theorem Cm:DD i (Cz i.K):=by
 intro v lo hi G H x Q Qm g r w c;cases v with
 |tup xs =>
  simp only[Own.slcV]at w;split at w
  ·simp at w
  ·rename_i hn;rw[Own.Rs.wp_val]at w;cases r with
   |@tup _ a vs hp hr =>refine .inr (.inl ⟨a,vs,rfl,Zr hp,by rw[←Jg,←Jg,←hr.length];exact hn,fun p hp'=>?_⟩);have k:=Keep.new (o:=.tup (WB vs lo hi)) hp';refine c _ G _ _ k (g.hid k fun b o e=>upd_ne ?_) (.tup (.inl upd_same) (Ju (hr.keep k) lo hi)) w;rintro rfl;rw[g.free hp']at e;cases e
 |ref a =>
  cases r.ref_inv;simp only[Own.slcV]at w;cases z:Own.lsOf (G a)with
  |none=>rw[z]at w;simp at w
  |some xs =>rw[z]at w;rw[Own.Rs.wp_new]at w;obtain⟨vs,h1,h2⟩:=ZS g z;exact .inl ⟨a,vs,rfl,h1,ZY g w c fun p hp=>⟨_,upd_same,Ju (h2.keep (Keep.new hp)) lo hi⟩⟩
 |scr ns =>
  simp only[Own.slcV,Own.Rs.wp_new]at w;cases r with
  |scr h=>exact .inl ⟨_,_,rfl,ZX h,ZY g w c fun p hp=>⟨_,upd_same,Ju (RVs.ints ns) lo hi⟩⟩
 |str s =>
  cases r.str_inv;simp only[Own.slcV]at w;split at w
  ·rename_i hl;rw[Own.Rs.wp_val]at w;refine .inr (.inr ⟨_,rfl,by rw[Zm];exact Nat.le_trans hl (by decide),?_⟩);rw[OM];exact c _ G H _ (Keep.refl H) g (.str _) w
  ·simp at w
 |_=>simp[Own.slcV]at w
end Snd
namespace Snd
open PySem L2
variable {i:Inf}{X:Cx}{Φ:Own.Fs}
theorem D5{es:List Expr}{ms:Own.Es}{k n:Nat}{pos:Pos}(hn:n≤1000)(h:PA X es (tAr X i Φ ms n)):PE X (.Tuple es k pos) (tE X i Φ (.tup ms)) :=
 (Ch h).imp fun σ H Q ⟨env,G,Qm,Em,p,w,c⟩=>by rw[Own.q_e_tup]at w;refine⟨env,G,_,Em,p,w,fun vs G1 H1 xs k1 g1 r1 hl w1=>⟨by rw[hl];exact Nat.le_trans hn (by decide),fun a ha=>?_⟩⟩;have k:=Keep.new (o:=.tup xs) ha;refine c _ G1 _ _ (k1.trans k) (g1.hid k fun b o e=>upd_ne ?_) (.tup (.inl upd_same) (r1.keep k)) w1;rintro rfl;rw[g1.free ha]at e;cases e
theorem D3{es:List Expr}{ms:Own.Es}{n:Nat}{pos:Pos}(hn:n≤1000)(h:PA X es (tAr X i Φ ms n)):PE X (.List es pos) (tE X i Φ (.lst ms)) :=
 (BU h).imp fun σ H Q ⟨env,G,Qm,Em,p,w,c⟩=>by rw[Own.q_e_lst]at w;refine⟨env,G,_,Em,p,w,fun vs G1 H1 xs k1 g1 r1 hl w1=>⟨by rw[hl];exact Nat.le_trans hn (by decide),ZY g1 w1 (c.go k1) fun a ha=>?_⟩⟩;exact⟨xs,upd_same,r1.keep (Keep.new ha)⟩
noncomputable def BiOk (i:Inf) (f:Own.Bi) (r:List V→Hp→VK→Prop):Prop:=∀ (vs:List Own.Val) (G:Own.Hs) (H:Hp) (xs:List V) (Q:VK) (Qm:Own.Q1),RH i G H→RVs i.K H vs xs→(Own.biV G f vs).wp G Qm→Cn i H Q Qm→r xs H Q
theorem WT{f:Own.Bi}{r:List V→Hp→VK→Prop}{ms:Own.Es}{n:Nat}(hr:BiOk i f r):∀ σ H Q,tE X i Φ (.bi f ms) σ H Q→tCB r (tAr X i Φ ms n) σ H Q:=fun σ H Q ⟨env,G,Qm,Em,p,w,c⟩=>by rw[Own.q_e_bi]at w;exact⟨env,G,_,Em,p,w,fun vs G1 H1 xs k1 g1 r1 _ w1=>hr vs G1 H1 xs Q Qm g1 r1 w1 (c.go k1)⟩
theorem RVs.inv1{K:PySem.W.Frag}{H:Hp}{v:Own.Val}{xs:List V}(r:RVs K H [v] xs):∃ x,xs=[x]∧RV K H v x:=by cases r with|cons a t=>cases t;exact⟨_,rfl,a⟩
theorem X4(s:String):(Str.ofString s).cps.toList=s.toList.map Char.toNat:=by rw[Str.ofString_eq_toList]
theorem Kk:∀ (l:List Char) (a:Nat),(l.map Char.toNat).foldl (fun acc c=>acc*10+(c - 48)) a=l.foldl (fun a c=>10*a+(c.toNat - 48)) a
 |[],_=>rfl
 |c::l,a=>by rw[List.map_cons,List.foldl_cons,List.foldl_cons,Kk l,Nat.mul_comm a 10]
theorem Uz{s:String}(h1:s.toList≠[])(h2:s.toList.all Own.figB=true)(h3:s.length≤640):PySem.intText? (Str.ofString s)=some ((Own.decN s.toList:Nat):Int):=by
 have hc:=X4 s;rw[intText_digits (x:=Str.ofString s)]
 ·rw[hc];unfold NumText.digitsVal Own.decN;rw[Kk]
 ·rw[hc];intro c hm;obtain⟨d,hd,rfl⟩:=List.mem_map.mp hm;have:=List.all_eq_true.mp h2 d hd;unfold Own.figB at this;simpa using this
 ·rw[hc];simpa using h1
 ·rw[Zm];omega
theorem Xa{f:Own.Val→Own.Rs}{vs:List Own.Val}{h:Own.Hs}{Q:Own.Q1}(w:(Own.biOf1 f vs).wp h Q):∃ v,vs=[v]∧(f v).wp h Q:=by
 cases vs with
 |nil=>exact(Zt w).elim
 |cons v vs=>cases vs with
  |nil=>exact⟨v,rfl,w⟩
  |cons _ _=>exact(Zt w).elim
theorem BiOk.imp{f:Own.Bi}{r r':List V→Hp→VK→Prop}(h:BiOk i f r)(k:∀ xs H Q,r xs H Q→r' xs H Q):BiOk i f r':=fun vs G H xs Q Qm g rv w c=>k _ _ _ (h vs G H xs Q Qm g rv w c)
theorem AA:BiOk i .int (fun xs H Q=>((∃ i,xs=[.int i]∧Q (.int i) H)∨∃ k,xs=[.bl k]∧Q (.int (if k then 1 else 0)) H)∨∃ z n,xs=[.str z]∧PySem.intText? z=some n∧z.length≤640∧Q (.int n) H):=by
 intro vs G H xs Q Qm g r w c;obtain⟨v,rfl,w⟩:=Xa w;obtain⟨x,rfl,rx⟩:=r.inv1;cases v with
 |int k=>cases rx.int_inv;exact .inl (.inl ⟨k,rfl,c _ G H _ (Keep.refl H) g (.int _) (Zn w)⟩)
 |bl k=>cases rx.bl_inv;exact .inl (.inr ⟨k,rfl,c _ G H _ (Keep.refl H) g (.int _) (Zn w)⟩)
 |str s =>cases rx.str_inv;obtain⟨hl,w⟩:=Yb w;exact .inr ⟨_,_,rfl,Uz hl.2.1 hl.2.2 hl.1,by rw[Zm];exact hl.1,c _ G H _ (Keep.refl H) g (.int _) (Zn w)⟩
 |_=>exact(Zt w).elim
noncomputable def Cu (o:Option Own.Ob) (f:List Own.Val→Own.Rs):Own.Rs:=match o with
 |some (.lst xs)=>f xs
 |_=>.no
theorem MS{o:Option Own.Ob}{f:List Own.Val→Own.Rs}{h:Own.Hs}{Q:Own.Q1}(w:(Cu o f).wp h Q):∃ xs,o=some (.lst xs)∧(f xs).wp h Q:=by
 cases o with
 |none=>exact(Zt w).elim
 |some o=>cases o with
  |lst xs=>exact⟨xs,rfl,w⟩
  |_=>exact(Zt w).elim
noncomputable def kinds:List String:=["int","bool","str","list","tuple","dict"]
theorem OD (K:PySem.W.Frag):∀ t∈["NoneType","bool","int","str","tuple","list","dict"],∀ T∈kinds,PySem.W.kitOne K (.type t) (.type T)=some (t==T||(t == "bool" && T == "int")):=by intro t ht T hT;simp only[kinds,List.mem_cons,List.not_mem_nil,or_false]at ht hT;rcases ht with rfl|rfl|rfl|rfl|rfl|rfl|rfl<;>rcases hT with rfl|rfl|rfl|rfl|rfl|rfl<;>rfl
theorem Mc {G:Own.Hs}{H:Hp}(g:RH i G H){v:Own.Val}{x:V}{t:String}(r:RV i.K H v x) (e:Own.kindV G v=some t):TyV i.K H x (.type t)∧t∈["NoneType","bool","int","str","tuple","list","dict"]:=by
 cases v with
 |non=>cases r;cases e;exact⟨.of .non,by simp⟩
 |bl b=>cases r;cases e;exact⟨.of (.bl b),by simp⟩
 |int b=>cases r;cases e;exact⟨.of (.int b),by simp⟩
 |str b=>cases r;cases e;exact⟨.of (.str _),by simp⟩
 |tup xs=>cases e;cases r with|tup hp hr=>exact⟨.tup (Zr hp),by simp⟩
 |scr ns=>cases e;cases r with|scr h=>exact⟨.lst (ZX h),by simp⟩
 |ref a =>
  cases r.ref_inv;simp only[Own.kindV]at e;cases q:G a with
  |none=>rw[q]at e;cases e
  |some o =>
   rw[q]at e;cases o with
   |lst xs=>cases e;obtain⟨vs,h1,_⟩:=g a _ q;exact⟨.lst (SqL.of h1),by simp⟩
   |dct kvs=>cases e;obtain⟨ps,h1,_⟩:=g a _ q;exact⟨.of (.dK h1),by simp⟩
   |ins C fs=>cases e
   |exc C=>cases e
   |frz _=>cases e
theorem CG {e:Expr}{m:Own.E}{T:String}{p p2 pos:Pos}(hT:T∈kinds) (he:PE X e (tE X i Φ m)) (hk:X.K=i.K) (hg:Gl X "isinstance") (hm:X.mg "isinstance" = none) (hg2:Gl X (Str.ofString T)) (hm2:X.mg (Str.ofString T)=none)
  (hv2:bootBuiltins (Str.ofString T)=some (.type T)) (hn2:Str.ofString T≠"__name__") (hd2:(Str.ofString T==("__debug__" : Str))=false) (hst:starEach [e,.Name (Str.ofString T) p2] X.env=(false,eval e X.env)::starEach [.Name (Str.ofString T) p2] X.env) :
  PE X (.Call (.Name "isinstance" p) [e,.Name (Str.ofString T) p2] [] pos) (tE X i Φ (.bi (.isi [T]) (.cons m .nil))):=by
 refine(XB MK hg hm (by kernel_rfl) (Yo he (Yo (DA (T:=T) hg2 hm2 hv2 hn2 hd2) pa_nil) hst) (he:=hst)).imp fun σ H Q ⟨env,G,Qm,Em,p,w,c⟩=>?_;rw[Own.q_e_bi,Own.q_a_cons]at w;refine one p w fun v G1 H1 x k1 p1 r q=>?_;rw[Own.q_a_nil]at q
 replace q:(Own.Rs.ofO (((Own.isiV G1 v T).bind fun b=>(Own.isiAny G1 v []).map (b || ·)).map .bl)).wp G1 Qm:=q
 simp only[Own.isiAny,Own.isiV]at q;cases z:Own.kindV G1 v with
 |none=>rw[z]at q;simp[Own.Rs.ofO]at q
 |some t =>rw[z]at q;simp only[Option.map_some,Option.bind_some,Own.Rs.ofO,Own.Rs.wp_val,Bool.or_false]at q;obtain⟨h1,h2⟩:=Mc p1.hp r z;refine⟨x,T,.type t,_,rfl,by rw[hk];exact h1,by rw[hk];exact OD _ t h2 T hT,c _ G1 H1 _ k1 p1.hp (.bl _) q⟩
theorem Ux{G:Own.Hs}{H:Hp}{a:Addr}{xs:List Own.Val}{vs:List V}(g:RH i G H)(h:H a=some (.lst vs))(ys:List Own.Val)(us:List V)(r:RVs i.K H ys us):Keep H (upd H a (.lst us))∧RH i (Own.upd G a (.lst ys)) (upd H a (.lst us)):=by
 have k:Keep H (upd H a (.lst us)):=Keep.put (fun xs e=>by rw[h]at e;cases e) fun p u e=>by rw[h]at e;cases e
 exact⟨k,g.put k ⟨us,upd_same,r.keep k⟩⟩
end Snd
namespace Snd
open PySem L2
variable {i:Inf}{X:Cx}{Φ:Own.Fs}
noncomputable def spF (i:Inf) (P:Own.Pg) (n:Nat) (f:String):Sp:=fun vs H Q E=>∃ args G Qm Em,RVs i.K H args vs∧RH i G H∧Own.wF P n f args G Qm Em∧Cn i H Q Qm∧∀ cls d H',XK1 i H Em cls d H'→E cls d H'
noncomputable def Dfo (pr:Program) (w:World) (mg:Str→Option Value) (base:Heap) (i:Inf) (P:Own.Pg) (n:Nat) (f:String):Prop :=
 ∃ fa fd ps,FnOk pr w i.K mg base (CX1 pr w) (2*n) fa fd ps (spF i P n f)∧mg (Str.ofString f)=some (.ref fa)∧PySem.W.keepIn i.K (.ref fa)=true∧Binds i.K fd ps []
theorem Ar {P:Own.Pg}{n k:Nat}{f:String}{e:Expr}{es:List Expr}{ms:Own.Es}{p pos:Pos}(hK:X.K=i.K) (D:Dfo X.prog X.w X.mg X.base i P n f) (hr:Room (2*n) X.A) (hg:Gl X (Str.ofString f)) (hdb:(Str.ofString f==("__debug__" : Str))=false)
  (ha:PA X (e::es) (tAr X i (Own.wF P n) ms k)) (he:starEach (e::es) X.env=(false,eval e X.env)::starEach es X.env) (hpl:(backTo pos (starEach es X.env)).any (·.1)=false) :
  PE X (.Call (.Name (Str.ofString f) p) (e::es) [] pos) (tE X i (Own.wF P n) (.call f ms)):=by
 obtain⟨fa,fd,ps,F,hm,hk,hb⟩:=D;rw[←hK]at F hk hb;intro pins s σ H Q I h;obtain⟨env,G,Qm,Em,pr,w,c⟩:=h;rw[Own.q_e_call]at w;refine O9 (E:=XK1 i H Em) F hr hg hm hk hb .nil (XW.passes pr.xo) ha hdb he hpl pins s σ H Q I ⟨env,G,_,Em,pr,w,fun vs G1 H1 xs k1 g1 r1 hl w1=>?_⟩;exact⟨vs,G1,Qm,Em,by rw[List.append_nil];exact r1,g1,w1,c.go k1,fun cls d H' h=>h.go k1⟩
noncomputable def XKS (i:Inf) (H:Hp) (Xe:Own.EQ):XK:=fun cls _ H'=>∃ e c G' ad,cls=.ref ad∧i.xc c ad∧Keep H H'∧RH i G' H'∧Xe e c G'
structure PreS (X:Cx) (i:Inf) (σ:St) (H:Hp) (env:Own.Env) (G:Own.Hs) (Xe:Own.EQ):Prop where
 en:REn i.K H env σ
 hp:RH i G H
 xo:XW X (XKS i H Xe)
theorem PreS.go{σ σ1:St}{H H1:Hp}{env env1:Own.Env}{G G1:Own.Hs}{Xe:Own.EQ}(p:PreS X i σ H env G Xe)(k:Keep H H1)(r:RH i G1 H1)(e:REn i.K H1 env1 σ1):PreS X i σ1 H1 env1 G1 Xe :=
 ⟨e,r,fun pins σ H0 s H' a cls s' I f ⟨e,c,G',ad,q1,q2,q3,q4⟩=>p.xo pins σ H0 s H' a cls s' I f ⟨e,c,G',ad,q1,q2,k.trans q3,q4⟩⟩
theorem PreS.pre{σ:St}{H:Hp}{env:Own.Env}{G:Own.Hs}{Xe:Own.EQ}(p:PreS X i σ H env G Xe):Pre X i σ H env G (Xe env) :=
 ⟨p.en,p.hp,fun pins σ H0 s H' a cls s' I f ⟨c,G',ad,q1,q2,q3,q4⟩=>p.xo pins σ H0 s H' a cls s' I f ⟨env,c,G',ad,q1,q2,q3,q4⟩⟩
structure EOk (i:Inf) (H:Hp) (D:Ends) (N:Own.NQ) (R:Own.Q1) (B C:Own.NQ):Prop where
 nx:∀ env' σ' G' H',Keep H H'→RH i G' H'→REn i.K H' env' σ'→N env' G'→D.nx σ' H'
 rt:∀ v G' H' x,Keep H H'→RH i G' H'→RV i.K H' v x→R v G'→D.rt x H'
 bk:∀ env' σ' G' H',Keep H H'→RH i G' H'→REn i.K H' env' σ'→B env' G'→D.bk σ' H'
 ct:∀ env' σ' G' H',Keep H H'→RH i G' H'→REn i.K H' env' σ'→C env' G'→D.ct σ' H'
theorem EOk.go{H H1:Hp}{D:Ends}{N:Own.NQ}{R:Own.Q1}{B C:Own.NQ}(e:EOk i H D N R B C)(k:Keep H H1):EOk i H1 D N R B C :=
 ⟨fun a b c d k'=>e.nx a b c d (k.trans k'),fun a b c d k'=>e.rt a b c d (k.trans k'),fun a b c d k'=>e.bk a b c d (k.trans k'),fun a b c d k'=>e.ct a b c d (k.trans k')⟩
noncomputable def tSt (X:Cx) (i:Inf) (Φ:Own.Fs) (m:Own.S):TS:=fun D σ H=>∃ env G N R B C Xe,PreS X i σ H env G Xe∧Own.wS Φ m env G N R B C Xe∧EOk i H D N R B C
noncomputable def tBl (X:Cx) (i:Inf) (Φ:Own.Fs) (m:Own.Ss):TS:=fun D σ H=>∃ env G N R B C Xe,PreS X i σ H env G Xe∧Own.wSs Φ m env G N R B C Xe∧EOk i H D N R B C
theorem _root_.L2.PS.imp{X:Cx}{st:Stmt}{t t':TS}(h:PS X st t)(f:∀ D σ H,t' D σ H→t D σ H):PS X st t':=fun pins s σ H D I q=>h pins s σ H D I (f D σ H q)
theorem _root_.L2.PSs.imp{X:Cx}{st:List Stmt}{t t':TS}(h:PSs X st t)(f:∀ D σ H,t' D σ H→t D σ H):PSs X st t':=fun pins s σ H D I q=>h pins s σ H D I (f D σ H q)
theorem BF:PSs X [] (tBl X i Φ .nil):=pss_nil.imp fun D σ H ⟨env,G,N,R,B,C,Xe,p,w,c⟩=>by rw[Own.q_ss_nil]at w;exact c.nx env σ G H (Keep.refl H) p.hp p.en w
theorem Ui{st:Stmt}{sts:List Stmt}{m:Own.S}{ms:Own.Ss}(h1:PS X st (tSt X i Φ m))(h2:PSs X sts (tBl X i Φ ms)):PSs X (st::sts) (tBl X i Φ (.cons m ms)) :=
 (Og h1 h2).imp fun D σ H ⟨env,G,N,R,B,C,Xe,p,w,c⟩=>by rw[Own.q_ss_cons]at w;exact⟨env,G,_,R,B,C,Xe,p,w,⟨fun env' σ' G' H' k g e w'=>⟨env',G',N,R,B,C,Xe,p.go k g e,w',c.go k⟩,c.rt,c.bk,c.ct⟩⟩
theorem AF{e:Expr}{m:Own.E}{pos:Pos}(he:PE X e (tE X i Φ m)):PS X (.Return (some e) pos) (tSt X i Φ (.ret m)) :=
 (A3 he).imp fun D σ H ⟨env,G,N,R,B,C,Xe,p,w,c⟩=>by rw[Own.q_s_ret]at w;exact⟨env,G,R,Xe env,p.pre,w,c.rt⟩
theorem A4{t:Expr}{a b:List Stmt}{mt:Own.Tt}{ma mb:Own.Ss}{pos:Pos}(ht:PT X t (tTt X i Φ mt))(ha:PSs X a (tBl X i Φ ma))(hb:PSs X b (tBl X i Φ mb)):PS X (.If t a b pos) (tSt X i Φ (.ite mt ma mb)) :=
 (C6 ht ha hb).imp fun D σ H ⟨env,G,N,R,B,C,Xe,p,w,c⟩=>by
  rw[Own.q_s_ite]at w;refine⟨env,G,_,Xe env,p.pre,w,fun d G1 H1 k1 g1 q=>?_⟩;cases d with
  |true=>exact⟨env,G1,N,R,B,C,Xe,p.go k1 g1 (p.en.keep k1),by simpa using q,c.go k1⟩
  |false=>exact⟨env,G1,N,R,B,C,Xe,p.go k1 g1 (p.en.keep k1),by simpa using q,c.go k1⟩
noncomputable def gPt (i:Inf) (p:Own.Pt):TG:=fun x σ H Q=>∃ v env G env2,RV i.K H v x∧RH i G H∧REn i.K H env σ∧Own.bind p G v env=some env2∧∀ σ2,REn i.K H env2 σ2→Q σ2 H
theorem _root_.L2.PG.imp{X:Cx}{tg:Expr}{t t':TG}(h:PG X tg t)(f:∀ v σ H Q,t' v σ H Q→t v σ H Q):PG X tg t':=fun pins s σ H v u Q I r q=>h pins s σ H v u Q I r (f v σ H Q q)
theorem _root_.L2.PGs.imp{X:Cx}{tg:List Expr}{t t':TGs}(h:PGs X tg t)(f:∀ v σ H Q,t' v σ H Q→t v σ H Q):PGs X tg t':=fun pins s σ H v u Q I r q=>h pins s σ H v u Q I r (f v σ H Q q)
theorem N5{x:Str}{j:Nat}{pos:Pos}(hN:X.N.Nodup)(hi:X.N[j]?=some x)(hx:Loc X.env.scope x)(hf:X.fn x=true∨X.env.scope.names.lookup x=some .local):PG X (.Name x pos) (gPt i (.one j)) :=
 (Wn hN hi hx hf).imp fun v σ H Q ⟨u,env,G,env2,r,g,e,b,h⟩=>by cases b;exact h _ (e.set r j)
noncomputable def Oa (i:Inf) (js:List Nat):TGs:=fun xs σ H Q=>∃ vs env env2,RVs i.K H vs xs∧REn i.K H env σ∧Own.bindL js vs env=some env2∧∀ σ2,REn i.K H env2 σ2→Q σ2 H
theorem Om:PGs X [] (Oa i []):=pgs_nil.imp fun xs σ H Q ⟨vs,env,env2,r,e,b,h⟩=>by
 cases vs with
 |nil=>cases r;cases b;exact⟨rfl,h _ e⟩
 |cons _ _=>cases b
theorem Nu{x:Str}{j:Nat}{js:List Nat}{es:List Expr}{pos:Pos}(hN:X.N.Nodup)(hi:X.N[j]?=some x)(hx:Loc X.env.scope x)(hf:X.fn x=true∨X.env.scope.names.lookup x=some .local)(h2:PGs X es (Oa i js))
  (hs:(assignEach (.Name x pos::es) X.env).map (·.2)=assign (.Name x pos) X.env::(assignEach es X.env).map (·.2)):PGs X (.Name x pos::es) (Oa i (j::js)) :=
 (M0 (Wn hN hi hx hf) h2 hs).imp fun xs σ H Q ⟨vs,env,env2,r,e,b,h⟩=>by
  cases vs with
  |nil=>cases b
  |cons v vs =>
   cases r with
   |cons r t=>exact⟨_,_,rfl,vs,env.set j (some v),env2,t,e.set r j,b,h⟩
theorem Wf:∀ {js:List Nat}{vs:List Own.Val}{env env2:Own.Env},Own.bindL js vs env=some env2→vs.length=js.length
 |[],[],_,_,_=>rfl
 |j::js,v::vs,env,_,h=>by rw[List.length_cons,List.length_cons,Wf (show Own.bindL js vs (env.set j (some v))=_ from h)]
 |[],_::_,_,_,h=>by cases h
 |_::_,[],_,_,h=>by cases h
theorem O0{es:List Expr}{js:List Nat}{k:Nat}{pos:Pos}(hK:X.K=i.K)(hc:X.calm=true)(h:PGs X es (Oa i js))(hn:(assignEach es X.env).length=js.length)(hst:(assignEach es X.env).findIdx? (·.1)=none):PG X (.Tuple es k pos) (gPt i (.many js)) :=
 (Cc (n:=js.length) hc h hn hst).imp fun v σ H Q ⟨u,env,G,env2,r,g,e,b,h⟩=>by
  cases u with
  |tup vs =>
   have b:Own.bindL js vs env=some env2:=b;cases r with
   |tup hp hr=>exact⟨_,_,rfl,by rw[hK];exact Zr hp,by rw[←hr.length];exact Wf b,vs,env,env2,hr,e,b,h⟩
  |_=>cases b
theorem AU{tg e:Expr}{m:Own.E}{q:Own.Pt}{pos:Pos}(he:PE X e (tE X i Φ m))(hg:PG X tg (gPt i q))(hs:swapsWithSole [tg] e pos.line X.env=pure false)(hw:swappedStores [tg] e X.env=pure none)
  (h1:(assignEach [tg] X.env).map (·.2)=[assign tg X.env]):PS X (.Assign [tg] e pos) (tSt X i Φ (.set q m)) :=
 (Mx he hg hs hw h1).imp fun D σ H ⟨env,G,N,R,B,C,Xe,p,w,c⟩=>by rw[Own.q_s_set]at w;refine⟨env,G,_,Xe env,p.pre,w,fun v G1 H1 x k1 g1 r1 w1=>?_⟩;obtain⟨env2,e2,w1⟩:=go_some w1;exact⟨v,env,G1,env2,r1,g1,p.en.keep k1,e2,fun σ2 h2=>c.nx env2 σ2 G1 H1 k1 g1 h2 w1⟩
noncomputable def UZ:V→V→V→Hp→(Hp→Prop)→Prop:=fun o y v H Q=>US o y v H Q∨UI o y v H Q
theorem AC{G G3:Own.Hs}{H:Hp}{o k v:Own.Val}{y z x:V}{Q:Hp→Prop}(g:RH i G H)(ry:RV i.K H o y)(rz:RV i.K H k z)(rx:RV i.K H v x)(e:Own.putV G o k v=some G3)(c:∀ H3,Keep H H3→RH i G3 H3→Q H3):UZ y z x H Q:=by
 cases o with
 |ref b =>
  cases ry.ref_inv
  replace e:(match G b with|some (.lst xs)=>(Own.asInt k).bind fun n=>(Own.ixN xs.length n).map fun j=>Own.upd G b (.lst (xs.set j v))|some (.dct kvs)=>if Own.isKey k∧kvs.length<Own.lim then some (Own.upd G b (.dct (Own.putK kvs k v)))else none|_=>none)=some G3:=e
  cases z4:G b with
  |none=>rw[z4]at e;cases e
  |some o =>
   rw[z4]at e;cases o with
   |lst xs =>obtain⟨n,hn,e⟩:=Option.bind_eq_some_iff.mp e;obtain⟨jj,hj,rfl⟩:=Option.map_eq_some_iff.mp e;cases ZK hn;cases rz.int_inv;obtain⟨vs,h2,r2⟩:=g b _ z4;rw[JR,r2.length]at hj;obtain⟨k3,g3⟩:=Ux (xs:=xs) g h2 (xs.set jj v) (vs.set jj x) (r2.set rx jj);exact .inl ⟨b,vs,n,jj,rfl,rfl,h2,hj,c _ k3 g3⟩
   |dct kvs =>obtain⟨hk,e⟩:=Yz (show(if Own.isKey k∧kvs.length<Own.lim then some (Own.upd G b (.dct (Own.putK kvs k v)))else none)=some G3 from e);cases e;obtain⟨ps,h2,r2⟩:=g b _ z4;obtain⟨d,kr,rfl⟩:=key_of hk.1 rz;obtain⟨k3,g3⟩:=Op (kvs:=kvs) g h2 (r2.put kr rx);exact .inr ⟨b,_,rfl,DPut.k h2 (by rw[←RKs.length r2];exact Nat.lt_of_lt_of_le hk.2 ZF),c _ k3 g3⟩
   |_=>cases e
 |_=>cases e
theorem KP{a j e:Expr}{ma mj m:Own.E}{spos pos:Pos}(hK:X.K=i.K)(he:PE X e (tE X i Φ m))(ha:PE X a (tE X i Φ ma))(hj:PE X j (tE X i Φ mj))(hgl:PG X (.Subscript a j spos) (Cv (tE X i Φ ma) (tE X i Φ mj) UZ))(hs:swapsWithSole [.Subscript a j spos] e pos.line X.env=pure false)(hw:swappedStores [.Subscript a j spos] e X.env=pure none)
  (h1:(assignEach [.Subscript a j spos] X.env).map (·.2)=[assign (.Subscript a j spos) X.env]):PS X (.Assign [.Subscript a j spos] e pos) (tSt X i Φ (.setIdx ma mj m)) :=
 (Mx he hgl hs hw h1).imp fun D σ H ⟨env,G,N,R,B,C,Xe,p,w,c⟩=>by rw[Own.q_s_setIdx]at w;refine⟨env,G,_,Xe env,p.pre,w,fun v G1 H1 x k1 g1 r1 w1=>?_⟩;refine two (p.go k1 g1 (p.en.keep k1)).pre w1 fun o k G2 H2 y z k2 p2 ry rz q=>?_;obtain⟨G3,e3,q⟩:=go_some q;exact AC p2.hp ry rz (r1.keep k2) e3 fun H3 k3 g3=>c.nx env σ _ _ ((k1.trans k2).trans k3) g3 (p2.en.keep k3) q
end Snd
namespace Snd
open PySem L2
variable {i:Inf}{X:Cx}{Φ:Own.Fs}
structure ItOk (i:Inf) (H0:Hp) (J:It) (st:Own.Hs→Prop) (xs:List Own.Val):Prop where
 go:∀ n G H v,Keep H0 H→RH i G H→st G→xs[n]?=some v→J.go n H∧∀ x H',J.yld n H x H'→Keep H H'∧RH i G H'∧RV i.K H' v x
 stop:∀ n G H,Keep H0 H→RH i G H→st G→xs.length≤n→J.stop n H
noncomputable def tIt (X:Cx) (i:Inf) (Φ:Own.Fs) (m:Own.It):TI:=fun σ H R=>∃ env G QI Em,Pre X i σ H env G Em∧Own.wI Φ m env G QI Em∧∀ st xs G' H' J,Keep H H'→RH i G' H'→ItOk i H' J st xs→QI st xs G'→R J H'
theorem _root_.L2.PI.imp{X:Cx}{tg e:Expr}{t t':TI}(h:PI X tg e t)(f:∀ σ H Q,t' σ H Q→t σ H Q):PI X tg e t':=fun pins s σ H Q I q=>h pins s σ H Q I (f σ H Q q)
noncomputable def Gm (K:PySem.W.Frag) (tl:TE):TI:=fun σ H R=>tl σ H fun x H1=>∃ a,x=.ref a∧(((∃ xs,SqL K H1 a xs)∧R (Itl K a) H1)∨((∃ xs,SqT K H1 a xs)∧R (Itt K a) H1))
theorem BA{tg l:Expr}{tl:TE}(hl:PE X l tl):PI X tg l (Gm X.K tl):=by
 intro pins s σ H R I h;refine thn (hl pins s σ H _ I h) fun v s1 ⟨x,H1,I1,r1,q1⟩=>?_;obtain⟨a,e,q1⟩:=q1;subst e;cases r1;rcases q1 with⟨⟨xs,hq⟩,q⟩|⟨⟨xs,hq⟩,q⟩
 ·obtain⟨its,rv,p,hz⟩:=I1.list hq;refine wpAny_pyIter_list p.isList ?_;refine⟨s1.heap.objs.size,[s1.heap.objs.size],_,_,H1,rfl,I1.kept (t':=s1.toks) fun b o e=>Heap.get?_push_of_some _ e,KU a _,⟨_,Heap.get?_push_size _ rfl,rfl,rfl⟩,fun b hb=>?_,q⟩;have e:b=s1.heap.objs.size:=by simpa using hb
  subst e;exact I1.fpOk (Nat.le_refl _) (I1.hok.fresh (Nat.le_refl _))
 ·obtain⟨its,rv,p,hz⟩:=I1.tuple hq;refine wpAny_pyIter_tuple (show s1.heap.IsTuple a its.toArray from p) ?_;refine⟨s1.heap.objs.size,[s1.heap.objs.size],_,_,H1,rfl,I1.kept (t':=s1.toks) fun b o e=>Heap.get?_push_of_some _ e,JD a _,⟨_,Heap.get?_push_size _ rfl,rfl,rfl⟩,fun b hb=>?_,q⟩;have e:b=s1.heap.objs.size:=by simpa using hb
  subst e;exact I1.fpOk (Nat.le_refl _) (I1.hok.fresh (Nat.le_refl _))
theorem it_lst{H0:Hp}{a:Addr}{xs:List Own.Val}:ItOk i H0 (Itl i.K a) (fun g=>Own.lsOf (g a)=some xs) xs where
 go:=fun n G H v _ g e hv=>by obtain⟨vs,h1,h2⟩:=ZS g e;obtain⟨x,h3,h4⟩:=h2.get hv;refine⟨⟨vs,x,h1,h3⟩,fun y H' ⟨e1,e2⟩=>?_⟩;subst e1;have:=e2 vs h1;rw[h3]at this;cases this;exact⟨Keep.refl _,g,h4⟩
 stop:=fun n G H _ g e hn=>by obtain⟨vs,h1,h2⟩:=ZS g e;exact⟨vs,h1,by rw[←h2.length];exact hn⟩
theorem it_tup{H0:Hp}{a:Addr}{xs:List Own.Val}{vs:List V}(hp:H0 a=some (.tup vs)∨KT i.K a vs)(hr:RVs i.K H0 xs vs):ItOk i H0 (Itt i.K a) (fun _=>True) xs where
 go:=fun n G H v k g e hv=>by have hp':H a=some (.tup vs)∨KT i.K a vs:=hp.imp (k.t _ _) id;obtain⟨x,h3,h4⟩:=(hr.keep k).get hv;refine⟨⟨vs,x,Zr hp',h3⟩,fun y H' ⟨e1,e2⟩=>?_⟩;subst e1;have:=e2 vs (Zr hp');rw[h3]at this;cases this;exact⟨Keep.refl _,g,h4⟩
 stop:=fun n G H k g e hn=>by have hp':H a=some (.tup vs)∨KT i.K a vs:=hp.imp (k.t _ _) id;exact⟨vs,Zr hp',by rw[←hr.length];exact hn⟩
theorem it_scr{H0:Hp}{a:Addr}{ns:List Int}(h:(∃ o,H0 a=some (.frz o (.lst (ns.map V.int))))∨KL i.K a (ns.map V.int)):ItOk i H0 (Itl i.K a) (fun _=>True) (ns.map .int) where
 go:=fun n G H v k g e hv=>by have h':SqL i.K H a (ns.map V.int):=ZX (h.imp (fun⟨o,e⟩=>⟨o,k.f _ _ _ e⟩) id);obtain⟨x,h3,h4⟩:=(RVs.ints (K:=i.K) (H:=H) ns).get hv;refine⟨⟨_,x,h',h3⟩,fun y H' ⟨e1,e2⟩=>?_⟩;subst e1;have:=e2 _ h';rw[h3]at this;cases this;exact⟨Keep.refl _,g,h4⟩
 stop:=fun n G H k g e hn=>⟨_,ZX (h.imp (fun⟨o,e⟩=>⟨o,k.f _ _ _ e⟩) id),by simpa using hn⟩
theorem BS{H0:Hp}{lo hi:Int}{n:Nat}(hn:n=(hi - lo).toNat):ItOk i H0 (Itr lo n) (fun _=>True) (Own.rangeV lo hi) where
 go:=fun k G H v _ g _ hv=>by
  unfold Own.rangeV at hv;rw[List.getElem?_map]at hv;have hk:k<(hi - lo).toNat:=by
   by_cases h:k<(hi - lo).toNat
   ·exact h
   ·rw[List.getElem?_eq_none (by simpa using h)]at hv;cases hv
  rw[List.getElem?_range hk]at hv;cases hv;refine⟨by rw[hn];exact hk,fun x H' ⟨e1,e2⟩=>?_⟩;subst e1 e2;exact⟨Keep.refl _,g,.int _⟩
 stop:=fun k G H _ g _ hk=>by unfold Own.rangeV at hk;show n≤k;simp at hk;omega
theorem BC{tg e:Expr}{m:Own.E}(hK:X.K=i.K)(he:PE X e (tE X i Φ m)):PI X tg e (tIt X i Φ (.seq m)) :=
 (BA he).imp fun σ H R ⟨env,G,QI,Em,p,w,c⟩=>by
  rw[Own.q_i_seq]at w;refine one p w fun v G1 H1 x k1 p1 r q=>?_;obtain⟨⟨st,xs⟩,e1,q2⟩:=go_some q;clear q;rw[hK];cases v with
  |tup ys =>
   cases e1;cases r with
   |tup hp hr=>exact⟨_,rfl,.inr ⟨⟨_,Zr hp⟩,c _ _ G1 H1 _ k1 p1.hp (it_tup hp hr) q2⟩⟩
  |scr ns =>
   cases e1;cases r with
   |scr h=>exact⟨_,rfl,.inl ⟨⟨_,ZX h⟩,c _ _ G1 H1 _ k1 p1.hp (it_scr h) q2⟩⟩
  |ref a =>
   cases r.ref_inv;simp only[Own.itV]at e1;cases z:Own.lsOf (G1 a)with
   |none=>rw[z]at e1;cases e1
   |some ys =>rw[z]at e1;cases e1;obtain⟨vs,h1,h2⟩:=ZS p1.hp z;exact⟨a,rfl,.inl ⟨⟨vs,h1⟩,c _ _ G1 H1 _ k1 p1.hp it_lst q2⟩⟩
  |_=>cases e1
theorem NB {tg a:Expr}{m:Own.E}{p pos:Pos}(hg:Gl X "range") (hm:X.mg "range" = none) (ha:PE X a (tE X i Φ m)) (hs:starEach [a] X.env=[(false,eval a X.env)]):PI X tg (.Call (.Name "range" p) [a] [] pos) (tIt X i Φ (.range m)) :=
 (K3 hg hm (Yo ha pa_nil (by rw[hs];rfl)) hs).imp fun σ H R ⟨env,G,QI,Em,p,w,c⟩=>by rw[Own.q_i_range]at w;refine one p w fun v G1 H1 x k1 p1 r q=>?_;obtain⟨n,e1,q2⟩:=go_some q;clear q;cases ZK e1;cases r.int_inv;exact⟨n,rfl,q2.1.1,q2.1.2,c _ _ G1 H1 _ k1 p1.hp (BS (by rw[Int.sub_zero])) q2.2⟩
theorem AX{tg iter:Expr}{body:List Stmt}{q:Own.Pt}{mi:Own.It}{mb:Own.Ss}{pos:Pos}(hp:PassesOwn (model X.prog X.w) X.A X.env X.xe)(hc:X.calm=true)(hi:PI X tg iter (tIt X i Φ mi))(hg:PG X tg (gPt i q))(hb:PSs X body (tBl X i Φ mb))
  (hs:∀ x,foldedSetIterable iter X.env x=pure x):PS X (.For tg iter body [] pos) (tSt X i Φ (.for q mi mb)) :=
 (BI hp hc hi hg hb hs).imp fun D σ H ⟨env,G,N,R,B,C,Xe,p,w,c⟩=>by
  rw[Own.q_s_for]at w;refine⟨env,G,_,Xe env,p.pre,w,fun st xs G1 H1 J k1 g1 it w1=>?_⟩;refine⟨fun n m σ' H'=>n+m=xs.length∧∃ env' G',Keep H1 H'∧RH i G' H'∧REn i.K H' env' σ'∧Own.wFor st (fun v e g K M=>Own.go (Own.bind q g v e) fun e2=>Own.wSs Φ mb e2 g K R M K Xe) N (xs.drop n) env' G',⟨xs.length,by omega,env,G1,Keep.refl _,g1,p.en.keep k1,by simpa using w1⟩,?_⟩;rintro n m σ' H' ⟨hnm,env',G',k2,g2,e2,w2⟩;by_cases hn:n<xs.length
  ·right;have hd:xs.drop n=xs[n]::xs.drop (n+1):=List.drop_eq_getElem_cons hn;rw[hd]at w2;obtain⟨s2,w2⟩:=w2;have hv:xs[n]?=some xs[n]:=List.getElem?_eq_getElem hn;obtain⟨a1,a2⟩:=it.go n G' H' xs[n] k2 g2 s2 hv;refine⟨a1,fun σ3 H3=>∃ env3 G3,Keep H1 H3∧RH i G3 H3∧REn i.K H3 env3 σ3∧Own.wFor st (fun v e g K M=>Own.go (Own.bind q g v e) fun e2=>Own.wSs Φ mb e2 g K R M K Xe) N (xs.drop (n+1)) env3 G3,fun σ3 H3 h=>⟨m - 1,by omega,by omega,h⟩,fun x H3 hy=>?_⟩;obtain⟨k3,g3,r3⟩:=a2 x H3 hy;obtain⟨env4,e4,w4⟩:=go_some w2;refine⟨xs[n],env',G',env4,r3,g3,e2.keep k3,e4,fun σ4 h4=>?_⟩;have kk:Keep H H3:=(k1.trans k2).trans k3;refine⟨env4,G',_,R,N,_,Xe,p.go kk g3 h4,w4,⟨fun env5 σ5 G5 H5 k5 g5 e5 w5=>?_,(c.go kk).rt,(c.go kk).nx,fun env5 σ5 G5 H5 k5 g5 e5 w5=>?_⟩⟩
   ·exact⟨env5,G5,(k2.trans k3).trans k5,g5,e5,w5⟩
   ·exact⟨env5,G5,(k2.trans k3).trans k5,g5,e5,w5⟩
  ·left;have hd:xs.drop n=[]:=List.drop_eq_nil_of_le (by omega);rw[hd]at w2;exact⟨it.stop n G' H' k2 g2 w2.1 (by omega),c.nx env' σ' G' H' (k1.trans k2) g2 e2 w2.2⟩
end Snd
namespace Snd
open PySem L2
variable {i:Inf}{X:Cx}{Φ:Own.Fs}
theorem Aj:BiOk i .len (fun xs H Q=>((∃ p ys,xs=[.ref p]∧(SqL i.K H p ys∨SqT i.K H p ys)∧Q (.int ys.length) H)∨∃ z,xs=[.str z]∧z.length≤sizeLine∧Q (.int z.length) H)∨∃ a kvs,xs=[V.ref a]∧H a=some (.dK kvs)∧Q (.int kvs.length) H):=by
 intro vs G H xs Q Qm g r w c;obtain⟨v,rfl,w⟩:=Xa w;obtain⟨x,rfl,rx⟩:=r.inv1;cases v with
 |ref a =>
  cases rx.ref_inv
  replace w:(match G a with|some (.lst xs)=>.val (.int xs.length)|some (.dct kvs)=>.val (.int kvs.length)|_=>.no:Own.Rs).wp G Qm:=w
  cases z:G a with
  |none=>rw[z]at w;exact(Zt w).elim
  |some o =>
   rw[z]at w;cases o with
   |lst ys =>obtain⟨us,h1,h2⟩:=g a _ z;refine .inl (.inl ⟨a,us,rfl,.inl (SqL.of h1),?_⟩);rw[←h2.length];exact c _ G H _ (Keep.refl H) g (.int _) (Zn w)
   |dct kvs =>obtain⟨ps,h1,h2⟩:=g a _ z;refine .inr ⟨a,ps,rfl,h1,?_⟩;rw[←h2.length];exact c _ G H _ (Keep.refl H) g (.int _) (Zn w)
   |_=>exact(Zt w).elim
 |tup ys =>
  cases rx with
  |tup hp hr =>refine .inl (.inl ⟨_,_,rfl,.inr (Zr hp),?_⟩);rw[←hr.length];exact c _ G H _ (Keep.refl H) g (.int _) (Zn w)
 |scr ns =>
  cases rx with
  |scr h =>refine .inl (.inl ⟨_,_,rfl,.inl (ZX h),?_⟩);rw[List.length_map];exact c _ G H _ (Keep.refl H) g (.int _) (Zn w)
 |str s =>cases rx.str_inv;obtain⟨hl,w⟩:=Yb w;refine .inl (.inr ⟨_,rfl,by rw[Zm];exact Nat.le_trans hl ZF,?_⟩);rw[Zm];exact c _ G H _ (Keep.refl H) g (.int _) (Zn w)
 |_=>exact(Zt w).elim
theorem Oo:BiOk i .list (fun xs H Q=>∃ p ys,xs=[.ref p]∧(SqL i.K H p ys∨SqT i.K H p ys)∧∀ l,H l=none→Q (.ref l) (upd H l (.lst ys))):=by
 intro vs G H xs Q Qm g r w c;obtain⟨v,rfl,w⟩:=Xa w;obtain⟨x,rfl,rx⟩:=r.inv1;cases v with
 |ref a =>cases rx.ref_inv;obtain⟨ys,e,w⟩:=MS (f:=fun xs=>.new (.lst xs)) w;obtain⟨us,h1,h2⟩:=g a _ e;exact⟨a,us,rfl,.inl (SqL.of h1),ZY g (JJ w) c fun p hp=>⟨_,upd_same,h2.keep (Keep.new hp)⟩⟩
 |tup ys =>
  cases rx with
  |tup hp hr=>exact⟨_,_,rfl,.inr (Zr hp),ZY g (JJ w) c fun p hp=>⟨_,upd_same,hr.keep (Keep.new hp)⟩⟩
 |_=>exact(Zt w).elim
theorem Mg{K:PySem.W.Frag}{H:Hp}:∀ {xs:List Own.Val}{bs:List Bool}{vs:List V},Own.blsOf xs=some bs→RVs K H xs vs→vs=bs.map V.bl:=by
 intro xs;induction xs with
 |nil=>intro bs vs e r;cases e;cases r;rfl
 |cons v xs ih =>
  intro bs vs e r;cases v<;>first|(cases e;done)|skip
  case bl b =>
  simp only[Own.blsOf]at e;cases z:Own.blsOf xs with
  |none=>rw[z]at e;cases e
  |some ns=>rw[z]at e;cases e;cases r with|cons a t=>cases a.bl_inv;rw[ih z t];rfl
theorem Bp{o:Option Own.Val}{h:Own.Hs}{Q:Own.Q1}(w:(Own.Rs.ofO o).wp h Q):∃ v,o=some v∧Q v h:=by
 cases o with
 |none=>exact(Zt w).elim
 |some v=>exact⟨v,rfl,Zn w⟩
theorem A9:BiOk i .all (fun xs H Q=>∃ p,∃ bs:List Bool,xs=[.ref p]∧SqL i.K H p (bs.map V.bl)∧Q (.bl (bs.all id)) H):=by
 intro vs G H xs Q Qm g r w c;obtain⟨v,rfl,w⟩:=Xa w;obtain⟨x,rfl,rx⟩:=r.inv1;cases v with
 |ref a =>cases rx.ref_inv;obtain⟨v,e,w⟩:=Bp w;obtain⟨ys,z,e⟩:=Option.bind_eq_some_iff.mp e;obtain⟨bs,z2,rfl⟩:=Option.map_eq_some_iff.mp e;obtain⟨us,h1,h2⟩:=ZS g z;have:=Mg z2 h2;subst this;exact⟨a,bs,rfl,h1,c _ G H _ (Keep.refl H) g (.bl _) w⟩
 |_=>exact(Zt w).elim
set_option exponentiation.threshold 2000 in
theorem Nf{k:Int}(h:k.natAbs<10 ^ 200):k.natAbs.log2<1920:=by
 have e:(10:Nat) ^ 200<2 ^ 1920:=by decide
 by_cases h0:k.natAbs=0
 ·rw[h0];decide
 ·exact(Nat.log2_lt h0).mpr (Nat.lt_trans h e)
theorem Bw:BiOk i .str (fun xs H Q=>(∃ i,xs=[.int i]∧i.natAbs.log2<1920∧Q (.str (toString i)) H)∨∃ z,xs=[.str z]∧Q (.str z) H):=by
 intro vs G H xs Q Qm g r w c;obtain⟨v,rfl,w⟩:=Xa w;obtain⟨x,rfl,rx⟩:=r.inv1;cases v with
 |int a =>cases rx.int_inv;obtain⟨hl,w⟩:=Yb w;exact .inl ⟨a,rfl,Nf hl,c _ G H _ (Keep.refl H) g (.str _) (Zn w)⟩
 |str s=>cases rx.str_inv;exact .inr ⟨_,rfl,c _ G H _ (Keep.refl H) g (.str _) (Zn w)⟩
 |_=>exact(Zt w).elim
theorem MU(ds:List Own.D)(d:Own.D):(toDs ds).any (fun e=>PyData.eqv e (toD d))=ds.any fun e=>Own.D.eqv e d:=by
 induction ds with
 |nil=>rfl
 |cons e es ih=>simp only[toDs,List.any_cons,ih,WM]
theorem Kg{G:Own.Hs}{H:Hp}(g:RH i G H){v u:Own.Val}{x y:V}{ys:List Own.Val}{c:Bool}(rx:RV i.K H v x)(e:Own.inL G v ys=some c)(hy:∀ ds,ys.mapM (Own.dat G (Own.deep - 1))=some ds→IsD i.K H y (.tuple (toDs ds))∨IsD i.K H y (.list (toDs ds))) :
  ∃ ds d,(IsD i.K H y (.tuple ds)∨IsD i.K H y (.list ds))∧IsD i.K H x d∧PyData.canLayAll0 ds=true∧d.canLay0=true∧d.depth≤64∧ds.any (fun e=>PyData.eqv e d)=c:=by
 unfold Own.inL at e;cases z:Own.dat G Own.deep v with
 |none=>rw[z]at e;cases e
 |some d =>
  rw[z]at e;simp only[Option.bind_some]at e;cases z2:ys.mapM (Own.dat G (Own.deep - 1))with
  |none=>rw[z2]at e;cases e
  |some ds =>rw[z2]at e;cases e;exact⟨_,_,hy ds z2,Yy g _ _ _ _ z rx,toDs_lay ds,WE d,Nat.le_trans (XZ _ _ _ z) (by decide),MU ds d⟩
theorem Kb{G:Own.Hs}{H:Hp}(g:RH i G H){u:Own.Val}{y:V}{ys:List Own.Val}(ry:RV i.K H u y)(hu:u=.tup ys∨∃ a,u=.ref a∧Own.lsOf (G a)=some ys):∀ ds,ys.mapM (Own.dat G (Own.deep - 1))=some ds→IsD i.K H y (.tuple (toDs ds))∨IsD i.K H y (.list (toDs ds)):=by
 intro ds hd;rcases hu with rfl|⟨a,rfl,hl⟩
 ·left;have:=Yy g Own.deep (.tup ys) (.tup ds) y (by show Option.map _ (List.mapM (Own.dat G (Own.deep - 1)) ys)=_;rw[hd];rfl) ry;simpa[toD]using this
 ·right;have:=Yy g Own.deep (.ref a) (.lst ds) y (by show(Own.lsOf (G a)).bind _=_;rw[hl];show Option.map _ (List.mapM (Own.dat G (Own.deep - 1)) ys)=_;rw[hd];rfl) ry;simpa[toD]using this
theorem Bu(s t:String)(c:Char)(h:Own.oneC s=some c):(!(Builtin.Str.occurrences (Str.ofString t) (Str.ofString s) 0 (Str.ofString t).length 1).isEmpty)=decide (c∈t.toList):=by
 have e:Str.ofString s=⟨#[c.toNat]⟩:=by
  unfold Own.oneC at h;split at h
  ·rename_i d hd;cases h;rw[Str.ofString_eq_toList,hd];rfl
  ·cases h
 rw[e,StrLaws.found_one,X4];have inj:∀ {a b:Char},a.toNat=b.toNat→a=b:=fun {a b} e=>Char.ext (UInt32.toNat.inj e);by_cases hc:c∈t.toList
 ·rw[decide_eq_true hc,decide_eq_true_eq];exact List.mem_map_of_mem hc
 ·rw[decide_eq_false hc,decide_eq_false_iff_not];intro m;obtain⟨d,hd,he⟩:=List.mem_map.mp m;exact hc (inj he▸hd)
noncomputable def CQ (K:PySem.W.Frag):R2:=fun x y H Q=>Uw false x y H Q∨OP K false x y H Q∨∃ i j,x=.str i∧y=.str j∧Q (.bl (!(Builtin.Str.occurrences j i 0 j.length 1).isEmpty)) H
noncomputable def Df (K:PySem.W.Frag):R2:=fun x y H Q=>Uw true x y H Q∨OP K true x y H Q∨∃ i j,x=.str i∧y=.str j∧Q (.bl (!(!(Builtin.Str.occurrences j i 0 j.length 1).isEmpty))) H
theorem Gg(hu:X.A.units+65<cLine):OpR X (compareOp .In) (CQ X.K):=(AR (by omega)).or ((AI hu).or KM)
theorem F5(hu:X.A.units+65<cLine):OpR X (compareOp .NotIn) (Df X.K):=(Ao (by omega)).or ((KR hu).or Ws)
theorem Ai{v u:Own.Val}{G:Own.Hs}{H:Hp}{x y:V}{b:Bool}(g:RH i G H)(rx:RV i.K H v x)(ry:RV i.K H u y)(e:Own.inV G v u=some b) :
  (∃ ds d,(IsD i.K H y (.tuple ds)∨IsD i.K H y (.list ds))∧IsD i.K H x d∧PyData.canLayAll0 ds=true∧d.canLay0=true∧d.depth≤64∧ds.any (fun e=>PyData.eqv e d)=b)∨
  (∃ j k,x=.str j∧y=.str k∧(!(Builtin.Str.occurrences k j 0 k.length 1).isEmpty)=b)∨∃ a o,y=.ref a∧DGet H a x o∧o.isSome=b:=by
 cases u with
 |tup ys=>exact .inl (Kg (u:=.tup ys) g rx e (Kb g ry (.inl rfl)))
 |ref a =>
  replace e:(match G a with|some (.lst xs)=>Own.inL G v xs|some (.dct kvs)=>if Own.isKey v then some (Own.hasK kvs v)else none|_=>none)=some b:=e
  cases z:G a with
  |none=>rw[z]at e;cases e
  |some o =>
   rw[z]at e;cases o with
   |lst ys=>exact .inl (Kg (u:=.ref a) g rx e (Kb g ry (.inr ⟨a,rfl,by rw[z];rfl⟩)))
   |dct kvs =>obtain⟨hk,e⟩:=Yz (show(if Own.isKey v then some (Own.hasK kvs v)else none)=some b from e);cases e;obtain⟨ps,h1,h2⟩:=g a _ z;obtain⟨d,kr,rfl⟩:=key_of hk rx;exact .inr (.inr ⟨a,_,ry.ref_inv,DGet.k h1,by rw[h2.has kr,Y6]⟩)
   |_=>cases e
 |str t =>
  cases v with
  |str s =>obtain⟨c,z,rfl⟩:=Option.map_eq_some_iff.mp e;exact .inr (.inl ⟨_,_,rx.str_inv,ry.str_inv,Bu s t c z⟩)
  |_=>cases e
 |_=>cases e
theorem Ua{o:Option Bool}{b:Bool}(e:o.map (!·)=some b):o=some (!b):=by obtain⟨c,z,rfl⟩:=Option.map_eq_some_iff.mp e;rw[z,Bool.not_not]
theorem FJ:ZJ i .isin (CQ i.K):=by
 intro v u G H x y c Q g rx ry e q;rcases Ai g rx ry e with⟨ds,d,h1,h2,h3,h4,h5,h6⟩|⟨j,k,h1,h2,h3⟩|⟨a,o,h1,h2,h3⟩
 ·exact .inr (.inl ⟨ds,d,h1,h2,h3,h4,h5,by show Q (.bl (List.any _ _)) H;rw[h6];exact q⟩)
 ·exact .inr (.inr ⟨j,k,h1,h2,by rw[h3];exact q⟩)
 ·exact .inl ⟨a,o,h1,h2,by rw[h3,Bool.false_xor];exact q⟩
theorem F9:ZJ i .notin (Df i.K):=by
 intro v u G H x y c Q g rx ry e q;rcases Ai g rx ry (Ua e)with⟨ds,d,h1,h2,h3,h4,h5,h6⟩|⟨j,k,h1,h2,h3⟩|⟨a,o,h1,h2,h3⟩
 ·exact .inr (.inl ⟨ds,d,h1,h2,h3,h4,h5,by show Q (.bl (!List.any _ _)) H;rw[h6,Bool.not_not];exact q⟩)
 ·exact .inr (.inr ⟨j,k,h1,h2,by rw[h3,Bool.not_not];exact q⟩)
 ·exact .inl ⟨a,o,h1,h2,by rw[h3,Bool.true_xor,Bool.not_not];exact q⟩
theorem Ot{a b d:Expr}{ma mb md:Own.E}{op op':CmpOp}{cop cop':Own.Cop}{r r':R2}{pos:Pos}(ho:OpR X (compareOp op) r)(hr:ZJ i cop r)(ho':OpR X (compareOp op') r')(hr':ZJ i cop' r')(ha:PE X a (tE X i Φ ma))(hb:PE X b (tE X i Φ mb))(hd:PE X d (tE X i Φ md))(hm:lastMarks [op,op'] [b,d]=false) :
  PE X (.Compare a [op,op'] [b,d] pos) (tE X i Φ (.chain cop cop' ma mb md)) :=
 (Oh ho ho' ha hb hd hm).imp fun σ H Q ⟨env,G,Qm,Em,p,w,k⟩=>by
  rw[Own.q_e_chain]at w;exact two p w fun v u G2 H2 x y k2 p2 rx ry q=>by
   obtain⟨c,e,q⟩:=go_some q;refine hr v u G2 H2 x y c _ p2.hp rx ry e ⟨c,rfl,?_⟩;cases c with
   |true =>
    rw[if_pos rfl]at q ⊢;exact one p2 q fun t G3 H3 z k3 p3 rz q=>by obtain⟨d2,e2,q⟩:=go_some q;exact hr' u t G3 H3 y z d2 Q p3.hp (ry.keep k3) rz e2 (k (.bl d2) G3 H3 (.bl d2) (k2.trans k3) p3.hp (.bl d2) q)
   |false =>rw[if_neg Bool.false_ne_true]at q ⊢;exact k _ G2 H2 _ k2 p2.hp (.bl _) q
theorem Nd{a b d:Expr}{ma mb md:Own.E}{op op':CmpOp}{cop cop':Own.Cop}{r r':R2}{pos:Pos}(ho:OpR X (compareOp op) r)(hr:ZJ i cop r)(ho':OpR X (compareOp op') r')(hr':ZJ i cop' r')(ha:PE X a (tE X i Φ ma))(hb:PE X b (tE X i Φ mb))(hd:PE X d (tE X i Φ md))(hm:lastMarks [op,op'] [b,d]=false) :
  PT X (.Compare a [op,op'] [b,d] pos) (tTt X i Φ (.val (.chain cop cop' ma mb md))) :=
 (Mr ho ho' ha hb hd hm).imp fun σ H Q ⟨env,G,Qm,Em,p,w,k⟩=>by
  rw[Own.q_t_val,Own.q_e_chain]at w;exact two p w fun v u G2 H2 x y k2 p2 rx ry q=>by
   obtain⟨c,e,q⟩:=go_some q;refine hr v u G2 H2 x y c _ p2.hp rx ry e ⟨c,rfl,?_⟩;cases c with
   |true =>
    rw[if_pos rfl]at q ⊢;exact one p2 q fun t G3 H3 z k3 p3 rz q=>by obtain⟨d2,e2,q⟩:=go_some q;obtain⟨d3,e3,q⟩:=go_some q;cases e3;exact hr' u t G3 H3 y z d2 _ p3.hp (ry.keep k3) rz e2 ⟨d2,rfl,k d2 G3 H3 (k2.trans k3) p3.hp q⟩
   |false =>rw[if_neg Bool.false_ne_true]at q ⊢;obtain⟨d3,e3,q⟩:=go_some q;cases e3;exact⟨false,rfl,k _ G2 H2 k2 p2.hp q⟩
theorem Nr{st:Stmt}:PS X st (tSt X i Φ .never):=fun pins s σ H D I ⟨env,G,N,R,B,C,Xe,p,w,c⟩=>by rw[Own.q_s_never]at w;exact w.elim
end Snd
namespace Snd
open PySem L2
variable {i:Inf}{X:Cx}{Φ:Own.Fs}
theorem RVs.strs{K:PySem.W.Frag}{H:Hp}:∀ ss:List String,RVs K H (ss.map Own.Val.str) ((ss.map Str.ofString).map V.str)
 |[]=>.nil
 |s::ss=>.cons (.str s) (RVs.strs ss)
noncomputable def tPt (X:Cx) (i:Inf) (Φ:Own.Fs) (m:Own.E):TE:=fun σ H Q=>∃ env G Qm Em,Pre X i σ H env G Em∧Own.wE Φ m env G Qm Em∧∀ v G' H',Keep H H'→RH i G' H'→Qm v G'→∃ s,Own.fmtV v=some s∧s.length≤Own.lim∧Q (.str (Str.ofString s)) H'
noncomputable def tJs (X:Cx) (i:Inf) (Φ:Own.Fs) (ms:Own.Es):TJ:=fun σ H acc Q=>∃ env G a Qm Em,acc=Str.ofString a∧a.length≤Own.lim∧Pre X i σ H env G Em∧Own.wJ Φ ms env G a Qm Em∧∀ s G' H',Keep H H'→RH i G' H'→Qm s G'→Q (Str.ofString s) H'
theorem _root_.L2.PJ.imp{X:Cx}{vs:List Expr}{t t':TJ}(h:PJ X vs t)(f:∀ σ H acc Q,t' σ H acc Q→t σ H acc Q):PJ X vs t':=fun pins s σ H acc Q I q=>h pins s σ H acc Q I (f σ H acc Q q)
theorem B8{e:Expr}{m:Own.E}{pos:Pos}(he:PE X e (tE X i Φ m)):PE X (.FormattedValue e (-1) none pos) (tPt X i Φ m) :=
 (Um he).imp fun σ H Q ⟨env,G,Qm,Em,p,w,c⟩=>by
  refine⟨env,G,Qm,Em,p,w,fun v G1 H1 x k1 g1 r1 w1=>?_⟩;obtain⟨s,e1,hl,q⟩:=c v G1 H1 k1 g1 w1;cases v with
  |str t=>cases e1;cases r1.str_inv;exact .inr ⟨_,rfl,by rw[Zm];exact Nat.le_trans hl ZF,q⟩
  |int n =>
   cases r1.int_inv;simp only[Own.fmtV]at e1;split at e1
   ·rename_i hn;cases e1;exact .inl ⟨n,rfl,Nf hn,q⟩
   ·cases e1
  |_=>cases e1
theorem AD{s:String}{j:Nat}{pos:Pos}:PE X (.Constant (.str (Str.ofString s)) j pos) (tPt X i Φ (.cst (.str s))) :=
 pe_str.imp fun σ H Q ⟨env,G,Qm,Em,p,w,c⟩=>by rw[Own.q_e_cst]at w;obtain⟨t,e1,hl,q⟩:=c _ G H (Keep.refl H) p.hp w;cases e1;exact q
theorem Bg:PJ X [] (tJs X i Φ .nil):=pj_nil.imp fun σ H acc Q ⟨env,G,a,Qm,Em,e,hl,p,w,c⟩=>by rw[Own.q_j_nil]at w;subst e;exact⟨by rw[Zm];exact Nat.le_trans hl ZF,c a G H (Keep.refl H) p.hp w⟩
theorem J3{e:Expr}{es:List Expr}{m:Own.E}{ms:Own.Es}(he:PE X e (tPt X i Φ m))(hr:PJ X es (tJs X i Φ ms))(hs:evalEach (e::es) X.env=eval e X.env::evalEach es X.env):PJ X (e::es) (tJs X i Φ (.cons m ms)) :=
 (OS he hr hs).imp fun σ H acc Q ⟨env,G,a,Qm,Em,e,hl,p,w,c⟩=>by rw[Own.q_j_cons]at w;subst e;refine⟨env,G,_,Em,p,w,fun v G1 H1 k1 g1 w1=>?_⟩;obtain⟨s,e1,hl1,w2⟩:=go_some w1;clear w1;refine⟨s,e1,by omega,_,rfl,?_,env,G1,a++s,Qm,Em,(Wu a s).symm,by rw[String.length_append];exact hl1,p.go k1 g1,w2,fun t G2 H2 k2=>c t G2 H2 (k1.trans k2)⟩;rw[←Wu,Zm,String.length_append];exact Nat.le_trans hl1 ZF
end Snd
namespace Snd
open PySem L2
variable {i:Inf}{X:Cx}{Φ:Own.Fs}
noncomputable def tE0 (i:Inf) (Φ:Own.Fs) (m:Own.E):TE:=fun σ H Q=>∃ env G Qm,REn i.K H env σ∧RH i G H∧Own.wE Φ m env G Qm (fun _ _=>False)∧Cn i H Q Qm
noncomputable def tT0 (i:Inf) (Φ:Own.Fs) (m:Own.Tt):TT:=fun σ H Q=>∃ env G Qm,REn i.K H env σ∧RH i G H∧Own.wT Φ m env G Qm (fun _ _=>False)∧∀ b G' H',Keep H H'→RH i G' H'→Qm b G'→Q b H'
theorem KC{H:Hp}:XOk X i H (fun _ _=>False):=fun pins σ H0 s H' a cls s' I f ⟨_,_,_,_,_,_,_,z⟩=>z.elim
theorem pe0{e:Expr}{m:Own.E}(h:PE X e (tE X i Φ m)):PE X e (tE0 i Φ m):=h.imp fun σ H Q ⟨env,G,Qm,r,g,w,c⟩=>⟨env,G,Qm,_,⟨r,g,KC⟩,w,c⟩
theorem pt0{e:Expr}{m:Own.Tt}(h:PT X e (tTt X i Φ m)):PT X e (tT0 i Φ m):=h.imp fun σ H Q ⟨env,G,Qm,r,g,w,c⟩=>⟨env,G,Qm,_,⟨r,g,KC⟩,w,c⟩
theorem _root_.L2.PIfs.imp{X:Cx}{es:List Expr}{t t':TT}(h:PIfs X es t)(f:∀ σ H Q,t' σ H Q→t σ H Q):PIfs X es t':=fun pins s σ H Q I q=>h pins s σ H Q I (f σ H Q q)
theorem BD:PIfs X [] (tT0 i Φ .yes):=pifs_nil.imp fun σ H Q ⟨env,G,Qm,r,g,w,c⟩=>by rw[Own.q_t_yes]at w;exact c true G H (Keep.refl H) g w
theorem KE{K:PySem.W.Frag}{H H':Hp}{env:Own.Env}{σ:St}{v:Own.Val}{x:V}{caps:List Nat}(r:REn K H env σ)(k:Keep H H')(q:RV K H' v x):REn K H' (some v::caps.map fun j=>(env[j]?).getD none) (some x::YW σ caps):=by
 refine⟨by simp[YW],fun n u e=>?_⟩;cases n with
 |zero=>cases e;exact⟨x,rfl,q⟩
 |succ n =>
  simp only[List.getElem?_cons_succ,List.getElem?_map]at e;cases z:caps[n]? with
  |none=>rw[z]at e;cases e
  |some j =>
   rw[z]at e;simp only[Option.map_some,Option.some.injEq]at e;cases z2:env[j]? with
   |none=>rw[z2]at e;cases e
   |some o =>rw[z2]at e;have e:o=some u:=e;subst e;obtain⟨y,h1,h2⟩:=r.get j u z2;exact⟨y,by show(YW σ caps)[n]?=_;unfold YW;rw[List.getElem?_map,z];show some ((σ[j]?).getD none)=_;rw[h1];rfl,h2.keep k⟩
theorem Kd{caps:List Nat}{mi:Own.It}{mt:Own.Tt}{me:Own.E}:∀ σ H Q,tE X i Φ (.comp caps 1 (.one 0) mi mt me) σ H Q→M6 (tIt X i Φ mi) caps (tT0 i Φ mt) (tE0 i Φ me) σ H Q:=fun σ H Q ⟨env,G,Qm,Em,p,w,c⟩=>by
 rw[Own.q_e_comp]at w;refine⟨env,G,_,Em,p,w,fun st xs G1 H1 J k1 g1 it w1=>?_⟩;obtain⟨hl,w1⟩:=w1;generalize hstep:(fun(v:Own.Val) (h2:Own.Hs) (K:Option Own.Val→Own.Hs→Prop) (X2:Own.XQ)=>Own.go (Own.bind (.one 0) h2 v (List.replicate 1 none++caps.map fun j=>(env[j]?).getD none)) fun env2 =>
       Own.wT Φ mt env2 h2 (fun k h3=>if k=true then Own.wE Φ me env2 h3 (fun u h4=>K (some u) h4) X2 else K none h3) X2)=step at w1
 refine⟨fun n m ys H'=>n+m=xs.length∧ys.length≤n∧∃ acc G',Keep H1 H'∧RH i G' H'∧RVs i.K H' acc ys∧Own.wComp st step (xs.drop n) acc G' (fun ys h5=>Own.new h5 (.lst ys) Qm) (fun _ _=>False),⟨xs.length,by omega,by simp,[],G1,Keep.refl _,g1,.nil,by simpa using w1⟩,?_⟩;rintro n m ys H' ⟨hnm,hly,acc,G',k2,g2,r2,w2⟩;refine⟨Nat.lt_of_lt_of_le (Nat.lt_of_le_of_lt (Nat.le_trans hly (by omega)) hl) ZF,?_⟩;by_cases hn:n<xs.length
 ·right;have hd:xs.drop n=xs[n]::xs.drop (n+1):=List.drop_eq_getElem_cons hn;rw[hd]at w2;obtain⟨s2,w2⟩:=w2;have hv:xs[n]?=some xs[n]:=List.getElem?_eq_getElem hn;obtain⟨a1,a2⟩:=it.go n G' H' xs[n] k2 g2 s2 hv;refine⟨a1,fun ys3 H3=>ys3.length≤n+1∧∃ acc3 G3,Keep H1 H3∧RH i G3 H3∧RVs i.K H3 acc3 ys3∧Own.wComp st step (xs.drop (n+1)) acc3 G3 (fun ys h5=>Own.new h5 (.lst ys) Qm) (fun _ _=>False),fun ys3 H3 h=>⟨m - 1,by omega,by omega,h.1,h.2⟩,fun x H3 hy=>?_⟩;obtain⟨k3,g3,r3⟩:=a2 x H3 hy;rw[←hstep]at w2;obtain⟨env4,e4,w4⟩:=go_some w2;rw[hstep]at w4;have e4:some (some xs[n]::caps.map fun j=>(env[j]?).getD none)=some env4:=e4;cases e4;refine⟨_,G',_,KE p.en ((k1.trans k2).trans k3) r3,g3,w4,fun d G5 H5 k5 g5 q5=>?_⟩;have kk:=(k2.trans k3).trans k5;cases d with
  |true =>refine⟨_,G5,_,(KE p.en ((k1.trans k2).trans k3) r3).keep k5,g5,by simpa using q5,fun u G6 H6 y k6 g6 r6 q6=>?_⟩;exact⟨by simpa using hly,_,G6,kk.trans k6,g6,((((r2.keep k3).keep k5).keep k6).append (.cons r6 .nil)),q6⟩
  |false =>rw[if_neg Bool.false_ne_true]at q5;change if false=true then _ else _;rw[if_neg Bool.false_ne_true];have q5:Own.wComp st step (xs.drop (n+1)) (acc++[]) G5 (fun ys h5=>Own.new h5 (.lst ys) Qm) (fun _ _=>False):=q5;rw[List.append_nil]at q5;exact⟨by omega,acc,G5,kk,g5,(r2.keep k3).keep k5,q5⟩
 ·left;have hd:xs.drop n=[]:=List.drop_eq_nil_of_le (by omega);rw[hd]at w2;refine⟨it.stop n G' H' k2 g2 w2.1 (by omega),?_⟩;exact ZY g2 w2.2 ((c.go k1).go k2) fun q hq=>⟨_,upd_same,r2.keep (Keep.new hq)⟩
end Snd
namespace Snd
open PySem L2
variable {i:Inf}{X:Cx}{Φ:Own.Fs}
noncomputable def Hu (i:Inf) (m:Own.Bm) (r:V→List V→Hp→VK→Prop):Prop:=∀ (v:Own.Val) (vs:List Own.Val) (G:Own.Hs) (H:Hp) (x:V) (xs:List V) (t:Own.Val×Own.Hs) (Q:VK) (Qm:Own.Q1),
 RH i G H→RV i.K H v x→RVs i.K H vs xs→Own.bmV G m v vs=some t→Qm t.1 t.2→Cn i H Q Qm→r x xs H Q
noncomputable def Hw (i:Inf) (m:Own.Bm) (T:String):Prop:=∀ (v:Own.Val) (G:Own.Hs) (H:Hp) (x:V),RH i G H→RV i.K H v x→Own.bmTy G m v=true→tyV i.K T x H
noncomputable def EI:V→List V→Hp→VK→Prop:=fun x vs H Q=>∃ a y o,x=.ref a∧vs=[y]∧DGet H a y o∧Q (o.getD .non) H
noncomputable def E8:V→List V→Hp→VK→Prop:=fun x vs H Q=>∃ a y z o,x=.ref a∧vs=[y,z]∧DGet H a y o∧Q (o.getD z) H
noncomputable def GO:V→List V→Hp→VK→Prop:=fun x vs H Q=>∃ a kvs k v more,x=.ref a∧vs=kV k::more∧(more=[]∨∃ z,more=[z])∧H a=some (.dK kvs)∧ZQ kvs k=some v∧Q v (upd H a (.dK (dropK kvs k)))
noncomputable def FZ:V→List V→Hp→VK→Prop:=fun x vs H Q=>∃ a kvs k z,x=.ref a∧vs=[kV k,z]∧H a=some (.dK kvs)∧ZQ kvs k=none∧Q z H
end Snd
namespace Snd
open PySem L2
variable {i:Inf}{X:Cx}{Φ:Own.Fs}
theorem RFs.look{K:PySem.W.Frag}{H:Hp}{f:String}:∀ {fs:List (String×Own.Val)}{ps:List (Str×V)},RFs K H fs ps→
  (∀ v,fs.lookup f=some v→∃ x,ps.lookup (Str.ofString f)=some x∧RV K H v x)∧(fs.lookup f=none→ps.lookup (Str.ofString f)=none)
 |_,_,.nil=>⟨fun v e=>(by cases e),fun _=>rfl⟩
 |_,_,.cons (f:=g) (v:=u) (x:=y) r t=>by
  have ih:=RFs.look (f:=f) t;rw[List.lookup_cons,List.lookup_cons];by_cases e:f=g
  ·subst e;rw[beq_self_eq_true,beq_self_eq_true];exact⟨fun v z=>(by cases z;exact⟨y,rfl,r⟩),fun z=>(by cases z)⟩
  ·rw[show(f==g)=false by simpa using e,show(Str.ofString f==Str.ofString g)=false by rw[beq_eq_false_iff_ne];exact fun z=>e (ofS_inj.mp z)];exact ih
theorem RFs.put{K:PySem.W.Frag}{H:Hp}{f:String}{v:Own.Val}{x:V}(q:RV K H v x):∀ {fs:List (String×Own.Val)}{ps:List (Str×V)},RFs K H fs ps→RFs K H (Own.putF fs f v) (L2.putF (Str.ofString f) x ps)
 |_,_,.nil=>.cons q .nil
 |_,_,.cons (f:=g) (v:=u) (x:=y) r t=>by
  unfold Own.putF L2.putF;by_cases e:g=f
  ·subst e;rw[if_pos rfl,if_pos rfl];exact .cons q t
  ·rw[if_neg e,if_neg fun z=>e (ofS_inj.mp z)];exact .cons r (RFs.put q t)
theorem RFs.length{K:PySem.W.Frag}{H:Hp}:∀ {fs:List (String×Own.Val)}{ps:List (Str×V)},RFs K H fs ps→fs.length=ps.length
 |_,_,.nil=>rfl
 |_,_,.cons _ t=>by rw[List.length_cons,List.length_cons,RFs.length t]
structure FldOk (i:Inf) (f:String):Prop where
 no:∀ C c,i.cl C c→YF i.K c (Str.ofString f)
structure ClsA (i:Inf):Prop where
 cls:∀ C c,i.ins C=true→i.cl C c→Cls i.K c
noncomputable def rAS (op:Own.Bop):V→V→Hp→VK→Prop:=fun x y H Q=>∃ a b,x=.int a∧y=.int b∧((op=.add∧Q (.int (a+b)) H)∨(op=.sub∧Q (.int (a - b)) H))
noncomputable def Dfm (pr:Program) (w:World) (mg:Str→Option Value) (base:Heap) (i:Inf) (P:Own.Pg) (n:Nat) (f:String) (fa:Addr):Prop :=
 ∃ fd ps,FnOk pr w i.K mg base (CX1 pr w) (2*n) fa fd ps (spF i P n f)∧Binds i.K fd ps []
theorem Ol {P:Own.Pg}{n:Nat}{f:String}{p pos:Pos}(hK:X.K=i.K) (D:Dfo X.prog X.w X.mg X.base i P n f) (hr:Room (2*n) X.A) (hg:Gl X (Str.ofString f)) (hdb:(Str.ofString f==("__debug__" : Str))=false) :
  PE X (.Call (.Name (Str.ofString f) p) [] [] pos) (tE X i (Own.wF P n) (.call f .nil)):=by
 obtain⟨fa,fd,ps,F,hm,hk,hb⟩:=D;rw[←hK]at F hk hb;intro pins s σ H Q I h;obtain⟨env,G,Qm,Em,pr,w,c⟩:=h;rw[Own.q_e_call,Own.q_a_nil]at w;refine MH (E:=XK1 i H Em) F hr hg hm hk hb .nil (XW.passes pr.xo) hdb pins s σ H Q I ?_;exact⟨[],G,Qm,Em,.nil,pr.hp,w,c,fun cls d H' h=>h⟩
end Snd
namespace Snd
open PySem L2
variable {i:Inf}{X:Cx}{Φ:Own.Fs}
noncomputable def Kr (X:Cx) (i:Inf) (Φ:Own.Fs):Own.Es→List (TE×TE)
 |.cons k (.cons v r)=>(tE X i Φ k,tE X i Φ v)::Kr X i Φ r
 |_=>[]
noncomputable def Xn:Own.Es→Bool
 |.nil=>true
 |.cons _ .nil=>false
 |.cons _ (.cons _ r)=>Xn r
noncomputable def esL:Own.Es→Nat
 |.nil=>0
 |.cons _ es=>esL es+1
noncomputable def J8:List V→List (V×V)
 |x::y::r=>(x,y)::J8 r
 |_=>[]
theorem Jf:∀ (es:Own.Es),Xn es=true→∀ {σ:St}{H:Hp}{env:Own.Env}{G:Own.Hs}{Qm:List Own.Val→Own.Hs→Prop}{Em:Own.XQ}{Q:List (V×V)→Hp→Prop},Pre X i σ H env G Em→Own.wA Φ es env G Qm Em→
  (∀ vs G' H' xs,Keep H H'→RH i G' H'→RVs i.K H' vs xs→xs.length=esL es→Qm vs G'→Q (J8 xs) H')→Wv (Kr X i Φ es) σ H Q
 |.nil,_,σ,H,env,G,Qm,Em,Q,p,w,c=>by rw[Own.q_a_nil]at w;exact c [] G H [] (Keep.refl H) p.hp .nil rfl w
 |.cons k .nil,h,_,_,_,_,_,_,_,_,_,_=>by cases h
 |.cons k (.cons v r),h,σ,H,env,G,Qm,Em,Q,p,w,c=>by rw[Own.q_a_cons]at w;refine one p w fun a G1 H1 x k1 p1 ra q=>?_;rw[Own.q_a_cons]at q;refine one p1 q fun b G2 H2 y k2 p2 rb q2=>?_;refine Jf r h p2 q2 fun vs G' H' xs k3 g3 rv hl hq=>?_;exact c (a::b::vs) G' H' (x::y::xs) ((k1.trans k2).trans k3) g3 (.cons ((ra.keep k2).keep k3) (.cons (rb.keep k3) rv)) (by rw[List.length_cons,List.length_cons,hl];rfl) hq
theorem Xi{K:PySem.W.Frag}{H:Hp}:∀ {vs:List Own.Val}{xs:List V}{kvs:List (Own.Val×Own.Val)},RVs K H vs xs→Own.pairUp vs=some kvs→∃ ps:List (Key×V),J8 xs=ps.map (fun kv=>(kV kv.1,kv.2))∧RKs K H kvs ps∧2*ps.length=xs.length
 |_,_,_,.nil,e=>by cases e;exact⟨[],rfl,.nil,rfl⟩
 |_,_,_,.cons _ .nil,e=>by cases e
 |_,_,kvs,.cons (v:=a) (x:=x) ra (.cons (v:=b) (x:=y) rb t),e=>by
  unfold Own.pairUp at e;split at e
  ·rename_i hk;obtain⟨ks,e2,rfl⟩:=Option.map_eq_some_iff.mp e;obtain⟨ps,h1,h2,h3⟩:=Xi t e2;obtain⟨c,hc,rfl⟩:=key_of hk ra;refine⟨(c,y)::ps,?_,.cons hc rb h2,by rw[List.length_cons,List.length_cons,List.length_cons];omega⟩;show(kV c,y)::J8 _=_;rw[h1];rfl
  ·cases e
theorem RKs.merge{K:PySem.W.Frag}{H:Hp}:∀ {kvs:List (Own.Val×Own.Val)}{ps:List (Key×V)}{acc:List (Own.Val×Own.Val)}{bs:List (Key×V)},RKs K H acc bs→RKs K H kvs ps→RKs K H (Own.putAll acc kvs) (Z5 bs ps)
 |_,_,_,_,r,.nil=>r
 |_,_,acc,bs,r,.cons (k:=k) (v:=v) (c:=c) (x:=x) (kvs:=kvs) (ps:=ps) a q t=>by show RKs K H (Own.putAll (Own.putK acc k v) kvs) (Z5 (L2.putK bs c x) ps);exact RKs.merge (RKs.put a q r) t
theorem Ca{pos:Pos}:PE X (.Dict [] [] pos) (tE X i Φ (.dct .nil)) :=
 pe_dnewK.imp fun σ H Q ⟨env,G,Qm,Em,p,w,c⟩=>by rw[Own.q_e_dct]at w;unfold Own.new at w;intro a ha;have w1:=w a (p.hp.free ha);obtain⟨a',e,w2⟩:=go_some w1;cases e;rw[Own.q_a_nil]at w2;obtain⟨ks,e2,_,w3⟩:=go_some w2;cases e2;rw[Own.upd_upd]at w3;have k:=Keep.new (o:=.dK []) ha;exact c _ _ _ _ k (p.hp.put (o:=.dct []) k ⟨[],upd_same,.nil⟩) (.ref a) w3
theorem CS{es:Own.Es}{keys:List (Option Expr)}{values:List Expr}{pos:Pos}(he:Xn es=true)(h30:esL es≤30)(h:PPs X pos keys values (Kr X i Φ es))(hall:keys.all (·.isSome)=true)(hl:keys.length=values.length)(h0:keys≠[])(h15:keys.length≤15):PE X (.Dict keys values pos) (tE X i Φ (.dct es)) :=
 (O6 h hall hl h0 h15).imp fun σ H Q ⟨env,G,Qm,Em,p,w,c⟩=>by
  rw[Own.q_e_dct]at w;unfold Own.new at w;intro a ha;have w1:=w a (p.hp.free ha);obtain⟨a',e,w2⟩:=go_some w1;cases e;have k:=Keep.new (o:=.dK []) ha;have p2:Pre X i σ (upd H a (.dK [])) env (Own.upd G a (.dct [])) Em:=p.go k (p.hp.put (o:=.dct []) k ⟨[],upd_same,.nil⟩);refine Jf es he p2 w2 fun vs G' H' xs k2 g2 rv hl w3=>?_;obtain⟨ks,e2,e3,w4⟩:=go_some w3;obtain⟨ps,e4,r4⟩:=g2 a _ e3;cases r4;obtain⟨qs,h1,h2,h3⟩:=Xi rv e2;refine⟨e4,qs,h1,by omega,?_⟩;have k3:Keep H' (upd H' a (.dK (Z5 [] qs))):=Keep.put (fun xs e=>by rw[e4]at e;cases e) fun p u e=>by rw[e4]at e;cases e
  exact c _ _ _ _ ((k.trans k2).trans k3) (g2.put (o:=.dct (Own.putAll [] ks)) k3 ⟨_,upd_same,(RKs.merge .nil h2).keep k3⟩) (.ref a) w4
end Snd
namespace L2
open PySem PySem.Spec PyProof.Rows
section
variable {X:Cx}{pins:List (Addr×Obj)}{σ:St}{H:Hp}{s:Shared}{a:Addr}{o:Obj}{ps:List (Key×V)}
theorem Inv.thaw(I:Inv X pins σ H s)(e:H a=some (.frz o (.dK ps)))(h0:∀ o u,X.H₀ a≠some (.frz o u)):Inv X pins σ (upd H a (.dK ps)) s:=by
 have hn:∀ b,H b=none→upd H a (.dK ps) b=none:=fun b z=>by rw[upd_ne (by rintro rfl;rw[e]at z;cases z)];exact z
 have ho:=I.hok a _ e;refine⟨I.ok,I.os,I.bare,⟨I.base.keep,I.base.slot,fun b ob q n hx=>hn b (I.base.free b ob q n hx),I.base.there,fun b xs q=>?_,fun b ob u q=>?_,fun b qs q=>?_⟩,I.loc,I.cell,hn _ I.free,fun x c q=>hn _ (I.freeC x c q),fun p hp=>?_,fun b u q=>?_,I.len⟩
 ·have z:=I.base.tups b xs q;rw[upd_ne (by rintro rfl;rw[e]at z;cases z)];exact z
 ·have z:=I.base.frzs b ob u q;rw[upd_ne (by rintro rfl;exact h0 _ _ q)];exact z
 ·obtain⟨m,z⟩:=I.base.tbls b qs q;exact⟨m,by rw[upd_ne (by rintro rfl;rw[e]at z;cases z)];exact z⟩
 ·obtain⟨q1,q2,q3,q4,q5⟩:=I.pin p hp;exact⟨q1,hn _ q2,q3,q4,q5⟩
 ·by_cases hb:b=a
  ·subst hb;rw[upd_same]at q;cases q;exact ho.2
  ·rw[upd_ne hb]at q;refine(I.hok b u q).stay (fun _ _ _ q=>q) (fun c z=>?_) fun c xs z=>?_
   ·rw[upd_ne (by rintro rfl;rw[e]at z;cases z)];exact z
   ·rw[upd_ne (by rintro rfl;rw[e]at z;cases z)];exact z
end
def Ends.thaw (X:Cx) (D:Ends):Ends where
 nx:=fun σ H=>∃ a o ps,H a=some (.frz o (.dK ps))∧(∀ o u,X.H₀ a≠some (.frz o u))∧D.nx σ (upd H a (.dK ps))
 rt:=fun v H=>∃ a o ps,H a=some (.frz o (.dK ps))∧(∀ o u,X.H₀ a≠some (.frz o u))∧D.rt v (upd H a (.dK ps))
 bk:=D.bk
 ct:=D.ct
def Iti (a:Addr) (o:Obj) (ps:List (Key×V)):It :=
 ⟨fun i H=>H a=some (.frz o (.dK ps))∧i<ps.length,fun i H v H'=>∃ p k x,v=.ref p∧H p=none∧ps[i]?=some (k,x)∧H'=upd H p (.tup [kV k,x]),fun i H=>H a=some (.frz o (.dK ps))∧ps.length≤i⟩
theorem KV.at:∀ {ps:List (Key×V)}{vs:List (Key×Value)}{i:Nat}{k:Key}{x:V},KV ps vs→ps[i]?=some (k,x)→∃ u,vs[i]?=some (k,u)∧RelV x u:=by
 intro ps vs i k x r;unfold KV at r;induction r generalizing i with
 |nil=>intro h;simp at h
 |@cons p q ps qs h t ih =>
  intro e;cases i with
  |zero =>simp at e;subst e;obtain⟨q1,q2⟩:=q;obtain⟨h1,h2⟩:=h;have h1:k=q1:=h1;subst h1;exact⟨q2,rfl,h2⟩
  |succ i=>simpa using ih (by simpa using e)
def Itk (a:Addr) (o:Obj) (ps:List (Key×V)):It :=
 ⟨fun i H=>H a=some (.frz o (.dK ps))∧i<ps.length,fun i H v H'=>H'=H∧∃ k x,ps[i]?=some (k,x)∧v=kV k,fun i H=>H a=some (.frz o (.dK ps))∧ps.length≤i⟩
def HK (X:Cx) (J:Addr→Obj→List (Key×V)→It) (td:TE):TI:=fun σ H R=>td σ H fun x H1=>∃ a ps,x=.ref a∧H1 a=some (.dK ps)∧∀ o,(∀ o u,X.H₀ a≠some (.frz o u))→R (J a o ps) (upd H1 a (.frz o (.dK ps)))
end L2
namespace L2
open PySem PySem.Spec PyProof.Rows
def TupsH (I S:Addr) (items:Array Value) (val:Nat→List Int) (h:Heap):Prop:=∀ i v,items[i]?=some v→∃ a its,v=.ref a∧a≠I∧a≠S∧IsTup h a its∧IntsAre its.toList (val i)
theorem TupsH.keep{I S:Addr}{items:Array Value}{val:Nat→List Int}{h h':Heap}(t:TupsH I S items val h)(k:∀ b o,b≠I→b≠S→h.get? b=some o→h'.get? b=some o):TupsH I S items val h':=fun i v e=>by obtain⟨a,its,h1,h2,h3,⟨o,q1,q2⟩,h5⟩:=t i v e;exact⟨a,its,h1,h2,h3,⟨o,k a o h2 h3 q1,q2⟩,h5⟩
def btL (val:Nat→List Int) (i j:Nat):Bool:=HT.lexLt (val i) (val j)
def GT (rows:List (List Int)):List Int:=rows.getD (argBest (btL fun i=>rows.getD i []) (rows.length - 1)) []
section
variable {X:Cx}
def GN (K:PySem.W.Frag) (ta:TA):TE:=fun σ H Q=>ta σ H fun vs H1=>∃ a xs,∃ rows:List (List Int),vs=[.ref a]∧SqL K H1 a xs∧rows.length=xs.length∧
 (∀ i,i<rows.length→∃ p,xs[i]?=some (.ref p)∧SqT K H1 p ((rows.getD i []).map V.int))∧(xs=[]→Q .non H1)∧(xs≠[]→∀ x,xs[argBest (btL fun i=>rows.getD i []) (xs.length - 1)]?=some x→Q x H1)
end
end L2
namespace Srt
open PySem.W PyProof.Rows
def ok (n:Nat) (lt:Nat→Nat→Bool){α:Type}:KasT α→(α→Prop)→Prop
 |.ret a,Q=>Q a
 |.ask i j k,Q=>i<n∧j<n∧ok n lt (k (lt i j)) Q
section
variable {n:Nat}{lt:Nat→Nat→Bool}
structure LO (lt:Nat→Nat→Bool):Prop where
 asym:∀ i j,lt i j=true→lt j i=false
 tr:∀ i j k,lt j i=false→lt k j=false→lt k i=false
def K (p:Array Nat) (k:Nat):Nat:=p.getD k 0
def Up (lt:Nat→Nat→Bool) (p:Array Nat) (m:Nat):Prop:=∀ i j,i≤j→j<m→lt (K p j) (K p i)=false
def Dn (lt:Nat→Nat→Bool) (p:Array Nat) (m:Nat):Prop:=∀ i j,i≤j→j<m→lt (K p i) (K p j)=false
structure Good (n:Nat) (p:Array Nat):Prop where
 sz:p.size=n
 pm:p.toList.Perm (List.range n)
theorem Good.at{p:Array Nat}(g:Good n p)(h0:0<n)(k:Nat):K p k<n:=by
 unfold K;by_cases h:k<p.size
 ·have e:p.getD k 0=p[k]:=by simp[Array.getD,h]
  rw[e];have:p[k]∈List.range n:=g.pm.mem_iff.mp (by simp);exact List.mem_range.mp this
 ·have e:p.getD k 0=0:=by simp[Array.getD,h]
  rw[e];exact h0
theorem Good.rev{p:Array Nat}(g:Good n p)(i j:Nat):Good n (kas_rev p i j):=⟨(mirror_size ..).trans g.sz,(Array.perm_iff_toList_perm.mp (mirror_perm ..)).trans g.pm⟩
def Alk (lt:Nat→Nat→Bool) (p:Array Nat) (m q:Nat):Prop:=∀ i j,m - (q+1)≤i→i<m→m - (q+1)≤j→j<m→lt (K p i) (K p j)=false
def Cnt (n:Nat) (lt:Nat→Nat→Bool) (r:Nat×Array Nat):Prop:=Good n r.2∧1≤r.1∧r.1≤n∧Up lt r.2 r.1
end
end Srt
namespace L2
open PySem PySem.Spec PyProof.Rows PySem.W
section
variable {prog:Program}{w:World}{A:Around}{E:Value→Shared→Prop}{s:Shared}
def RowsAt (h:Heap) (vs:List Value) (rows:List (List Int)):Prop:=rows.length=vs.length∧∀ i,i<vs.length→∃ p o its n,vs.getD i Value.none=.ref p∧h.get? p=some o∧o.cls=.type "tuple"∧o.data=.seq its n∧IntsAre its.toList (rows.getD i [])∧rows.getD i []≠[]
theorem RowsAt.keep {h h':Heap}{vs:List Value}{rows:List (List Int)}(r:RowsAt h vs rows) (k:∀ b o,h.get? b=some o→o.cls=.type "tuple"→h'.get? b=some o):RowsAt h' vs rows:=⟨r.1,fun i hi=>by
  obtain⟨p,o,its,n,h1,h2,h3,h4,h5⟩:=r.2 i hi
  exact⟨p,o,its,n,h1,k p o h2 h3,h3,h4,h5⟩⟩
end
end L2
namespace Snd
open PySem L2
variable {i:Inf}{X:Cx}{Φ:Own.Fs}
noncomputable def PE1 (X:Cx) (T:String):Prop:=∀ pos,PE X (.Name (Str.ofString T) pos) (tC (.ty T))
end Snd
namespace L2
open PySem PySem.Spec PyProof.Rows
open PySem.Builtin
theorem Z0:entryFor table "dict.update.loop" = some Builtin.«dict.update.loop»:=entryFor_of_tree (by kernel_rfl)
theorem Zw:plainId "dict.update.loop" = true:=by decide +kernel
section
variable {prog:Program}{w:World}{A:Around}{E:Value→Shared→Prop}
def PairsH (I d:Addr) (items:Array Value) (vals:List (Key×Value)) (prog:Program) (w:World) (h:Heap):Prop:=∀ (i:Nat) (v:Value),items[i]?=some v→∃ (a:Addr) (key:Value) (p:Key×Value),v=.ref a∧a≠I∧a≠d∧vals[i]?=some p∧IsTup h a #[key,p.2]∧(Zh prog w).is p.1 key=true
theorem PairsH.keep{I d:Addr}{items:Array Value}{vals:List (Key×Value)}{h h':Heap}(t:PairsH I d items vals prog w h)(k:∀ b o,b≠I→b≠d→h.get? b=some o→h'.get? b=some o):PairsH I d items vals prog w h':=fun i v e=>by obtain⟨a,key,p,h1,h2,h3,h4,⟨o,q1,q2⟩,h5⟩:=t i v e;exact⟨a,key,p,h1,h2,h3,h4,⟨o,k a o h2 h3 q1,q2⟩,h5⟩
end
def A8 (K:PySem.W.Frag) (H:Hp) (ys:List V) (kvs:List (Key×V)):Prop:=ys.length=kvs.length∧∀ (i:Nat) (y:V),ys[i]?=some y→∃ (a:Addr) (p:Key×V),y=.ref a∧kvs[i]?=some p∧SqT K H a [kV p.1,p.2]
theorem KV.all{kvs:List (Key×V)}{vals:List (Key×Value)}(r:KV kvs vals):∀ {m:List (Key×V)}{n:List (Key×Value)},KV m n→KV (kvs.foldl (fun m p=>putK m p.1 p.2) m) (vals.foldl (fun m p=>stored m p.1 p.2) n):=by
 unfold KV at r;induction r with
 |nil=>exact fun h=>h
 |cons q t ih =>intro m n h;rename_i a b l1 l2;obtain⟨k,x⟩:=a;obtain⟨k2,u⟩:=b;obtain⟨e,rx⟩:=q;cases (show k=k2 from e);exact ih (h.put k rx)
def Ff (K:PySem.W.Frag):List V→Hp→VK→Prop:=fun xs H Q=>∃ p ys kvs,xs=[V.ref p]∧H p=some (.lst ys)∧A8 K H ys kvs∧∀ l,H l=none→Q (.ref l) (upd H l (.dK (kvs.foldl (fun m p=>putK m p.1 p.2) [])))
end L2
namespace L2
open PySem PySem.Spec PyProof.Rows
open PySem.Builtin
theorem WG:typeLookup (.type "enumerate") "keys" = pure none:=by rw[typeLookup_type,builtinLookup_eq_fast];kernel_rfl
theorem Yt:typeLookup (.type "enumerate") "__getattr__" = pure none:=by rw[typeLookup_type,builtinLookup_eq_fast];kernel_rfl
def EnR (e it:Addr) (f0 f1:Value) (i:Int) (f5:Value) (h:Heap):Prop:=h.get? e=some {cls:=.type "enumerate",dict:=none,data:=.fields #[f0,f1,.ref it,rawInt i,.none,f5],slots:=#[]}
def EnS (e it:Addr) (i:Int) (h:Heap):Prop:=∃ f0 f1 f5,EnR e it f0 f1 i f5 h∧(f0=.none∨∃ (T:Nat) (o:Obj),f0=rawInt T∧h.get? T=some o∧T≠e∧T≠it)
section
variable {prog:Program}{w:World}{A:Around}{E:Value→Shared→Prop}{s:Shared}
theorem MQ{M:Model}{a:Addr}{Q:Option Obj→Shared→Prop}(h:Q (s.heap.get? a) s):wpAny M A (loadIfAlive a) Q E s:=fun Γ p _=>by show Sem.wp M Γ (.loadIfAlive a .pure) _ _ p s;rw[Sem.wp_loadIfAlive];exact h
theorem Ny{e it t:Addr}{i:Nat}{items:Array Value}{x:Value}{Q:Option Value→Shared→Prop}(he:EnS e it i s.heap)(hit:s.heap.IsTupleIter it t i)(ht:s.heap.IsTuple t items)(hx:items[i]?=some x)(hne:e≠it)
  (hQ:∀ h',EnS e it ((i:Int)+1) h'→h'.IsTupleIter it t (i+1)→h'.get? s.heap.objs.size=some { cls:=.type "tuple",data:=.seq #[.int i s.toks,x] }→
    (∀ b o,b≠e→b≠it→s.heap.get? b=some o→h'.get? b=some o)→Q (some (.ref s.heap.objs.size)) { s with heap:=h',toks:=s.toks+1 }) :
  wpAny (model prog w) A (pyNext (.ref e)) Q E s:=by
 obtain⟨f0,f1,f5,he,hf⟩:=he;have hT:s.TypeIs (.ref e) "enumerate":=⟨_,he,rfl⟩
 unfold pyNext;refine wpAny_bind (wpAny_attempt (wpAny_callSpecial?_slot (name:=Str.ofString "__next__") hT F.slot_enumerate_next (wpAny_call_entry F.slot_enumerate_next hT F.entry_enumerate_next ?_ (F.args_enumerate_next_1 _))));obtain⟨hp,g,d,tk,os⟩:=s;show wpAny _ _ (field (.ref e) 2 >>= _) _ _ _;refine wpAny_bind (wpAny_field he rfl (x:=.ref it) rfl ?_);refine wpAny_bind (JW hit ht hx fun h₁ hit₁ hs₁=>?_)
 replace hs₁:Heap.SameBut it hp h₁:=hs₁
 have he₁:EnR e it f0 f1 i f5 h₁:=(hs₁.2 e hne).trans he;show wpAny _ _ (field (.ref e) 3 >>= _) _ _ ⟨h₁,g,d,tk,os⟩;refine wpAny_bind (wpAny_field he₁ rfl (x:=rawInt i) rfl ?_);show wpAny _ _ (field (.ref e) 4 >>= _) _ _ ⟨h₁,g,d,tk,os⟩;refine wpAny_bind (wpAny_field he₁ rfl (x:=.none) rfl ?_);show wpAny _ _ (mkInt i >>= _) _ _ ⟨h₁,g,d,tk,os⟩;refine wpAny_bind (wpAny_mkInt ?_);show wpAny _ _ (setField (.ref e) 3 (rawInt ((i:Int)+1)) >>= _) _ _ ⟨h₁,g,d,tk+1,os⟩;refine wpAny_bind (wpAny_setField_rec he₁ (by simp) fun h₂ he₂ hs₂=>?_)
 replace hs₂:Heap.SameBut e h₁ h₂:=hs₂
 replace he₂:EnR e it f0 f1 ((i:Int)+1) f5 h₂:=he₂
 show wpAny _ _ (setField (.ref e) 4 .none >>= _) _ _ ⟨h₂,g,d,tk+1,os⟩;refine wpAny_bind (wpAny_setField_rec he₂ (by simp) fun h₃ he₃ hs₃=>?_)
 replace hs₃:Heap.SameBut e h₂ h₃:=hs₃
 replace he₃:EnR e it f0 f1 ((i:Int)+1) f5 h₃:=he₃
 show wpAny _ _ (newTuple [.int i tk,x] >>= _) _ _ ⟨h₃,g,d,tk+1,os⟩;refine wpAny_bind (wpAny_newTuple ?_);have he₄:EnR e it f0 f1 ((i:Int)+1) f5 (h₃.push {cls:=.type "tuple",data:=.seq #[.int i tk,x]}):=Heap.get?_push_of_some _ he₃;generalize hh₄:h₃.push {cls:=.type "tuple",data:=.seq #[.int i tk,x]}=h₄ at he₄;have hsz:h₃.objs.size=hp.objs.size:=by rw[hs₃.1,hs₂.1,hs₁.1]
 have hel:e<hp.objs.size:=Heap.lt_size he;have hil:it<hp.objs.size:=by obtain⟨o,ho,_⟩:=hit;exact Heap.lt_size ho
 have ht₄:h₄.get? hp.objs.size=some {cls:=.type "tuple",data:=.seq #[.int i tk,x]}:=by rw[←hh₄,←hsz];exact Heap.get?_push_size _ rfl
 have hk₄:∀ b o,b≠e→b≠it→hp.get? b=some o→h₄.get? b=some o:=fun b o hbe hbi hb=>by rw[←hh₄];exact Heap.get?_push_of_some _ (hs₃.extBut b o hbe (hs₂.extBut b o hbe (hs₁.extBut b o hbi hb)))
 have hit₄:h₄.IsTupleIter it t (i+1):=by rw[←hh₄];obtain⟨o,ho,r⟩:=hit₁;exact⟨o,Heap.get?_push_of_some _ (hs₃.extBut it o hne.symm (hs₂.extBut it o hne.symm ho)),r⟩
 show wpAny _ _ (Builtin.SmallTypes.ownedTupleIsFree (.ref e) >>= _) _ _ ⟨h₄,g,d,tk+1,os⟩;rw[hsz];clear hh₄ he₃ hs₃ he₂ hs₂ he₁ hs₁ hit₁ hsz h₃ h₂ h₁;have itx:∀ {h h':Heap},h.IsTupleIter it t (i+1)→Heap.SameBut e h h'→h'.IsTupleIter it t (i+1):=fun {h h'} ⟨o,ho,r⟩ hs=>⟨o,hs.extBut it o hne.symm ho,r⟩
 refine wpAny_bind ?_;unfold Builtin.SmallTypes.ownedTupleIsFree;rcases hf with rfl|⟨T,o,rfl,hTo,hTe,hTi⟩
 ·refine wpAny_bind (wpAny_field he₄ rfl (x:=.none) rfl (wpAny_pure ?_));simp only[if_true];refine wpAny_bind (wpAny_rule ?_);refine wpAny_bind (wpAny_field he₄ rfl (x:=f5) rfl ?_);refine wpAny_bind (wpAny_setField_rec he₄ (by simp) fun h₅ he₅ hs₅=>?_)
  replace hs₅:Heap.SameBut e h₄ h₅:=hs₅
  replace he₅:EnR e it .none f1 ((i:Int)+1) x h₅:=he₅
  show wpAny _ _ (Builtin.SmallTypes.ownedTupleHandOut (.ref e) (.ref hp.objs.size) >>= _) _ _ ⟨h₅,g,d,tk+1,os⟩;refine wpAny_bind ?_;unfold Builtin.SmallTypes.ownedTupleHandOut;refine wpAny_bind (wpAny_setField_rec he₅ (by simp) fun h₆ he₆ hs₆=>?_)
  replace hs₆:Heap.SameBut e h₅ h₆:=hs₆
  replace he₆:EnR e it (rawInt hp.objs.size) f1 ((i:Int)+1) x h₆:=he₆
  refine wpAny_setField_rec he₆ (by simp) fun h₇ he₇ hs₇=>?_
  replace hs₇:Heap.SameBut e h₆ h₇:=hs₇
  replace he₇:EnR e it (rawInt hp.objs.size) (.bool false) ((i:Int)+1) x h₇:=he₇
  have ht7:h₇.get? hp.objs.size=some {cls:=.type "tuple",data:=.seq #[.int i tk,x]}:=hs₇.extBut _ _ (Nat.ne_of_gt hel) (hs₆.extBut _ _ (Nat.ne_of_gt hel) (hs₅.extBut _ _ (Nat.ne_of_gt hel) ht₄));refine wpAny_bind (wpAny_letGo (wpAny_pure ⟨_,rfl,wpAny_pure (hQ h₇ ⟨_,_,_,he₇,.inr ⟨_,_,rfl,ht7,Nat.ne_of_gt hel,Nat.ne_of_gt hil⟩⟩ (itx (itx (itx hit₄ hs₅) hs₆) hs₇) ht7 fun b o hbe hbi hb=>?_)⟩));exact hs₇.extBut b o hbe (hs₆.extBut b o hbe (hs₅.extBut b o hbe (hk₄ b o hbe hbi hb)))
 ·have hT4:=hk₄ T o hTe hTi hTo;refine wpAny_bind (wpAny_field he₄ rfl (x:=rawInt T) rfl ?_);show wpAny _ _ (loadIfAlive ((T:Int).toNat) >>= _) _ _ _;refine wpAny_bind (MQ ?_);rw[show((T:Int).toNat)=T from rfl];show wpAny _ _ (if((h₄.get? T).isNone)=true then _ else _) _ _ _;rw[hT4];rw[if_neg (show ¬ ((some o:Option Obj).isNone=true) from Bool.false_ne_true)];refine wpAny_bind (wpAny_field he₄ rfl (x:=f1) rfl ?_);split
  ·refine wpAny_bind (wpAny_setField_rec he₄ (by simp) fun h₅ he₅ hs₅=>?_)
   replace hs₅:Heap.SameBut e h₄ h₅:=hs₅
   replace he₅:EnR e it (rawInt T) (.bool true) ((i:Int)+1) f5 h₅:=he₅
   refine wpAny_pure ?_;simp only[Bool.false_eq_true,if_false];refine wpAny_pure ⟨_,rfl,wpAny_pure (hQ h₅ ⟨_,_,_,he₅,.inr ⟨_,_,rfl,hs₅.extBut _ _ hTe hT4,hTe,hTi⟩⟩ (itx hit₄ hs₅) (hs₅.extBut _ _ (Nat.ne_of_gt hel) ht₄) fun b o hbe hbi hb=>hs₅.extBut b o hbe (hk₄ b o hbe hbi hb))⟩
  ·refine wpAny_pure ?_;simp only[Bool.false_eq_true,if_false];exact wpAny_pure ⟨_,rfl,wpAny_pure (hQ h₄ ⟨_,_,_,he₄,.inr ⟨_,_,rfl,hT4,hTe,hTi⟩⟩ hit₄ ht₄ hk₄)⟩
theorem Uo{e it t:Addr}{i:Nat}{items:Array Value}{Q:Option Value→Shared→Prop}(hh:A.handled=none)(he:EnS e it i s.heap)(hit:s.heap.IsTupleIter it t i)(ht:s.heap.IsTuple t items)(hx:items[i]?=none)
  (hQ:∀ h',Heap.ExtBut it s.heap h'→Q none {s with heap:=h'}):wpAny (model prog w) A (pyNext (.ref e)) Q E s:=by
 obtain⟨f0,f1,f5,he,hf⟩:=he;have hT:s.TypeIs (.ref e) "enumerate":=⟨_,he,rfl⟩
 unfold pyNext;refine wpAny_bind (wpAny_attempt (wpAny_callSpecial?_slot (name:=Str.ofString "__next__") hT F.slot_enumerate_next (wpAny_call_entry F.slot_enumerate_next hT F.entry_enumerate_next ?_ (F.args_enumerate_next_1 _))));show wpAny _ _ (field (.ref e) 2 >>= _) _ _ _;refine wpAny_bind (wpAny_field he rfl (x:=.ref it) rfl ?_);refine wpAny_bind (KI hh hit ht hx fun h' x he' hx'=>?_);obtain⟨o,ho,hc⟩:=hx';refine wpAny_bind (wpAny_isInstance (T:="StopIteration") (b:=true) ⟨o,ho,hc⟩ isSubtype_stop ?_);exact wpAny_pure (hQ _ he')
theorem XI:entryFor table "enumerate.__getattribute__" = some Builtin.«object.__getattribute__» :=
 entryFor_alias (id':="object.__getattribute__") (by kernel_rfl) (by first|rfl|decide +kernel) (by decide +kernel) (by kernel_rfl)
theorem YU(a:Addr)(fs:Array Value)(u:Tok) :
  Meets (Builtin.«object.__getattribute__» ⟨[.ref a,.str "keys" u],[]⟩) (fun A R s=>s.heap.get? a=some {cls:=.type "enumerate",dict:=none,data:=.fields fs,slots:=#[]}∧raisesAttr (.ref a) "keys" A R s) :=
 Meets.of_wp fun prog w A R s hs=>by
  obtain⟨hp,g,d,tk,os⟩:=s;obtain⟨hx,hs⟩:=hs;have hT:(⟨hp,g,d,tk,os⟩:Shared).TypeIs (.ref a) "enumerate":=⟨_,hx,rfl⟩
  have f4:=WG;unfold Builtin.«object.__getattribute__»
  repeat (any_goals (first|assumption|wp_step))
  exact wpAny_raiseAttrError hs.1 hs.2 (attrMsg_fits (by decide +kernel) (by size_fits))
theorem K1 {s:Shared}{a:Addr}{fs:Array Value}{Q:Option Value→Shared→Prop}(hx:s.heap.get? a=some {cls:=.type "enumerate",dict:=none,data:=.fields fs,slots:=#[]}) (hA:A.handled=none)
  (h:∀ h' tk,(∀ b o,s.heap.get? b=some o→h'.get? b=some o)→Q none {s with heap:=h',toks:=tk}) :
  wpAny (model prog w) A (getAttr? (.ref a) "keys") Q E s:=by
 obtain⟨hp,g,d,tk,os⟩:=s;have hT:∀ tk',(⟨hp,g,d,tk',os⟩:Shared).TypeIs (.ref a) "enumerate":=fun _=>⟨_,hx,rfl⟩
 have f1:=sub_AttributeError;have f3:=F.slot_enumerate_getattribute.lookup;have f4:=F.slot_enumerate_getattribute.bind (.ref a);have f5:=Yt;unfold getAttr? getAttrBy? getAttrBy
 repeat (any_goals (first|assumption|exact hT _|((with_reducible show wpAny _ _ (call (Value.builtin "enumerate.__getattribute__") _ _) _ _ _);refine call_meets F.slot_enumerate_getattribute (hT _) XI (F.args_enumerate_getattribute_2 _ _) (YU a fs _) ⟨hx,hA,fun h' tk' e hx'=>?_⟩)|wp_step))
 obtain⟨t',u',he⟩:=hx'.there;show wpAny _ _ (getattributeRaised _ _ _ _ _ _ _) _ _ _;unfold getattributeRaised
 repeat (any_goals (first|assumption|wp_step))
 exact h _ _ hx'.keeps
def enK {α:Type}:Nat→List α→List (Key×α)
 |_,[]=>[]
 |k,x::xs=>(Sum.inl (k:Int),x)::enK (k+1) xs
theorem Ky{α:Type}:∀ (xs:List α) (k:Nat) (y:α),enK k (xs++[y])=enK k xs++[(Sum.inl ((k+xs.length:Nat):Int),y)]
 |[],k,y=>rfl
 |x::xs,k,y=>by show(Sum.inl (k:Int),x)::enK (k+1) (xs++[y])=_;rw[Ky xs (k+1) y];show _=(Sum.inl (k:Int),x)::(enK (k+1) xs++_);rw[show k+1+xs.length=k+(x::xs).length by simp;omega]
theorem Wp{α:Type}:∀ (xs:List α) (k:Nat),(enK k xs).length=xs.length
 |[],_=>rfl
 |_::xs,k=>by show(enK (k+1) xs).length+1=_;rw[Wp xs];rfl
theorem Nq{α:Type}:∀ (xs:List α) (k m:Nat),k+xs.length≤m→((enK k xs).any fun kv=>decide (kv.1=Sum.inl (m:Int)))=false
 |[],_,_,_=>rfl
 |x::xs,k,m,h=>by show(decide ((Sum.inl (k:Int):Key)=Sum.inl (m:Int))||(enK (k+1) xs).any _)=false;rw[List.length_cons]at h;rw[Nq xs (k+1) m (by omega),Bool.or_false];exact decide_eq_false fun z=>by injection z with z;omega
theorem MP:∀ {xs:List V}{us:List Value}(k:Nat),Vals xs us→KV (enK k xs) (enK k us)
 |_,_,_,.nil=>.nil
 |_,_,k,.cons r t=>.cons ⟨rfl,r⟩ (MP (k+1) t)
theorem JF{R:Result→Shared→Prop}{e it t d:Addr}{its:List Value}(hh:A.handled=none)(hei:e≠it)(hte:t≠e)(hti:t≠it)(hde:d≠e)(hdi:d≠it)(hdt:d≠t)(hz:its.length≤sizeLine) :
  ∀ (k j:Nat) (s:Shared) (tk:Tok),its.length - j=k→j≤its.length→EnS e it j s.heap→s.heap.IsTupleIter it t j→s.heap.IsTuple t its.toArray→s.heap.DictOf (Zh prog w) d (enK 0 (its.take j))→
  (∀ h' tk,h'.DictOf (Zh prog w) d (enK 0 its)→(∀ b o,b≠e→b≠it→b≠d→s.heap.get? b=some o→h'.get? b=some o)→R (.ok (.ret .none)) {s with heap:=h',toks:=tk})→
  codeAny (model prog w) A (.builtin "dict.update.loop" ⟨[.ref d,.ref e,.int j tk,.none],[]⟩) R s:=by
 intro k;induction k with
 |zero =>intro j s tk hk hj he hit ht hd hR;refine codeAny_builtin Z0 ?_;rw[Around.under_plainId Zw _];show wpAny _ A.in1 (pyNext (.ref e) >>= _) _ _ s;refine wpAny_bind (Uo hh he hit ht (by simp;omega) fun h' hx=>?_);refine wpAny_pure ?_;refine hR h' s.toks ?_ fun b o _ h2 _ e=>hx b o h2 e;rw[List.take_of_length_le (by omega)]at hd;obtain⟨o,es,ep,ho,r⟩:=hd;exact⟨o,es,ep,hx d o hdi ho,r⟩
 |succ k ih =>
  intro j s tk hk hj he hit ht hd hR;have hlt:j<its.length:=by omega
  refine codeAny_builtin Z0 ?_;rw[Around.under_plainId Zw _];show wpAny _ A.in1 (pyNext (.ref e) >>= _) _ _ s;have hxj:its.toArray[j]?=some its[j]:=by simp[hlt]
  refine wpAny_bind (Ny he hit ht hxj hei fun h' he' hit' hT hk'=>?_);have hdlt:d<s.heap.objs.size:=by obtain⟨o,es,ep,ho,r⟩:=hd;exact Heap.lt_size ho
  have hd':h'.DictOf (Zh prog w) d (enK 0 (its.take j)):=by obtain⟨o,es,ep,ho,r⟩:=hd;exact⟨o,es,ep,hk' d o hde hdi ho,r⟩
  show wpAny _ A.in1 (holding [.ref s.heap.objs.size] ((tryCatch (Dict.pairItems (.ref s.heap.objs.size)) _) >>= _) >>= _) _ _ _;refine wpAny_bind (wpAny_holding (wpAny_bind (wpAny_tryCatch ?_)));unfold Dict.pairItems;refine wpAny_bind (wpAny_typeOf (T:="tuple") ⟨_,hT,rfl⟩ ?_);rw[if_pos (by decide)];refine wpAny_bind (wpAny_seqItems hT rfl (wpAny_pure ?_));show wpAny _ A.in1 (holding [.int j s.toks,its[j]] (dictSet d (.int j s.toks) its[j])) _ _ _;refine wpAny_holding (wpAny_dictSet_pairs (k:=Sum.inl (j:Int)) (hsz:=by rw[Wp,List.length_take];omega) (X5 (j:Int) s.toks) hd' fun h'' hd'' hs''=>?_);have keep2:∀ b o,b≠e→b≠it→b≠d→s.heap.get? b=some o→h''.get? b=some o:=fun b o h1 h2 h3 e=>(hs''.2 b h3).trans (hk' b o h1 h2 e);have es:stored (enK 0 (its.take j)) (Sum.inl (j:Int)) its[j]=enK 0 (its.take (j+1)):=by unfold stored;rw[Nq _ _ _ (by rw[List.length_take];omega),if_neg Bool.false_ne_true,List.take_add_one,List.getElem?_eq_getElem hlt,Option.toList_some,Ky];congr 4;rw[List.length_take];omega
  rw[es]at hd'';have he2:EnS e it ((j:Int)+1) h'':=by
   obtain⟨f0,f1,f5,a,b⟩:=he';refine⟨f0,f1,f5,(hs''.2 e hde.symm).trans a,?_⟩;rcases b with b|⟨T,o,b1,b2,b3,b4⟩
   ·exact .inl b
   ·by_cases hTd:T=d
    ·obtain⟨od,es,ep,ho,r⟩:=hd'';exact .inr ⟨T,od,b1,hTd▸ho,b3,b4⟩
    ·exact .inr ⟨T,o,b1,(hs''.2 T hTd).trans b2,b3,b4⟩
  refine wpAny_pure ⟨plainId_quiet Zw _,ih (j+1) _ 0 (by omega) hlt he2 ?_ ?_ hd'' fun h3 tk3 hd3 hk3=>?_⟩
  ·obtain⟨o,ho,r⟩:=hit';exact⟨o,(hs''.2 it hdi.symm).trans ho,r⟩
  ·obtain⟨o,ho,r⟩:=ht;exact⟨o,keep2 t o hte hti hdt.symm ho,r⟩
  ·exact hR h3 tk3 hd3 fun b o h1 h2 h3' e=>hk3 b o h1 h2 h3' (keep2 b o h1 h2 h3' e)
end
def tDE (K:PySem.W.Frag) (te:TE):TE:=fun σ H Q=>NH te OH σ H fun vs H1=>∃ t xs,vs=[.ref t]∧SqT K H1 t xs∧∀ l,H1 l=none→Q (.ref l) (upd H1 l (.dK (enK 0 xs)))
theorem Jc {X:Cx}{e:Expr}{te:TE}{p p2 pos pos2:Pos}(hc:X.calm=true) (hg:Gl X "dict") (hm:X.mg "dict" = none) (hg2:Gl X "enumerate") (hm2:X.mg "enumerate" = none) (he:PE X e te) (hs:starEach [e] X.env=[(false,eval e X.env)]) :
  PE X (.Call (.Name "dict" p) [.Call (.Name "enumerate" p2) [e] [] pos2] [] pos) (tDE X.K te):=by
 intro pins s σ H Q I h;refine wpAny_Call_Name_kw (YK (u:=.type "dict") I hg hm (by kernel_rfl) ?_ (by decide) (by decide));refine callWith_type1 (T:="dict") ?_ rfl rfl;show wpAny _ _ (spliced ((false,eval (.Call (.Name "enumerate" p2) [e] [] pos2) X.env)::[])) _ _ _;refine Calls.spliced_cons ?_;refine wpAny_Call_Name_kw (YK (u:=.type "enumerate") I hg2 hm2 (by kernel_rfl) ?_ (by decide) (by decide));refine callWith_type1 (thn ((Yo he pa_nil hs) pos2 pins s σ H _ I h) fun us s1 ⟨vs,H1,I1,r1,q1⟩=>?_) hs rfl;obtain⟨t,xs,e1,hq,q⟩:=q1;subst e1;obtain⟨u,rfl,ru⟩:=Z4 r1;cases ru;obtain⟨its,rv,pt,hz⟩:=I1.tuple hq;have hlen:=rv.length;have htt:s1.heap.IsTuple t its.toArray:=pt;have htlt:t<s1.heap.objs.size:=pt.lt;refine Jp htt fun h2 hen hti hk2=>Calls.spliced_nil ?_;have hel:s1.heap.objs.size+1<h2.objs.size:=Heap.lt_size hen;have hsl:s1.heap.objs.size<h2.objs.size:=Nat.lt_of_succ_lt hel;have hh:X.A.handled=none:=I.ok.hd hc;have hbig:sysModules<s1.heap.objs.size:=I1.big;refine callType_codes (Q₁:=fun obj s₁=>obj=.ref h2.objs.size∧s₁={s1 with heap:=h2.push {cls:=.type "dict",data:=.dict #[]}}) F.kt_called_dict (F.kt_typeCall_dict_1 _) F.entry_dict_init (kt_code_dict_new (s:={s1 with heap:=h2}) _ ⟨rfl,rfl⟩) ?_;rintro obj s₁ ⟨rfl,rfl⟩;have hnew:(h2.push {cls:=.type "dict",data:=.dict #[]}).DictOf (Zh X.prog X.w) h2.objs.size []:=Heap.DictOf.new h2;have hen1:IsEnum (h2.push {cls:=.type "dict",data:=.dict #[]}) (s1.heap.objs.size+1) s1.heap.objs.size 0 .none:=Heap.get?_push_of_some _ hen;refine⟨hnew.typeIs,F.args_dict_init_2 _ _,?_⟩;unfold Builtin.«dict.__init__»;refine wpAny_bind ?_;unfold Builtin.Dict.selfAndRest;refine wpAny_bind (wpAny_notOrdered_dict hnew.typeIs ?_);show wpAny _ _ (pure (h2.objs.size,[Value.ref (s1.heap.objs.size+1)])) _ _ _;refine wpAny_pure ?_;show wpAny _ _ (Builtin.Dict.updateFrom "dict.__init__" h2.objs.size (.ref (s1.heap.objs.size+1)) [] .none) _ _ _;unfold Builtin.Dict.updateFrom;refine wpAny_bind (wpAny_typeOf (T:="enumerate") ⟨_,hen1,rfl⟩ ?_);rw[if_pos (by decide)];refine wpAny_bind (K1 hen1 hh fun h3 tk3 hk3=>?_);rw[if_pos (show(none:Option Value).isNone=true from rfl)];refine wpAny_bind (wpAny_rule ?_);have hen3:IsEnum h3 (s1.heap.objs.size+1) s1.heap.objs.size 0 .none:=hk3 _ _ hen1;refine wpAny_bind (wpAny_pyIter_enum hen3 ?_);have old3:∀ b o,s1.heap.get? b=some o→h3.get? b=some o:=fun b o e=>hk3 b o (Heap.get?_push_of_some _ (hk2 b o e));refine wpAny_pure ⟨plainId_quiet Zw _,?_⟩;refine JF (prog:=X.prog) (w:=X.w) (A:=X.A.in1) (e:=s1.heap.objs.size+1) (it:=s1.heap.objs.size) (t:=t) (d:=h2.objs.size) (its:=its) hh (Nat.succ_ne_self _) (Nat.ne_of_lt (Nat.lt_succ_of_lt htlt)) (Nat.ne_of_lt htlt) (Nat.ne_of_gt hel) (Nat.ne_of_gt hsl) (Nat.ne_of_gt (Nat.lt_trans htlt hsl)) (by rw[←hlen];exact hz) _ 0 _ 0 rfl (Nat.zero_le _) ?_ ?_ ?_ ?_ fun h4 tk4 hd4 hk4=>?_
 ·exact⟨_,_,_,hen3,.inl rfl⟩
 ·obtain⟨o,ho,r⟩:=hti;exact⟨o,hk3 _ _ (Heap.get?_push_of_some _ ho),r⟩
 ·obtain⟨o,ho,r⟩:=htt;exact⟨o,old3 _ _ ho,r⟩
 ·obtain⟨o,es,ep,ho,r⟩:=hnew;exact⟨o,es,ep,hk3 _ _ ho,r⟩
 ·have hd0:s1.heap.objs.size≤h2.objs.size:=Nat.le_of_lt hsl;refine⟨rfl,.ref h2.objs.size,upd H1 h2.objs.size (.dK (enK 0 xs)),I1.laid (t':=tk4) (fun b u e=>?_) hd0 (Jn (by rw[Wp];exact hz) (beq_eq_false_iff_ne.mpr (Nat.ne_of_gt (Nat.lt_trans hbig hsl))) (MP 0 rv) hd4),rfl,q _ (I1.hok.fresh hd0)⟩;have hb:=Heap.lt_size e;exact hk4 b u (Nat.ne_of_lt (Nat.lt_succ_of_lt hb)) (Nat.ne_of_lt hb) (Nat.ne_of_lt (Nat.lt_trans hb hsl)) (old3 b u e)
end L2
namespace Snd
open PySem L2
variable {i:Inf}{X:Cx}
theorem WP{K:PySem.W.Frag}{H:Hp}:∀ {xs:List Own.Val}{vs:List V}(k:Nat),RVs K H xs vs→RKs K H (Own.enumK k xs) (enK k vs)
 |_,_,_,.nil=>.nil
 |_,_,k,.cons r t=>.cons rfl r (WP (k+1) t)
theorem JX {Φ:Own.Fs}{e:Expr}{m:Own.E}{p p2 pos pos2:Pos}(hc:X.calm=true) (hK:X.K=i.K) (he:PE X e (tE X i Φ m)) (hg:Gl X "dict") (hm:X.mg "dict" = none) (hg2:Gl X "enumerate") (hm2:X.mg "enumerate" = none) (hst:starEach [e] X.env=[(false,eval e X.env)]) :
  PE X (.Call (.Name "dict" p) [.Call (.Name "enumerate" p2) [e] [] pos2] [] pos) (tE X i Φ (.bi .dictEnum (.cons m .nil))):=by
 refine(Jc hc hg hm hg2 hm2 he hst).imp fun σ H Q ⟨env,G,Qm,Em,p,w,c⟩=>?_;rw[Own.q_e_bi,Own.q_a_cons]at w;change tE X i Φ m σ H _;refine one p w fun v G1 H1 x k1 p1 r q=>?_;rw[Own.q_a_nil]at q
 replace q:(Own.toDictE v).wp G1 Qm:=q
 cases v with
 |tup xs =>
  cases r with
  |tup hp hr=>exact⟨_,_,rfl,by rw[hK];exact Zr hp,ZY p1.hp (JJ q) (c.go k1) fun l hl=>⟨_,upd_same,(WP 0 hr).keep (Keep.new hl)⟩⟩
 |_=>exact(Zt q).elim
end Snd
namespace L2
open PySem PySem.Spec PyProof.Rows
variable {X:Cx}
def tLR (te:TE):TE:=fun σ H Q=>NH te OH σ H fun vs H1=>∃ n:Nat,vs=[.int n]∧n≤1000∧∀ l,H1 l=none→Q (.ref l) (upd H1 l (.lst ((List.range n).map fun k=>V.int (k:Nat))))
end L2
namespace Snd
open PySem L2
variable {i:Inf}{X:Cx}{Φ:Own.Fs}
section
variable {K:PySem.W.Frag}{H H':Hp}
structure KeepL (H H':Hp):Prop where
 t:∀ a xs,H a=some (.tup xs)→H' a=some (.tup xs)
 f:∀ a o xs,H a=some (.frz o (.lst xs))→H' a=some (.frz o (.lst xs))
mutual
theorem RV.keepL(k:KeepL H H'):∀ {v:Own.Val}{x:V},RV K H v x→RV K H' v x
 |_,_,.non=>.non
 |_,_,.bl b=>.bl b
 |_,_,.int i=>.int i
 |_,_,.str s=>.str s
 |_,_,.tup (.inl e) r=>.tup (.inl (k.t _ _ e)) (RVs.keepL k r)
 |_,_,.tup (.inr e) r=>.tup (.inr e) (RVs.keepL k r)
 |_,_,.ref a=>.ref a
 |_,_,.scr (.inl ⟨o,e⟩)=>.scr (.inl ⟨o,k.f _ _ _ e⟩)
 |_,_,.scr (.inr e)=>.scr (.inr e)
theorem RVs.keepL(k:KeepL H H'):∀ {vs:List Own.Val}{xs:List V},RVs K H vs xs→RVs K H' vs xs
 |_,_,.nil=>.nil
 |_,_,.cons r t=>.cons (RV.keepL k r) (RVs.keepL k t)
end
theorem RKs.keepL(k:KeepL H H'):∀ {kvs:List (Own.Val×Own.Val)}{ps:List (Key×V)},RKs K H kvs ps→RKs K H' kvs ps
 |_,_,.nil=>.nil
 |_,_,.cons a r t=>.cons a (r.keepL k) (RKs.keepL k t)
theorem RFs.keepL(k:KeepL H H'):∀ {fs:List (String×Own.Val)}{ps:List (Str×V)},RFs K H fs ps→RFs K H' fs ps
 |_,_,.nil=>.nil
 |_,_,.cons r t=>.cons (r.keepL k) (RFs.keepL k t)
theorem REn.keepL{env:Own.Env}{σ:St}(r:REn K H env σ)(k:KeepL H H'):REn K H' env σ:=⟨r.len,fun i v e=>by
  obtain⟨x,h1,h2⟩:=r.get i v e
  exact⟨x,h1,h2.keepL k⟩⟩
theorem RO.moveL{i:Inf}{a:Addr}{o:Own.Ob}(r:RO i H a o)(k:KeepL H H')(e:H' a=H a):RO i H' a o:=by
 cases o with
 |lst xs=>obtain⟨vs,q,r⟩:=r;exact⟨vs,e.trans q,r.keepL k⟩
 |dct kvs=>obtain⟨ps,q,r⟩:=r;exact⟨ps,e.trans q,r.keepL k⟩
 |ins C fs=>obtain⟨c,dx,ps,h0,h,q,r⟩:=r;exact⟨c,dx,ps,h0,h,e.trans q,r.keepL k⟩
 |exc C=>obtain⟨c,h,q⟩:=r;exact⟨c,h,e.trans q⟩
 |frz kvs=>obtain⟨o,ps,q,r⟩:=r;exact⟨o,ps,e.trans q,r.keepL k⟩
theorem Wh{a:Addr}{o:Obj}{ps:List (Key×V)}(e:H a=some (.frz o (.dK ps))):KeepL H (upd H a (.dK ps)) :=
 ⟨fun b xs q=>by rw[upd_ne (by rintro rfl;rw[e]at q;cases q)];exact q,fun b p xs q=>by rw[upd_ne (by rintro rfl;rw[e]at q;cases q)];exact q⟩
theorem RH.thaw{i:Inf}{G:Own.Hs}{a:Addr}{o:Obj}{ps:List (Key×V)}{kvs:List (Own.Val×Own.Val)}(g:RH i G H)(e:H a=some (.frz o (.dK ps)))(r:RKs i.K H kvs ps):RH i (Own.upd G a (.dct kvs)) (upd H a (.dK ps)):=fun b p q=>by
 by_cases hb:b=a
 ·subst hb;rw[Own.upd_same]at q;cases q;exact⟨ps,upd_same,r.keepL (Wh e)⟩
 ·rw[Own.upd_ne hb]at q;exact(g b p q).moveL (Wh e) (upd_ne hb)
theorem RKs.len:∀ {kvs:List (Own.Val×Own.Val)}{ps:List (Key×V)},RKs K H kvs ps→kvs.length=ps.length
 |_,_,.nil=>rfl
 |_,_,.cons _ _ t=>by rw[List.length_cons,List.length_cons,RKs.len t]
theorem RKs.at:∀ {kvs:List (Own.Val×Own.Val)}{ps:List (Key×V)}{n:Nat}{c:Key}{x:V},RKs K H kvs ps→ps[n]?=some (c,x)→∃ k v,kvs[n]?=some (k,v)∧Xf k c∧RV K H v x
 |_,_,n,_,_,.nil,e=>by simp at e
 |_,_,0,_,_,.cons hk r _,e=>by simp at e;obtain⟨rfl,rfl⟩:=e;exact⟨_,_,rfl,hk,r⟩
 |_,_,n+1,_,_,.cons _ _ t,e=>by obtain⟨k,v,h1,h2⟩:=RKs.at (n:=n) t (by simpa using e);exact⟨k,v,by simpa using h1,h2⟩
end
end Snd
namespace Snd
open PySem L2
structure Md where
 N:List Str
 sc:Scope
 cs:List (String×Own.Val)
 fs:List String
 cm:Bool
 cl:List String
 ms:List (String×String)
 fl:List String
 xs:List String
noncomputable def Md.nmOf (c:Md) (j:Nat):Str:=c.N.getD j Str.empty
noncomputable def Md.vis (c:Md) (x:Str):Bool:=match c.sc.names.lookup x with
 |some .local=>true
 |some .cell=>true
 |some .free=>true
 |_=>false
noncomputable def Md.loc (c:Md) (x:Str):Bool:=c.sc.names.lookup x==some .local||c.sc.names.lookup x==some .cell
noncomputable def Md.gl (c:Md) (x:Str):Bool:=c.sc.names.lookup x==some .globalImplicit
noncomputable def nm (x:Str):Bool:=!(x==("__debug__" : Str)) && !(x==("__classdict__" : Str)) && !(x==("__name__" : Str))
noncomputable def dE:Expr:=.Name Str.empty ⟨0,0,0,0⟩
noncomputable def mix:List (Option Expr)→List Expr→List Expr
 |k::ks,v::vs=>k.getD dE::v::mix ks vs
 |_,_=>[]
noncomputable def sub:Expr→List Expr
 |.BoolOp _ xs _=>xs
 |.BinOp a _ b _=>[a,b]
 |.UnaryOp _ a _=>[a]
 |.IfExp a b c _=>[a,b,c]
 |.Compare a _ bs _=>a::bs
 |.Call f as ks _=>f::(as++ks.map (·.value))
 |.FormattedValue a _ _ _=>[a]
 |.JoinedStr vs _=>vs
 |.Attribute a _ _=>[a]
 |.Subscript a b _=>[a,b]
 |.List es _=>es
 |.Tuple es _ _=>es
 |.Slice a b c _=>[a.getD dE,b.getD dE,c.getD dE]
 |.ListComp e gs _ _=>e::gs.flatMap fun g=>g.target::g.iter::g.ifs
 |.Dict ks vs _=>mix ks vs
 |_=>[]
noncomputable def kid (x:Expr) (j:Nat):Expr:=(sub x).getD j dE
noncomputable def num:Expr→Nat
 |.Constant _ k _=>k
 |.Tuple _ k _=>k
 |_=>0
noncomputable def scp:Expr→Scope
 |.ListComp _ _ s _=>s
 |_=>default
noncomputable def kwp:Expr→Pos
 |.Call _ _ (k::_) _=>k.pos
 |_=>⟨0,0,0,0⟩
noncomputable def MN:Own.Bop→Operator
 |.add=>.Add
 |.sub=>.Sub
 |.mul=>.Mult
 |.fdiv=>.FloorDiv
 |.mod=>.Mod
 |.pow=>.Pow
noncomputable def YS:Own.Cop→CmpOp
 |.eq=>.Eq
 |.ne=>.NotEq
 |.lt=>.Lt
 |.le=>.LtE
 |.gt=>.Gt
 |.ge=>.GtE
 |.isin=>.In
 |.notin=>.NotIn
 |.is=>.Is
 |.isnot=>.IsNot
noncomputable def Ej:Own.Val→Const
 |.non=>.none
 |.bl b=>.bool b
 |.int i=>.int i
 |.str s=>.str (Str.ofString s)
 |_=>.ellipsis
noncomputable def Af:Own.Val→Bool
 |.non=>true
 |.bl _=>true
 |.int _=>true
 |.str _=>true
 |_=>false
noncomputable def Zy:Own.E→Bool
 |.and _ _=>true
 |_=>false
noncomputable def ZR:Own.E→Bool
 |.or _ _=>true
 |_=>false
noncomputable def Zj:Own.Tt→Bool
 |.and _ _=>true
 |_=>false
noncomputable def Zu:Own.Tt→Bool
 |.or _ _=>true
 |_=>false
noncomputable def rest (b:Bool) (x:Expr):Expr:=match b,x with
 |true,.BoolOp op (_::xs) p=>.BoolOp op xs p
 |_,x=>kid x 1
noncomputable def Yd (b:Bool) (x:Expr):List Expr:=match b with
 |true=>sub x
 |false=>[x]
noncomputable def YE:Own.Bi→Str
 |.len=>"len"
 |.int=>"int"
 |.str=>"str"
 |.bool=>"bool"
 |.abs=>"abs"
 |.min2=>"min"
 |.max2=>"max"
 |.minL=>"min"
 |.maxL=>"max"
 |.minD=>"min"
 |.sum=>"sum"
 |.all=>"all"
 |.sorted=>"sorted"
 |.sortedSet=>"sorted"
 |.lenSet=>"len"
 |.list=>"list"
 |.tuple=>"tuple"
 |.dict=>"dict"
 |.isi _=>"isinstance"
 |.isx _=>"isinstance"
 |.repr=>"repr"
 |.listRev=>"list"
 |.listRange=>"list"
 |.dictEnum=>"dict"
noncomputable def Dk:Own.Bi→Option Str
 |.sortedSet=>some "set"
 |.lenSet=>some "set"
 |.listRev=>some "reversed"
 |.listRange=>some "range"
 |.dictEnum=>some "enumerate"
 |_=>none
noncomputable def C4 (Ts:List String) (x:Expr):Expr:=match Ts with
 |[T]=>.Name (Str.ofString T) x.pos
 |Ts=>.Tuple (Ts.zipIdx.map fun p=>.Name (Str.ofString p.1) (kid x p.2).pos) (num x) x.pos
noncomputable def Br (f:Own.Bi) (as:List Expr) (x:Expr):List Expr:=match Dk f with
 |some y=>[.Call (.Name y (kid (kid x 1) 0).pos) as [] (kid x 1).pos]
 |none=>match f with
  |.isi Ts=>as++[C4 Ts (kid x 2)]
  |.isx Ts=>as++[C4 Ts (kid x 2)]
  |_=>as
noncomputable def J7 (f:Own.Bi) (x:Expr):List Expr:=match Dk f with
 |some _=>(sub (kid x 1)).tail
 |none=>(sub x).tail
noncomputable def FX (f:Own.Bi) (x:Expr):List Keyword:=match f with
 |.minD=>[⟨some "default",.Constant .none (num (kid x 2)) (kid x 2).pos,kwp x⟩]
 |_=>[]
noncomputable def FM:Own.Bm→Str
 |.append=>"append"
 |.extend=>"extend"
 |.pop=>"pop"
 |.popAt=>"pop"
 |.insert=>"insert"
 |.remove=>"remove"
 |.clear=>"clear"
 |.reverse=>"reverse"
 |.index=>"index"
 |.count=>"count"
 |.dget=>"get"
 |.dgetD=>"get"
 |.dpop=>"pop"
 |.dpopD=>"pop"
 |.setdefault=>"setdefault"
 |.join=>"join"
 |.split=>"split"
 |.replace=>"replace"
 |.upper=>"upper"
 |.partition=>"partition"
 |.sidx=>"index"
noncomputable def Yw:List Expr→List (Option Expr)
 |k::_::r=>some k::Yw r
 |_=>[]
noncomputable def N6:List Expr→List Expr
 |_::v::r=>v::N6 r
 |_=>[]
noncomputable def toP (p:Own.Pt) (c:Md) (x:Expr):Expr:=match p with
 |.one j=>.Name (c.nmOf j) x.pos
 |.many js=>.Tuple (js.zipIdx.map fun p=>.Name (c.nmOf p.1) (kid x p.2).pos) (num x) x.pos
 |.nest j js=>.Tuple [.Name (c.nmOf j) (kid x 0).pos,.Tuple (js.zipIdx.map fun p=>.Name (c.nmOf p.1) (kid (kid x 1) p.2).pos) (num (kid x 1)) (kid x 1).pos] (num x) x.pos
noncomputable def nmX:Expr→Str
 |.Name x _=>x
 |_=>Str.empty
noncomputable def Md.blk (c:Md) (sc:Scope) (x:Str) (caps:List Nat):Md :=
 {N:=x::caps.map (fun j=>c.N.getD j Str.empty),sc:={sc with names:=sc.names.map fun(n,k)=>if(k == .free&&c.sc.kind == .function&&c.sc.names.lookup n==some .cell)then(n,.cell)else(n,k)},cs:=c.cs,fs:=c.fs,cm:=c.cm,cl:=c.cl,ms:=c.ms,fl:=c.fl,xs:=c.xs}
noncomputable def K5:Own.E→Bool
 |.cst (.str _)=>true
 |_=>false
mutual
noncomputable def toX:Own.E→Md→Expr→Expr
 |.cst v,_,x=>.Constant (Ej v) (num x) x.pos
 |.var j,c,x=>.Name (c.nmOf j) x.pos
 |.glob y _,_,x=>.Name (Str.ofString y) x.pos
 |.bin o a b,c,x=>.BinOp (toX a c (kid x 0)) (MN o) (toX b c (kid x 1)) x.pos
 |.neg a,c,x=>.UnaryOp .USub (toX a c (kid x 0)) x.pos
 |.not a,c,x=>.UnaryOp .Not (toX a c (kid x 0)) x.pos
 |.and a b,c,x=>.BoolOp .And (toX a c (kid x 0)::Yd (Zy b) (toX b c (rest (Zy b) x))) x.pos
 |.or a b,c,x=>.BoolOp .Or (toX a c (kid x 0)::Yd (ZR b) (toX b c (rest (ZR b) x))) x.pos
 |.cmp o a b,c,x=>.Compare (toX a c (kid x 0)) [YS o] [toX b c (kid x 1)] x.pos
 |.chain o1 o2 a b d,c,x=>.Compare (toX a c (kid x 0)) [YS o1,YS o2] [toX b c (kid x 1),toX d c (kid x 2)] x.pos
 |.call f as,c,x=>.Call (.Name (Str.ofString f) (kid x 0).pos) (toA as c (sub x).tail) [] x.pos
 |.make C as,c,x=>.Call (.Name (Str.ofString C) (kid x 0).pos) (toA as c (sub x).tail) [] x.pos
 |.meth _ m o as,c,x=>.Call (.Attribute (toX o c (kid (kid x 0) 0)) (Str.ofString m) (kid x 0).pos) (toA as c (sub x).tail) [] x.pos
 |.fld o f,c,x=>.Attribute (toX o c (kid x 0)) (Str.ofString f) x.pos
 |.bi f as,c,x=>.Call (.Name (YE f) (kid x 0).pos) (Br f (toA as c (J7 f x)) x) (FX f x) x.pos
 |.bm m o as,c,x=>.Call (.Attribute (toX o c (kid (kid x 0) 0)) (FM m) (kid x 0).pos) (toA as c (sub x).tail) [] x.pos
 |.idx a b,c,x=>.Subscript (toX a c (kid x 0)) (toX b c (kid x 1)) x.pos
 |.slc a lo hi,c,x=>.Subscript (toX a c (kid x 0)) (.Slice (toO lo c (kid (kid x 1) 0)) (toO hi c (kid (kid x 1) 1)) none (kid x 1).pos) x.pos
 |.rev a,c,x=>.Subscript (toX a c (kid x 0)) (.Slice none none (some (.UnaryOp .USub (.Constant (.int 1) (num (kid (kid (kid x 1) 2) 0)) (kid (kid (kid x 1) 2) 0).pos) (kid (kid x 1) 2).pos)) (kid x 1).pos) x.pos
 |.tup es,c,x=>.Tuple (toA es c (sub x)) (num x) x.pos
 |.lst es,c,x=>.List (toA es c (sub x)) x.pos
 |.dct es,c,x=>.Dict (Yw (toA es c (sub x))) (N6 (toA es c (sub x))) x.pos
 |.ife t a b,c,x=>.IfExp (toT t c (kid x 0)) (toX a c (kid x 1)) (toX b c (kid x 2)) x.pos
 |.comp caps _ _ it t e,c,x=>.ListComp (toX e (c.blk (scp x) (nmX (kid x 1)) caps) (kid x 0)) [⟨.Name (nmX (kid x 1)) (kid x 1).pos,toI it c (kid x 2),toF t (c.blk (scp x) (nmX (kid x 1)) caps) (kid x 3),0⟩] (scp x) x.pos
 |.fstr es,c,x=>.JoinedStr (toJ es c (sub x)) x.pos
 |.split o a,c,x=>.Call (.Attribute (toX o c (kid (kid x 0) 0)) "split" (kid x 0).pos) [toX a c (kid x 1)] [] x.pos
 |.repl o y z,c,x=>.Call (.Attribute (toX o c (kid (kid x 0) 0)) "replace" (kid x 0).pos) [.Constant (.str (Str.ofString y)) (num (kid x 1)) (kid x 1).pos,.Constant (.str (Str.ofString z)) (num (kid x 2)) (kid x 2).pos] [] x.pos
noncomputable def toA:Own.Es→Md→List Expr→List Expr
 |.nil,_,_=>[]
 |.cons e es,c,xs=>toX e c (xs.headD dE)::toA es c xs.tail
noncomputable def toJ:Own.Es→Md→List Expr→List Expr
 |.nil,_,_=>[]
 |.cons e es,c,xs=>(if K5 e then toX e c (xs.headD dE)else .FormattedValue (toX e c (kid (xs.headD dE) 0)) (-1) none (xs.headD dE).pos)::toJ es c xs.tail
noncomputable def toO:Own.Oe→Md→Expr→Option Expr
 |.none,_,_=>none
 |.some e,c,x=>some (toX e c x)
noncomputable def toT:Own.Tt→Md→Expr→Expr
 |.yes,_,x=>x
 |.val e,c,x=>toX e c x
 |.not t,c,x=>.UnaryOp .Not (toT t c (kid x 0)) x.pos
 |.and a b,c,x=>.BoolOp .And (toT a c (kid x 0)::Yd (Zj b) (toT b c (rest (Zj b) x))) x.pos
 |.or a b,c,x=>.BoolOp .Or (toT a c (kid x 0)::Yd (Zu b) (toT b c (rest (Zu b) x))) x.pos
noncomputable def toF:Own.Tt→Md→Expr→List Expr
 |.yes,_,_=>[]
 |.val e,c,x=>[toX e c x]
 |.not t,c,x=>[.UnaryOp .Not (toT t c (kid x 0)) x.pos]
 |.and a b,c,x=>[.BoolOp .And (toT a c (kid x 0)::Yd (Zj b) (toT b c (rest (Zj b) x))) x.pos]
 |.or a b,c,x=>[.BoolOp .Or (toT a c (kid x 0)::Yd (Zu b) (toT b c (rest (Zu b) x))) x.pos]
noncomputable def toI:Own.It→Md→Expr→Expr
 |.seq e,c,x=>toX e c x
 |.chars e,c,x=>toX e c x
 |.range a,c,x=>.Call (.Name "range" (kid x 0).pos) [toX a c (kid x 1)] [] x.pos
 |.range2 a b,c,x=>.Call (.Name "range" (kid x 0).pos) [toX a c (kid x 1),toX b c (kid x 2)] [] x.pos
 |.enum e,c,x=>.Call (.Name "enumerate" (kid x 0).pos) [toX e c (kid x 1)] [] x.pos
 |.zip a b,c,x=>.Call (.Name "zip" (kid x 0).pos) [toX a c (kid x 1),toX b c (kid x 2)] [] x.pos
 |.items e,c,x=>.Call (.Attribute (toX e c (kid (kid x 0) 0)) "items" (kid x 0).pos) [] [] x.pos
 |.rev e,c,x=>.Call (.Name "reversed" (kid x 0).pos) [toX e c (kid x 1)] [] x.pos
end
end Snd
namespace Snd
open PySem L2
noncomputable def blts:List Str:=["isinstance","int","bool","str","list","tuple","dict","max","min","range","len","sorted","set","all","sum","enumerate","zip","reversed","abs","repr","ValueError"]
structure Kls (X:Cx) (i:Inf) (P:Own.Pg) (n:Nat) (c:Md):Prop where
 A:ClsA i
 F:∀ f,c.fl.contains f=true→FldOk i f
 mkc:∀ C,c.cl.contains C=true→∃ a f,i.ins C=true∧i.cl C a∧Mk i.K a f∧X.mg (Str.ofString C)=some (.ref a)∧Dfm X.prog X.w X.mg X.base i P n (C ++ ".__init__") f
 mth:∀ C m,c.ms.contains (C,m)=true→∃ a f,(∀ b,i.cl C b→b=a)∧Cls i.K a∧Meth i.K a (Str.ofString m) f∧Dfm X.prog X.w X.mg X.base i P n (C ++ "." ++ m) f
structure Xls (X:Cx) (i:Inf) (c:Md):Prop where
 xc:∀ C a,i.xc C a→XCls i.K a∧PySem.W.kitOne i.K (.ref a) (.type "ValueError")=some true
 rs:∀ C,c.xs.contains C=true→∃ a,i.xc C a∧PyProof.Rows.OwnCls (Str.ofString C) a [.type "ValueError",.type "Exception",.type "BaseException",.type "object"] "ValueError.__new__" X.mg X.base
 kn:∀ T,(c.xs.contains T||T == "ShutError")=true→∃ D,X.mg (Str.ofString T)=some (.ref D)∧∀ C a,i.xc C a→PySem.W.kitOne i.K (.ref a) (.ref D)=some (Own.excSub C T)∧(Own.excSub C T=true→PySem.W.exmOne i.K (.ref a) (.ref D)=some true)
structure Gd (X:Cx) (i:Inf) (P:Own.Pg) (n:Nat) (c:Md):Prop where
 K:X.K=i.K
 N:X.N=c.N
 sc:X.env.scope=c.sc
 nd:c.N.Nodup
 un:X.A.units+200<cLine
 calm:c.cm=true→X.calm=true
 room:c.cm=true→Room (2*n+1) X.A
 bl:∀ x∈blts,X.mg x=none
 dfs:∀ f,c.fs.contains f=true→Dfo X.prog X.w X.mg X.base i P n f
 cst:∀ x v,c.cs.lookup x=some v→∃ u y,X.mg (Str.ofString x)=some u∧RelV y u∧∀ H,RV i.K H v y
 kl:Kls X i P n c
 xl:c.xs≠[]→Xls X i c
variable {X:Cx}{i:Inf}{P:Own.Pg}{n:Nat}{c:Md}
theorem Gd.gl(g:Gd X i P n c){x:Str}(h:c.gl x=true):Gl X x:=by show X.env.scope.names.lookup x=_;rw[g.sc];exact eq_of_beq h
theorem Gd.vis(g:Gd X i P n c){x:Str}(h:c.vis x=true):Vis X.env.scope x:=by
 unfold Vis;rw[g.sc];unfold Md.vis at h;split at h
 ·exact .inl (by assumption)
 ·exact .inr (.inl (by assumption))
 ·exact .inr (.inr (by assumption))
 ·cases h
theorem Gd.loc(g:Gd X i P n c){x:Str}(h:c.loc x=true):L2.Loc X.env.scope x:=by
 unfold L2.Loc;rw[g.sc];rcases (Bool.or_eq_true ..).mp h with h|h
 ·exact .inl (eq_of_beq h)
 ·exact .inr (eq_of_beq h)
theorem Gd.rm(g:Gd X i P n c)(h:c.cm=true):Room (2*n) X.A:=(g.room h).mono (Nat.le_succ _)
theorem MB {x:Str}(h:nm x=true):(x==("__debug__" : Str))=false∧(x==("__classdict__" : Str))=false∧x≠"__name__":=by simp only[nm,bAq,Bool.not_eq_true']at h;exact⟨h.1.1,h.1.2,by simpa using h.2⟩
theorem ZZ(e:Own.E)(c:Md)(x:Expr)(es:List Expr)(env:Env):starEach (toX e c x::es) env=(false,eval (toX e c x) env)::starEach es env:=by cases e<;>rfl
theorem Nb(e:Own.E)(c:Md)(x:Expr):Wr (toX e c x):=by intro o j;cases e<;>rfl
theorem B3{op:CmpOp}(e:Own.E)(c:Md)(x:Expr):behindInMarks op (toX e c x)=false:=by cases e<;>rfl
theorem AL(e:Own.E)(c:Md)(x:Expr)(env:Env):∀ y,foldedSetIterable (toX e c x) env y=pure y:=by intro y;cases e<;>rfl
noncomputable def Fb:Expr→Bool
 |.Call (.Name _ _) [] _ _=>false
 |_=>true
noncomputable def Zf:Own.Es→Nat
 |.nil=>0
 |.cons _ es=>Zf es+1
theorem WJ:∀ (es:Own.Es) (c:Md) (xs:List Expr),(toA es c xs).length=Zf es
 |.nil,_,_=>rfl
 |.cons _ es,c,xs=>by show(toA es c xs.tail).length+1=_;rw[WJ es];rfl
theorem Xo(env:Env)(pos:Pos):∀ (es:Own.Es) (c:Md) (xs:List Expr),(backTo pos (starEach (toA es c xs) env)).any (·.1)=false
 |.nil,_,_=>rfl
 |.cons e es,c,xs=>by show(backTo pos (starEach (toX e c (xs.headD dE)::toA es c xs.tail) env)).any (·.1)=false;rw[ZZ];show(false||(backTo pos (starEach (toA es c xs.tail) env)).any (·.1))=false;rw[Xo env pos es];rfl
theorem D1(g:Gd X i P n c){Φ:Own.Fs}{o:Own.Bop}{a b:Own.E}{l r:Expr}{pos:Pos}(ha:PE X l (tE X i Φ a))(hb:PE X r (tE X i Φ b)):PE X (.BinOp l (MN o) r pos) (tE X i Φ (.bin o a b)):=by
 cases o with
 |add=>exact X7 Ck (by rw[g.K];exact b_add) ha hb
 |sub=>exact X7 Bz b_sub ha hb
 |mul=>exact X7 Dm b_mul ha hb
 |fdiv=>exact X7 UB b_fdiv ha hb
 |mod=>exact X7 Bn b_mod ha hb
 |pow=>exact X7 BN b_pow ha hb
noncomputable def Yx:Own.Cop→Bool
 |.is=>true
 |.isnot=>true
 |_=>false
theorem JB(g:Gd X i P n c){o:Own.Cop}(h:Yx o=false):∃ r,OpR X (compareOp (YS o)) r∧ZJ i o r:=by
 have u65:X.A.units+65<cLine:=by have:=g.un;omega
 have u64:X.A.units+64<cLine:=by have:=g.un;omega
 have u0:X.A.units<cLine:=by have:=g.un;omega
 cases o with
 |eq=>exact⟨_,Be u64,by rw[g.K];exact Fi⟩
 |ne=>exact⟨_,Ap u64,by rw[g.K];exact Gh⟩
 |lt=>exact⟨_,Ga u0,by rw[g.K];exact c_lt⟩
 |le=>exact⟨_,CU,c_le⟩
 |gt=>exact⟨_,EV u0,by rw[g.K];exact c_gt⟩
 |ge=>exact⟨_,CO,c_ge⟩
 |isin=>exact⟨_,Gg u65,by rw[g.K];exact FJ⟩
 |notin=>exact⟨_,F5 u65,by rw[g.K];exact F9⟩
 |_=>cases h
theorem A0{Φ:Own.Fs}{v:Own.Val}{j:Nat}{pos:Pos}(h:Af v=true):PE X (.Constant (Ej v) j pos) (tE X i Φ (.cst v)):=by
 cases v with
 |non=>exact Y1 Aq fun _=>.non
 |bl b=>exact Y1 DJ fun _=>.bl _
 |int k=>exact Y1 A6 fun _=>.int _
 |str s=>exact Y1 pe_str fun _=>.str _
 |_=>cases h
noncomputable def W1:Own.E→Bool
 |.cst .non=>true
 |_=>false
theorem Ow{e:Own.E}(h:W1 e=true):e=.cst .non:=by
 cases e with
 |cst v=>cases v with
  |non=>rfl
  |_=>cases h
 |_=>cases h
theorem W7(g:Gd X i P n c){Φ:Own.Fs}{o:Own.Cop}{a b:Own.E}{l x:Expr}{pos:Pos}(h:(!Yx o||W1 b)=true)(ha:PE X l (tE X i Φ a))(hb:PE X (toX b c x) (tE X i Φ b)) :
  PE X (.Compare l [YS o] [toX b c x] pos) (tE X i Φ (.cmp o a b))∧PT X (.Compare l [YS o] [toX b c x] pos) (tTt X i Φ (.val (.cmp o a b))):=by
 cases z:Yx o with
 |false =>obtain⟨r,h1,h2⟩:=JB g z;exact⟨En h1 h2 ha hb (B3 _ _ _),Bv h1 h2 ha hb (B3 _ _ _)⟩
 |true =>
  rw[z]at h;cases Ow h;cases o with
  |is=>exact⟨Cs ha,Am ha⟩
  |isnot=>exact⟨Bq ha,Uc ha⟩
  |_=>cases z
theorem Y8(g:Gd X i P n c){Φ:Own.Fs}{o1 o2:Own.Cop}{a b d:Own.E}{l y x:Expr}{pos:Pos}(h1:Yx o1=false)(h2:Yx o2=false)(ha:PE X l (tE X i Φ a))(hb:PE X y (tE X i Φ b))(hd:PE X (toX d c x) (tE X i Φ d)) :
  PE X (.Compare l [YS o1,YS o2] [y,toX d c x] pos) (tE X i Φ (.chain o1 o2 a b d))∧PT X (.Compare l [YS o1,YS o2] [y,toX d c x] pos) (tTt X i Φ (.val (.chain o1 o2 a b d))):=by
 obtain⟨r1,a1,a2⟩:=JB g h1;obtain⟨r2,b1,b2⟩:=JB g h2;have hm:lastMarks [YS o1,YS o2] [y,toX d c x]=false:=B3 _ _ _;exact⟨Ot a1 a2 b1 b2 ha hb hd hm,Nd a1 a2 b1 b2 ha hb hd hm⟩
theorem AJ{Φ:Own.Fs}{e:Expr}{m:Own.E}(h:PE X e (tE X i Φ m))(he:∀ whole,isTrue e X.env whole=(do let v←whole;standAt e.pos;holding [v] (truthy v)))(hK:X.K=i.K):PT X e (tTt X i Φ (.val m)):=by
 refine(N8 h he).imp fun σ H Q ⟨env,G,Qm,Em,p,w,c⟩=>?_;rw[Own.q_t_val]at w;refine one p w fun v G1 H1 x k1 p1 r q=>?_;obtain⟨d,e1,q2⟩:=go_some q;clear q;refine⟨d,?_,c d G1 H1 k1 p1.hp q2⟩;cases v with
 |non=>cases r;cases e1;rfl
 |bl b=>cases r;cases e1;rfl
 |int b =>
  cases r;cases e1;show decide (b≠0)=(b != 0)
  by_cases e:b=0<;>simp[e]
 |str b =>
  cases r;obtain⟨hl,e1⟩:=Yz e1;cases e1;refine⟨by rw[Zm];exact Nat.le_trans hl ZF,?_⟩;rw[Zm];by_cases e:b.length=0
  ·rw[e];rfl
  ·rw[decide_eq_true e];symm;simpa using (by omega:¬ ((b.length:Int)=0))
 |tup xs =>
  cases e1;cases r with
  |tup hp hr =>refine .inr (.inl ⟨_,by rw[hK];exact Zr hp,?_⟩);cases hr<;>rfl
 |scr ns =>
  cases e1;cases r with
  |scr h =>refine .inl ⟨_,by rw[hK];exact ZX h,?_⟩;cases ns<;>rfl
 |ref a =>
  cases r.ref_inv
  replace e1:(match G1 a with|some (.lst xs)=>some (!xs.isEmpty)|some (.dct kvs)=>some (!kvs.isEmpty)|_=>none)=some d:=e1
  cases z:G1 a with
  |none=>rw[z]at e1;cases e1
  |some o =>
   rw[z]at e1;cases o with
   |lst xs =>cases e1;obtain⟨vs,h1,h2⟩:=p1.hp a _ z;refine .inl ⟨vs,SqL.of h1,?_⟩;cases h2<;>rfl
   |dct kvs =>cases e1;obtain⟨ps,h1,h2⟩:=p1.hp a _ z;refine .inr (.inr ⟨ps,h1,?_⟩);cases h2<;>rfl
   |_=>cases e1
end Snd
namespace Snd
open PySem L2
noncomputable def Md.gn (c:Md) (y:String):Bool:=c.gl (Str.ofString y)&&nm (Str.ofString y)
noncomputable def Yq:Own.Bi→Bool
 |.len=>true
 |.int=>true
 |.str=>true
 |.all=>true
 |.list=>true
 |_=>false
noncomputable def O7:Own.Bi→Option String
 |.isi [T]=>some T
 |_=>none
noncomputable def OA:Own.Bi→Option (List String)
 |_=>none
noncomputable def YA:Own.Bi→Bool
 |_=>false
noncomputable def YY:Own.Bi→Bool
 |_=>false
noncomputable def J6:Own.Bi→Bool
 |.dictEnum=>true
 |_=>false
noncomputable def Wl:Own.Bi→Bool
 |_=>false
noncomputable def N0:Own.Bi→Option (List String)
 |_=>none
noncomputable def Md.xn (c:Md) (T:String):Bool:=(c.xs.contains T||T == "ShutError")&&c.gn T
noncomputable def YH:Own.Bi→Bool
 |.len=>true
 |.int=>true
 |.str=>true
 |.list=>true
 |_=>false
noncomputable def BE (c:Md) (Ts:List String):Bool:=match Ts with
 |[T]=>c.xn T||(T == "ValueError" && c.gl (Str.ofString T))
 |Ts=>Ts.all c.xn&&decide (Ts.length≤20)
noncomputable def HM:Own.Bm→Option Nat
 |_=>none
noncomputable def W8 (n:Nat) (p:Own.Pt):Bool:=n == 1&&(match p with
  |.one j=>j==0
  | _=>false)
noncomputable def Ks:Own.Tt→Bool
 |.yes=>true
 |_=>false
noncomputable def JN:Own.E→Bool
 |.var _=>true
 |.call _ _=>true
 |.meth _ _ _ _=>true
 |.bi _ _=>true
 |.bm _ _ _=>true
 |.idx _ _=>true
 |.fld _ _=>true
 |.glob _ _=>true
 |_=>false
noncomputable def Dc:Own.E→Bool
 |.cmp _ _ _=>true
 |.chain _ _ _ _ _=>true
 |_=>false
noncomputable def okV (j:Nat) (c:Md):Bool:=decide (j<c.N.length)&&c.vis (c.nmOf j)&&nm (c.nmOf j)
noncomputable def Ht (e:Own.E) (es:Own.Es) (c:Md) (xs:List Expr):Bool:=match e,es with
 |.bin .add (.cst (.str _)) (.var j),.cons (.repl (.var k) _ _) .nil=>okV j c&&okV k c&&((kid (xs.tail.headD dE) 0).pos.endLine==(xs.tail.headD dE).pos.line)
 |_,_=>false
mutual
noncomputable def okE:Own.E→Md→Expr→Bool
 |.cst v,_,_=>Af v
 |.var j,c,_=>decide (j<c.N.length)&&c.vis (c.nmOf j)&&nm (c.nmOf j)
 |.glob y v,c,_=>c.gn y&&decide (c.cs.lookup y=some v)
 |.bin _ a b,c,x=>okE a c (kid x 0)&&okE b c (kid x 1)
 |.neg a,c,x=>okE a c (kid x 0)
 |.not a,c,x=>okE a c (kid x 0)
 |.and a b,c,x=>okE a c (kid x 0)&&okE b c (rest (Zy b) x)&&(!Zy b||(rest (Zy b) x).pos==x.pos)
 |.or a b,c,x=>okE a c (kid x 0)&&okE b c (rest (ZR b) x)&&(!ZR b||(rest (ZR b) x).pos==x.pos)
 |.cmp o a b,c,x=>okE a c (kid x 0)&&okE b c (kid x 1)&&(!Yx o||W1 b)
 |.chain o1 o2 a b d,c,x=>okE a c (kid x 0)&&okE b c (kid x 1)&&okE d c (kid x 2) && !Yx o1 && !Yx o2
 |.call f as,c,x=>c.gn f&&c.fs.contains f&&c.cm&&okA as c (sub x).tail
 | .bi f as,c,x=>(match O7 f with
   |some T=>decide (Zf as=1)&&kinds.contains T&&c.gl "isinstance" && c.gl (Str.ofString T)
   |none=>match OA f with
     |some Ts=>decide (Zf as=1)&&c.gl "isinstance" && !c.xs.isEmpty&&BE c Ts
     |none=>match N0 f with
       |some Ts=>decide (Zf as=1)&&c.gl "isinstance" && Ts.all (fun T=>kinds.contains T&&c.gl (Str.ofString T))&&decide (Ts.length≤20)
       | none=>if YA f then decide (Zf as=1)&&c.gl "len" && c.gl "set" && c.cm else if YY f then decide (Zf as=1)&&c.gl "list" && c.gl "range" && c.cm else if Wl f then decide (Zf as=1)&&c.gl "min" && c.cm else if J6 f then decide (Zf as=1)&&c.gl "dict" && c.gl "enumerate" && c.cm else Yq f&&c.gl (YE f)&&decide (Zf as≠0)&&(c.cm||YH f))&&okA as c (J7 f x)
 |.idx a b,c,x=>okE a c (kid x 0)&&okE b c (kid x 1)
 |.slc a lo hi,c,x=>okE a c (kid x 0)&&okO lo c (kid (kid x 1) 0)&&okO hi c (kid (kid x 1) 1)
 |.tup es,c,x=>okA es c (sub x)&&decide (Zf es≤1000)
 |.lst es,c,x=>okA es c (sub x)&&decide (Zf es≤1000)
 |.dct es,c,x=>okA es c (sub x)&&Xn es&&decide (esL es≤30)
 |.comp caps m p it t e,c,x=>W8 m p&&c.cm&&ZU (scp x) c.sc c.N (nmX (kid x 1)) caps&&(scp x).kind == .function&&okI it c (kid x 2) false&&okE e (c.blk (scp x) (nmX (kid x 1)) caps) (kid x 0)&&(Ks t||okT t (c.blk (scp x) (nmX (kid x 1)) caps) (kid x 3))
 |_,_,_=>false
noncomputable def okA:Own.Es→Md→List Expr→Bool
 |.nil,_,_=>true
 |.cons e es,c,xs=>okE e c (xs.headD dE)&&okA es c xs.tail
noncomputable def okJ:Own.Es→Md→List Expr→Bool
 |.nil,_,_=>true
 |.cons e es,c,xs=>(K5 e||okE e c (kid (xs.headD dE) 0))&&okJ es c xs.tail
noncomputable def okO:Own.Oe→Md→Expr→Bool
 |.none,_,_=>true
 |.some e,c,x=>okE e c x
noncomputable def okT:Own.Tt→Md→Expr→Bool
 |.yes,_,_=>false
 |.val e,c,x=>okE e c x&&(JN e||Dc e)
 |.not t,c,x=>okT t c (kid x 0)
 |.and a b,c,x=>okT a c (kid x 0)&&okT b c (rest (Zj b) x)&&(!Zj b||(rest (Zj b) x).pos==x.pos)
 |.or a b,c,x=>okT a c (kid x 0)&&okT b c (rest (Zu b) x)&&(!Zu b||(rest (Zu b) x).pos==x.pos)
noncomputable def okI:Own.It→Md→Expr→Bool→Bool
 |.seq e,c,x,_=>okE e c x
 |.range a,c,x,_=>c.gl "range" && okE a c (kid x 1)
 |_,_,_,_=>false
end
variable {X:Cx}{i:Inf}{P:Own.Pg}{n:Nat}{c:Md}
theorem OX(g:Gd X i P n c){f:Own.Bi}(hp:Yq f=true)(hcm:(c.cm||YH f)=true){e:Expr}{es:List Expr}{as:Own.Es}{q p:Pos}{l:Nat}(hg:Gl X (YE f))(ha:PA X (e::es) (tAr X i (Own.wF P n) as l))
  (he:starEach (e::es) X.env=(false,eval e X.env)::starEach es X.env) (hpl:(backTo p (starEach es X.env)).any (·.1)=false):PE X (.Call (.Name (YE f) q) (e::es) [] p) (tE X i (Own.wF P n) (.bi f as)):=by
 have hc:YH f=false→X.calm=true:=fun z=>g.calm (by rw[z,Bool.or_false]at hcm;exact hcm);cases f with
 |len=>exact(XB ((call_len_seq.or Wt).or Mp) hg (g.bl _ (by simp[blts,YE])) (by kernel_rfl) ha (he:=he) (hpl:=hpl)).imp (WT (by rw[g.K];exact Aj))
 |int=>exact(YD (call_int1.or XJ) hg (g.bl _ (by simp[blts,YE])) (by kernel_rfl) ha (he:=he) (hpl:=hpl)).imp (WT AA)
 |str=>exact(YD (call_str_int.or WK) hg (g.bl _ (by simp[blts,YE])) (by kernel_rfl) ha (he:=he) (hpl:=hpl)).imp (WT Bw)
 |all=>exact(XB (Nh (hc rfl)) hg (g.bl _ (by simp[blts,YE])) (by kernel_rfl) ha (he:=he) (hpl:=hpl)).imp (WT (by rw[g.K];exact A9))
 |list=>exact(YD WF hg (g.bl _ (by simp[blts,YE])) (by kernel_rfl) ha (he:=he) (hpl:=hpl)).imp (WT (by rw[g.K];exact Oo))
 |_=>cases hp
theorem B9{f:Own.Bi}{T:String}(h:O7 f=some T):f=.isi [T]:=by
 cases f with
 |isi Ts =>
  cases Ts with
  |nil=>cases h
  |cons a r=>cases r with
   |nil=>cases h;rfl
   |cons _ _=>cases h
 |_=>cases h
theorem Od (g:Gd X i P n c){T:String}{e:Expr}{m:Own.E}{p p2 pos:Pos}(hT:T∈kinds) (h2:c.gl "isinstance" = true) (h5:c.gl (Str.ofString T)=true) (he:PE X e (tE X i (Own.wF P n) m)) (hst:starEach [e,.Name (Str.ofString T) p2] X.env=(false,eval e X.env)::starEach [.Name (Str.ofString T) p2] X.env) :
  PE X (.Call (.Name "isinstance" p) [e,.Name (Str.ofString T) p2] [] pos) (tE X i (Own.wF P n) (.bi (.isi [T]) (.cons m .nil))):=by
 have hT':=hT;simp only[kinds,List.mem_cons,List.not_mem_nil,or_false]at hT';refine CG hT he g.K (g.gl h2) (g.bl _ (by simp[blts])) (g.gl h5) ?_ ?_ ?_ ?_ hst
 ·rcases hT' with rfl|rfl|rfl|rfl|rfl|rfl<;>exact g.bl _ (by simp[blts])
 ·rcases hT' with rfl|rfl|rfl|rfl|rfl|rfl<;>kernel_rfl
 ·rcases hT' with rfl|rfl|rfl|rfl|rfl|rfl<;>decide
 ·rcases hT' with rfl|rfl|rfl|rfl|rfl|rfl<;>decide
theorem Gd.blk(g:Gd X i P n c){sc:Scope}{x:Str}{caps:List Nat}(hb:ZU sc c.sc c.N x caps=true)(hk:sc.kind=.function)(cl:List (Str×Addr))(C:Addr)(s:Shared)(H:Hp)(ex:List Addr) :
  Gd (ZB X sc (Z3 X x caps) cl C s H ex) i P n (c.blk sc x caps) where
 K:=g.K
 N:=by show Z3 X x caps=_;unfold Z3;rw[g.N];rfl
 sc:=by show relabel sc X.env=_;unfold relabel Env.kindOf;rw[g.sc];rfl
 nd:=by have B:=NK g.sc g.N hk hb;have:=B.nd;unfold Z3 at this;rw[g.N]at this;exact this
 un:=g.un
 calm:=g.calm
 room:=g.room
 bl:=g.bl
 dfs:=g.dfs
 cst:=g.cst
 kl:=⟨g.kl.A,g.kl.F,g.kl.mkc,g.kl.mth⟩
 xl:=fun h=>⟨(g.xl h).xc,(g.xl h).rs,(g.xl h).kn⟩
theorem Ke{n:Nat}{p:Own.Pt}(h:W8 n p=true):n=1∧p=.one 0:=by
 unfold W8 at h;rw[bAq]at h;cases p with
 |one j=>exact⟨eq_of_beq h.1,by rw[eq_of_beq h.2]⟩
 |_=>cases h.2
theorem Kq{b:Own.E}(h:Zy b=true):∃ a d,b=.and a d:=by
 cases b with
 |and a d=>exact⟨a,d,rfl⟩
 |_=>cases h
theorem Mq{b:Own.E}(h:ZR b=true):∃ a d,b=.or a d:=by
 cases b with
 |or a d=>exact⟨a,d,rfl⟩
 |_=>cases h
theorem Ng{b:Own.Tt}(h:Zj b=true):∃ a d,b=.and a d:=by
 cases b with
 |and a d=>exact⟨a,d,rfl⟩
 |_=>cases h
theorem O2{b:Own.Tt}(h:Zu b=true):∃ a d,b=.or a d:=by
 cases b with
 |or a d=>exact⟨a,d,rfl⟩
 |_=>cases h
theorem WA{b:Bool}{p q:Pos}(h:(!b||p==q)=true)(hb:b=true):p=q:=by rw[hb]at h;exact eq_of_beq h
theorem Nk{Φ:Own.Fs}{b:Own.E}{x:Expr}(hp:(!Zy b||(rest (Zy b) x).pos==x.pos)=true)(h:PE X (toX b c (rest (Zy b) x)) (tE X i Φ b)):PE X (.BoolOp .And (Yd (Zy b) (toX b c (rest (Zy b) x))) x.pos) (tE X i Φ b):=by
 cases z:Zy b with
 |false=>rw[z]at h;exact NO h
 |true =>have e:=WA hp z;rw[z]at e h;obtain⟨a,d,rfl⟩:=Kq z;show PE X (.BoolOp .And (sub (.BoolOp .And _ (rest true x).pos)) x.pos) _;rw[←e];exact h
theorem Uj{Φ:Own.Fs}{b:Own.E}{x:Expr}(hp:(!ZR b||(rest (ZR b) x).pos==x.pos)=true)(h:PE X (toX b c (rest (ZR b) x)) (tE X i Φ b)):PE X (.BoolOp .Or (Yd (ZR b) (toX b c (rest (ZR b) x))) x.pos) (tE X i Φ b):=by
 cases z:ZR b with
 |false=>rw[z]at h;exact NO h
 |true =>have e:=WA hp z;rw[z]at e h;obtain⟨a,d,rfl⟩:=Mq z;show PE X (.BoolOp .Or (sub (.BoolOp .Or _ (rest true x).pos)) x.pos) _;rw[←e];exact h
theorem Wc(b:Bool){e:Own.E}{x:Expr}(h:b=Zy e∨b=ZR e):∃ y ys,Yd b (toX e c x)=y::ys:=by
 cases b with
 |false=>exact⟨_,_,rfl⟩
 |true =>
  rcases h with h|h
  ·obtain⟨a,d,rfl⟩:=Kq h.symm;exact⟨_,_,rfl⟩
  ·obtain⟨a,d,rfl⟩:=Mq h.symm;exact⟨_,_,rfl⟩
end Snd
namespace Snd
open PySem L2
variable {i:Inf}{P:Own.Pg}{n:Nat}
theorem Mi{X:Cx}{c:Md}{Φ:Own.Fs}{b:Own.Tt}{x:Expr}(hp:(!Zj b||(rest (Zj b) x).pos==x.pos)=true)(h:PT X (toT b c (rest (Zj b) x)) (tTt X i Φ b))(h2:(Zj b||Zu b)=true→PW X (toT b c (rest (Zj b) x)) (tTt X i Φ b)) :
  ∃ y ys,Yd (Zj b) (toT b c (rest (Zj b) x))=y::ys∧PW X (.BoolOp .And (y::ys) x.pos) (tTt X i Φ b):=by
 cases z:Zj b with
 |false=>rw[z]at h;exact⟨_,_,rfl,Oz h⟩
 |true =>have e:=WA hp z;rw[z]at e h2;obtain⟨a,d,rfl⟩:=Ng z;refine⟨_,_,rfl,?_⟩;rw[←e];exact h2 rfl
theorem ML{X:Cx}{c:Md}{Φ:Own.Fs}{b:Own.Tt}{x:Expr}(hp:(!Zu b||(rest (Zu b) x).pos==x.pos)=true)(h:PT X (toT b c (rest (Zu b) x)) (tTt X i Φ b))(h2:(Zj b||Zu b)=true→PW X (toT b c (rest (Zu b) x)) (tTt X i Φ b)) :
  ∃ y ys,Yd (Zu b) (toT b c (rest (Zu b) x))=y::ys∧PW X (.BoolOp .Or (y::ys) x.pos) (tTt X i Φ b):=by
 cases z:Zu b with
 |false=>rw[z]at h;exact⟨_,_,rfl,BG h⟩
 |true =>have e:=WA hp z;rw[z]at e h2;obtain⟨a,d,rfl⟩:=O2 z;refine⟨_,_,rfl,?_⟩;rw[←e];exact h2 rfl
theorem F6{e:Own.E}(h:K5 e=true):∃ s,e=.cst (.str s):=by
 cases e with
 |cst v=>cases v with
  |str s=>exact⟨s,rfl⟩
  |_=>cases h
 |_=>cases h
theorem X9{X:Cx}{c:Md}(g:Gd X i P n c){caps:List Nat}{it:Own.It}{mt:Own.Tt}{me:Own.E}{elt iter:Expr}{x:Str}{px pos:Pos}{ifs:List Expr}{sc:Scope}(hcm:c.cm=true)(h1:ZU sc c.sc c.N x caps=true)(hk:sc.kind=.function)
  (hi:PI X (.Name x px) iter (tIt X i (Own.wF P n) it)) (hs:∀ y,foldedSetIterable iter X.env y=pure y)
  (hE:∀ cl C s H ex,PE (ZB X sc (Z3 X x caps) cl C s H ex) elt (tE0 i (Own.wF P n) me)) (hI:∀ cl C s H ex,PIfs (ZB X sc (Z3 X x caps) cl C s H ex) ifs (tT0 i (Own.wF P n) mt)) :
  PE X (.ListComp elt [⟨.Name x px,iter,ifs,0⟩] sc pos) (tE X i (Own.wF P n) (.comp caps 1 (.one 0) it mt me))∧
   ∀ (y:Str) (py spos:Pos) (j:Nat),X.N[j]?=some y→L2.Loc X.env.scope y→(X.fn y=true∨X.env.scope.names.lookup y=some .local)→swapsWith (.ListComp elt [⟨.Name x px,iter,ifs,0⟩] sc pos) (some (.Name y py)) spos.line X.env=pure true→PS X (.Assign [.Name y py] (.ListComp elt [⟨.Name x px,iter,ifs,0⟩] sc pos) spos) (tSt X i (Own.wF P n) (.set (.one j) (.comp caps 1 (.one 0) it mt me))):=by
 have B:=NK g.sc g.N hk h1;have hc:=g.calm hcm;refine⟨(MT hc B hi hI hE hs).imp Kd,fun y py spos j hj hl hf hsw=>?_⟩;refine(Ms (by rw[g.N];exact g.nd) hj hl hc B hi hI hE hs hsw hf).imp fun D σ H ⟨env,G,N,R,Bk,Ct,Xe,p,w,e⟩=>?_;rw[Own.q_s_set]at w;refine Kd σ H _ ⟨env,G,_,Xe env,p.pre,w,fun v G1 H1 x k1 g1 r1 w1=>?_⟩;obtain⟨env2,e2,w2⟩:=go_some w1;clear w1;cases e2;exact e.nx _ _ G1 H1 k1 g1 ((p.en.keep k1).set r1 j) w2
theorem NN{X:Cx}{c:Md}{j:Nat}(hN:X.N=c.N)(h:j<c.N.length):X.N[j]?=some (c.nmOf j):=by rw[hN];unfold Md.nmOf;rw[List.getD_eq_getElem?_getD,List.getElem?_eq_getElem h];rfl
theorem Cq{X:Cx}{c:Md}{m:Own.Tt}{x:Expr}(h:Ks m=false→PT X (toT m c x) (tTt X i (Own.wF P n) m)):PIfs X (toF m c x) (tT0 i (Own.wF P n) m):=by
 cases m with
 |yes=>exact BD
 |val e=>exact Ys (pt0 (h rfl))
 |not t=>exact Ys (pt0 (h rfl))
 |and a b=>exact Ys (pt0 (h rfl))
 |or a b=>exact Ys (pt0 (h rfl))
theorem WR(c:Md):∀ (es:Own.Es) (xs:List Expr),Xn es=true→(Yw (toA es c xs)).all (·.isSome)=true∧(Yw (toA es c xs)).length=(N6 (toA es c xs)).length∧2*(Yw (toA es c xs)).length=esL es
 |.nil,_,_=>⟨rfl,rfl,rfl⟩
 |.cons _ .nil,_,h=>by cases h
 |.cons k (.cons v r),xs,h=>by
  obtain⟨h1,h2,h3⟩:=WR c r xs.tail.tail h;refine⟨?_,?_,?_⟩
  ·show(true&&(Yw (toA r c xs.tail.tail)).all (·.isSome))=true;rw[h1];rfl
  ·show(Yw (toA r c xs.tail.tail)).length+1=(N6 (toA r c xs.tail.tail)).length+1;rw[h2]
  ·show 2*((Yw (toA r c xs.tail.tail)).length+1)=esL r+1+1;omega
mutual
theorem eE:∀ (m:Own.E) (X:Cx) (c:Md) (x:Expr),Gd X i P n c→okE m c x=true→PE X (toX m c x) (tE X i (Own.wF P n) m)
 |.cst v,X,c,x,g,h=>A0 h
 |.var j,X,c,x,g,h=>by have h:(decide (j<c.N.length)&&c.vis (c.nmOf j)&&nm (c.nmOf j))=true:=h;rw[bAq,bAq,decide_eq_true_eq]at h;obtain⟨q1,q2,_⟩:=MB h.2;exact CZ (NN g.N h.1.1) (g.vis h.1.2) q1 q2
 |.glob y v,X,c,x,g,h=>by have h:((c.gl (Str.ofString y)&&nm (Str.ofString y))&&decide (c.cs.lookup y=some v))=true:=h;rw[bAq,bAq,decide_eq_true_eq]at h;obtain⟨q1,q2,_⟩:=MB h.1.2;obtain⟨u,z,e1,e2,e3⟩:=g.cst _ _ h.2;exact BL (O8 (g.gl h.1.1) e1 e2 q1) e3
 |.bin o a b,X,c,x,g,h=>by have h:(okE a c (kid x 0)&&okE b c (kid x 1))=true:=h;rw[bAq]at h;exact D1 g (eE a X c _ g h.1) (eE b X c _ g h.2)
 |.neg a,X,c,x,g,h=>Cr (eE a X c _ g h)
 |.not a,X,c,x,g,h=>C8 (eE a X c _ g h)
 |.and a b,X,c,x,g,h=>by have h:(okE a c (kid x 0)&&okE b c (rest (Zy b) x)&&(!Zy b||(rest (Zy b) x).pos==x.pos))=true:=h;rw[bAq,bAq]at h;have h2:=Nk h.2 (eE b X c _ g h.1.2);obtain⟨y,ys,e⟩:=Wc (c:=c) (Zy b) (e:=b) (x:=rest (Zy b) x) (.inl rfl);show PE X (.BoolOp .And (toX a c (kid x 0)::Yd (Zy b) (toX b c (rest (Zy b) x))) x.pos) _;rw[e]at h2 ⊢;exact Dt (eE a X c _ g h.1.1) h2
 |.or a b,X,c,x,g,h=>by have h:(okE a c (kid x 0)&&okE b c (rest (ZR b) x)&&(!ZR b||(rest (ZR b) x).pos==x.pos))=true:=h;rw[bAq,bAq]at h;have h2:=Uj h.2 (eE b X c _ g h.1.2);obtain⟨y,ys,e⟩:=Wc (c:=c) (ZR b) (e:=b) (x:=rest (ZR b) x) (.inr rfl);show PE X (.BoolOp .Or (toX a c (kid x 0)::Yd (ZR b) (toX b c (rest (ZR b) x))) x.pos) _;rw[e]at h2 ⊢;exact Go (eE a X c _ g h.1.1) h2
 |.cmp o a b,X,c,x,g,h=>by have h:(okE a c (kid x 0)&&okE b c (kid x 1)&&(!Yx o||W1 b))=true:=h;rw[bAq,bAq]at h;exact(W7 g h.2 (eE a X c _ g h.1.1) (eE b X c _ g h.1.2)).1
 |.chain o1 o2 a b d,X,c,x,g,h=>by have h:(okE a c (kid x 0)&&okE b c (kid x 1)&&okE d c (kid x 2) && !Yx o1 && !Yx o2)=true:=h;rw[bAq,bAq,bAq,bAq,Bool.not_eq_true',Bool.not_eq_true']at h;obtain⟨⟨⟨⟨h1,h2⟩,h3⟩,h4⟩,h5⟩:=h;exact(Y8 g h4 h5 (eE a X c _ g h1) (eE b X c _ g h2) (eE d X c _ g h3)).1
 |.call f as,X,c,x,g,h=>by
  have h:((c.gl (Str.ofString f)&&nm (Str.ofString f))&&c.fs.contains f&&c.cm&&okA as c (sub x).tail)=true:=h;rw[bAq,bAq,bAq,bAq]at h;obtain⟨⟨⟨⟨h1,h2⟩,h3⟩,h4⟩,h5⟩:=h;obtain⟨q1,_,_⟩:=MB h2;have ha:=eA as X c _ g h5;cases as with
  |nil=>exact Ol g.K (g.dfs _ h3) (g.rm h4) (g.gl h1) q1
  |cons a as=>exact Ar g.K (g.dfs _ h3) (g.rm h4) (g.gl h1) q1 ha (ZZ ..) (Xo ..)
 |.make C as,X,c,x,g,h=>nomatch h
 |.meth C m o as,X,c,x,g,h=>nomatch h
 |.fld o f,X,c,x,g,h=>nomatch h
 |.bi f as,X,c,x,g,h=>by
  have h:((match O7 f with
    |some T=>decide (Zf as=1)&&kinds.contains T&&c.gl "isinstance" && c.gl (Str.ofString T)
    |none=>match OA f with
      |some Ts=>decide (Zf as=1)&&c.gl "isinstance" && !c.xs.isEmpty&&BE c Ts
      |none=>match N0 f with
        |some Ts=>decide (Zf as=1)&&c.gl "isinstance" && Ts.all (fun T=>kinds.contains T&&c.gl (Str.ofString T))&&decide (Ts.length≤20)
        | none=>if YA f then decide (Zf as=1)&&c.gl "len" && c.gl "set" && c.cm else if YY f then decide (Zf as=1)&&c.gl "list" && c.gl "range" && c.cm else if Wl f then decide (Zf as=1)&&c.gl "min" && c.cm else if J6 f then decide (Zf as=1)&&c.gl "dict" && c.gl "enumerate" && c.cm else Yq f&&c.gl (YE f)&&decide (Zf as≠0)&&(c.cm||YH f))&&okA as c (J7 f x))=true:=h
  rw[bAq]at h;cases z:O7 f with
  |some T =>
   have h1:=h.1;rw[z]at h1;rw[bAq,bAq,bAq,decide_eq_true_eq]at h1;obtain⟨⟨⟨h1,h2⟩,h3⟩,h4⟩:=h1;cases B9 z;cases as with
   |nil=>cases h1
   |cons a as=>cases as with
    |nil =>have h5:(okE a c _&&true)=true:=h.2;rw[bAq]at h5;exact Od g (List.contains_iff_mem.mp h2) h3 h4 (eE a X c _ g h5.1) (ZZ ..)
    |cons b as=>exact absurd h1 (by simp[Zf])
  |none =>
   have h1:=h.1;rw[z]at h1
   replace h1:(match OA f with
     |some Ts=>decide (Zf as=1)&&c.gl "isinstance" && !c.xs.isEmpty&&BE c Ts
     |none=>match N0 f with
       |some Ts=>decide (Zf as=1)&&c.gl "isinstance" && Ts.all (fun T=>kinds.contains T&&c.gl (Str.ofString T))&&decide (Ts.length≤20)
       | none=>if YA f then decide (Zf as=1)&&c.gl "len" && c.gl "set" && c.cm else if YY f then decide (Zf as=1)&&c.gl "list" && c.gl "range" && c.cm else if Wl f then decide (Zf as=1)&&c.gl "min" && c.cm else if J6 f then decide (Zf as=1)&&c.gl "dict" && c.gl "enumerate" && c.cm else Yq f&&c.gl (YE f)&&decide (Zf as≠0)&&(c.cm||YH f))=true:=h1
   cases zx:OA f with
   |some Ts=>cases zx
   |none =>
    rw[zx]at h1
    replace h1:(match N0 f with
      |some Ts=>decide (Zf as=1)&&c.gl "isinstance" && Ts.all (fun T=>kinds.contains T&&c.gl (Str.ofString T))&&decide (Ts.length≤20)
      | none=>if YA f then decide (Zf as=1)&&c.gl "len" && c.gl "set" && c.cm else if YY f then decide (Zf as=1)&&c.gl "list" && c.gl "range" && c.cm else if Wl f then decide (Zf as=1)&&c.gl "min" && c.cm else if J6 f then decide (Zf as=1)&&c.gl "dict" && c.gl "enumerate" && c.cm else Yq f&&c.gl (YE f)&&decide (Zf as≠0)&&(c.cm||YH f))=true:=h1
    cases zl:N0 f with
    |some Ts=>cases zl
    |none =>
     rw[zl]at h1;dsimp only at h1;split at h1
     ·rename_i hls;exact absurd (show false=true from hls) (by decide)
     split at h1
     ·rename_i _ hls;exact absurd (show false=true from hls) (by decide)
     split at h1
     ·rename_i _ _ hls;exact absurd (show false=true from hls) (by decide)
     split at h1
     ·rename_i _ _ _ hls;have hf:f=.dictEnum:=by cases f<;>first|rfl|cases hls
      subst hf;rw[bAq,bAq,bAq,decide_eq_true_eq]at h1;obtain⟨⟨⟨h1,h2⟩,h3⟩,h4⟩:=h1;cases as with
      |nil=>cases h1
      |cons a as=>cases as with
       |nil =>have h6:(okE a c _&&true)=true:=h.2;rw[bAq]at h6;exact JX (g.calm h4) g.K (eE a X c _ g h6.1) (g.gl h2) (g.bl _ (by simp[blts])) (g.gl h3) (g.bl _ (by simp[blts])) (by rw[ZZ];rfl)
       |cons b as=>exact absurd h1 (by simp[Zf])
     rw[bAq,bAq,bAq,decide_eq_true_eq]at h1;obtain⟨⟨⟨h1,h2⟩,h3⟩,h4⟩:=h1;have ha:=eA as X c _ g h.2;cases as with
     |nil=>exact absurd rfl h3
     |cons a as =>
      have e1:toX (.bi f (.cons a as)) c x=.Call (.Name (YE f) (kid x 0).pos) (toA (.cons a as) c (J7 f x)) [] x.pos:=by cases f<;>first|(cases h1;done)|rfl
      rw[e1];exact OX g h1 h4 (g.gl h2) ha (ZZ ..) (Xo ..)
 |.bm m o as,X,c,x,g,h=>nomatch h
 |.idx a b,X,c,x,g,h=>by have h:(okE a c (kid x 0)&&okE b c (kid x 1))=true:=h;rw[bAq]at h;exact DW (ix_seq.or (Uy (by have:=g.un;omega))) (by rw[g.K];exact DC) (eE a X c _ g h.1) (eE b X c _ g h.2) (Nb _ _ _)
 |.slc a lo hi,X,c,x,g,h=>by have h:(okE a c (kid x 0)&&okO lo c (kid (kid x 1) 0)&&okO hi c (kid (kid x 1) 1))=true:=h;rw[bAq,bAq]at h;exact CI FC (by rw[g.K];exact Cm) (eE a X c _ g h.1.1) (eO lo X c _ g h.1.2) (eO hi X c _ g h.2)
 |.tup es,X,c,x,g,h=>by have h:(okA es c (sub x)&&decide (Zf es≤1000))=true:=h;rw[bAq,decide_eq_true_eq]at h;exact D5 (by rw[WJ];exact h.2) (eA es X c _ g h.1)
 |.lst es,X,c,x,g,h=>by have h:(okA es c (sub x)&&decide (Zf es≤1000))=true:=h;rw[bAq,decide_eq_true_eq]at h;exact D3 (by rw[WJ];exact h.2) (eA es X c _ g h.1)
 |.dct es,X,c,x,g,h=>by
  have h:(okA es c (sub x)&&Xn es&&decide (esL es≤30))=true:=h;rw[bAq,bAq,decide_eq_true_eq]at h;obtain⟨⟨h1,h2⟩,h3⟩:=h;have hp:=eD es X c (sub x) x.pos g h1 h2;cases es with
  |nil=>exact Ca
  |cons k r=>cases r with
   |nil=>cases h2
   |cons v r =>obtain⟨q1,q2,q3⟩:=WR c (.cons k (.cons v r)) (sub x) h2;refine CS h2 h3 hp q1 q2 (by intro z;cases z) (by rw[←q3]at h3;omega)
 |.ife t a b,X,c,x,g,h=>nomatch h
 |.comp caps m p it t e,X,c,x,g,h=>by
  have h:(W8 m p&&c.cm&&ZU (scp x) c.sc c.N (nmX (kid x 1)) caps&&(scp x).kind == .function&&okI it c (kid x 2) false&&okE e (c.blk (scp x) (nmX (kid x 1)) caps) (kid x 0)&&(Ks t||okT t (c.blk (scp x) (nmX (kid x 1)) caps) (kid x 3)))=true:=h;rw[bAq,bAq,bAq,bAq,bAq,bAq]at h;obtain⟨⟨⟨⟨⟨⟨h1,h2⟩,h3⟩,h4⟩,h5⟩,h6⟩,h7⟩:=h;obtain⟨rfl,rfl⟩:=Ke h1;have hk:=eq_of_beq h4;exact(X9 g h2 h3 hk (eI it X c _ (.Name _ _) g false (by intro z;cases z) (fun _=>⟨_,_,rfl⟩) h5).1 (eI it X c _ (.Name (nmX (kid x 1)) (kid x 1).pos) g false (by intro z;cases z) (fun _=>⟨_,_,rfl⟩) h5).2
    (fun cl C s H ex=>pe0 (eE e _ _ _ (g.blk h3 hk cl C s H ex) h6)) (fun cl C s H ex=>Cq fun z=>(eT t _ _ _ (g.blk h3 hk cl C s H ex) (by rw[z]at h7;exact h7)).1)).1
 |.fstr es,X,c,x,g,h=>nomatch h
 |.repl _ _ _,X,c,x,g,h=>nomatch h
 |.split o a,X,c,x,g,h=>nomatch h
 |.rev a,X,c,x,g,h=>nomatch h
theorem eD:∀ (es:Own.Es) (X:Cx) (c:Md) (xs:List Expr) (pos:Pos),Gd X i P n c→okA es c xs=true→Xn es=true→PPs X pos (Yw (toA es c xs)) (N6 (toA es c xs)) (Kr X i (Own.wF P n) es)
 |.nil,X,c,xs,pos,g,h,he=>Uq
 |.cons k .nil,X,c,xs,pos,g,h,he=>by cases he
 |.cons k (.cons v r),X,c,xs,pos,g,h,he=>by have h:(okE k c (xs.headD dE)&&(okE v c (xs.tail.headD dE)&&okA r c xs.tail.tail))=true:=h;rw[bAq,bAq]at h;exact MM (eE k X c _ g h.1) (eE v X c _ g h.2.1) (eD r X c _ pos g h.2.2 he)
theorem eA:∀ (ms:Own.Es) (X:Cx) (c:Md) (xs:List Expr),Gd X i P n c→okA ms c xs=true→PA X (toA ms c xs) (tAr X i (Own.wF P n) ms (toA ms c xs).length)
 |.nil,X,c,xs,g,h=>AV
 |.cons a as,X,c,xs,g,h=>by have h:(okE a c (xs.headD dE)&&okA as c xs.tail)=true:=h;rw[bAq]at h;exact OE (eE a X c _ g h.1) (eA as X c _ g h.2) (ZZ ..)
theorem eJ:∀ (ms:Own.Es) (X:Cx) (c:Md) (xs:List Expr),Gd X i P n c→okJ ms c xs=true→PJ X (toJ ms c xs) (tJs X i (Own.wF P n) ms)
 |.nil,X,c,xs,g,h=>Bg
 |.cons a as,X,c,xs,g,h=>by
  have h:((K5 a||okE a c (kid (xs.headD dE) 0))&&okJ as c xs.tail)=true:=h;rw[bAq]at h;have hr:=eJ as X c _ g h.2;show PJ X ((if K5 a then toX a c (xs.headD dE)else .FormattedValue (toX a c (kid (xs.headD dE) 0)) (-1) none (xs.headD dE).pos)::toJ as c xs.tail) _;cases z:K5 a with
  |true =>obtain⟨s,rfl⟩:=F6 z;exact J3 AD hr rfl
  |false =>rw[z]at h;exact J3 (B8 (eE a X c _ g h.1)) hr rfl
theorem eO:∀ (m:Own.Oe) (X:Cx) (c:Md) (x:Expr),Gd X i P n c→okO m c x=true→PO X (toO m c x) (tOx X i (Own.wF P n) m)
 |.none,X,c,x,g,h=>Ul
 |.some e,X,c,x,g,h=>OW (eE e X c _ g h)
theorem eT:∀ (m:Own.Tt) (X:Cx) (c:Md) (x:Expr),Gd X i P n c→okT m c x=true→PT X (toT m c x) (tTt X i (Own.wF P n) m)∧((Zj m||Zu m)=true→PW X (toT m c x) (tTt X i (Own.wF P n) m))
 |.yes,X,c,x,g,h=>nomatch h
 |.val e,X,c,x,g,h=>by
  refine⟨?_,fun z=>(by cases z)⟩;have h:(okE e c x&&(JN e||Dc e))=true:=h;rw[bAq]at h;have he:=eE e X c x g h.1;cases z:JN e with
  |true=>exact AJ he (by cases e<;>first|(cases z;done)|exact fun _=>rfl) g.K
  |false =>
   have h2:=h.2;rw[z]at h2;cases e with
   |cmp o a b =>have h:(okE a c (kid x 0)&&okE b c (kid x 1)&&(!Yx o||W1 b))=true:=h.1;rw[bAq,bAq]at h;exact(W7 g h.2 (eE a X c _ g h.1.1) (eE b X c _ g h.1.2)).2
   |chain o1 o2 a b d =>have h:(okE a c (kid x 0)&&okE b c (kid x 1)&&okE d c (kid x 2) && !Yx o1 && !Yx o2)=true:=h.1;rw[bAq,bAq,bAq,bAq,Bool.not_eq_true',Bool.not_eq_true']at h;obtain⟨⟨⟨⟨h1,h2⟩,h3⟩,h4⟩,h5⟩:=h;exact(Y8 g h4 h5 (eE a X c _ g h1) (eE b X c _ g h2) (eE d X c _ g h3)).2
   |_=>cases h2
 |.not t,X,c,x,g,h=>⟨A2 (eT t X c _ g h).1,fun z=>(by cases z)⟩
 |.and a b,X,c,x,g,h=>by
  have h:(okT a c (kid x 0)&&okT b c (rest (Zj b) x)&&(!Zj b||(rest (Zj b) x).pos==x.pos))=true:=h;rw[bAq,bAq]at h;have h2:=eT b X c _ g h.1.2;obtain⟨y,ys,e,h3⟩:=Mi h.2 h2.1 h2.2;have h4:PW X (toT (.and a b) c x) (tTt X i (Own.wF P n) (.and a b)):=by show PW X (.BoolOp .And (toT a c (kid x 0)::Yd (Zj b) (toT b c (rest (Zj b) x))) x.pos) _;rw[e];exact Aw (eT a X c _ g h.1.1).1 h3
  exact⟨h4.pt,fun _=>h4⟩
 |.or a b,X,c,x,g,h=>by
  have h:(okT a c (kid x 0)&&okT b c (rest (Zu b) x)&&(!Zu b||(rest (Zu b) x).pos==x.pos))=true:=h;rw[bAq,bAq]at h;have h2:=eT b X c _ g h.1.2;obtain⟨y,ys,e,h3⟩:=ML h.2 h2.1 h2.2;have h4:PW X (toT (.or a b) c x) (tTt X i (Own.wF P n) (.or a b)):=by show PW X (.BoolOp .Or (toT a c (kid x 0)::Yd (Zu b) (toT b c (rest (Zu b) x))) x.pos) _;rw[e];exact Da (eT a X c _ g h.1.1).1 h3
  exact⟨h4.pt,fun _=>h4⟩
theorem eI:∀ (m:Own.It) (X:Cx) (c:Md) (x tg:Expr),Gd X i P n c→∀ (b:Bool),(b=true→∃ es k p,tg=.Tuple es k p)→(b=false→∃ y p,tg=.Name y p)→okI m c x b=true→PI X tg (toI m c x) (tIt X i (Own.wF P n) m)∧∀ y,foldedSetIterable (toI m c x) X.env y=pure y
 |.seq e,X,c,x,tg,g,b,t1,t2,h=>⟨BC g.K (eE e X c _ g h),AL _ _ _ _⟩
 |.chars e,X,c,x,tg,g,b,t1,t2,h=>nomatch h
 |.range a,X,c,x,tg,g,b,t1,t2,h=>by have h:(c.gl "range" && okE a c (kid x 1))=true:=h;rw[bAq]at h;exact⟨NB (g.gl h.1) (g.bl _ (by simp[blts])) (eE a X c _ g h.2) (ZZ ..),fun _=>rfl⟩
 |.range2 a d,X,c,x,tg,g,b,t1,t2,h=>nomatch h
 |.zip a d,X,c,x,tg,g,b,t1,t2,h=>nomatch h
 |.enum e,X,c,x,tg,g,b,t1,t2,h=>nomatch h
 |.items e,_,_,_,_,_,_,_,_,h=>nomatch h
 |.rev e,_,_,_,_,_,_,_,_,h=>nomatch h
end
theorem Mo{X:Cx}{c:Md}(g:Gd X i P n c){caps:List Nat}{m:Nat}{p:Own.Pt}{it:Own.It}{t:Own.Tt}{e:Own.E}{x:Expr}(h:okE (.comp caps m p it t e) c x=true) :
  PE X (toX (.comp caps m p it t e) c x) (tE X i (Own.wF P n) (.comp caps m p it t e))∧
   ∀ (y:Str) (py spos:Pos) (j:Nat),X.N[j]?=some y→L2.Loc X.env.scope y→(X.fn y=true∨X.env.scope.names.lookup y=some .local)→swapsWith (toX (.comp caps m p it t e) c x) (some (.Name y py)) spos.line X.env=pure true→PS X (.Assign [.Name y py] (toX (.comp caps m p it t e) c x) spos) (tSt X i (Own.wF P n) (.set (.one j) (.comp caps m p it t e))):=by
 have h:(W8 m p&&c.cm&&ZU (scp x) c.sc c.N (nmX (kid x 1)) caps&&(scp x).kind == .function&&okI it c (kid x 2) false&&okE e (c.blk (scp x) (nmX (kid x 1)) caps) (kid x 0)&&(Ks t||okT t (c.blk (scp x) (nmX (kid x 1)) caps) (kid x 3)))=true:=h;rw[bAq,bAq,bAq,bAq,bAq,bAq]at h;obtain⟨⟨⟨⟨⟨⟨h1,h2⟩,h3⟩,h4⟩,h5⟩,h6⟩,h7⟩:=h;obtain⟨rfl,rfl⟩:=Ke h1;have hk:=eq_of_beq h4;exact X9 g h2 h3 hk (eI it X c _ (.Name _ _) g false (by intro z;cases z) (fun _=>⟨_,_,rfl⟩) h5).1 (eI it X c _ (.Name (nmX (kid x 1)) (kid x 1).pos) g false (by intro z;cases z) (fun _=>⟨_,_,rfl⟩) h5).2
  (fun cl C s H ex=>pe0 (eE e _ _ _ (g.blk h3 hk cl C s H ex) h6)) (fun cl C s H ex=>Cq fun z=>(eT t _ _ _ (g.blk h3 hk cl C s H ex) (by rw[z]at h7;exact h7)).1)
end Snd
namespace Snd
open PySem L2
noncomputable def dS:Stmt:=.Pass ⟨0,0,0,0⟩
noncomputable def stE:Stmt→List Expr
 |.Assign ts v _=>v::ts
 |.AugAssign t _ v _=>[v,t]
 |.For t it _ _ _=>[t,it]
 |.While t _ _ _=>[t]
 |.If t _ _ _=>[t]
 |.Expr e _=>[e]
 |.Return (some e) _=>[e]
 |.Raise (some e) _ _=>[e]
 |_=>[]
noncomputable def ke (s:Stmt) (j:Nat):Expr:=(stE s).getD j dE
noncomputable def stB:Stmt→List Stmt
 |.For _ _ b _ _=>b
 |.While _ b _ _=>b
 |.If _ b _ _=>b
 |.Try b _ _ _ _=>b
 |_=>[]
noncomputable def stO:Stmt→List Stmt
 |.If _ _ b _=>b
 |_=>[]
noncomputable def stH:Stmt→List ExceptHandler
 |.Try _ hs _ _ _=>hs
 |_=>[]
noncomputable def dH:ExceptHandler:=.ExceptHandler none none [] ⟨0,0,0,0⟩
noncomputable def hT:ExceptHandler→Expr
 |.ExceptHandler (some e) _ _ _=>e
 |_=>dE
noncomputable def hB:ExceptHandler→List Stmt
 |.ExceptHandler _ _ b _=>b
noncomputable def hP:ExceptHandler→Pos
 |.ExceptHandler _ _ _ p=>p
noncomputable def Md.hot (c:Md):Md:={c with cm:=false}
noncomputable def F2 (t:Option Nat) (e:Own.E) (c:Md) (y:Stmt):Stmt:=match t with
 |none=>.Expr (toX e c (ke y 0)) y.pos
 |some j=>.Assign [.Name (c.nmOf j) (ke y 1).pos] (toX e c (ke y 0)) y.pos
mutual
noncomputable def toS:Own.S→Md→Stmt→Stmt
 |.set p a,c,s=>.Assign [toP p c (ke s 1)] (toX a c (ke s 0)) s.pos
 |.setIdx a j e,c,s=>.Assign [.Subscript (toX a c (kid (ke s 1) 0)) (toX j c (kid (ke s 1) 1)) (ke s 1).pos] (toX e c (ke s 0)) s.pos
 |.setPair a i b j e,c,s=>.Assign [.Tuple [.Subscript (toX a c (kid (kid (ke s 1) 0) 0)) (toX i c (kid (kid (ke s 1) 0) 1)) (kid (ke s 1) 0).pos,.Subscript (toX b c (kid (kid (ke s 1) 1) 0)) (toX j c (kid (kid (ke s 1) 1) 1)) (kid (ke s 1) 1).pos] (num (ke s 1)) (ke s 1).pos] (toX e c (ke s 0)) s.pos
 |.setFld o f e,c,s=>.Assign [.Attribute (toX o c (kid (ke s 1) 0)) (Str.ofString f) (ke s 1).pos] (toX e c (ke s 0)) s.pos
 |.augVar j op e,c,s=>.AugAssign (.Name (c.nmOf j) (ke s 1).pos) (MN op) (toX e c (ke s 0)) s.pos
 |.augFld o f op n,c,s=>.AugAssign (.Attribute (toX o c (kid (ke s 1) 0)) (Str.ofString f) (ke s 1).pos) (MN op) (.Constant (.int n) (num (ke s 0)) (ke s 0).pos) s.pos
 |.augIdx a j op n,c,s=>.AugAssign (.Subscript (toX a c (kid (ke s 1) 0)) (toX j c (kid (ke s 1) 1)) (ke s 1).pos) (MN op) (.Constant (.int n) (num (ke s 0)) (ke s 0).pos) s.pos
 |.expr e,c,s=>.Expr (toX e c (ke s 0)) s.pos
 |.ret e,c,s=>.Return (some (toX e c (ke s 0))) s.pos
 |.retN,_,s=>.Return none s.pos
 |.ite t a b,c,s=>.If (toT t c (ke s 0)) (toSs a c (stB s)) (toSs b c (stO s)) s.pos
 |.whl t b,c,s=>.While (toT t c (ke s 0)) (toSs b c (stB s)) [] s.pos
 |.for p it b,c,s=>.For (toP p c (ke s 0)) (toI it c (ke s 1)) (toSs b c (stB s)) [] s.pos
 |.forI true p e b,c,s=>.For (toP p c (ke s 0)) (toX e c (ke s 1)) (toSs b c (stB s)) [] s.pos
 |.forI false p e b,c,s=>.For (toP p c (ke s 0)) (.Call (.Attribute (toX e c (kid (kid (ke s 1) 0) 0)) "items" (kid (ke s 1) 0).pos) [] [] (ke s 1).pos) (toSs b c (stB s)) [] s.pos
 |.brk,_,s=>.Break s.pos
 |.cnt,_,s=>.Continue s.pos
 |.pass,_,s=>.Pass s.pos
 |.raise C as,c,s=>.Raise (some (.Call (.Name (Str.ofString C) (kid (ke s 0) 0).pos) (toA as c (sub (ke s 0)).tail) [] (ke s 0).pos)) none s.pos
 |.try t e hs,c,s=>.Try [F2 t e c ((stB s).headD dS)] (toH hs c (stH s)) [] [] s.pos
 |_,_,s=>s
noncomputable def toH:Own.Hn→Md→List ExceptHandler→List ExceptHandler
 |.nil,_,_=>[]
 |.cons K nm b r,c,xs=>.ExceptHandler (some (.Name (Str.ofString K) (hT (xs.headD dH)).pos)) (nm.map c.nmOf) (toSs b c.hot (hB (xs.headD dH))) (hP (xs.headD dH))::toH r c xs.tail
noncomputable def toSs:Own.Ss→Md→List Stmt→List Stmt
 |.nil,_,_=>[]
 |.cons m ms,c,xs=>toS m c (xs.headD dS)::toSs ms c xs.tail
end
noncomputable def GH:Own.E→Bool
 |.idx _ _=>true
 |.var _=>true
 |.fld _ _=>true
 |_=>false
noncomputable def KW (c:Md) (j:Nat):Bool:=decide (j<c.N.length)&&c.loc (c.nmOf j)
noncomputable def okP (p:Own.Pt) (c:Md):Bool:=match p with
 |.one j=>KW c j
 |.many js=>js.all (KW c)
 |.nest _ _=>false
noncomputable def ZI:Own.Pt→Bool
 |.one _=>true
 |_=>false
noncomputable def NG:Own.E→Bool
 |.tup _=>true
 |_=>false
noncomputable def F1:Own.E→Bool
 |.comp _ _ _ _ _ _=>true
 |_=>false
noncomputable def swT (c:Md) (tg v:Expr):Bool:=match v,tg with
 |.ListComp _ _ s pos,.Name t p=>(if c.sc.kind.isAnnotationScope then ScopeKind.function else c.sc.kind) == .function&&c.sc.names.lookup t==some .local&&p.line==pos.line && !(s.names.any fun(n,k)=>n==t&&(k == .local||k == .cell))
 |_,_=>false
noncomputable def Hz:Own.Bop→Bool
 |.add=>true
 |.sub=>true
 |_=>false
noncomputable def HH:Own.E→Md→Expr→Bool
 |.call f as,c,x=>c.gn f&&c.fs.contains f&&decide (Zf as≠0)&&okA as c (sub x).tail
 |_,_,_=>false
noncomputable def Gj (c:Md) (j:Nat):Bool:=decide (j<c.N.length)&&c.sc.names.lookup (c.nmOf j)==some .local
noncomputable def Gk (c:Md):Option Nat→Bool
 |none=>true
 |some j=>Gj c j
noncomputable def HI (c:Md):Option Nat→Bool
 |none=>true
 |some j=>KW c j
noncomputable def Dx:Own.Ss→Bool
 |.nil=>false
 |_=>true
noncomputable def C3:Own.Hn→Bool
 |.nil=>true
 |_=>false
mutual
noncomputable def okS:Own.S→Md→Stmt→Bool
 |.set p a,c,s=>okP p c&&okE a c (ke s 0)&&(ZI p || !NG a)&&(ZI p||c.cm)
 |.setIdx a j e,c,s=>okE e c (ke s 0)&&okE a c (kid (ke s 1) 0)&&okE j c (kid (ke s 1) 1)
 |.ret e,c,s=>okE e c (ke s 0)
 |.ite t a b,c,s=>okT t c (ke s 0)&&okSs a c (stB s)&&okSs b c (stO s)
 |.for p it b,c,s=>okP p c&&okI it c (ke s 1) (!ZI p)&&okSs b c (stB s)&&c.cm
 |.never,_,_=>true
 |_,_,_=>false
noncomputable def okH:Own.Hn→Md→List ExceptHandler→Bool
 |.nil,_,_=>false
 |.cons K nm b r,c,xs=>(c.xs.contains K||K == "ShutError")&&c.gn K && !c.xs.isEmpty&&Gk c nm&&Dx b&&okSs b c.hot (hB (xs.headD dH))&&C3 r
noncomputable def okSs:Own.Ss→Md→List Stmt→Bool
 |.nil,_,_=>true
 |.cons m ms,c,xs=>okS m c (xs.headD dS)&&okSs ms c xs.tail
end
structure Gs (X:Cx) (i:Inf) (P:Own.Pg) (n:Nat) (c:Md):Prop extends Gd X i P n c where
 fn:∀ x,c.loc x=true→X.fn x=true∨X.env.scope.names.lookup x=some .local
 own:c.cm=true→PassesOwn (model X.prog X.w) X.A X.env X.xe
 stk:c.cm=true→X.stack=X.env::X.outer
variable {X:Cx}{i:Inf}{P:Own.Pg}{n:Nat}{c:Md}
theorem Gs.nm1(g:Gs X i P n c){j:Nat}(h:KW c j=true):X.N[j]?=some (c.nmOf j)∧L2.Loc X.env.scope (c.nmOf j)∧(X.fn (c.nmOf j)=true∨X.env.scope.names.lookup (c.nmOf j)=some .local):=by unfold KW at h;rw[bAq,decide_eq_true_eq]at h;exact⟨NN g.N h.1,g.loc h.2,g.fn _ h.2⟩
theorem Ki(g:Gs X i P n c)(nd:X.N.Nodup)(f:Nat→Pos):∀ (js:List Nat) (k:Nat),js.all (KW c)=true→
  PGs X ((js.zipIdx k).map fun p=>.Name (c.nmOf p.1) (f p.2)) (Oa i js)∧(assignEach ((js.zipIdx k).map fun p=>.Name (c.nmOf p.1) (f p.2)) X.env).length=js.length∧(assignEach ((js.zipIdx k).map fun p=>.Name (c.nmOf p.1) (f p.2)) X.env).findIdx? (·.1)=none
 |[],_,_=>⟨Om,rfl,rfl⟩
 |j::js,k,h=>by
  rw[List.all_cons,bAq]at h;obtain⟨h1,h2,h3⟩:=g.nm1 h.1;obtain⟨a1,a2,a3⟩:=Ki g nd f js (k+1) h.2;rw[List.zipIdx_cons,List.map_cons];refine⟨Nu nd h1 h2 h3 a1 rfl,?_,?_⟩
  ·show(assignEach ((js.zipIdx (k+1)).map _) X.env).length+1=js.length+1;rw[a2]
  ·show List.findIdx? (·.1) ((false,assign (.Name (c.nmOf j) (f k)) X.env)::assignEach _ X.env)=none;rw[List.findIdx?_cons];simp[a3]
theorem UL(g:Gs X i P n c)(hcm:c.cm=true){p:Own.Pt}{x:Expr}(h:okP p c=true):PG X (toP p c x) (gPt i p):=by
 have nd:X.N.Nodup:=by rw[g.N];exact g.nd
 cases p with
 |one j =>obtain⟨h1,h2,h3⟩:=g.nm1 h;exact N5 nd h1 h2 h3
 |many js =>obtain⟨a1,a2,a3⟩:=Ki g nd (fun k=>(kid x k).pos) js 0 h;exact O0 g.K (g.calm hcm) a1 a2 a3
 |nest j js=>cases h
theorem WL{l:Nat}{env:Env}{tg:Expr}(a:Own.E)(x:Expr)(hs:env.scope=c.sc):swapsWith (toX a c x) (some tg) l env=pure (swT c tg (toX a c x)):=by
 cases a with
 |comp caps m p it t e =>
  cases tg with
  |Name t q =>unfold swapsWith swT Env.blockKind Env.kindOf;rw[hs];rfl
  |_=>rfl
 |_=>rfl
theorem B2(p:Own.Pt)(a:Own.E)(x y:Expr)(env:Env)(h:(ZI p || !NG a)=true):swappedStores [toP p c x] (toX a c y) env=pure none:=by
 cases p with
 |one j=>cases a<;>rfl
 |many js=>cases a<;>first|rfl|cases h
 |nest j js=>cases a<;>first|rfl|cases h
theorem Nx(p:Own.Pt)(x:Expr)(env:Env):(assignEach [toP p c x] env).map (·.2)=[assign (toP p c x) env]:=by cases p<;>rfl
theorem BV{a:Own.E}{tg x:Expr}(h:swT c tg (toX a c x)=true):∃ caps m p it t e,a=.comp caps m p it t e:=by
 cases a with
 |comp caps m p it t e=>exact⟨_,_,_,_,_,_,rfl⟩
 |_=>cases h
theorem Ue(y:Own.E){x b:Expr}{pos:Pos}{env:Env}:∀ v,assign (.Subscript b (toX y c x) pos) env v=(do
    let ov←holding [v] (eval b env)
    let iv←holding [v,ov] (eval (toX y c x) env)
    standAt pos
    holding [v,ov,iv] (setItem ov iv v)
    release [v,ov,iv] []):=by
 intro v;cases y<;>rfl
theorem Au(p:Own.Pt)(x:Expr):((!ZI p)=true→∃ es k q,toP p c x=.Tuple es k q)∧((!ZI p)=false→∃ y q,toP p c x=.Name y q):=by
 cases p with
 |one j=>exact⟨fun z=>(by cases z),fun _=>⟨_,_,rfl⟩⟩
 |many js=>exact⟨fun _=>⟨_,_,_,rfl⟩,fun z=>(by cases z)⟩
 |nest j js=>exact⟨fun _=>⟨_,_,_,rfl⟩,fun z=>(by cases z)⟩
end Snd
namespace Snd
open PySem L2
variable {X:Cx}{i:Inf}{P:Own.Pg}{n:Nat}{c:Md}
theorem PGet.or{r r':R2}(h:PGet X r)(h':PGet X r'):PGet X (fun x y H Q=>r x y H Q∨r' x y H Q):=fun pins s σ H o j ov jv Q I ro rj q=>by
 rcases q with q|q
 ·exact h pins s σ H o j ov jv Q I ro rj q
 ·exact h' pins s σ H o j ov jv Q I ro rj q
end Snd
namespace Snd
open PySem L2
variable {X:Cx}{i:Inf}{P:Own.Pg}{n:Nat}{c:Md}
theorem Ou(t v:Expr)(p:Pos)(env:Env)(h:(∃ a b q,t=.Subscript a b q)∨(∃ a b q,t=.Attribute a b q)):swappedStores [t] v env=pure none:=by rcases h with⟨a,b,q,rfl⟩|⟨a,b,q,rfl⟩<;>rfl
theorem BX{a:Own.E}{tg x:Expr}(h:∀ y q,tg≠.Name y q):swT c tg (toX a c x)=false:=by
 cases a with
 |comp caps m p it tt e =>
  cases tg with
  |Name y q=>exact absurd rfl (h y q)
  |_=>rfl
 |_=>rfl
theorem BJ(g:Gs X i P n c){p:Own.Pt}{x:Expr}(hc:(ZI p||c.cm)=true)(h:okP p c=true):PG X (toP p c x) (gPt i p):=by
 by_cases hcm:c.cm=true
 ·exact UL g hcm h
 ·cases p with
  |one j =>obtain⟨h1,h2,h3⟩:=g.nm1 h;exact N5 (by rw[g.N];exact g.nd) h1 h2 h3
  |many js=>exact absurd hc hcm
  |nest j js=>cases h
noncomputable def tB0 (i:Inf) (Φ:Own.Fs) (m:Own.Ss):TS:=fun D σ H=>∃ env G N R B C,REn i.K H env σ∧RH i G H∧Own.wSs Φ m env G N R B C (fun _ _ _=>False)∧EOk i H D N R B C
noncomputable def tCx (i:Inf) (Φ:Own.Fs) (m:Own.E):St→Hp→VK→XK→Prop:=fun σ H Q E=>∃ env G Qm Em,REn i.K H env σ∧RH i G H∧Own.wC Φ m env G Qm Em∧Cn i H Q Qm∧∀ cls d H',XK1 i H Em cls d H'→E cls d H'
theorem Gd.nox(g:Gd X i P n c):Gd X.nox i P n c :=
 ⟨g.K,g.N,g.sc,g.nd,g.un,g.calm,g.room,g.bl,g.dfs,g.cst,⟨g.kl.A,g.kl.F,g.kl.mkc,g.kl.mth⟩,fun h=>⟨(g.xl h).xc,(g.xl h).rs,(g.xl h).kn⟩⟩
theorem Gs.hot(g:Gs X i P n c)(a:Addr):Gs (X.caught a) i P n c.hot :=
 {K:=g.K,N:=g.N,sc:=g.sc,nd:=g.nd,un:=g.un,calm:=fun z=>(by cases z),room:=fun z=>(by cases z),bl:=g.bl,dfs:=g.dfs,cst:=g.cst,kl:=⟨g.kl.A,g.kl.F,g.kl.mkc,g.kl.mth⟩,xl:=fun h=>⟨(g.xl h).xc,(g.xl h).rs,(g.xl h).kn⟩,fn:=g.fn,own:=fun z=>(by cases z),stk:=fun z=>(by cases z)}
mutual
theorem sS:∀ (m:Own.S) (X:Cx) (c:Md) (s:Stmt),Gs X i P n c→okS m c s=true→PS X (toS m c s) (tSt X i (Own.wF P n) m)
 |.set p a,X,c,s,g,h=>by
  have h:(okP p c&&okE a c (ke s 0)&&(ZI p || !NG a)&&(ZI p||c.cm))=true:=h;rw[bAq,bAq,bAq]at h;obtain⟨⟨⟨h1,h2⟩,h3⟩,h4⟩:=h;by_cases hsw:swT c (toP p c (ke s 1)) (toX a c (ke s 0))=true
  ·obtain⟨caps,k,pt,it,tt,e,rfl⟩:=BV hsw;cases p with
   |one j =>obtain⟨q1,q2,q3⟩:=g.nm1 h1;exact(Mo g.toGd h2).2 _ _ _ j q1 q2 q3 (by rw[←hsw];exact WL (c:=c) (.comp caps k pt it tt e) (ke s 0) g.sc)
   |many js=>cases hsw
   |nest j js=>cases hsw
  ·have hp:PG X (toP p c (ke s 1)) (gPt i p):=BJ g h4 h1;exact AU (eE a X c _ g.toGd h2) hp (by rw[swapsWithSole,WL a _ g.sc,Bool.eq_false_iff.mpr hsw]) (B2 p a _ _ _ h3) (Nx p _ _)
 |.setIdx a j e,X,c,s,g,h=>by have h:(okE e c (ke s 0)&&okE a c (kid (ke s 1) 0)&&okE j c (kid (ke s 1) 1))=true:=h;rw[bAq,bAq]at h;have ha:=eE a X c _ g.toGd h.1.2;have hj:=eE j X c _ g.toGd h.2;exact KP g.K (eE e X c _ g.toGd h.1.1) ha hj (A1 ha hj (PSet.or NP (Nl (by have:=g.un;omega))) (Ue j)) (by rw[swapsWithSole,WL e _ g.sc,BX (fun y q z=>(by cases z))]) (Ou _ _ (ke s 1).pos _ (.inl ⟨_,_,_,rfl⟩)) rfl
 |.setPair a j b k e,X,c,s,g,h=>nomatch h
 |.setFld o f e,X,c,s,g,h=>nomatch h
 |.augVar j op e,X,c,s,g,h=>nomatch h
 |.augFld o f op k,X,c,s,g,h=>nomatch h
 |.expr e,X,c,s,g,h=>nomatch h
 |.ret e,X,c,s,g,h=>AF (eE e X c _ g.toGd h)
 |.retN,X,c,s,g,h=>nomatch h
 |.ite t a b,X,c,s,g,h=>by have h:(okT t c (ke s 0)&&okSs a c (stB s)&&okSs b c (stO s))=true:=h;rw[bAq,bAq]at h;exact A4 (eT t X c _ g.toGd h.1.1).1 (sSs a X c _ g h.1.2) (sSs b X c _ g h.2)
 |.whl t b,X,c,s,g,h=>nomatch h
 |.for p it b,X,c,s,g,h=>by have h:(okP p c&&okI it c (ke s 1) (!ZI p)&&okSs b c (stB s)&&c.cm)=true:=h;rw[bAq,bAq,bAq]at h;obtain⟨⟨⟨h1,h2⟩,h3⟩,h4⟩:=h;obtain⟨t1,t2⟩:=Au (c:=c) p (ke s 0);obtain⟨a1,a2⟩:=eI it X c (ke s 1) (toP p c (ke s 0)) g.toGd (!ZI p) t1 t2 h2;exact AX (g.own h4) (g.calm h4) a1 (UL g h4 h1) (sSs b X c _ g h3) a2
 |.forI true p e b,X,c,s,g,h=>nomatch h
 |.forI false p e b,X,c,s,g,h=>nomatch h
 |.never,X,c,s,g,h=>Nr
 |.brk,X,c,s,g,h=>nomatch h
 |.cnt,X,c,s,g,h=>nomatch h
 |.pass,X,c,s,g,h=>nomatch h
 |.raise C as,X,c,s,g,h=>nomatch h
 |.try t e (.cons K nm b .nil),X,c,s,g,h=>nomatch h
 |.try t e (.cons K nm b (.cons _ _ _ _)),X,c,s,g,h=>nomatch h
 |.try t e .nil,X,c,s,g,h=>nomatch h
 |.augIdx a j op k,X,c,s,g,h=>nomatch h
theorem sSs:∀ (ms:Own.Ss) (X:Cx) (c:Md) (xs:List Stmt),Gs X i P n c→okSs ms c xs=true→PSs X (toSs ms c xs) (tBl X i (Own.wF P n) ms)
 |.nil,X,c,xs,g,h=>BF
 |.cons m ms,X,c,xs,g,h=>by have h:(okS m c (xs.headD dS)&&okSs ms c xs.tail)=true:=h;rw[bAq]at h;exact Ui (sS m X c _ g h.1) (sSs ms X c _ g h.2)
end
end Snd
namespace Snd
open PySem L2
noncomputable def JO (N ps:List Str) (sc:Scope):Bool :=
 sc.kind == .function && !sc.isCoroutine && !sc.isGenerator&&decide N.Nodup&&(N.take ps.length==ps)&&ps.all (fun x=>sc.names.lookup x==some .local||sc.names.lookup x==some .cell)&&sc.names.all fun y=>y.2 != .free
theorem Ep{N ps:List Str}{sc:Scope}(h:JO N ps sc=true):FnScope N ps sc:=by
 simp only[JO,bAq,Bool.not_eq_true',decide_eq_true_eq,List.all_eq_true]at h;obtain⟨⟨⟨⟨⟨⟨h1,h2⟩,h3⟩,h4⟩,h5⟩,h6⟩,h7⟩:=h;refine⟨eq_of_beq h1,h2,h3,h4,eq_of_beq h5,fun x hx=>?_,fun y hy=>?_⟩
 ·simpa using h6 x hx
 ·simpa using h7 y hy
structure Ds where
 st:Stmt
 N:List Str
 ps:List Str
 d:Own.Fn
structure Mt where
 C:String
 m:String
 qual:String
 x:Ds
structure Tb where
 fs:List (String×Ds)
 ms:List Mt
 cs:List (String×Own.Val)
 cl:List String
 fl:List String
 xs:List String
noncomputable def Tb.md (T:Tb) (x:Ds):Md:={N:=x.N,sc:=Zi x.st,cs:=T.cs,fs:=T.fs.map (·.1),cm:=true,cl:=T.cl,ms:=T.ms.map fun y=>(y.C,y.m),fl:=T.fl,xs:=T.xs}
noncomputable def Ds.test (T:Tb) (x:Ds):Bool :=
 JO x.N x.ps (Zi x.st)&&okSs x.d.body (T.md x) (Zx x.st)&&x.ps.length==x.d.ar&&x.N.length==x.d.sz&&decide (x.d.ar≤x.d.sz)
structure Ds.Ok (T:Tb) (x:Ds):Prop where
 ok:x.test T=true
 eq:toSs x.d.body (T.md x) (Zx x.st)=Zx x.st
variable {pr:Program}{wd:World}{mg:Str→Option Value}{base:Heap}{i:Inf}{P:Own.Pg}{T:Tb}
noncomputable def Dst (K:PySem.W.Frag) (mg:Str→Option Value) (f:String) (x:Ds):Prop:=∃ fa fd qual,Fun K (Str.ofString f) qual x.st fa fd∧mg (Str.ofString f)=some (.ref fa)∧Binds K fd x.ps []
structure Mst (i:Inf) (mg:Str→Option Value) (y:Mt) (a fa:Addr):Prop where
 cl:mg (Str.ofString y.C)=some (.ref a)
 fn:∃ fd,Fun i.K (Str.ofString y.m) (Str.ofString y.qual) y.x.st fa fd∧Binds i.K fd y.x.ps []
 at_:Meth i.K a (Str.ofString y.m) fa
theorem Kz{f:String}{fa:Addr}{fd:FuncData}{ps:List Str}:FnOk pr wd i.K mg base (CX1 pr wd) 0 fa fd ps (spF i P 0 f):=by
 refine⟨fun vs H Q E h=>?_,fun A outer s H args us vs Q E hr he hb hv h=>?_⟩
 ·obtain⟨_,_,_,_,_,_,w,_⟩:=h;rw[Own.wF_eq]at w;exact w.elim
 ·obtain⟨_,_,_,_,_,_,w,_⟩:=h;rw[Own.wF_eq]at w;exact w.elim
theorem NU{n:Nat}{f:String}{vs:List Own.Val}{h:Own.Hs}{Q:Own.Q1}{E:Own.XQ}(q:Own.wF P (n+1) f vs h Q E):∃ d,P f=some d∧vs.length=d.ar∧Own.wSs (Own.wF P n) d.body (d.env vs) h (fun _ g=>Q .non g) Q (fun _ _=>False) (fun _ _=>False) fun _ c g=>E c g:=by rw[Own.wF_eq]at q;obtain⟨d,e,q1,q2⟩:=go_some q;exact⟨d,e,q1,by rw[Own.wF_eq];exact q2⟩
structure Modu (mg:Str→Option Value) (base:Heap) (i:Inf) (T:Tb):Prop where
 bl:∀ x∈blts,mg x=none
 cst:∀ x v,T.cs.lookup x=some v→∃ u y,mg (Str.ofString x)=some u∧RelV y u∧∀ H,RV i.K H v y
 A:ClsA i
 F:∀ f,T.fl.contains f=true→FldOk i f
 cl:∀ C a,i.cl C a→mg (Str.ofString C)=some (.ref a)
 mkc:∀ C,T.cl.contains C=true→∃ a y f,i.ins C=true∧i.cl C a∧Mk i.K a f∧y∈T.ms∧y.C=C∧y.m = "__init__"∧Mst i mg y a f
 fs:∀ f x,(f,x)∈T.fs→Dst i.K mg f x
 ms:∀ y,y∈T.ms→∃ a f,Mst i mg y a f∧Cls i.K a
 xc:T.xs≠[]→∀ C a,i.xc C a→XCls i.K a∧PySem.W.kitOne i.K (.ref a) (.type "ValueError")=some true
 rs:T.xs≠[]→∀ C,T.xs.contains C=true→∃ a,i.xc C a∧PyProof.Rows.OwnCls (Str.ofString C) a [.type "ValueError",.type "Exception",.type "BaseException",.type "object"] "ValueError.__new__" mg base
 kn:T.xs≠[]→∀ T',(T.xs.contains T'||T' == "ShutError")=true→∃ D,mg (Str.ofString T')=some (.ref D)∧∀ C a,i.xc C a→PySem.W.kitOne i.K (.ref a) (.ref D)=some (Own.excSub C T')∧(Own.excSub C T'=true→PySem.W.exmOne i.K (.ref a) (.ref D)=some true)
structure Held (pr:Program) (wd:World) (mg:Str→Option Value) (base:Heap) (i:Inf) (P:Own.Pg) (T:Tb) (n:Nat):Prop where
 fs:∀ f x,(f,x)∈T.fs→Dfo pr wd mg base i P n f
 ms:∀ y a f,y∈T.ms→Mst i mg y a f→Dfm pr wd mg base i P n (y.C ++ "." ++ y.m) f
theorem fn_succ{n:Nat}{f:String}{x:Ds}{fa:Addr}{fd:FuncData}{nm qual:Str}(M:Modu mg base i T)(hn:Held pr wd mg base i P T n)(F:Fun i.K nm qual x.st fa fd)(hP:P f=some x.d)(ht:x.Ok T):FnOk pr wd i.K mg base (CX1 pr wd) (2*(n+1)) fa fd x.ps (spF i P (n+1) f):=by
 obtain⟨ht,heq⟩:=ht;simp only[Ds.test,bAq,decide_eq_true_eq]at ht;obtain⟨⟨⟨⟨h1,h2⟩,h3⟩,h4⟩,h5⟩:=ht;have h3:=eq_of_beq h3;have h4:=eq_of_beq h4;have S:=Ep h1;refine F.ok1 (k:=2*n+1) S (fun vs H Q E h=>?_) (fun cdv A outer s H vs Q E hr hsp hw=>?_)
 ·obtain⟨args,G,Qm,Em,r,g,w,_⟩:=h;obtain⟨d,e,q,_⟩:=NU w;rw[hP]at e;cases e;rw[←r.length,q,h3]
 ·obtain⟨args,G,Qm,Em,r,g,w,cn,ex⟩:=hsp;obtain⟨d,e,q,w⟩:=NU w;rw[hP]at e;cases e;have gd:Gs (XG (CX1 pr wd) pr wd i.K mg base x.N qual (Zi x.st) fa cdv A outer s H E) i P n (T.md x) :=
   { K:=rfl,N:=rfl,sc:=rfl,nd:=S.nd,un:=(by have:=hr.un;show(A.deeper _).units+200<cLine;omega),calm:=fun _=>rfl,room:=fun _=>hr,bl:=M.bl
     dfs:=fun g hg=>(by
       obtain⟨p,hy,e⟩:=List.mem_map.mp (List.contains_iff_mem.mp hg)
       subst e
       exact hn.fs p.1 p.2 hy)
     cst:=M.cst
     kl:=⟨M.A,M.F,fun C hC=>(by
       obtain⟨a,y,f,q1,q2,q3,q4,rfl,q6,q7⟩:=M.mkc C hC
       refine⟨a,f,q1,q2,q3,M.cl _ _ q2,?_⟩
       have:=hn.ms y a f q4 q7
       rw[q6]at this
       rwa [show y.C ++ ".__init__" = y.C ++ "." ++ "__init__" by rw[String.append_assoc];rfl]),fun C m hC=>(by
       obtain⟨y,hy,e⟩:=List.mem_map.mp (List.contains_iff_mem.mp hC)
       cases e
       obtain⟨a,f,q1,q2⟩:=M.ms y hy
       refine⟨a,f,fun b hb=>?_,q2,q1.at_,hn.ms y a f hy q1⟩
       have e1:=M.cl _ _ hb
       rw[q1.cl]at e1
       cases e1
       rfl)⟩
     xl:=fun h=>⟨M.xc h,M.rs h,M.kn h⟩
     fn:=fun _ _=>.inl rfl
     own:=fun _=>PassesOwn.leaving
     stk:=fun _=>rfl }
  have hb:=sSs x.d.body _ _ _ gd h2;rw[heq]at hb;refine⟨_,hb,?_⟩;refine⟨x.d.env args,G,(fun _ g=>Qm .non g),Qm,(fun _ _=>False),(fun _ _=>False),(fun _ c g=>Em c g),?_,w,?_⟩
  ·refine⟨?_,g,?_⟩
   ·have:=REn.start (n:=x.d.sz - x.d.ar) r;unfold L2.start;have e1:x.N.length - vs.length=x.d.sz - x.d.ar:=by rw[h4,←r.length,q]
    rw[e1];exact this
   ·intro pins σ H0 s0 H' a cls s' I fl hx;obtain⟨e,c,G',ad,q1,q2,q3,q4,q5⟩:=hx;exact hw pins σ H0 s0 H' a cls s' I fl (ex _ _ _ ⟨c,G',ad,q1,q2,q3,q4,q5⟩)
  ·refine⟨?_,?_,?_,?_⟩
   ·intro env' σ' G' H' k g' e w';exact cn .non G' H' .non k g' .non w'
   ·intro v G' H' y k g' rv w';exact cn v G' H' y k g' rv w'
   ·intro _ _ _ _ _ _ _ z;exact z.elim
   ·intro _ _ _ _ _ _ _ z;exact z.elim
theorem held_all (M:Modu mg base i T) (hP:∀ f x,(f,x)∈T.fs→P f=some x.d) (hPm:∀ y,y∈T.ms→P (y.C ++ "." ++ y.m)=some y.x.d) (ht:∀ f x,(f,x)∈T.fs→x.Ok T) (htm:∀ y,y∈T.ms→y.x.Ok T):∀ n,Held pr wd mg base i P T n:=by
 intro n;induction n with
 |zero =>
  refine⟨fun f x h=>?_,fun y a f hy S=>?_⟩
  ·obtain⟨fa,fd,qual,F,hm,hb⟩:=M.fs f x h;exact⟨fa,fd,x.ps,Kz,hm,F.kp,hb⟩
  ·obtain⟨fd,F,hb⟩:=S.fn;exact⟨fd,y.x.ps,Kz,hb⟩
 |succ n ih =>
  refine⟨fun f x h=>?_,fun y a f hy S=>?_⟩
  ·obtain⟨fa,fd,qual,F,hm,hb⟩:=M.fs f x h;exact⟨fa,fd,x.ps,fn_succ M ih F (hP f x h) (ht f x h),hm,F.kp,hb⟩
  ·obtain⟨fd,F,hb⟩:=S.fn;exact⟨fd,y.x.ps,fn_succ M ih F (hPm y hy) (htm y hy),hb⟩
end Snd
namespace Hd
open PySem PySem.W PyProof.Rows
noncomputable def Y2 (st:SharedT→Thread→Option (SharedT×Thread)) (ok th:Thread→Bool):Nat→SharedT→Thread→Option SharedT
 |0,_,_=>none
 |n+1,s,t=>match th t with
  |true=>some s
  |false=>match ok t with
   |false=>none
   |true=>match st s t with
    |some (s',t')=>Y2 st ok th n s' t'
    |none=>none
theorem Xl{tb:String→Option Builtin}{p:Program}{w:World}{n₀:Nat}{ann:Option Value}:∀ {n:Nat}{s s':SharedT}{t:Thread},Y2 (stepT (denote tb) p w) (stepOk n₀ ann) through n s t=some s'→topRun tb p w n₀ ann n s.abs t=some s'.abs
 |0,_,_,_,h=>by cases h
 |n+1,s,s',t,h=>by
  unfold Y2 at h;unfold topRun;cases ht:through t with
  |true=>rw[ht]at h;cases h;rfl
  |false =>
   rw[ht]at h;dsimp only at h ⊢;cases hk:stepOk n₀ ann t with
   |false=>rw[hk]at h;cases h
   |true =>
    rw[hk]at h;dsimp only at h ⊢;cases hs:stepT (denote tb) p w s t with
    |none=>rw[hs]at h;cases h
    |some r =>obtain⟨s2,t2⟩:=r;rw[hs]at h;rw[stepT_spec hs];exact Xl h
noncomputable def Xz (P:Params):BT :=
 .node (boot_o_0 P) (.node (boot_o_1 P) (.node (boot_o_3 P) (.node (boot_o_7 P) .nil .nil) .nil) (.node (boot_o_5 P) (.node (boot_o_9 P) .nil .nil) .nil))
  (.node (boot_o_2 P) (.node (boot_o_4 P) (.node (boot_o_8 P) .nil .nil) .nil) (.node (boot_o_6 P) (.node (boot_o_10 P) .nil .nil) .nil))
theorem Mv(P:Params):absHeap (Xz P) 11 {}=boot_heap P:=by kernel_rfl
theorem K4 (P:Params):((boot_heap P).isNs mainGlobals&&(Array.mk []:Array GenState).size==0,(boot_heap P).objs.size,(boot_heap P).nsMap mainGlobals "__annotations__")=(true,11,some (.ref 6)):=by
 rw[show @Heap.nsMap=_ from Fast.te8920871248978507458]
 kernel_rfl
noncomputable def Ac:=Fast.tw10156331382660048174
noncomputable def Kp:=Fast.tw11892475500146522536
noncomputable def NV:=Fast.tw14364793385576792824
noncomputable def okY:=Fast.tw6613529449190102663
noncomputable def UN:=Fast.tw4187177175401517315
noncomputable def Nv:=Fast.tw5923862056798008813
noncomputable def Kv {α:Type}(p q:Program) (loose:List Str) (Xt:Shared→Bool) (Yf:Shared→α) (h0:Heap) (s:SharedT) :=
 ((staticsOk (Nv p.main.body) h0 s.abs.heap&&namesBound p s.abs.heap&&gensDone s.abs&&laidKept h0 s.abs.heap),UN q loose (Nv p.main.body) Xt true s.abs,Yf s.abs)
theorem left_of{p q:Program}{loose:List Str}{Xt:Shared→Bool}{α:Type}{Yf:Shared→α}{Ya:World→α}{N:Nat}(e:opening p=plainProg p.main.scope.names)(hN:Nat.ble 600 N=true)(f:∀ s,fenceModules? p s=some s)
  (one:∀ (w:World) (os:OsState),(Y2 (Ac (Kp NV) p w) (okY 11 (some (.ref 6))) through N ⟨Xz w.params,11,{},Array.mk [],boot_drawn,boot_toks,os⟩ (topStub p)).map (Kv p q loose Xt Yf (boot_heap w.params))=some (true,openGood q loose,Ya w)) :
  LeftO p q loose Xt Yf Ya N:=by
 intro w;obtain⟨⟨h,gs,d,k,os⟩,e1,e2⟩:=Option.map_eq_some_iff.mp (boot_open e hN f w);obtain⟨rfl,rfl,rfl,rfl⟩:h=boot_heap w.params∧gs=Array.mk []∧d=boot_drawn∧k=boot_toks:=by simpa using e2
 obtain⟨s,r,z⟩:=Option.map_eq_some_iff.mp (one w os);obtain⟨z1,z2,z3⟩:_∧_∧_:=by simpa only[Prod.mk.injEq]using K4 w.params
 obtain⟨l1,l2,l3⟩:_∧_∧_:=by simpa only[Kv,Prod.mk.injEq]using z
 unfold Ac Kp NV okY at r;rw[←Fast.te10156331382660048174,←Fast.te11892475500146522536,←Fast.te14364793385576792824,←Fast.te6613529449190102663]at r;unfold Nv at l1 l2;unfold UN at l2;rw[←Fast.te5923862056798008813]at l1 l2;rw[←Fast.te4187177175401517315]at l2;have r2:=Xl r;have ea:(SharedT.mk (Xz w.params) 11 {} (Array.mk []) boot_drawn boot_toks os).abs=⟨boot_heap w.params,Array.mk [],boot_drawn,boot_toks,os⟩:=by show Shared.mk (absHeap _ _ _) _ _ _ _=_;rw[Mv]
 rw[ea]at r2;have t:topFrom treeTable p w N ⟨boot_heap w.params,Array.mk [],boot_drawn,boot_toks,os⟩=some s.abs:=by unfold topFrom;dsimp only;rw[z1,z2,z3,r2];show(match staticsOk (importedModules p.main.body) (boot_heap w.params) s.abs.heap&&namesBound p s.abs.heap&&gensDone s.abs&&laidKept (boot_heap w.params) s.abs.heap with|true=>_|false=>_)=_;rw[l1]
 unfold openEnds;rw[e1];show(topFrom treeTable p w N _).map _=_;rw[t];exact congrArg some (Prod.ext l2 l3)
end Hd
namespace Hd
open PySem PySem.W PyProof.Rows L2
noncomputable def XN:Nat→List Obj→Frag
 |_,[]=>[]
 |i,o::r=>match o with
  |⟨_,_,.freed,_⟩=>XN (i+1) r
  |o=>(i,o)::XN (i+1) r
noncomputable def Zs (g:Heap):Frag:=XN 0 g.objs.toList
theorem WQ:∀ (l:List Obj) (i a:Nat) (o:Obj),(XN i l).lookup a=some o→i≤a∧l[a - i]?=some o∧(match some o with|some ⟨_,_,.freed,_⟩=>none|o=>o)=some o
 |[],_,_,_,h=>by cases h
 |x::r,i,a,o,h=>by
  have rec1:(XN (i+1) r).lookup a=some o→i≤a∧(x::r)[a - i]?=some o∧(match some o with|some ⟨_,_,.freed,_⟩=>none|o=>o)=some o:=fun q=>by obtain⟨h1,h2,h3⟩:=WQ r (i+1) a o q;refine⟨by omega,?_,h3⟩;rw[show a - i=(a - (i+1))+1 by omega,List.getElem?_cons_succ];exact h2
  unfold XN at h;split at h
  ·exact rec1 h
  ·rename_i c hne;rw[List.lookup_cons]at h;split at h
   ·rename_i e;cases h;have e:=eq_of_beq e;subst e;refine⟨Nat.le_refl _,by rw[Nat.sub_self];rfl,?_⟩;split
    ·rename_i d1 d2 d3 d4;cases d4;exact(hne _ _ _ rfl).elim
    ·rfl
   ·exact rec1 h
theorem JT{g:Heap}{a:Addr}{o:Obj}(h:(Zs g).lookup a=some o):g.get? a=some o:=by obtain⟨_,h2,h3⟩:=WQ _ _ _ _ h;unfold Heap.get?;rw[Nat.sub_zero,Array.getElem?_toList]at h2;rw[h2];exact h3
noncomputable def MR (K:Frag) (nm:Str):Option (FuncData×Bool×Bool):=match nsIn K mainGlobals nm with
 |some (some (.ref f))=>match K.lookup f with
  |some ⟨_,_,.func fd,_⟩=>some ({fd with kwdefaults:=.none,doc:=.none,pyModule:=.none,annotations:=none,code:=.none,closureTuple:=.none},codeIn K fd.code fd.qualname,keepIn K (.ref f))
  |_=>none
 |_=>none
noncomputable def M5 (nm:Str) (st:Stmt):Option (FuncData×Bool×Bool):=some (fnOf nm nm (ZT st) (Zx st) (Zi st) .none .none .none .none none .none .none,true,true)
theorem Bo{K:Frag}{nm:Str}{st:Stmt}(e:MR K nm=M5 nm st):∃ fa fd,Fun K nm nm st fa fd∧nsIn K mainGlobals nm=some (some (.ref fa)):=by
 unfold MR at e;split at e
 ·rename_i f hf;split at e
  ·rename_i oc od fd sl hl;simp only[M5,Option.some.injEq,Prod.mk.injEq]at e;obtain⟨e1,e2,e3⟩:=e;obtain⟨n1,n2,n3,n4,n5,n6,n7,n8,n9,n10,n11,n12,n13,n14,n15⟩:=fd;simp only[fnOf,FuncData.mk.injEq]at e1;obtain⟨rfl,rfl,rfl,rfl,rfl,rfl,rfl,rfl,-,-,-,-,-,-,rfl⟩:=e1;exact⟨f,_,N1 hl e2 e3,hf⟩
  ·cases e
 ·cases e
noncomputable def UT (K:Frag) (y:Str):Bool:=match nsIn K mainGlobals y with
 |some none=>true
 |_=>false
theorem OL{l:OpenLaw}{n k:Nat}{q:Program}{loose:List Str}{XP:(Str→Option Value)→Heap→Prop}{YP:World→Heap→Prop}{d:DefRec}{CX:World→CXT}{x:Str}
  (hn:l.most=some n) (hn2:n≤sizeLine) (hdf:d.params.defaults=[]) (hr:Room k callerA)
  (F:∀ (w:World) (mg:Str→Option Value) (fa:Addr) (h:Heap),YP w h→h.Ns mainGlobals mg→mg d.name=some (.ref fa)→∃ (K:Frag) (sp:Sp),K.In h∧
    (∃ fd:FuncData,(∀ (s:Shared) (u:Value),BindsTo s fd ⟨[u],[]⟩ [(x,u)])∧∀ base:Heap,K.In base→base.Ns mainGlobals mg→FnOk l.prog w K mg base (CX w) k fa fd [x] sp)∧
    ∀ (H:Hp) (a:Addr) (ns:List Int),ns.length≤n→Ax H→SqL K H a (ns.map V.int)→sp [.ref a] H (fun v _=>v=.bl true) fun _ _ _=>False)
  (hCX:∀ (w:World) (H:Hp) (s:Shared) (e:Value) (s':Shared),CX w [] H s (fun _ _ _=>False) e s'→False) :
  WalkO q loose XP YP l.row.toRowW d [] (fun f vs=>PySem.call f vs):=by
 refine Att.attach_call hn hdf fun w s₀ s₁ mg mb fa o pm cd doc a vs ns G Y ho hd hcd hmg hobj hints hlen hg=>?_;obtain⟨K,sp,KX,⟨fd,hb,hF⟩,hsp⟩:=F w mg fa _ Y G.T.g hmg;exact NC KX G.T.g G.T.b G.T.builtins G.T.nolimit hg hobj hints (Nat.le_trans hlen hn2) hr hF hb (fun H hO hS=>hsp H a ns hlen hO hS) fun H e s'=>hCX w H s₁ e s'
end Hd
namespace Hd
open PySem PySem.W PyProof.Rows L2
noncomputable def Us (f:Value→Own.Val→Bool):List Value→List Own.Val→Bool
 |[],[]=>true
 |u::us,x::xs=>f u x&&Us f us xs
 |_,_=>false
noncomputable def Ag (K:Frag):Value→Option (List Value)
 |.ref a=>match K.lookup a with
  |some ⟨.type n,_,.seq us _,_⟩=>if n == "tuple" && decide (us.size≤sizeLine)then some us.toList else none
  |_=>none
 |_=>none
noncomputable def OG (K:Frag):Nat→Value→Own.Val→Bool
 |0,_,_=>false
 |n+1,u,v=>match v with
  |.non=>(match u with|.none=>true|_=>false)
  |.bl b=>(match u with|.bool a=>a==b|_=>false)
  |.int j=>(match u with|.int i _=>i==j|_=>false)
  |.str t=>(match u with|.str s _=>Fast.sEq s (Str.ofString t)|_=>false)
  |.tup xs=>(match Ag K u with|some us=>Us (OG K n) us xs|none=>false)
  |_=>false
theorem NT{K:Frag}{f:Value→Own.Val→Bool}(hf:∀ u v,f u v=true→∃ z,RelV z u∧∀ H,Snd.RV K H v z):∀ (us:List Value) (xs:List Own.Val),Us f us xs=true→∃ zs,Vals zs us∧∀ H,Snd.RVs K H xs zs
 |[],[],_=>⟨[],.nil,fun _=>.nil⟩
 |u::us,x::xs,h=>by rw[Us,bAq]at h;obtain⟨z,r,q⟩:=hf u x h.1;obtain⟨zs,rs,qs⟩:=NT hf us xs h.2;exact⟨z::zs,.cons r rs,fun H=>.cons (q H) (qs H)⟩
 |[],_::_,h=>by cases h
 |_::_,[],h=>by cases h
theorem Nt{K:Frag}:∀ (n:Nat) (u:Value) (v:Own.Val),OG K n u v=true→∃ z,RelV z u∧∀ H,Snd.RV K H v z
 |0,_,_,h=>by cases h
 |n+1,u,v,h=>by
  unfold OG at h;cases v with
  |non =>
   dsimp only at h;split at h
   ·exact⟨.non,rfl,fun _=>.non⟩
   ·cases h
  |bl b =>
   dsimp only at h;split at h
   ·cases eq_of_beq h;exact⟨.bl b,rfl,fun _=>.bl b⟩
   ·cases h
  |int j =>
   dsimp only at h;split at h
   ·cases eq_of_beq h;exact⟨.int j,⟨_,rfl⟩,fun _=>.int j⟩
   ·cases h
  |str t =>
   dsimp only at h;split at h
   ·cases Fast.sEq_iff.mp h;exact⟨.str (Str.ofString t),⟨_,rfl⟩,fun _=>.str t⟩
   ·cases h
  |tup xs =>
   dsimp only at h;split at h
   ·rename_i us hu;obtain⟨zs,rs,qs⟩:=NT (fun u v=>Nt n u v) us xs h;unfold Ag at hu;split at hu
    ·rename_i a;split at hu
     ·rename_i nm od its k sl hl;split at hu
      ·rename_i hc;rw[bAq,decide_eq_true_eq]at hc;cases eq_of_beq hc.1;cases hu;exact⟨.ref a,rfl,fun H=>.tup (.inr ⟨_,its,k,hl,rfl,rfl,hc.2,rs⟩) (qs H)⟩
      ·cases hu
     ·cases hu
    ·cases hu
   ·cases h
  |ref a=>cases h
  |scr ns=>cases h
noncomputable def Nz (K:Frag) (p:String×Own.Val):Bool:=match nsIn K mainGlobals (Str.ofString p.1)with
 |some (some u)=>OG K 4 u p.2
 |_=>false
theorem Xh{α β:Type}[BEq α][LawfulBEq α]{a:α}{b:β}:∀ {l:List (α×β)},l.lookup a=some b→(a,b)∈l
 |[],h=>by cases h
 |(x,y)::r,h=>by
  rw[List.lookup_cons]at h;split at h
  ·rename_i e;cases h;cases eq_of_beq e;exact .head _
  ·exact .tail _ (Xh h)
theorem B5{K:Frag}{mg:Str→Option Value}{h:Heap}{x:Str}{C:Addr}{bmB:List Value}{id:String}(X:K.In h)(hm:mg x=some (.ref C))(q:excIn K C bmB id=true):PyProof.Rows.OwnCls x C bmB id mg h:=by
 constructor
 ·exact hm
 have z:=q;unfold excIn at z;split at z
 next dd cd sl ho =>
  split at z
  next C1 bm k0 k1 k2 k3 n k5 em es =>
   rw[bAq,bAq,bAq,bAq,bAq]at z;obtain⟨⟨⟨⟨⟨z1,z2⟩,z3⟩,z4⟩,z5⟩,z6⟩:=z;have z1:=eq_of_beq z1;have z2:=eq_of_beq z2;have z6:=eq_of_beq z6;subst z1 z2;have z3b:cd.hasDel=false:=by
    cases e:cd.hasDel with
    |false=>rfl
    |true=>rw[e]at z3;cases z3
   have es':sl=#[k0,k1,k2,k3,some (.builtin n),k5]:=Array.toList_inj.mp es;have nN:=nsMap_none_of_in X z5 z6;have nI:=Heap.Ns.of_isNs (isNs_of_in X z5);have tI:=tail_of_in X z4;cases cd;dsimp only at em z3b nN nI;subst em z3b es';exact⟨bm,_,_,_,_,_,_,_,_,_,dd,k0,k1,k2,k3,k5,_,X _ _ ho,nI,nN,tI⟩
  next=>cases z
 next=>cases z
noncomputable def As (K:Frag) (f:Addr):Option (FuncData×Bool×Bool):=match K.lookup f with
 |some ⟨_,_,.func fd,_⟩=>some ({fd with kwdefaults:=.none,doc:=.none,pyModule:=.none,annotations:=none,code:=.none,closureTuple:=.none},codeIn K fd.code fd.qualname,keepIn K (.ref f))
 |_=>none
noncomputable def Jt (nm qual:Str) (st:Stmt):Option (FuncData×Bool×Bool):=some (fnOf nm qual (ZT st) (Zx st) (Zi st) .none .none .none .none none .none .none,true,true)
theorem B4{K:Frag}{nm qual:Str}{st:Stmt}{f:Addr}(e:As K f=Jt nm qual st):∃ fd,Fun K nm qual st f fd:=by
 unfold As at e;split at e
 ·rename_i oc od fd sl hl;simp only[Jt,Option.some.injEq,Prod.mk.injEq]at e;obtain⟨e1,e2,e3⟩:=e;obtain⟨n1,n2,n3,n4,n5,n6,n7,n8,n9,n10,n11,n12,n13,n14,n15⟩:=fd;simp only[fnOf,FuncData.mk.injEq]at e1;obtain⟨rfl,rfl,rfl,rfl,rfl,rfl,rfl,rfl,-,-,-,-,-,-,rfl⟩:=e1;exact⟨_,N1 hl e2 e3⟩
 ·cases e
noncomputable def XA (K:Frag) (C:String):Option Addr:=match nsIn K mainGlobals (Str.ofString C)with
 |some (some (.ref a))=>some a
 |_=>none
theorem Y3{K:Frag}{C:String}{a:Addr}(h:XA K C=some a):nsIn K mainGlobals (Str.ofString C)=some (some (.ref a)):=by
 unfold XA at h;split at h
 ·cases h;assumption
 ·cases h
structure CV where
 pg:Bool
 hd:Bool
 po:Bool
 sa:Option (Option Value)
noncomputable def UA (K:Frag) (a:Addr):CV:=⟨plainGet K a Str.empty,hasDictIn K a,plainOver K a,findIn K (.ref a) "__setattr__"⟩
noncomputable def J0:CV:=⟨true,true,true,some (some (.builtin "object.__setattr__"))⟩
theorem Nw{K:Frag}{a:Addr}(h:UA K a=J0):Cls K a:=by simp only[UA,J0,CV.mk.injEq]at h;exact⟨h.1,h.2.1,h.2.2.1,h.2.2.2⟩
structure MV where
 fn:Option (FuncData×Bool×Bool)
 isf:Bool
 cv:CV
noncomputable def M9 (K:Frag) (y:Snd.Mt):Option MV:=match XA K y.C with
 |some a=>match findIn K (.ref a) (Str.ofString y.m)with
  |some (some (.ref f))=>some ⟨As K f,isFn K (.ref f),UA K a⟩
  |_=>none
 |none=>none
noncomputable def Nn (y:Snd.Mt):Option MV:=some ⟨Jt (Str.ofString y.m) (Str.ofString y.qual) y.x.st,true,J0⟩
theorem DM{K:Frag}{y:Snd.Mt}(e:M9 K y=Nn y):∃ a f fd,nsIn K mainGlobals (Str.ofString y.C)=some (some (.ref a))∧Fun K (Str.ofString y.m) (Str.ofString y.qual) y.x.st f fd∧Meth K a (Str.ofString y.m) f∧Cls K a:=by
 unfold M9 at e;split at e
 ·rename_i a ha;split at e
  ·rename_i f hf;simp only[Nn,Option.some.injEq,MV.mk.injEq]at e;obtain⟨e1,e2,e3⟩:=e;obtain⟨fd,F⟩:=B4 e1;exact⟨a,f,fd,Y3 ha,F,⟨hf,e2,F.kp⟩,Nw e3⟩
  ·cases e
 ·cases e
structure QV where
 mks:Bool
 kp:Bool
 cv:CV
 fl:List (Option (Option Value))
noncomputable def NW (K:Frag) (fl:List String) (C:String):Option QV:=match XA K C with
 |some a=>some ⟨makesIn K a,keepIn K (.ref a),UA K a,fl.map fun f=>findIn K (.ref a) (Str.ofString f)⟩
 |none=>none
noncomputable def M3 (fl:List String):Option QV:=some ⟨true,true,J0,fl.map fun _=>some none⟩
theorem UO{K:Frag}{fl:List String}{C:String}(e:NW K fl C=M3 fl):∃ a,nsIn K mainGlobals (Str.ofString C)=some (some (.ref a))∧makesIn K a=true∧keepIn K (.ref a)=true∧Cls K a∧∀ f∈fl,YF K a (Str.ofString f):=by
 unfold NW at e;split at e
 ·rename_i a ha;simp only[M3,Option.some.injEq,QV.mk.injEq]at e;obtain⟨e1,e2,e3,e4⟩:=e;exact⟨a,Y3 ha,e1,e2,Nw e3,fun f hf=>List.map_inj_left.mp e4 f hf⟩
 ·cases e
structure XV where
 ex:Bool
 f1:Option (Option Value)
 f2:Option (Option Value)
 f3:Option (Option Value)
 m1:Option Bool
 m2:Option Bool
 ci:Bool
 ve:Option Bool
 ks:List (Option (Option Bool×Option Bool))
noncomputable def Mz (K:Frag) (xs:List String) (C:String):Option XV:=match XA K C with
 |some a=>some ⟨excIn K a [.type "ValueError",.type "Exception",.type "BaseException",.type "object"] "ValueError.__new__",findIn K (.ref a) "__getattribute__",findIn K (.ref a) "__getattr__",findIn K (.ref a) "__class__",mroIn K a (.type "object"),mroIn K a (.type "BaseException"),(clsIn K a).isSome,kitOne K (.ref a) (.type "ValueError"),("ShutError" :: xs).map fun T=>(XA K T).map fun D=>(kitOne K (.ref a) (.ref D),exmOne K (.ref a) (.ref D))⟩
 |none=>none
noncomputable def Ni (xs:List String) (C:String):Option XV:=some ⟨true,some (some (.builtin "BaseException.__getattribute__")),some none,some (some (.builtin "object.__class__")),some true,some true,true,some true,("ShutError" :: xs).map fun T=>some (some (Own.excSub C T),some (Own.excSub C T))⟩
theorem Nj {K:Frag}{xs:List String}{C:String}(e:Mz K xs C=Ni xs C):∃ a,nsIn K mainGlobals (Str.ofString C)=some (some (.ref a))∧excIn K a [.type "ValueError",.type "Exception",.type "BaseException",.type "object"] "ValueError.__new__" = true∧XCls K a∧kitOne K (.ref a) (.type "ValueError")=some true∧
  ∀ T∈"ShutError" :: xs,∃ D,nsIn K mainGlobals (Str.ofString T)=some (some (.ref D))∧kitOne K (.ref a) (.ref D)=some (Own.excSub C T)∧exmOne K (.ref a) (.ref D)=some (Own.excSub C T):=by
 unfold Mz at e;split at e
 ·rename_i a ha;simp only[Ni,Option.some.injEq,XV.mk.injEq]at e;obtain⟨e1,e2,e3,e4,e5,e6,e7,e8,e9⟩:=e;refine⟨a,Y3 ha,e1,⟨e2,e3,e4,e5,e6,e7⟩,e8,fun T hT=>?_⟩;have:=List.map_inj_left.mp e9 T hT;cases z:XA K T with
  |none=>rw[z]at this;cases this
  |some D =>rw[z]at this;simp only[Option.map_some,Option.some.injEq,Prod.mk.injEq]at this;exact⟨D,Y3 z,this.1,this.2⟩
 ·cases e
structure View where
 fs:List (Option (FuncData×Bool×Bool))
 ms:List (Option MV)
 cl:List (Option QV)
 xs:List (Option XV)
 ok:Bool
noncomputable def view (T:Snd.Tb) (K:Frag):View:=⟨T.fs.map fun p=>MR K (Str.ofString p.1),T.ms.map (M9 K),T.cl.map (NW K T.fl),T.xs.map (Mz K T.xs),T.cs.all (Nz K)&&Snd.blts.all (UT K)⟩
noncomputable def due (T:Snd.Tb):View:=⟨T.fs.map fun p=>M5 (Str.ofString p.1) p.2.st,T.ms.map Nn,T.cl.map fun _=>M3 T.fl,T.xs.map (Ni T.xs),true⟩
noncomputable def hook (T:Snd.Tb):Hook where
 α:=View
 obs:=fun s=>view T (Zs s.heap)
 val:=fun _=>due T
 says:=fun _ h=>∃ g:Heap,view T (Zs g)=due T∧∀ b o,g.get? b=some o→h.get? b=some o
 of:=fun _ s e=>⟨s.heap,e,fun _ _ x=>x⟩
 keeps:=fun _ _ _ ⟨g,e,k⟩ k2=>⟨g,e,fun b o x=>k2 b o (k b o x)⟩
noncomputable def Bd (nm qual:Str) (x:Snd.Ds):Prop:=∀ (kV doc pm:Value) (an:Option Addr) (cdv ct:Value) (us:List Value),us.length=x.ps.length→bindArgs (fnOf nm qual (ZT x.st) (Zx x.st) (Zi x.st) .none kV doc pm an cdv ct) ⟨us,[]⟩=pure (x.ps.zip us)
noncomputable def Ut (T:Snd.Tb):Bool:=T.cl.all fun C=>T.ms.any fun y=>y.C==C&&y.m == "__init__"
theorem law_walk{l:OpenLaw}{q:Program}{loose:List Str}{XP:(Str→Option Value)→Heap→Prop}{d:DefRec}{T:Snd.Tb}{pg:Own.Pg}{k:Nat}{xl:Snd.Ds}
  (hn:l.most=some 63) (hdf:d.params.defaults=[]) (hdn:d.name=Str.ofString "law") (hr:Room (2*(k+1)) callerA) (hlaw:("law",xl)∈T.fs) (hps:xl.ps=[Str.ofString "script"]) (hin:Ut T=true)
  (tab_pg:∀ f x,(f,x)∈T.fs→pg f=some x.d) (tab_pm:∀ y,y∈T.ms→pg (y.C ++ "." ++ y.m)=some y.x.d) (tab_ok:∀ f x,(f,x)∈T.fs→x.Ok T) (tab_om:∀ y,y∈T.ms→y.x.Ok T)
  (tab_bd:∀ f x,(f,x)∈T.fs→Bd (Str.ofString f) (Str.ofString f) x) (tab_bm:∀ y,y∈T.ms→Bd (Str.ofString y.m) (Str.ofString y.qual) y.x)
  (ok:∀ ns:List Int,ns.length≤63→Own.wF pg (k+1) "law" [.scr ns] (fun _=>none) (fun v _=>v=.bl true) fun _ _=>False) :
  WalkO q loose XP (hook T).says l.row.toRowW d [] (fun f vs=>PySem.call f vs):=by
 refine OL (n:=63) (k:=2*(k+1)) (x:=Str.ofString "script") (CX:=fun w=>CX1 l.prog w) hn (by decide) hdf hr (fun w mg fa h Y G hmg=>?_) fun _ _ _ _ _ ⟨_,_,_,_,_,z⟩=>z;obtain⟨g,e,keep⟩:=Y;have X:(Zs g).In h:=fun a o z=>keep a o (JT z);simp only[view,due,View.mk.injEq]at e;obtain⟨e1,e3,e4,e5,e2⟩:=e;rw[bAq,List.all_eq_true,List.all_eq_true]at e2
 let i:Snd.Inf:=⟨Zs g,fun C a=>T.cl.contains C=true∧mg (Str.ofString C)=some (.ref a),fun C=>T.cl.contains C,fun C a=>T.xs.contains C=true∧mg (Str.ofString C)=some (.ref a)⟩
 have hF:∀ f x,(f,x)∈T.fs→∃ fa fd,Fun (Zs g) (Str.ofString f) (Str.ofString f) x.st fa fd∧mg (Str.ofString f)=some (.ref fa):=fun f x hx=>by obtain⟨fa,fd,F,z⟩:=Bo (List.map_inj_left.mp e1 (f,x) hx);exact⟨fa,fd,F,mg_of X G z⟩
 have hcl:∀ C a,i.cl C a→makesIn (Zs g) a=true∧keepIn (Zs g) (.ref a)=true∧Cls (Zs g) a∧∀ f∈T.fl,YF (Zs g) a (Str.ofString f):=fun C a ⟨hc,hm⟩=>by obtain⟨b,z,q⟩:=UO (List.map_inj_left.mp e4 C (List.contains_iff_mem.mp hc));have:=mg_of X G z;rw[hm]at this;cases this;exact q
 have hms:∀ y,y∈T.ms→∃ a f,Snd.Mst i mg y a f∧Cls i.K a:=fun y hy=>by obtain⟨a,f,fd,z,F,M,A⟩:=DM (List.map_inj_left.mp e3 y hy);exact⟨a,f,⟨mg_of X G z,⟨fd,F,F.binds (tab_bm y hy)⟩,M⟩,A⟩
 have hxc:∀ C a,i.xc C a→excIn (Zs g) a [.type "ValueError",.type "Exception",.type "BaseException",.type "object"] "ValueError.__new__" = true∧XCls (Zs g) a∧kitOne (Zs g) (.ref a) (.type "ValueError")=some true∧
   ∀ T'∈"ShutError" :: T.xs,∃ D,nsIn (Zs g) mainGlobals (Str.ofString T')=some (some (.ref D))∧kitOne (Zs g) (.ref a) (.ref D)=some (Own.excSub C T')∧exmOne (Zs g) (.ref a) (.ref D)=some (Own.excSub C T'):=fun C a ⟨hc,hm⟩=>by
  obtain⟨b,z,q⟩:=Nj (List.map_inj_left.mp e5 C (List.contains_iff_mem.mp hc));have:=mg_of X G z;rw[hm]at this;cases this;exact q
 have mod:∀ base:Heap,(Zs g).In base→Snd.Modu mg base i T:=fun base Xb =>
  { bl:=fun y hy=>by
      have:=e2.2 y hy
      unfold UT at this
      split at this
      · rename_i z;exact mg_none_of X G z
      · cases this
    cst:=fun y v hv=>by
      have:=e2.1 _ (Xh hv)
      unfold Nz at this
      split at this
      · rename_i u z
        obtain⟨x,r,rv⟩:=Nt 4 u v this
        exact⟨u,x,mg_of X G z,r,rv⟩
      · cases this
    A:=⟨fun C a _ z=>(hcl C a z).2.2.1⟩
    F:=fun f hf=>⟨fun C a z=>(hcl C a z).2.2.2 f (List.contains_iff_mem.mp hf)⟩
    cl:=fun C a z=>z.2
    mkc:=fun C hC=>by
      obtain⟨a,z,_⟩:=UO (List.map_inj_left.mp e4 C (List.contains_iff_mem.mp hC))
      have hi:i.cl C a:=⟨hC,mg_of X G z⟩
      obtain⟨y,hy,e⟩:=List.any_eq_true.mp (List.all_eq_true.mp hin C (List.contains_iff_mem.mp hC))
      rw[bAq]at e
      obtain⟨b,f,S,A⟩:=hms y hy
      have h1:=eq_of_beq e.1
      have h2:=eq_of_beq e.2
      have hb:=S.cl
      rw[h1,hi.2]at hb
      cases hb
      refine⟨a,y,f,hC,hi,⟨(hcl C a hi).1,?_,S.at_.fn,(hcl C a hi).2.1⟩,hy,h1,h2,S⟩
      have:=S.at_.at_
      rw[h2]at this
      exact this
    fs:=fun f x hx=>by
      obtain⟨fa,fd,F,m⟩:=hF f x hx
      exact⟨fa,fd,_,F,m,F.binds (tab_bd f x hx)⟩
    ms:=hms
    xc:=fun _ C a z=>⟨(hxc C a z).2.1,(hxc C a z).2.2.1⟩
    rs:=fun _ C hC=>by
      obtain⟨a,z,q1,_⟩:=Nj (List.map_inj_left.mp e5 C (List.contains_iff_mem.mp hC))
      exact⟨a,⟨hC,mg_of X G z⟩,B5 Xb (mg_of X G z) q1⟩
    kn:=fun hne T' hT=>by
      have hT2:T'∈"ShutError" :: T.xs:=by
        rcases (Bool.or_eq_true ..).mp hT with z|z
        · exact .tail _ (List.contains_iff_mem.mp z)
        · cases eq_of_beq z;exact .head _
      obtain⟨C0,hC0⟩:=List.exists_mem_of_ne_nil _ hne
      obtain⟨a0,z0,_,_,_,q0⟩:=Nj (List.map_inj_left.mp e5 C0 hC0)
      obtain⟨D,zD,_⟩:=q0 T' hT2
      refine⟨D,mg_of X G zD,fun C a z=>?_⟩
      obtain⟨D2,z2,k1,k2⟩:=(hxc C a z).2.2.2 T' hT2
      rw[zD]at z2
      cases z2
      exact⟨k1,fun e=>by rw[k2,e]⟩ }
 obtain⟨fl,fd,F,m⟩:=hF "law" xl hlaw;have ef:=hmg.symm.trans (hdn▸m);cases ef;refine⟨Zs g,Snd.spF i pg (k+1) "law",X,⟨fd,fun s u=>?_,fun base Xb _=>?_⟩,fun H a ns hl hO hS=>?_⟩
 ·have B:=F.ex;obtain⟨oc,od,kV,dc,pm,an,cdv,ct,sl,rfl,lk,hcd⟩:=B;have:=tab_bd "law" xl hlaw kV dc pm an cdv ct [u] (by rw[hps];rfl);rw[hps]at this;exact .of_eq this
 ·have M:=mod base Xb;have:=Snd.fn_succ (i:=i) (pr:=l.prog) (wd:=w) (base:=base) (mg:=mg) (P:=pg) (n:=k) M (Snd.held_all M tab_pg tab_pm tab_ok tab_om k) F (tab_pg "law" xl hlaw) (tab_ok "law" xl hlaw);rw[hps]at this;exact this
 ·refine⟨[.scr ns],fun _=>none,fun v _=>v=.bl true,fun _ _=>False,.cons (.scr ?_) .nil,fun _ _ e=>(by cases e),ok ns hl,?_,?_⟩
  ·rcases hS with(h|⟨o,h⟩)|h
   ·rcases hO a with z|⟨o,xs,z⟩
    ·rw[h]at z;cases z
    ·rw[h]at z;cases z
   ·exact .inl ⟨o,h⟩
   ·exact .inr h
  ·intro v G' H' x _ _ r e;subst e;exact r.bl_inv
  ·rintro cls d H' ⟨_,_,_,_,_,_,_,z⟩;exact z
end Hd
set_option maxRecDepth 20000
set_option maxHeartbeats 2000000
namespace Own
noncomputable abbrev B0 (P:Pg) (n:Nat) (d:Fn) (e:Env) (h:Hs) (Q:Q1) (X:XQ):Prop:=wSs (wF P n) d.body e h (fun _ g=>Q .non g) Q (fun _ _=>False) (fun _ _=>False) fun _ c g=>X c g
variable {P:Pg}{n:Nat}{a0 a1 a2 a3 a4 a5 a6 a7:Val}{h:Hs}{Q:Q1}{X:XQ}
noncomputable abbrev HU:Fn:={ ar:=1,sz:=1,body:=(.cons (.ret (.and (.bi (.isi ["int"]) (.cons (.var 0) .nil)) (.not (.bi (.isi ["bool"]) (.cons (.var 0) .nil)))))
    .nil) }
noncomputable abbrev HP:Fn:={ ar:=3,sz:=3,body:=(.cons (.ret (.and (.call "is_whole" (.cons (.var 0) .nil)) (.chain .le .le (.var 1) (.var 0) (.var 2))))
    .nil) }
noncomputable abbrev HZ:Fn:={ ar:=1,sz:=1,body:=(.cons (.ite (.or (.not (.val (.bi (.isi ["tuple"]) (.cons (.var 0) .nil)))) (.val (.cmp .ne (.bi .len (.cons (.var 0) .nil)) (.glob "PARTS" (.int 7))))) (.cons (.ret (.cst (.bl false)))
    .nil) .nil)
    (.cons (.ite (.or (.not (.val (.call "is_pair" (.cons (.idx (.var 0) (.glob "NUMBER" (.int 0))) .nil)))) (.not (.val (.call "is_pair" (.cons (.idx (.var 0) (.glob "STAMP" (.int 1))) .nil))))) (.cons (.ret (.cst (.bl false)))
    .nil) .nil)
    (.cons (.ite (.not (.val (.call "is_whole_between" (.cons (.idx (.var 0) (.glob "ROOT" (.int 2))) (.cons (.cst (.int 0)) (.cons (.glob "GREATEST_NUMBER" (.int 999)) .nil)))))) (.cons (.ret (.cst (.bl false)))
    .nil) .nil)
    (.cons (.ite (.or (.not (.val (.call "is_part" (.cons (.idx (.var 0) (.glob "COST" (.int 3))) .nil)))) (.not (.val (.call "is_part" (.cons (.idx (.var 0) (.glob "AGE" (.int 4))) .nil))))) (.cons (.ret (.cst (.bl false)))
    .nil) .nil)
    (.cons (.ret (.and (.call "is_pair_or_none" (.cons (.idx (.var 0) (.glob "RESTS" (.int 5))) .nil)) (.call "is_pair_or_none" (.cons (.idx (.var 0) (.glob "AGREES" (.int 6))) .nil))))
    .nil))))) }
noncomputable abbrev HW:Fn:={ ar:=1,sz:=1,body:=(.cons (.ret (.call "is_whole_between" (.cons (.var 0) (.cons (.cst (.int 0)) (.cons (.glob "GREATEST_PART" (.int 9999999999999999999999999999999999999999)) .nil)))))
    .nil) }
noncomputable abbrev HY:Fn:={ ar:=1,sz:=1,body:=(.cons (.ret (.and (.bi (.isi ["tuple"]) (.cons (.var 0) .nil)) (.and (.cmp .eq (.bi .len (.cons (.var 0) .nil)) (.cst (.int 2))) (.and (.call "is_part" (.cons (.idx (.var 0) (.cst (.int 0))) .nil)) (.call "is_part" (.cons (.idx (.var 0) (.cst (.int 1))) .nil))))))
    .nil) }
noncomputable abbrev HX:Fn:={ ar:=1,sz:=1,body:=(.cons (.ret (.or (.cmp .is (.var 0) (.cst .non)) (.call "is_pair" (.cons (.var 0) .nil))))
    .nil) }
noncomputable abbrev IK:Fn:={ ar:=1,sz:=1,body:=(.cons (.ite (.val (.cmp .ge (.var 0) (.bin .pow (.cst (.int 10)) (.cst (.int 18))))) (.cons (.ret (.lst (.cons (.var 0) (.cons (.bin .mod (.var 0) (.cst (.int 2147483629))) .nil))))
    .nil) .nil)
    (.cons (.ret (.lst (.cons (.cst (.int 0)) (.cons (.bin .mod (.var 0) (.cst (.int 2147483629))) .nil))))
    .nil)) }
noncomputable abbrev H9:Fn:={ ar:=2,sz:=4,body:=(.cons (.ite (.val (.cmp .gt (.idx (.var 0) (.cst (.int 0))) (.cst (.int 0)))) (.cons (.set (.one 2) (.bin .mod (.idx (.var 0) (.cst (.int 0))) (.var 1)))
    (.cons (.setIdx (.var 0) (.cst (.int 0)) (.bin .fdiv (.idx (.var 0) (.cst (.int 0))) (.var 1)))
    (.cons (.ret (.var 2))
    .nil))) .nil)
    (.cons (.set (.one 3) (.bin .mod (.bin .add (.bin .mul (.idx (.var 0) (.cst (.int 1))) (.cst (.int 48271))) (.cst (.int 11))) (.cst (.int 2147483647))))
    (.cons (.set (.one 3) (.bin .mod (.bin .mul (.var 3) (.var 3)) (.cst (.int 2147483587))))
    (.cons (.setIdx (.var 0) (.cst (.int 1)) (.bin .mod (.bin .add (.bin .mul (.var 3) (.cst (.int 69621))) (.cst (.int 40692))) (.cst (.int 2147483629))))
    (.cons (.ret (.bin .mod (.bin .fdiv (.idx (.var 0) (.cst (.int 1))) (.cst (.int 8))) (.var 1)))
    .nil))))) }
noncomputable abbrev HV:Fn:={ ar:=1,sz:=4,body:=(.cons (.set (.one 1) (.call "_law_draw" (.cons (.var 0) (.cons (.cst (.int 6)) .nil))))
    (.cons (.ite (.val (.cmp .lt (.var 1) (.cst (.int 3)))) (.cons (.ret (.call "_law_draw" (.cons (.var 0) (.cons (.cst (.int 5)) .nil))))
    .nil) .nil)
    (.cons (.ite (.val (.cmp .eq (.var 1) (.cst (.int 3)))) (.cons (.ret (.idx (.lst (.cons (.bin .sub (.bin .pow (.cst (.int 10)) (.cst (.int 40))) (.cst (.int 1))) (.cons (.bin .pow (.cst (.int 10)) (.cst (.int 39))) (.cons (.cst (.int 999)) (.cons (.bin .pow (.cst (.int 10)) (.cst (.int 18))) .nil))))) (.call "_law_draw" (.cons (.var 0) (.cons (.cst (.int 4)) .nil)))))
    .nil) .nil)
    (.cons (.ite (.val (.cmp .eq (.var 1) (.cst (.int 4)))) (.cons (.ret (.call "_law_draw" (.cons (.var 0) (.cons (.cst (.int 100000)) .nil))))
    .nil) .nil)
    (.cons (.set (.one 2) (.cst (.int 0)))
    (.cons (.for (.one 3) (.range (.cst (.int 5))) (.cons (.set (.one 2) (.bin .add (.bin .mul (.var 2) (.bin .pow (.cst (.int 10)) (.cst (.int 8)))) (.call "_law_draw" (.cons (.var 0) (.cons (.bin .pow (.cst (.int 10)) (.cst (.int 8))) .nil)))))
    .nil))
    (.cons (.ret (.var 2))
    .nil))))))) }
noncomputable abbrev IX:Fn:={ ar:=1,sz:=2,body:=(.cons (.set (.one 1) (.call "_law_count" (.cons (.var 0) .nil)))
    (.cons (.ret (.tup (.cons (.var 1) (.cons (.call "_law_count" (.cons (.var 0) .nil)) .nil))))
    .nil)) }
noncomputable abbrev IW:Fn:={ ar:=1,sz:=2,body:=(.cons (.set (.one 1) (.call "_law_pair" (.cons (.var 0) .nil)))
    (.cons (.ret (.idx (.lst (.cons (.var 1) (.cons (.cst .non) .nil))) (.bi .int (.cons (.cmp .eq (.call "_law_draw" (.cons (.var 0) (.cons (.cst (.int 3)) .nil))) (.cst (.int 0))) .nil))))
    .nil)) }
noncomputable abbrev IY:Fn:={ ar:=1,sz:=7,body:=(.cons (.set (.one 1) (.call "_law_pair" (.cons (.var 0) .nil)))
    (.cons (.set (.one 2) (.call "_law_pair" (.cons (.var 0) .nil)))
    (.cons (.set (.one 3) (.idx (.lst (.cons (.cst (.int 0)) (.cons (.cst (.int 999)) (.cons (.call "_law_draw" (.cons (.var 0) (.cons (.cst (.int 1000)) .nil))) .nil)))) (.call "_law_draw" (.cons (.var 0) (.cons (.cst (.int 3)) .nil)))))
    (.cons (.set (.one 4) (.call "_law_count" (.cons (.var 0) .nil)))
    (.cons (.set (.one 5) (.call "_law_count" (.cons (.var 0) .nil)))
    (.cons (.set (.one 6) (.call "_law_perhaps" (.cons (.var 0) .nil)))
    (.cons (.ret (.tup (.cons (.var 1) (.cons (.var 2) (.cons (.var 3) (.cons (.var 4) (.cons (.var 5) (.cons (.var 6) (.cons (.call "_law_perhaps" (.cons (.var 0) .nil)) .nil)))))))))
    .nil))))))) }
noncomputable abbrev HR:Fn:={ ar:=2,sz:=3,body:=(.cons (.set (.one 2) (.lst (.cons (.neg (.cst (.int 1))) (.cons (.bin .add (.var 1) (.cst (.int 1))) (.cons (.cst (.bl true)) (.cons (.cst (.bl false)) (.cons (.cst .non) (.cons (.cst (.str "0")) (.cons (.tup (.cons (.cst (.int 0)) .nil)) (.cons (.lst (.cons (.cst (.int 0)) .nil)) (.cons (.neg (.bin .pow (.cst (.int 10)) (.cst (.int 30)))) (.cons (.cst (.str "-")) .nil))))))))))))
    (.cons (.ret (.idx (.var 2) (.call "_law_draw" (.cons (.var 0) (.cons (.bi .len (.cons (.var 2) .nil)) .nil)))))
    .nil)) }
noncomputable abbrev HS:Fn:={ ar:=2,sz:=6,body:=(.cons (.set (.many [2,3]) (.call "_law_pair" (.cons (.var 0) .nil)))
    (.cons (.set (.one 4) (.call "_law_draw" (.cons (.var 0) (.cons (.cst (.int 8)) .nil))))
    (.cons (.ite (.val (.cmp .lt (.var 4) (.cst (.int 4)))) (.cons (.set (.one 5) (.call "_law_bad_number" (.cons (.var 0) (.cons (.bin .sub (.bin .pow (.cst (.int 10)) (.cst (.int 40))) (.cst (.int 1))) .nil))))
    (.cons (.ret (.idx (.lst (.cons (.tup (.cons (.var 5) (.cons (.var 3) .nil))) (.cons (.tup (.cons (.var 2) (.cons (.var 5) .nil))) .nil))) (.bin .mod (.var 4) (.cst (.int 2)))))
    .nil)) .nil)
    (.cons (.ite (.val (.cmp .eq (.var 4) (.cst (.int 4)))) (.cons (.ret (.lst (.cons (.var 2) (.cons (.var 3) .nil))))
    .nil) .nil)
    (.cons (.ite (.val (.cmp .eq (.var 4) (.cst (.int 5)))) (.cons (.ret (.idx (.lst (.cons (.tup .nil) (.cons (.tup (.cons (.var 2) .nil)) (.cons (.tup (.cons (.var 2) (.cons (.var 3) (.cons (.cst (.int 0)) .nil)))) (.cons (.tup (.cons (.tup (.cons (.var 2) (.cons (.var 3) .nil))) .nil)) .nil))))) (.call "_law_draw" (.cons (.var 0) (.cons (.cst (.int 4)) .nil)))))
    .nil) .nil)
    (.cons (.ite (.and (.val (.cmp .eq (.var 4) (.cst (.int 6)))) (.not (.val (.var 1)))) (.cons (.ret (.cst .non))
    .nil) .nil)
    (.cons (.ret (.idx (.lst (.cons (.cst (.int 0)) (.cons (.cst (.str "0.0")) (.cons (.cst (.bl true)) (.cons (.cst (.str "-")) (.cons (.dct .nil) .nil)))))) (.call "_law_draw" (.cons (.var 0) (.cons (.cst (.int 5)) .nil)))))
    .nil))))))) }
noncomputable abbrev IJ:Fn:={ ar:=2,sz:=4,body:=(.cons (.set (.one 2) (.call "_law_draw" (.cons (.var 0) (.cons (.cst (.int 9)) .nil))))
    (.cons (.ite (.val (.cmp .eq (.var 2) (.cst (.int 7)))) (.cons (.ret (.idx (.lst (.cons (.slc (.var 1) .none (.some (.cst (.int 6)))) (.cons (.slc (.var 1) (.some (.cst (.int 1))) .none) (.cons (.bin .add (.var 1) (.tup (.cons (.cst .non) .nil))) (.cons (.bin .add (.var 1) (.var 1)) (.cons (.tup .nil) .nil)))))) (.call "_law_draw" (.cons (.var 0) (.cons (.cst (.int 5)) .nil)))))
    .nil) .nil)
    (.cons (.ite (.val (.cmp .eq (.var 2) (.cst (.int 8)))) (.cons (.ret (.idx (.lst (.cons (.bi .list (.cons (.var 1) .nil)) (.cons (.cst .non) (.cons (.tup (.cons (.var 1) .nil)) (.cons (.cst (.str "letter")) (.cons (.bi .dictEnum (.cons (.var 1) .nil)) .nil)))))) (.call "_law_draw" (.cons (.var 0) (.cons (.cst (.int 5)) .nil)))))
    .nil) .nil)
    (.cons (.ite (.val (.cmp .eq (.var 2) (.cst (.int 2)))) (.cons (.set (.one 3) (.call "_law_bad_number" (.cons (.var 0) (.cons (.cst (.int 999)) .nil))))
    .nil) (.cons (.ite (.val (.cmp .isin (.var 2) (.tup (.cons (.cst (.int 3)) (.cons (.cst (.int 4)) .nil))))) (.cons (.set (.one 3) (.call "_law_bad_number" (.cons (.var 0) (.cons (.bin .sub (.bin .pow (.cst (.int 10)) (.cst (.int 40))) (.cst (.int 1))) .nil))))
    .nil) (.cons (.set (.one 3) (.call "_law_bad_pair" (.cons (.var 0) (.cons (.cmp .gt (.var 2) (.cst (.int 4))) .nil))))
    .nil))
    .nil))
    (.cons (.ret (.bin .add (.bin .add (.slc (.var 1) .none (.some (.var 2))) (.tup (.cons (.var 3) .nil))) (.slc (.var 1) (.some (.bin .add (.var 2) (.cst (.int 1)))) .none)))
    .nil))))) }
noncomputable abbrev IZ:Fn:={ ar:=2,sz:=3,body:=(.cons (.set (.one 2) (.call "is_letter" (.cons (.var 0) .nil)))
    (.cons (.ret (.and (.bi (.isi ["bool"]) (.cons (.var 2) .nil)) (.cmp .eq (.var 2) (.var 1))))
    .nil)) }
noncomputable abbrev HQ:Fn:={ ar:=1,sz:=6,body:=(.cons (.for (.one 1) (.seq (.bin .add (.lst (.cons (.cst (.int 0)) (.cons (.cst (.int 5)) .nil))) (.slc (.var 0) .none (.some (.cst (.int 40)))))) (.cons (.set (.one 2) (.call "_law_well" (.cons (.var 1) .nil)))
    (.cons (.set (.one 3) (.call "_law_letter" (.cons (.var 2) .nil)))
    (.cons (.ite (.or (.not (.val (.call "_law_is" (.cons (.var 3) (.cons (.cst (.bl true)) .nil))))) (.or (.not (.val (.call "_law_is" (.cons (.call "_law_spoilt" (.cons (.var 2) (.cons (.var 3) .nil))) (.cons (.cst (.bl false)) .nil))))) (.not (.val (.call "_law_is" (.cons (.var 3) (.cons (.cst (.bl true)) .nil))))))) (.cons (.ret (.cst (.bl false)))
    .nil) .nil)
    .nil))))
    (.cons (.set (.one 4) (.tup (.cons (.tup (.cons (.cst (.int 0)) (.cons (.cst (.int 0)) .nil))) (.cons (.tup (.cons (.cst (.int 0)) (.cons (.cst (.int 0)) .nil))) (.cons (.cst (.int 0)) (.cons (.cst (.int 0)) (.cons (.cst (.int 0)) (.cons (.cst .non) (.cons (.cst .non) .nil)))))))))
    (.cons (.for (.one 5) (.seq (.lst (.cons (.cst .non) (.cons (.cst (.bl true)) (.cons (.cst (.int 0)) (.cons (.cst (.int 7)) (.cons (.cst (.str "")) (.cons (.cst (.str "0.0 0.0 0 0 0 - -")) (.cons (.lst .nil) (.cons (.tup .nil) (.cons (.dct .nil) (.cons (.tup (.cons (.var 4) (.cons (.var 4) .nil))) (.cons (.bi .list (.cons (.var 4) .nil)) .nil))))))))))))) (.cons (.ite (.not (.val (.call "_law_is" (.cons (.var 5) (.cons (.cst (.bl false)) .nil))))) (.cons (.ret (.cst (.bl false)))
    .nil) .nil)
    .nil))
    (.cons (.ret (.call "_law_is" (.cons (.var 4) (.cons (.cst (.bl true)) .nil))))
    .nil)))) }
class Al (P:Pg):Prop where
 c0:P "is_whole" = some HU
 c1:P "is_whole_between" = some HP
 c2:P "is_letter" = some HZ
 c3:P "is_part" = some HW
 c4:P "is_pair" = some HY
 c5:P "is_pair_or_none" = some HX
 c6:P "_law_well" = some IK
 c7:P "_law_draw" = some H9
 c8:P "_law_count" = some HV
 c9:P "_law_pair" = some IX
 c10:P "_law_perhaps" = some IW
 c11:P "_law_letter" = some IY
 c12:P "_law_bad_number" = some HR
 c13:P "_law_bad_pair" = some HS
 c14:P "_law_spoilt" = some IJ
 c15:P "_law_is" = some IZ
 c16:P "law" = some HQ
theorem JV [I:Al P] (q:B0 P n HU [some a0] h Q X):wF P (n+1) "is_whole" [a0] h Q X:=ZE I.c0 rfl q
theorem Yn [I:Al P] (q:B0 P n HP [some a0,some a1,some a2] h Q X):wF P (n+1) "is_whole_between" [a0,a1,a2] h Q X:=ZE I.c1 rfl q
theorem Jd [I:Al P] (q:B0 P n HZ [some a0] h Q X):wF P (n+1) "is_letter" [a0] h Q X:=ZE I.c2 rfl q
theorem KG [I:Al P] (q:B0 P n HW [some a0] h Q X):wF P (n+1) "is_part" [a0] h Q X:=ZE I.c3 rfl q
theorem KY [I:Al P] (q:B0 P n HY [some a0] h Q X):wF P (n+1) "is_pair" [a0] h Q X:=ZE I.c4 rfl q
theorem Yv [I:Al P] (q:B0 P n HX [some a0] h Q X):wF P (n+1) "is_pair_or_none" [a0] h Q X:=ZE I.c5 rfl q
theorem JS [I:Al P] (q:B0 P n IK [some a0] h Q X):wF P (n+1) "_law_well" [a0] h Q X:=ZE I.c6 rfl q
theorem Jy [I:Al P] (q:B0 P n H9 [some a0,some a1,none,none] h Q X):wF P (n+1) "_law_draw" [a0,a1] h Q X:=ZE I.c7 rfl q
theorem W9 [I:Al P] (q:B0 P n HV [some a0,none,none,none] h Q X):wF P (n+1) "_law_count" [a0] h Q X:=ZE I.c8 rfl q
theorem JA [I:Al P] (q:B0 P n IX [some a0,none] h Q X):wF P (n+1) "_law_pair" [a0] h Q X:=ZE I.c9 rfl q
theorem XM [I:Al P] (q:B0 P n IW [some a0,none] h Q X):wF P (n+1) "_law_perhaps" [a0] h Q X:=ZE I.c10 rfl q
theorem Wm [I:Al P] (q:B0 P n IY [some a0,none,none,none,none,none,none] h Q X):wF P (n+1) "_law_letter" [a0] h Q X:=ZE I.c11 rfl q
theorem YL [I:Al P] (q:B0 P n HR [some a0,some a1,none] h Q X):wF P (n+1) "_law_bad_number" [a0,a1] h Q X:=ZE I.c12 rfl q
theorem Xv [I:Al P] (q:B0 P n HS [some a0,some a1,none,none,none,none] h Q X):wF P (n+1) "_law_bad_pair" [a0,a1] h Q X:=ZE I.c13 rfl q
theorem Wo [I:Al P] (q:B0 P n IJ [some a0,some a1,none,none] h Q X):wF P (n+1) "_law_spoilt" [a0,a1] h Q X:=ZE I.c14 rfl q
theorem MG [I:Al P] (q:B0 P n IZ [some a0,some a1,none] h Q X):wF P (n+1) "_law_is" [a0,a1] h Q X:=ZE I.c15 rfl q
theorem Co [I:Al P] (q:B0 P n HQ [some a0,none,none,none,none,none] h Q X):wF P (n+1) "law" [a0] h Q X:=ZE I.c16 rfl q
end Own
namespace Own
local macro_rules | `(tactic| walk_at "ne")=>`(tactic| first | assumption | (apply Ne.symm; assumption) | ((with_reducible apply ne_none'); (· assumption); (· walk_at "look")) | (apply Ne.symm; (with_reducible apply ne_none'); (· assumption); (· walk_at "look")))
local macro_rules | `(tactic| walk_at "look")=>`(tactic| first | assumption | with_reducible exact upd_same | ((with_reducible apply upd_ne'); (· walk_at "ne"); (· walk_at "look")) | ((with_reducible apply Ext.get); (· assumption); (· walk_at "look")) | ((with_reducible apply ExtB.get); (· assumption); (· walk_at "ne"); (· walk_at "look")))
local macro_rules | `(tactic| walk_at "ar")=>`(tactic| first | decide | omega | assumption | (simp only [List.length_cons,List.length_nil]; decide))
local macro_rules | `(tactic| walk_at "mul")=>`(tactic| first | exact .inl (.inr (by omega)) | exact .inl (.inl (by omega)) | exact .inr ⟨by decide,by decide⟩)
local macro_rules | `(tactic| walk_at "setl")=>`(tactic| first | (simp only [List.zip_cons_cons,List.zip_nil_right,List.zip_nil_left,List.foldl_cons,List.foldl_nil,List.set_cons_succ,List.set_cons_zero]; done) | (simp only [List.zip_cons_cons,List.zip_nil_right,List.zip_nil_left,List.foldl_cons,List.foldl_nil,List.set_cons_succ,List.set_cons_zero]; exact rfl) | exact rfl)
local macro_rules | `(tactic| walk_at "py1")=>`(tactic| first
  |(with_reducible first|refine ZM ?_|refine Z6 ?_|refine Do ?_|refine Wd ?_|refine MD ?_|refine Ei ?_|refine Mu ?_|refine Y5 ?_|refine M7 ?_|refine CW ?_|refine MZ ?_|refine N2 ?_|refine YG ?_|refine N7 ?_|refine UW ?_|refine Ee ?_|refine CB ?_|refine W3 ?_|refine C2 ?_|refine Ae ?_|refine DR ?_|refine OR ?_|refine Bx ?_|refine U2 ?_|refine Zz ?_|refine Z2 ?_|refine B1 ?_|refine A5 ?_|refine NE ?_|refine UF ?_|refine Eo ?_|refine DB ?_|refine DS ?_|refine OY ?_|refine b_add ?_|refine b_sub ?_|refine Cy ?_|refine Jw ?_|refine U1 ?_|refine JZ ?_|refine c_lt ?_|refine c_gt ?_|refine c_le ?_|refine c_ge ?_|refine DV ?_|refine CM ?_|refine CT ?_|refine UV ?_|refine B7 ?_|refine Dr ?_|refine Ay ?_|refine AQ ?_)
  |((with_reducible apply Z1);(· exact rfl))
  |((with_reducible apply Ww);(· walk_at "setl"))|((with_reducible apply BK);(· (simp only[bindL,List.set_cons_succ,List.set_cons_zero];exact rfl)))|((with_reducible apply b_mul);(· walk_at "mul"))|((with_reducible apply b_fdiv);(· walk_at "ar"))|((with_reducible apply b_mod);(· walk_at "ar"))|((with_reducible apply AK);(· walk_at "ar");(· simp only[Int.reduceToNat,Int.reducePow];exact rfl))|((with_reducible apply Mw);(· walk_at "look");(· walk_at "look");(· first|(simp only[List.cons_append,List.nil_append,List.length_cons,List.length_nil];decide)|omega))|((with_reducible apply Xk);(· walk_at "ar"))
  |((with_reducible apply ix_tup);(· exact rfl))|((with_reducible apply Ye);(· walk_at "look");(· exact rfl))
  |((with_reducible apply AY);(· walk_at "look");(· exact rfl))
  |((with_reducible apply AZ);(· walk_at "look"))|((with_reducible apply Dh);(· exact rfl))|((with_reducible apply sl_tup);(· decide))
  | ((with_reducible apply it_lst);(· walk_at "look")))
local macro_rules | `(tactic| walk_at "py")=>`(tactic| repeat walk_at "py1")
noncomputable def Well (h:Hs) (w:Ad):Prop:=∃ a b,h w=some (.lst [.int a,.int b])
theorem Well.ne{h:Hs}{w p:Ad}(x:Well h w)(e:h p=none):w≠p:=by obtain⟨_,_,x⟩:=x;exact WI x e
theorem Well.ext{h g:Hs}{w:Ad}(x:Well h w)(e:Ext h g):Well g w:=by obtain⟨_,_,x⟩:=x;exact⟨_,_,e.get x⟩
noncomputable def IsPair (v:Val):Prop:=∃ x y:Int,v=.tup [.int x,.int y]∧0≤x∧x<10 ^ 40∧0≤y∧y<10 ^ 40
noncomputable def Kj (v:Val):Prop:=IsPair v∨v=.non
noncomputable def UD (v:Val):Prop:=∃ a b c d e f g,v=.tup [a,b,.int c,.int d,.int e,f,g]∧IsPair a∧IsPair b∧0≤c∧c<1000∧0≤d∧d<10 ^ 40∧0≤e∧e<10 ^ 40∧Kj f∧Kj g
theorem Of(ns:List Int)(lo hi:Option Int):cut (ns.map Val.int) lo hi=(cut ns lo hi).map Val.int:=by unfold cut;rw[List.length_map,List.map_take,List.map_drop]
theorem Kf{α:Type}(xs:List α)(lo hi:Option Int):(cut xs lo hi).length≤xs.length:=by unfold cut;rw[List.length_take,List.length_drop];omega
noncomputable abbrev Pr:=Nat×Nat
noncomputable def pv (p:Pr):Val:=.tup [.int p.1,.int p.2]
noncomputable def ov:Option Pr→Val
 |none=>.non
 |some p=>pv p
structure Lt where
 a:Pr
 b:Pr
 c:Nat
 d:Nat
 e:Nat
 f:Option Pr
 g:Option Pr
noncomputable def pOk (p:Pr):Prop:=p.1<10 ^ 40∧p.2<10 ^ 40
noncomputable def oOk:Option Pr→Prop
 |none=>True
 |some p=>pOk p
structure Lt.ok (l:Lt):Prop where
 a:pOk l.a
 b:pOk l.b
 c:l.c<1000
 d:l.d<10 ^ 40
 e:l.e<10 ^ 40
 f:oOk l.f
 g:oOk l.g
noncomputable def Lt.val (l:Lt):Val:=.tup [pv l.a,pv l.b,.int l.c,.int l.d,.int l.e,ov l.f,ov l.g]
theorem Y4{v:Val}(h:IsPair v):∃ p,pOk p∧v=pv p:=by obtain⟨x,y,rfl,x0,x1,y0,y1⟩:=h;refine⟨(x.toNat,y.toNat),⟨by show x.toNat<_;omega,by show y.toNat<_;omega⟩,?_⟩;unfold pv;rw[Int.toNat_of_nonneg x0,Int.toNat_of_nonneg y0]
theorem Kh{v:Val}(h:Kj v):∃ p,oOk p∧v=ov p:=by
 rcases h with h|rfl
 ·obtain⟨p,h1,rfl⟩:=Y4 h;exact⟨some p,h1,rfl⟩
 ·exact⟨none,trivial,rfl⟩
theorem Ud{v:Val}(h:UD v):∃ l:Lt,l.ok∧v=l.val:=by obtain⟨a,b,c,d,e,f,g,rfl,ha,hb,c0,c1,d0,d1,e0,e1,hf,hg⟩:=h;obtain⟨a,ha1,rfl⟩:=Y4 ha;obtain⟨b,hb1,rfl⟩:=Y4 hb;obtain⟨f,hf1,rfl⟩:=Kh hf;obtain⟨g,hg1,rfl⟩:=Kh hg;refine⟨⟨a,b,c.toNat,d.toNat,e.toNat,f,g⟩,⟨ha1,hb1,by show c.toNat<_;omega,by show d.toNat<_;omega,by show e.toNat<_;omega,hf1,hg1⟩,?_⟩;unfold Lt.val;simp only[Int.toNat_of_nonneg c0,Int.toNat_of_nonneg d0,Int.toNat_of_nonneg e0]
variable {P:Pg} [Al P] {n:Nat}{h:Hs}{w:Ad}{Q:Q1}{X:XQ}
theorem Oq {c:Int}(k:∀ p g,h p=none→Ext h g→Well g p→Q (.ref p) g):wF P (n+1) "_law_well" [.int c] h Q X:=by
 refine JS ?_;walk_at "py";refine ifP (fun hc=>?_) (fun hc=>?_)<;>walk_at "py"<;>refine YC fun p hp=>?_
 ·exact k p _ hp (Ext.new hp) ⟨_,_,upd_same⟩
 ·exact k p _ hp (Ext.new hp) ⟨_,_,upd_same⟩
theorem Zq{m:Int}(hw:Well h w)(h1:0<m)(h2:m<1073741824)
  (k:∀ r g,0≤r→r<m→ExtB w h g→Well g w→Q (.int r) g):wF P (n+1) "_law_draw" [.ref w,.int m] h Q X:=by
 obtain⟨a,b,hw⟩:=hw;refine Jy ?_;walk_at "py";refine ifP (fun hc=>?_) (fun hc=>?_)<;>walk_at "py"
 ·exact k _ _ (Int.emod_nonneg _ (by omega)) (Int.emod_lt_of_pos _ h1) ExtB.upd ⟨_,_,upd_same⟩
 ·exact k _ _ (Int.emod_nonneg _ (by omega)) (Int.emod_lt_of_pos _ h1) ExtB.upd ⟨_,_,upd_same⟩
theorem four{r:Int}(h0:0≤r)(h1:r<4):r=0∨r=1∨r=2∨r=3:=by omega
theorem CY{r:Int}(h0:0≤r)(h1:r<3):r=0∨r=1∨r=2:=by omega
theorem two{r:Int}(h0:0≤r)(h1:r<2):r=0∨r=1:=by omega
theorem Yr (hw:Well h w) (k:∀ c g,0≤c→c<10 ^ 40→ExtB w h g→Well g w→Q (.int c) g):wF P (n+2) "_law_count" [.ref w] h Q X:=by
 refine W9 ?_;walk_at "py";refine Zq hw (by decide) (by decide) fun r g r0 r1 e1 w1=>?_;walk_at "py";refine ifP (fun hc=>?_) (fun hc=>?_)<;>walk_at "py"
 ·refine Zq w1 (by decide) (by decide) fun r g r0 r1 e2 w2=>k _ _ r0 (by omega) (e1.trans e2) w2
 refine ifP (fun hc=>?_) (fun hc=>?_)<;>walk_at "py"
 ·refine YC fun p hp=>?_;have hne:=w1.ne hp;walk_at "py";refine Zq (w1.ext (Ext.new hp)) (by decide) (by decide) fun r g2 r0 r1 e2 w2=>?_
  skip
  rcases four r0 r1 with rfl|rfl|rfl|rfl<;>walk_at "py"<;>exact k _ _ (by omega) (by omega) ((e1.trans (.of (Ext.new hp))).trans e2) w2
 refine ifP (fun hc=>?_) (fun hc=>?_)<;>walk_at "py"
 ·refine Zq w1 (by decide) (by decide) fun r g r0 r1 e2 w2=>k _ _ r0 (by omega) (e1.trans e2) w2
 refine⟨by decide,?_⟩;refine Wy (fun i e g=>∃ m v,e=[some (.ref w),some (.int r),some (.int m),v]∧0≤m∧m<10 ^ (8*i)∧ExtB w h g∧Well g w) ⟨0,none,rfl,by decide,by decide,e1,w1⟩ (fun _ _ _ _ _=>trivial) ?_ ?_
 ·rintro i v e g hv ⟨m,u,rfl,m0,m1,e2,w2⟩ K hK;walk_at "py";have hi:i<5:=by
   have:=(List.getElem?_eq_some_iff.mp hv).1;simpa[rangeV]using this
  refine Zq w2 (by decide) (by decide) fun r g3 r0 r1 e3 w3=>?_;walk_at "py";refine hK _ _ ⟨_,_,rfl,?_,?_,e2.trans e3,w3⟩
  ·have:0≤m*10 ^ 8:=Int.mul_nonneg m0 (by decide);exact Int.add_nonneg this r0
  ·have e:8*(i+1)=8*i+8:=by omega
   rw[e,Int.pow_add];have:m+1≤10 ^ (8*i):=by omega
   have:=Int.mul_le_mul_of_nonneg_right this (show(0:Int)≤10 ^ 8 by decide);rw[Int.add_mul]at this;have r1':r<10 ^ 8:=r1
   skip
   skip
   omega
 ·rintro e g ⟨m,u,rfl,m0,m1,e2,w2⟩;walk_at "py";exact k _ _ m0 m1 e2 w2
theorem YZ (hw:Well h w) (k:∀ v g,IsPair v→ExtB w h g→Well g w→Q v g):wF P (n+3) "_law_pair" [.ref w] h Q X:=by refine JA ?_;walk_at "py";refine Yr hw fun c g c0 c1 e1 w1=>?_;walk_at "py";refine Yr w1 fun d g d0 d1 e2 w2=>?_;walk_at "py";exact k _ _ ⟨_,_,rfl,c0,c1,d0,d1⟩ (e1.trans e2) w2
theorem XC (hw:Well h w) (k:∀ v g,Kj v→ExtB w h g→Well g w→Q v g):wF P (n+4) "_law_perhaps" [.ref w] h Q X:=by
 refine XM ?_;walk_at "py";refine YZ hw fun v g hv e1 w1=>?_;walk_at "py";refine YC fun p hp=>?_;have hne:=w1.ne hp;walk_at "py";refine Zq (w1.ext (Ext.new hp)) (by decide) (by decide) fun r g2 r0 r1 e2 w2=>?_;walk_at "py";by_cases hr:r=0
 ·subst hr;walk_at "py";exact k _ _ (.inr rfl) ((e1.trans (.of (Ext.new hp))).trans e2) w2
 ·rw[decide_eq_false hr];walk_at "py";exact k _ _ (.inl hv) ((e1.trans (.of (Ext.new hp))).trans e2) w2
theorem KZ (hw:Well h w) (k:∀ v g,UD v→ExtB w h g→Well g w→Q v g):wF P (n+5) "_law_letter" [.ref w] h Q X:=by
 refine Wm ?_;walk_at "py";refine YZ hw fun a g1 ha e1 w1=>?_;walk_at "py";refine YZ w1 fun b g2 hb e2 w2=>?_;walk_at "py";refine Zq w2 (by decide) (by decide) fun r g3 r0 r1 e3 w3=>?_;walk_at "py";refine YC fun p hp=>?_;have hne:=w3.ne hp;walk_at "py";refine Zq (w3.ext (Ext.new hp)) (by decide) (by decide) fun s g4 s0 s1 e4 w4=>?_;have e5:ExtB w h g4:=(((e1.trans e2).trans e3).trans (.of (Ext.new hp))).trans e4;have hl:g4 p=some (.lst [.int 0,.int 999,.int r]):=e4.get hne.symm upd_same;clear e4;obtain⟨c,hc,c0,c1⟩:∃ c:Int,atI [Val.int 0,Val.int 999,Val.int r] s=some (.int c)∧0≤c∧c<1000:=by
  rcases CY s0 s1 with rfl|rfl|rfl
  ·exact⟨0,rfl,by decide,by decide⟩
  ·exact⟨999,rfl,by decide,by decide⟩
  ·exact⟨r,rfl,r0,r1⟩
 refine Ye hl hc ?_;walk_at "py";refine Yr w4 fun d g6 d0 d1 e6 w6=>?_;walk_at "py";refine Yr w6 fun e g7 f0 f1 e7 w7=>?_;walk_at "py";refine XC w7 fun f g8 hf e8 w8=>?_;walk_at "py";refine XC w8 fun q g9 hq e9 w9=>?_;walk_at "py";exact k _ _ ⟨a,b,c,d,e,f,q,rfl,ha,hb,c0,c1,d0,d1,f0,f1,hf,hq⟩ ((((e5.trans e6).trans e7).trans e8).trans e9) w9
theorem ZG{h:Hs}{o:Ob}{Q:Q1}(q:∀ p g,h p=none→Ext h g→g p=some o→Q (.ref p) g):new h o Q:=YC fun p hp=>q p _ hp (Ext.new hp) upd_same
noncomputable def Kn (h:Hs):Nat→Val→Prop
 |0,v=>(kindV h v).isSome=true
 |d+1,v=>(kindV h v).isSome=true∧∀ xs,v=.tup xs→∀ x∈xs,Kn h d x
theorem Kn.one{h:Hs}{v:Val}:∀ {d:Nat},Kn h d v→∃ t,kindV h v=some t
 |0,k=>Option.isSome_iff_exists.mp k
 |_+1,k=>Option.isSome_iff_exists.mp k.1
theorem WW{h g:Hs}{v:Val}(e:Ext h g){t:String}(k:kindV h v=some t):kindV g v=some t:=by
 cases v with
 |ref a =>
  dsimp only[kindV]at k ⊢;cases z:h a with
  |none=>rw[z]at k;cases k
  |some o=>rw[z]at k;rw[e.get z];exact k
 |_=>exact k
theorem Kn.ext{h g:Hs}(e:Ext h g):∀ {d:Nat}{v:Val},Kn h d v→Kn g d v
 |0,v,k=>by obtain⟨t,k⟩:=Kn.one (d:=0) k;show(kindV g v).isSome=true;rw[WW e k];rfl
 |d+1,v,k=>⟨by obtain⟨t,k2⟩:=Kn.one (d:=d+1) k;rw[WW e k2];rfl,fun xs z x hx=>(k.2 xs z x hx).ext e⟩
theorem ZO{h:Hs}:∀ (d:Nat){v:Val},(∀ xs,v≠.tup xs)→(kindV h v).isSome=true→Kn h d v
 |0,_,_,k=>k
 |_+1,_,n,k=>⟨k,fun xs z=>absurd z (n xs)⟩
theorem Zp{h:Hs}{d:Nat}{xs:List Val}(k:∀ x∈xs,Kn h d x):Kn h (d+1) (.tup xs):=⟨rfl,fun ys z=>by cases z;exact k⟩
noncomputable def Yj (v:Val) (lo hi:Int):Bool:=match v with
 |.int i=>decide (lo≤i)&&decide (i≤hi)
 |_=>false
noncomputable def ZN (v:Val):Bool:=Yj v 0 9999999999999999999999999999999999999999
noncomputable def ZH:Val→Bool
 |.tup [a,b]=>ZN a&&ZN b
 |_=>false
noncomputable def Xs (v:Val):Bool:=decide (v=.non)||ZH v
noncomputable def Zv:Val→Bool
 |.tup [a,b,c,d,e,f,g]=>ZH a&&ZH b&&Yj c 0 999&&ZN d&&ZN e&&Xs f&&Xs g
 |_=>false
noncomputable def MY:Val→Bool
 |.int _=>true
 |_=>false
theorem MC {h:Hs}{v:Val}{t:String}(k:kindV h v=some t):MY v=((t == "int" || (t == "bool" && ("int" : String) == "int")) && !(t == "bool" || (t == "bool" && ("bool" : String) == "int"))):=by
 cases v with
 |ref a =>dsimp only[kindV]at k;split at k<;>first|(cases k;rfl)|cases k
 |_=>cases k;rfl
theorem OF {v:Val}{T t:String}(k:kindV h v=some t) (q:Q (.bl (t==T||(t == "bool" && T == "int"))) h):(biV h (.isi [T]) [v]).wp h Q:=Dh (by unfold isiAny isiAny isiV;rw[k];simp) q
theorem Ma {v:Val}{d:Nat}(kn:Kn h d v) (k:Q (.bl (MY v)) h):wF P (n+1) "is_whole" [v] h Q X:=by
 obtain⟨t,kt⟩:=kn.one;rw[MC kt]at k;refine JV ?_;refine ZM (Wd (W3 (N7 (Zz (Z1 rfl (Z2 (OF kt (Jw ?_))))))));cases z:(t == "int" || (t == "bool" && ("int" : String) == "int"))with
 |false =>rw[z,Bool.false_and]at k;exact ifF rfl k
 |true =>rw[z,Bool.true_and]at k;exact ifT rfl (Ae (N7 (Zz (Z1 rfl (Z2 (OF kt (Jw k)))))))
theorem WX {v:Val}{d:Nat}{lo hi:Int}(kn:Kn h d v) (k:Q (.bl (Yj v lo hi)) h):wF P (n+2) "is_whole_between" [v,.int lo,.int hi] h Q X:=by
 refine Yn ?_;refine ZM (Wd (W3 (YG (Zz (Z1 rfl (Z2 (Ma kn (Jw ?_))))))));cases v with
 |int i =>
  refine ifT rfl ?_;walk_at "py";by_cases h1:lo≤i
  ·refine ifT (by simpa using h1) ?_;walk_at "py";simpa[Yj,h1]using k
  ·refine ifF (by simpa using h1) ?_;simpa[Yj,h1]using k
 |_=>exact ifF rfl k
theorem Yu {v:Val}{d:Nat}(kn:Kn h d v) (k:Q (.bl (ZN v)) h):wF P (n+3) "is_part" [v] h Q X:=by refine KG ?_;refine ZM (Wd (YG (Zz (Z1 rfl (Zz (Y5 (Zz (M7 (Z2 (WX kn ?_))))))))));exact k
theorem W4 {v:Val}{t:String}(k:kindV h v=some t):(t == "tuple" || (t == "bool" && ("tuple" : String) == "int"))=(XT v).isSome:=by
 cases v with
 |ref a =>dsimp only[kindV]at k;split at k<;>first|(cases k;rfl)|cases k
 |_=>cases k;rfl
theorem Xg {v:Val}(kn:Kn h 1 v) (k:Q (.bl (ZH v)) h):wF P (n+4) "is_pair" [v] h Q X:=by
 obtain⟨t,kt⟩:=kn.one;refine KY ?_;refine ZM (Wd (W3 (N7 (Zz (Z1 rfl (Z2 (OF kt (Jw ?_))))))));rw[W4 kt];cases v with
 |tup xs =>
  have hx:=kn.2 xs rfl;refine ifT rfl ?_;walk_at "py";by_cases h2:xs.length=2
  ·match xs,h2 with
   |[a,b],_ =>
    refine ifT (by simp) ?_;refine W3 (YG (Zz (MZ (Z1 rfl (Y5 (ix_tup rfl (Z2 (Yu (hx a (by simp)) (Jw ?_)))))))));cases z:ZN a with
    |false=>refine ifF rfl ?_;simpa[ZH,z]using k
    |true =>refine ifT rfl ?_;refine YG (Zz (MZ (Z1 rfl (Y5 (ix_tup rfl (Z2 (Yu (hx b (by simp)) ?_)))))));simpa[ZH,z]using k
  ·refine ifF (by simpa using fun z:(xs.length:Int)=2=>h2 (by omega)) ?_;have:ZH (.tup xs)=false:=by
    match xs,h2 with
    |[],_=>rfl
    |[_],_=>rfl
    |[_,_],h2=>exact absurd rfl h2
    |_::_::_::_,_=>rfl
   rw[this]at k;exact k
 |_=>exact ifF rfl k
theorem KA {v:Val}(kn:Kn h 1 v) (k:Q (.bl (Xs v)) h):wF P (n+5) "is_pair_or_none" [v] h Q X:=by
 refine Yv ?_;refine ZM (Wd (C2 (N2 (Z1 rfl (Y5 (UV (Jw ?_)))))));unfold Xs at k;by_cases hv:v=.non
 ·refine ifT (decide_eq_true hv) ?_;rw[decide_eq_true hv,Bool.true_or]at k;exact k
 ·refine ifF (decide_eq_false hv) ?_;rw[decide_eq_false hv,Bool.false_or]at k;exact YG (Zz (Z1 rfl (Z2 (Xg kn k))))
theorem On {v:Val}(kn:Kn h 2 v) (k:Q (.bl (Zv v)) h):wF P (n+6) "is_letter" [v] h Q X:=by
 obtain⟨t,kt⟩:=kn.one;refine Jd ?_;refine ZM (MD (DB (UF (NE (N7 (Zz (Z1 rfl (Z2 (OF kt (JZ ?_))))))))));rw[W4 kt];cases v with
 |tup xs =>
  have hx:=kn.2 xs rfl;refine ifF rfl ?_;walk_at "py";by_cases h7:xs.length=7
  ·match xs,h7 with
   |[a,b,c,d,e,f,g],_ =>
    refine ifF (by simp) ?_;have fail:∀ {y:Bool},Zv (.tup [a,b,c,d,e,f,g])=y→Q (.bl y) h:=fun {y} z=>by rw[z]at k;exact k
    walk_at "py";refine Xg (hx a (by simp)) ?_;walk_at "py";cases za:ZH a with
    |false =>refine ifT rfl ?_;refine ifT rfl ?_;walk_at "py";exact fail (by simp[Zv,za])
    |true =>
    refine ifF rfl ?_;walk_at "py";refine Xg (hx b (by simp)) ?_;walk_at "py";cases zb:ZH b with
    |false =>refine ifT rfl ?_;walk_at "py";exact fail (by simp[Zv,za,zb])
    |true =>
    refine ifF rfl ?_;walk_at "py";refine WX (hx c (by simp)) ?_;walk_at "py";cases zc:Yj c 0 999 with
    |false =>refine ifT rfl ?_;walk_at "py";exact fail (by simp[Zv,za,zb,zc])
    |true =>
    refine ifF rfl ?_;walk_at "py";refine Yu (hx d (by simp)) ?_;walk_at "py";cases zd:ZN d with
    |false =>refine ifT rfl ?_;refine ifT rfl ?_;walk_at "py";exact fail (by simp[Zv,za,zb,zc,zd])
    |true =>
    refine ifF rfl ?_;walk_at "py";refine Yu (hx e (by simp)) ?_;walk_at "py";cases ze:ZN e with
    |false =>refine ifT rfl ?_;walk_at "py";exact fail (by simp[Zv,za,zb,zc,zd,ze])
    |true =>
    refine ifF rfl ?_;walk_at "py";refine KA (hx f (by simp)) ?_;walk_at "py";cases zf:Xs f with
    |false=>exact ifF rfl (fail (by simp[Zv,za,zb,zc,zd,ze,zf]))
    |true =>
    refine ifT rfl ?_;walk_at "py";exact KA (hx g (by simp)) (fail (by simp[Zv,za,zb,zc,zd,ze,zf]))
  ·refine ifT (by simpa using fun z:(xs.length:Int)=7=>h7 (by omega)) ?_;walk_at "py";have:Zv (.tup xs)=false:=by
    unfold Zv;split
    ·rename_i z;cases z;exact absurd rfl h7
    ·rfl
   rw[this]at k;exact k
 |_ =>refine ifT rfl (ifT rfl ?_);walk_at "py";exact k
theorem Je {v:Val}{due:Bool}(kn:Kn h 2 v) (k:Zv v=due→Q (.bl true) h) (hd:Zv v=due):wF P (n+7) "_law_is" [v,.bl due] h Q X:=by refine MG ?_;walk_at "py";refine On kn ?_;walk_at "py";refine ifT rfl ?_;walk_at "py";rw[hd];simpa using k hd
theorem Kn.down{h:Hs}:∀ {d:Nat}{v:Val},Kn h (d+1) v→Kn h d v
 |0,_,k=>k.1
 |_+1,_,k=>⟨k.1,fun xs z x hx=>(k.2 xs z x hx).down⟩
theorem Xq{α:Type}{xs:List α}{r:Int}{x:α}(r0:0≤r)(e:xs[r.toNat]?=some x):atI xs r=some x:=by have:=(List.getElem?_eq_some_iff.mp e).1;unfold atI ixN;rw[if_pos r0,if_pos (by omega)];exact e
theorem Xj{α:Type}{xs:List α}{r:Int}(r0:0≤r)(r1:r<xs.length):∃ x,xs[r.toNat]?=some x∧x∈xs:=by
 have h:r.toNat<xs.length:=by omega
 exact⟨xs[r.toNat],List.getElem?_eq_getElem h,List.getElem_mem h⟩
theorem ZA{h:Hs}{d:Nat}{i:Int}:Kn h d (.int i):=ZO d (fun _ z=>by cases z) rfl
theorem J4{h:Hs}{d:Nat}{b:Bool}:Kn h d (.bl b):=ZO d (fun _ z=>by cases z) rfl
theorem YM{h:Hs}{d:Nat}:Kn h d .non:=ZO d (fun _ z=>by cases z) rfl
theorem Yh{h:Hs}{d:Nat}{s:String}:Kn h d (.str s):=ZO d (fun _ z=>by cases z) rfl
theorem Xx{h:Hs}{d:Nat}{a:Ad}{xs:List Val}(e:h a=some (.lst xs)):Kn h d (.ref a):=ZO d (fun _ z=>by cases z) (by dsimp only[kindV];rw[e];rfl)
theorem Jm{h:Hs}{d:Nat}{a:Ad}{xs:List (Val×Val)}(e:h a=some (.dct xs)):Kn h d (.ref a):=ZO d (fun _ z=>by cases z) (by dsimp only[kindV];rw[e];rfl)
theorem WC {m:Int}(hw:Well h w) (k:∀ v g,Kn g 1 v→Yj v 0 m=false→v≠.ref w→ExtB w h g→Well g w→Q v g):wF P (n+2) "_law_bad_number" [.ref w,.int m] h Q X:=by
 refine YL ?_;walk_at "py";refine ZG fun p0 g0 hp0 x0 e0=>?_;walk_at "py";refine ZG fun p1 g1 hp1 x1 e1=>?_;have x:=x0.trans x1;have w1:=hw.ext x;have n1:p1≠w:=fun z=>(hw.ext x0).ne hp1 z.symm;have n0:p0≠w:=fun z=>hw.ne hp0 z.symm;walk_at "py";refine Zq w1 (by simp) (by simp) fun r g2 r0 r1 x2 w2=>?_;obtain⟨v,ev,hv⟩:=Xj (xs:=[Val.int (-1),.int (m+1),.bl true,.bl false,.non,.str "0",.tup [.int 0],.ref p0,.int (-1000000000000000000000000000000),.str "-"]) (r:=r) r0 (by simpa using r1);refine Ye (x2.get n1 e1) (Xq r0 ev) ?_;have e0':=x2.get n0 (x1.get e0);have fin:Kn g2 1 v∧Yj v 0 m=false∧v≠.ref w:=by
  simp only[List.mem_cons,List.not_mem_nil,or_false]at hv;rcases hv with rfl|rfl|rfl|rfl|rfl|rfl|rfl|rfl|rfl|rfl
  ·exact⟨ZA,by simp[Yj],by intro z;cases z⟩
  ·exact⟨ZA,by simp only[Yj,Bool.and_eq_false_iff,decide_eq_false_iff_not];omega,by intro z;cases z⟩
  ·exact⟨J4,rfl,by intro z;cases z⟩
  ·exact⟨J4,rfl,by intro z;cases z⟩
  ·exact⟨YM,rfl,by intro z;cases z⟩
  ·exact⟨Yh,rfl,by intro z;cases z⟩
  ·exact⟨Zp fun x hx=>by rw[List.mem_singleton.mp hx];exact ZA,rfl,by intro z;cases z⟩
  ·exact⟨Xx e0',rfl,by intro z;injection z with z;exact n0 z⟩
  ·exact⟨ZA,by simp[Yj],by intro z;cases z⟩
  ·exact⟨Yh,rfl,by intro z;cases z⟩
 exact k _ _ fin.1 fin.2.1 fin.2.2 (.trans (.of x) x2) w2
theorem ON {free:Bool}(hw:Well h w) (k:∀ v g,Kn g 1 v→ZH v=false→(free=true→v≠.non)→ExtB w h g→Well g w→Q v g):wF P (n+4) "_law_bad_pair" [.ref w,.bl free] h Q X:=by
 refine Xv ?_;walk_at "py";refine YZ hw fun pr g1 hpr x1 w1=>?_;obtain⟨a,b,rfl,_⟩:=hpr;walk_at "py";refine Zq w1 (by decide) (by decide) fun kind g2 k0 k1 x2 w2=>?_;have y2:=x1.trans x2;walk_at "py";refine ifP (fun hk=>?_) (fun hk=>?_)
 ·walk_at "py";refine WC w2 fun bad g3 kb bb nb x3 w3=>?_;walk_at "py";refine ZG fun p g4 hp x4 e4=>?_;have y4:=(y2.trans x3).trans (.of x4);have w4:=w3.ext x4;have kb4:=(kb.ext x4).down;walk_at "py";have hb:ZN bad=false:=bb;have h2:kind % 2=0∨kind % 2=1:=by omega
  rcases h2 with h2|h2
  ·rw[h2];walk_at "py";refine k _ _ (Zp fun x hx=>?_) (by simp[ZH,hb]) (fun _ z=>by cases z) y4 w4;simp only[List.mem_cons,List.not_mem_nil,or_false]at hx;rcases hx with rfl|rfl
   ·exact kb4
   ·exact ZA
  ·rw[h2];walk_at "py";refine k _ _ (Zp fun x hx=>?_) (by simp[ZH,hb]) (fun _ z=>by cases z) y4 w4;simp only[List.mem_cons,List.not_mem_nil,or_false]at hx;rcases hx with rfl|rfl
   ·exact ZA
   ·exact kb4
 walk_at "py";refine ifP (fun hk=>?_) (fun hk=>?_)
 ·walk_at "py";refine ZG fun p g4 hp x4 e4=>?_;exact k _ _ (Xx e4) rfl (fun _ z=>by cases z) (y2.trans (.of x4)) (w2.ext x4)
 walk_at "py";refine ifP (fun hk=>?_) (fun hk=>?_)
 ·walk_at "py";refine ZG fun p g4 hp x4 e4=>?_;have np:p≠w:=fun z=>w2.ne hp z.symm;walk_at "py";refine Zq (w2.ext x4) (by decide) (by decide) fun r g5 r0 r1 x5 w5=>?_;obtain⟨v,ev,hv⟩:=Xj (xs:=[Val.tup [],.tup [.int a],.tup [.int a,.int b,.int 0],.tup [.tup [.int a,.int b]]]) (r:=r) r0 (by simpa using r1);refine Ye (x5.get np e4) (Xq r0 ev) ?_;have fin:Kn g5 1 v∧ZH v=false∧v≠.non:=by
   simp only[List.mem_cons,List.not_mem_nil,or_false]at hv;rcases hv with rfl|rfl|rfl|rfl
   ·exact⟨Zp fun x hx=>(by cases hx),rfl,by intro z;cases z⟩
   ·exact⟨Zp fun x hx=>(by rw[List.mem_singleton.mp hx];exact ZA),rfl,by intro z;cases z⟩
   ·refine⟨Zp fun x hx=>?_,rfl,by intro z;cases z⟩;simp only[List.mem_cons,List.not_mem_nil,or_false]at hx;rcases hx with rfl|rfl|rfl<;>exact ZA
   ·exact⟨Zp fun x hx=>(by rw[List.mem_singleton.mp hx];exact(Zp (d:=0) fun y hy=>by simp only[List.mem_cons,List.not_mem_nil,or_false]at hy;rcases hy with rfl|rfl<;>exact ZA).down),rfl,by intro z;cases z⟩
  exact k _ _ fin.1 fin.2.1 (fun _=>fin.2.2) ((y2.trans (.of x4)).trans x5) w5
 have last:∀ {N B C:NQ}{X':EQ},wSs (wF P (n+3)) (.cons (.ret (.idx (.lst (.cons (.cst (.int 0)) (.cons (.cst (.str "0.0")) (.cons (.cst (.bl true)) (.cons (.cst (.str "-")) (.cons (.dct .nil) .nil)))))) (.call "_law_draw" (.cons (.var 0) (.cons (.cst (.int 5)) .nil))))) .nil) [some (.ref w),some (.bl free),some (.int a),some (.int b),some (.int kind),none] g2 N Q B C X':=by
  intro N B C X';walk_at "py";intro p0 hp0;have x0:Ext g2 (upd g2 p0 (.dct [])):=Ext.new hp0;have e0:upd g2 p0 (.dct []) p0=some (.dct []):=upd_same;generalize upd g2 p0 (.dct [])=g3 at x0 e0;walk_at "py";refine ZG fun p g4 hp x4 e4=>?_;have np:p≠w:=fun z=>(w2.ext x0).ne hp z.symm;have np0:p0≠w:=fun z=>w2.ne hp0 z.symm;walk_at "py";refine Zq ((w2.ext x0).ext x4) (by decide) (by decide) fun r g5 r0 r1 x5 w5=>?_;obtain⟨v,ev,hv⟩:=Xj (xs:=[Val.int 0,.str "0.0",.bl true,.str "-",.ref p0]) (r:=r) r0 (by simpa using r1);refine Ye (x5.get np e4) (Xq r0 ev) ?_;have e05:=x5.get np0 (x4.get e0);have fin:Kn g5 1 v∧ZH v=false∧v≠.non:=by
   simp only[List.mem_cons,List.not_mem_nil,or_false]at hv;rcases hv with rfl|rfl|rfl|rfl|rfl
   ·exact⟨ZA,rfl,by intro z;cases z⟩
   ·exact⟨Yh,rfl,by intro z;cases z⟩
   ·exact⟨J4,rfl,by intro z;cases z⟩
   ·exact⟨Yh,rfl,by intro z;cases z⟩
   ·exact⟨Jm e05,rfl,by intro z;cases z⟩
  exact k _ _ fin.1 fin.2.1 (fun _=>fin.2.2) (((y2.trans (.of x0)).trans (.of x4)).trans x5) w5
 walk_at "py";refine ifP (fun hk=>?_) (fun hk=>?_)
 ·walk_at "py";cases free with
  |true =>refine ifF rfl ?_;refine Z6 ?_;exact last
  |false =>refine ifT rfl ?_;walk_at "py";exact k _ _ YM rfl nofun y2 w2
 ·refine ifF rfl ?_;refine Z6 ?_;exact last
noncomputable def Lt.parts (l:Lt):List Val:=[pv l.a,pv l.b,.int l.c,.int l.d,.int l.e,ov l.f,ov l.g]
theorem Xd{p:Pr}(h:pOk p):ZH (pv p)=true:=by have h1:=h.1;have h2:=h.2;unfold pv ZH ZN Yj;simp only[bAq,decide_eq_true_eq];omega
theorem J5{o:Option Pr}(h:oOk o):Xs (ov o)=true:=by
 cases o with
 |none=>rfl
 |some p=>unfold Xs;rw[show ov (some p)=pv p from rfl,Xd h,Bool.or_true]
theorem We{m:Nat}(h:m<10 ^ 40):ZN (.int m)=true:=by unfold ZN Yj;simp only[bAq,decide_eq_true_eq];omega
theorem Km{l:Lt}(h:l.ok):Zv l.val=true:=by
 have hc:Yj (.int l.c) 0 999=true:=by have:=h.c;unfold Yj;simp only[bAq,decide_eq_true_eq];omega
 unfold Lt.val Zv;simp only[Xd h.a,Xd h.b,hc,We h.d,We h.e,J5 h.f,J5 h.g,Bool.and_self]
theorem U4{h:Hs}{p:Pr}:Kn h 1 (pv p):=Zp fun x hx=>by simp only[List.mem_cons,List.not_mem_nil,or_false]at hx;rcases hx with rfl|rfl<;>exact ZA
theorem Cj{h:Hs}{o:Option Pr}:Kn h 1 (ov o):=by
 cases o with
 |none=>exact YM
 |some p=>exact U4
theorem Ji{h:Hs}{l:Lt}{x:Val}(hx:x∈l.parts):Kn h 1 x:=by unfold Lt.parts at hx;simp only[List.mem_cons,List.not_mem_nil,or_false]at hx;rcases hx with rfl|rfl|rfl|rfl|rfl|rfl|rfl<;>first|exact U4|exact ZA|exact Cj
theorem Jo{h:Hs}{l:Lt}:Kn h 2 l.val:=Zp fun x hx=>Ji hx
theorem U0{h:Hs}{d:Nat}{xs ys:List Val}(hx:∀ x∈xs,Kn h d x)(hy:∀ y∈ys,Kn h d y):∀ z∈xs++ys,Kn h d z:=fun z hz=>by
 rcases List.mem_append.mp hz with hz|hz
 ·exact hx z hz
 ·exact hy z hz
theorem KJ {l:Lt}(hl:l.ok) (hw:Well h w) (k:∀ v g,Kn g 2 v→Zv v=false→ExtB w h g→Well g w→Q v g):wF P (n+5) "_law_spoilt" [.ref w,.tup l.parts] h Q X:=by
 refine Wo ?_;walk_at "py";refine Zq hw (by decide) (by decide) fun at_ g1 a0 a1 x1 w1=>?_;have kp:∀ {g:Hs}{x:Val},x∈l.parts→Kn g 1 x:=fun hx=>Ji hx;have l7:l.parts.length=7:=rfl;have c6:∀ lo hi,(cut l.parts lo hi).length≤7:=fun lo hi=>Kf l.parts lo hi;walk_at "py";refine ifP (fun hk=>?_) (fun hk=>?_)
 ·walk_at "py";refine sl_tup (by rw[l7];decide) ?_;walk_at "py";refine sl_tup (by rw[l7];decide) ?_;walk_at "py";refine Xk (by rw[l7];decide) ?_;walk_at "py";refine Xk (by rw[l7];decide) ?_;walk_at "py";refine ZG fun p g4 hp x4 e4=>?_;have np:p≠w:=fun z=>w1.ne hp z.symm;walk_at "py";refine Zq (w1.ext x4) (by decide) (by decide) fun r g5 r0 r1 x5 w5=>?_;obtain⟨v,ev,hv⟩:=Xj (xs:=[Val.tup (cut l.parts none (some 6)),.tup (cut l.parts (some 1) none),.tup (l.parts++[.non]),.tup (l.parts++l.parts),.tup []]) (r:=r) r0 (by simpa using r1);refine Ye (x5.get np e4) (Xq r0 ev) ?_;have hcut:∀ lo hi,∀ x∈cut l.parts lo hi,x∈l.parts:=fun lo hi x hx=>List.mem_of_mem_drop (List.mem_of_mem_take hx);have fin:Kn g5 2 v∧Zv v=false:=by
   simp only[List.mem_cons,List.not_mem_nil,or_false]at hv;rcases hv with rfl|rfl|rfl|rfl|rfl
   ·exact⟨Zp fun x hx=>kp (hcut _ _ x hx),rfl⟩
   ·exact⟨Zp fun x hx=>kp (hcut _ _ x hx),rfl⟩
   ·exact⟨Zp (U0 (fun x hx=>kp hx) fun y hy=>by rw[List.mem_singleton.mp hy];exact YM),rfl⟩
   ·exact⟨Zp (U0 (fun x hx=>kp hx) fun x hx=>kp hx),rfl⟩
   ·exact⟨Zp fun x hx=>(by cases hx),rfl⟩
  exact k _ _ fin.1 fin.2 ((x1.trans (.of x4)).trans x5) w5
 walk_at "py";refine ifP (fun hk=>?_) (fun hk=>?_)
 ·walk_at "py";refine ZG fun p0 g2 hp0 x2 e2=>?_;walk_at "py";refine OO ?_;refine ZG fun p1 g3 hp1 x3 e3=>?_;walk_at "py";refine ZG fun p g4 hp x4 e4=>?_;have w2:=w1.ext x2;have w3:=w2.ext x3;have np:p≠w:=fun z=>w3.ne hp z.symm;have np0:p0≠w:=fun z=>w1.ne hp0 z.symm;have np1:p1≠w:=fun z=>w2.ne hp1 z.symm;walk_at "py";refine Zq (w3.ext x4) (by decide) (by decide) fun r g5 r0 r1 x5 w5=>?_;obtain⟨v,ev,hv⟩:=Xj (xs:=[Val.ref p0,.non,.tup [.tup l.parts],.str "letter",.ref p1]) (r:=r) r0 (by simpa using r1);refine Ye (x5.get np e4) (Xq r0 ev) ?_;have fin:Kn g5 2 v∧Zv v=false:=by
   simp only[List.mem_cons,List.not_mem_nil,or_false]at hv;rcases hv with rfl|rfl|rfl|rfl|rfl
   ·exact⟨Xx (x5.get np0 (x4.get (x3.get e2))),rfl⟩
   ·exact⟨YM,rfl⟩
   ·refine⟨Zp fun x hx=>?_,rfl⟩;rw[List.mem_singleton.mp hx];exact Zp fun y hy=>(kp hy).down
   ·exact⟨Yh,rfl⟩
   ·exact⟨Jm (x5.get np1 (x4.get e3)),rfl⟩
  exact k _ _ fin.1 fin.2 ((((x1.trans (.of x2)).trans (.of x3)).trans (.of x4)).trans x5) w5
 have fin:∀ (v:Val) (g:Hs),Kn g 1 v→Zv (.tup (l.parts.set at_.toNat v))=false→ExtB w h g→Well g w→wSs (wF P (n+4)) (.cons (.ret (.bin .add (.bin .add (.slc (.var 1) .none (.some (.var 2))) (.tup (.cons (.var 3) .nil))) (.slc (.var 1) (.some (.bin .add (.var 2) (.cst (.int 1)))) .none))) .nil) [some (.ref w),some (.tup l.parts),some (.int at_),some v] g (fun _ g=>Q Val.non g) Q (fun _ _=>False) (fun _ _=>False) fun _ c g=>X c g:=by
  intro v g kv lb xg wg;have h7:at_=0∨at_=1∨at_=2∨at_=3∨at_=4∨at_=5∨at_=6:=by omega
  have ks:∀ i,∀ x∈l.parts.set i v,Kn g 1 x:=fun i x hx=>by
   rcases List.mem_or_eq_of_mem_set hx with hx|rfl
   ·exact kp hx
   ·exact kv
  have K0:Q (.tup (l.parts.set at_.toNat v)) g:=k _ _ (Zp (ks _)) lb xg wg;walk_at "py";rcases h7 with rfl|rfl|rfl|rfl|rfl|rfl|rfl <;>
   (refine sl_tup (by rw[l7];decide) ?_
    walk_at "py"
    refine Xk (Nat.le_trans (Nat.add_le_add (c6 _ _) (Nat.le_refl 1)) (by decide)) ?_
    walk_at "py"
    refine sl_tup (by rw[l7];decide) ?_
    walk_at "py"
    refine Xk (by rw[List.length_append];exact Nat.le_trans (Nat.add_le_add (Nat.add_le_add (c6 _ _) (Nat.le_refl 1)) (c6 _ _)) (by decide)) ?_
    exact K0)
 walk_at "py";refine ifP (fun hk=>?_) (fun hk=>?_)
 ·walk_at "py";refine WC w1 fun bad g2 kb bb _ x2 w2=>?_;refine Ww rfl (Z6 (fin bad g2 kb ?_ (x1.trans x2) w2));subst hk;show Zv (.tup [pv l.a,pv l.b,bad,.int l.d,.int l.e,ov l.f,ov l.g])=false;simp[Zv,bb]
 refine ZM (MD (NE (N2 (Z1 rfl (UW (Zz (Y5 (Zz (Y5 (Z2 ?_))))))))));by_cases h34:at_=3∨at_=4
 ·refine go_of (a:=true) (by rcases h34 with rfl|rfl<;>rfl) (JZ (ifT rfl ?_));walk_at "py";refine WC w1 fun bad g2 kb bb _ x2 w2=>?_;have hb:ZN bad=false:=bb;refine Ww rfl (Z6 (Z6 (fin bad g2 kb ?_ (x1.trans x2) w2)));rcases h34 with rfl|rfl
  ·show Zv (.tup [pv l.a,pv l.b,.int l.c,bad,.int l.e,ov l.f,ov l.g])=false;simp[Zv,hb]
  ·show Zv (.tup [pv l.a,pv l.b,.int l.c,.int l.d,bad,ov l.f,ov l.g])=false;simp[Zv,hb]
 ·refine go_of (a:=false) ?_ (JZ (ifF rfl ?_))
  ·show some (D.eqv (.int 3) (.int at_)||(D.eqv (.int 4) (.int at_)||false))=some false;have h3:¬ (3=at_):=fun z=>h34 (.inl z.symm);have h4:¬ (4=at_):=fun z=>h34 (.inr z.symm);simp[D.eqv,h3,h4]
  walk_at "py";refine ON w1 fun bad g2 kb bb fr x2 w2=>?_;refine Ww rfl (Z6 (Z6 (fin bad g2 kb ?_ (x1.trans x2) w2)));have h5:at_=0∨at_=1∨at_=5∨at_=6:=by omega
  rcases h5 with rfl|rfl|rfl|rfl
  ·show Zv (.tup [bad,pv l.b,.int l.c,.int l.d,.int l.e,ov l.f,ov l.g])=false;simp[Zv,bb]
  ·show Zv (.tup [pv l.a,bad,.int l.c,.int l.d,.int l.e,ov l.f,ov l.g])=false;simp[Zv,bb]
  ·have:Xs bad=false:=by unfold Xs;rw[bb,Bool.or_false];exact decide_eq_false (fr rfl)
   show Zv (.tup [pv l.a,pv l.b,.int l.c,.int l.d,.int l.e,bad,ov l.g])=false;simp[Zv,this]
  ·have:Xs bad=false:=by unfold Xs;rw[bb,Bool.or_false];exact decide_eq_false (fr rfl)
   show Zv (.tup [pv l.a,pv l.b,.int l.c,.int l.d,.int l.e,ov l.f,bad])=false;simp[Zv,this]
theorem law_ok {ns:List Int}(h63:ns.length≤63) (k:∀ g,Q (.bl true) g):wF P (n+8) "law" [.scr ns] h Q X:=by
 have hlim:lim=1000000:=rfl;refine Co ?_;walk_at "py";refine ZG fun p g1 hp x1 e1=>?_;walk_at "py";refine ZG fun q g2 hq x2 e2=>?_;rw[Of]at e2;have hl:=Kf ns none (some 40);refine Mw (x2.get e1) e2 (by simp[lim];omega) ?_;refine ZG fun z g3 hz x3 e3=>?_;have ez:([Val.int 0,Val.int 5]++(cut ns none (some 40)).map Val.int:List Val)=(0::5::cut ns none (some 40)).map Val.int:=rfl;rw[ez]at e3;generalize 0::5::cut ns none (some 40)=zs at e3;walk_at "py";refine Wy (fun i en g=>∃ v1 v2 v3,en=[some (.scr ns),v1,v2,v3,none,none]∧g z=some (.lst (zs.map Val.int))) ⟨_,_,_,rfl,e3⟩ (fun i en g _ ⟨_,_,_,_,e⟩=>by show lsOf (g z)=_;rw[e];rfl) ?_ ?_
 ·rintro i v en g hv ⟨v1,v2,v3,rfl,ez⟩ K hK;rw[List.getElem?_map]at hv;obtain⟨c,_,rfl⟩:=Option.map_eq_some_iff.mp hv;walk_at "py";refine Oq fun w g2 w0 x2 w2=>?_;have hzw:z≠w:=WI ez w0;walk_at "py";refine KZ w2 fun one g3 ho x3 w3=>?_;obtain⟨l,hlo,rfl⟩:=Ud ho;walk_at "py";refine Je Jo (fun _=>?_) (Km hlo);walk_at "py";refine ifF rfl ?_;walk_at "py";refine KJ hlo w3 fun bad g4 kb lb x4 w4=>?_;walk_at "py";refine Je kb (fun _=>?_) lb;walk_at "py";refine ifF rfl ?_;walk_at "py";refine Je Jo (fun _=>?_) (Km hlo);walk_at "py";refine ifF rfl ?_;walk_at "py";exact hK _ _ ⟨_,_,_,rfl,x4.get hzw (x3.get hzw (x2.get ez))⟩
 ·rintro en g ⟨v1,v2,v3,rfl,ez⟩;walk_at "py";refine ZG fun p1 g1 hp1 x1 e1=>?_;walk_at "py";intro p2 hp2;have x2:Ext g1 (upd g1 p2 (.dct [])):=Ext.new hp2;have e2:upd g1 p2 (.dct []) p2=some (.dct []):=upd_same;generalize upd g1 p2 (.dct [])=g2 at x2 e2;walk_at "py";refine ZG fun p3 g3 hp3 x3 e3=>?_;walk_at "py";refine ZG fun p4 g4 hp4 x4 e4=>?_;walk_at "py";have e1':=x4.get (x3.get (x2.get e1));have e2':=x4.get (x3.get e2);have e3':=x4.get e3;have kl:Kn g4 2 (.tup [.tup [.int 0,.int 0],.tup [.int 0,.int 0],.int 0,.int 0,.int 0,.non,.non]):=Jo (l:=⟨(0,0),(0,0),0,0,0,none,none⟩);have bd:∀ x∈[Val.non,.bl true,.int 0,.int 7,.str "",.str "0.0 0.0 0 0 0 - -",.ref p1,.tup [],.ref p2,.tup [.tup [.tup [.int 0,.int 0],.tup [.int 0,.int 0],.int 0,.int 0,.int 0,.non,.non],.tup [.tup [.int 0,.int 0],.tup [.int 0,.int 0],.int 0,.int 0,.int 0,.non,.non]],.ref p3],Kn g4 2 x∧Zv x=false:=by
   intro x hx;simp only[List.mem_cons,List.not_mem_nil,or_false]at hx;rcases hx with rfl|rfl|rfl|rfl|rfl|rfl|rfl|rfl|rfl|rfl|rfl
   ·exact⟨YM,rfl⟩
   ·exact⟨J4,rfl⟩
   ·exact⟨ZA,rfl⟩
   ·exact⟨ZA,rfl⟩
   ·exact⟨Yh,rfl⟩
   ·exact⟨Yh,rfl⟩
   ·exact⟨Xx e1',rfl⟩
   ·exact⟨Zp fun x hx=>(by cases hx),rfl⟩
   ·exact⟨Jm e2',rfl⟩
   ·refine⟨Zp fun x hx=>?_,rfl⟩;simp only[List.mem_cons,List.not_mem_nil,or_false]at hx;rcases hx with rfl|rfl<;>exact kl.down
   ·exact⟨Xx e3',rfl⟩
  refine Wy (fun i en g=>g=g4∧∃ v5,en=[some (.scr ns),v1,v2,v3,some (.tup [.tup [.int 0,.int 0],.tup [.int 0,.int 0],.int 0,.int 0,.int 0,.non,.non]),v5]) ⟨rfl,_,rfl⟩ (fun i en g _ ⟨z,_⟩=>by show lsOf (g p4)=_;rw[z,e4];rfl) ?_ ?_
  ·rintro i v en g hv ⟨rfl,v5,rfl⟩ K hK;obtain⟨b1,b2⟩:=bd v (List.mem_of_getElem? hv);walk_at "py";refine Je b1 (fun _=>?_) b2;walk_at "py";refine ifF rfl ?_;walk_at "py";exact hK _ _ ⟨rfl,_,rfl⟩
  ·rintro en g ⟨rfl,v5,rfl⟩;walk_at "py";exact Je kl (fun _=>k _) (by decide)
end Own
set_option maxRecDepth 1000000
set_option maxHeartbeats 0
namespace My
open PySem L2 Snd PySem.W
noncomputable def top (i:Nat):Stmt:=PySem.Challenge.pw_shutways_k11_what_a_letter_is.main.body.getD i (.Pass ⟨0,0,0,0⟩)
noncomputable def inC:Stmt→Nat→Stmt
 |.ClassDef _ _ _ b _ _ _ _ _ _ _,j=>b.getD j (.Pass ⟨0,0,0,0⟩)
 |s,_=>s
noncomputable def x0:Ds:=⟨top 1,["thing"],["thing"],Own.HU⟩
noncomputable def x1:Ds:=⟨top 2,["thing","least","greatest"],["thing","least","greatest"],Own.HP⟩
noncomputable def x2:Ds:=⟨top 14,["thing"],["thing"],Own.HZ⟩
noncomputable def x3:Ds:=⟨top 15,["thing"],["thing"],Own.HW⟩
noncomputable def x4:Ds:=⟨top 16,["thing"],["thing"],Own.HY⟩
noncomputable def x5:Ds:=⟨top 17,["thing"],["thing"],Own.HX⟩
noncomputable def x6:Ds:=⟨top 19,["cell"],["cell"],Own.IK⟩
noncomputable def x7:Ds:=⟨top 20,["well","many","got","stirred"],["well","many"],Own.H9⟩
noncomputable def x8:Ds:=⟨top 21,["well","kind","many","k"],["well"],Own.HV⟩
noncomputable def x9:Ds:=⟨top 22,["well","one"],["well"],Own.IX⟩
noncomputable def x10:Ds:=⟨top 23,["well","pair"],["well"],Own.IW⟩
noncomputable def x11:Ds:=⟨top 24,["well","number","stamp","root","cost","age","rests"],["well"],Own.IY⟩
noncomputable def x12:Ds:=⟨top 25,["well","most","some"],["well","most"],Own.HR⟩
noncomputable def x13:Ds:=⟨top 26,["well","free","one","other","kind","bad"],["well","free"],Own.HS⟩
noncomputable def x14:Ds:=⟨top 27,["well","letter","at","bad"],["well","letter"],Own.IJ⟩
noncomputable def x15:Ds:=⟨top 28,["thing","due","got"],["thing","due"],Own.IZ⟩
noncomputable def x16:Ds:=⟨top 29,["script","cell","well","letter","least","thing"],["script"],Own.HQ⟩
noncomputable def tb:Tb where
 fs:=[("is_whole",x0),("is_whole_between",x1),("is_letter",x2),("is_part",x3),("is_pair",x4),("is_pair_or_none",x5),("_law_well",x6),("_law_draw",x7),("_law_count",x8),("_law_pair",x9),("_law_perhaps",x10),("_law_letter",x11),("_law_bad_number",x12),("_law_bad_pair",x13),("_law_spoilt",x14),("_law_is",x15),("law",x16)]
 ms:=[]
 cs:=[("GREATEST_NUMBER",(.int 999)),("NUMBER",(.int 0)),("STAMP",(.int 1)),("ROOT",(.int 2)),("COST",(.int 3)),("AGE",(.int 4)),("RESTS",(.int 5)),("AGREES",(.int 6)),("PARTS",(.int 7)),("GREATEST_PART",(.int 9999999999999999999999999999999999999999))]
 cl:=[]
 fl:=[]
 xs:=[]
noncomputable def pg:Own.Pg:=fun f=>(([("is_whole",Own.HU),("is_whole_between",Own.HP),("is_letter",Own.HZ),("is_part",Own.HW),("is_pair",Own.HY),("is_pair_or_none",Own.HX),("_law_well",Own.IK),("_law_draw",Own.H9),("_law_count",Own.HV),("_law_pair",Own.IX),("_law_perhaps",Own.IW),("_law_letter",Own.IY),("_law_bad_number",Own.HR),("_law_bad_pair",Own.HS),("_law_spoilt",Own.IJ),("_law_is",Own.IZ),("law",Own.HQ)]:List (String×Own.Fn)).lookup f)
instance:Own.Al pg:=⟨rfl,rfl,rfl,rfl,rfl,rfl,rfl,rfl,rfl,rfl,rfl,rfl,rfl,rfl,rfl,rfl,rfl⟩
theorem ok0:x0.Ok tb:=⟨by kernel_rfl,by kernel_rfl⟩
theorem ok1:x1.Ok tb:=⟨by kernel_rfl,by kernel_rfl⟩
theorem ok2:x2.Ok tb:=⟨by kernel_rfl,by kernel_rfl⟩
theorem ok3:x3.Ok tb:=⟨by kernel_rfl,by kernel_rfl⟩
theorem ok4:x4.Ok tb:=⟨by kernel_rfl,by kernel_rfl⟩
theorem ok5:x5.Ok tb:=⟨by kernel_rfl,by kernel_rfl⟩
theorem ok6:x6.Ok tb:=⟨by kernel_rfl,by kernel_rfl⟩
theorem ok7:x7.Ok tb:=⟨by kernel_rfl,by kernel_rfl⟩
theorem ok8:x8.Ok tb:=⟨by kernel_rfl,by kernel_rfl⟩
theorem ok9:x9.Ok tb:=⟨by kernel_rfl,by kernel_rfl⟩
theorem EL:x10.Ok tb:=⟨by kernel_rfl,by kernel_rfl⟩
theorem FE:x11.Ok tb:=⟨by kernel_rfl,by kernel_rfl⟩
theorem Fv:x12.Ok tb:=⟨by kernel_rfl,by kernel_rfl⟩
theorem Fw:x13.Ok tb:=⟨by kernel_rfl,by kernel_rfl⟩
theorem E3:x14.Ok tb:=⟨by kernel_rfl,by kernel_rfl⟩
theorem F7:x15.Ok tb:=⟨by kernel_rfl,by kernel_rfl⟩
theorem FS:x16.Ok tb:=⟨by kernel_rfl,by kernel_rfl⟩
theorem tab_ok:∀ f x,(f,x)∈tb.fs→x.Ok tb:=by
 intro f x h;simp only[tb,List.mem_cons,List.not_mem_nil,or_false,Prod.mk.injEq]at h;rcases h with⟨rfl,rfl⟩|⟨rfl,rfl⟩|⟨rfl,rfl⟩|⟨rfl,rfl⟩|⟨rfl,rfl⟩|⟨rfl,rfl⟩|⟨rfl,rfl⟩|⟨rfl,rfl⟩|⟨rfl,rfl⟩|⟨rfl,rfl⟩|⟨rfl,rfl⟩|⟨rfl,rfl⟩|⟨rfl,rfl⟩|⟨rfl,rfl⟩|⟨rfl,rfl⟩|⟨rfl,rfl⟩|⟨rfl,rfl⟩
 ·exact ok0
 ·exact ok1
 ·exact ok2
 ·exact ok3
 ·exact ok4
 ·exact ok5
 ·exact ok6
 ·exact ok7
 ·exact ok8
 ·exact ok9
 ·exact EL
 ·exact FE
 ·exact Fv
 ·exact Fw
 ·exact E3
 ·exact F7
 ·exact FS
theorem tab_pg:∀ f x,(f,x)∈tb.fs→pg f=some x.d:=by intro f x h;simp only[tb,List.mem_cons,List.not_mem_nil,or_false,Prod.mk.injEq]at h;rcases h with⟨rfl,rfl⟩|⟨rfl,rfl⟩|⟨rfl,rfl⟩|⟨rfl,rfl⟩|⟨rfl,rfl⟩|⟨rfl,rfl⟩|⟨rfl,rfl⟩|⟨rfl,rfl⟩|⟨rfl,rfl⟩|⟨rfl,rfl⟩|⟨rfl,rfl⟩|⟨rfl,rfl⟩|⟨rfl,rfl⟩|⟨rfl,rfl⟩|⟨rfl,rfl⟩|⟨rfl,rfl⟩|⟨rfl,rfl⟩<;>rfl
theorem tab_bd:∀ f x,(f,x)∈tb.fs→Hd.Bd (Str.ofString f) (Str.ofString f) x:=by
 intro f x h;simp only[tb,List.mem_cons,List.not_mem_nil,or_false,Prod.mk.injEq]at h;rcases h with⟨rfl,rfl⟩|⟨rfl,rfl⟩|⟨rfl,rfl⟩|⟨rfl,rfl⟩|⟨rfl,rfl⟩|⟨rfl,rfl⟩|⟨rfl,rfl⟩|⟨rfl,rfl⟩|⟨rfl,rfl⟩|⟨rfl,rfl⟩|⟨rfl,rfl⟩|⟨rfl,rfl⟩|⟨rfl,rfl⟩|⟨rfl,rfl⟩|⟨rfl,rfl⟩|⟨rfl,rfl⟩|⟨rfl,rfl⟩
 ·exact fun _ _ _ _ _ _ us hl=>match us,hl with|[_],_=>rfl
 ·exact fun _ _ _ _ _ _ us hl=>match us,hl with|[_,_,_],_=>rfl
 ·exact fun _ _ _ _ _ _ us hl=>match us,hl with|[_],_=>rfl
 ·exact fun _ _ _ _ _ _ us hl=>match us,hl with|[_],_=>rfl
 ·exact fun _ _ _ _ _ _ us hl=>match us,hl with|[_],_=>rfl
 ·exact fun _ _ _ _ _ _ us hl=>match us,hl with|[_],_=>rfl
 ·exact fun _ _ _ _ _ _ us hl=>match us,hl with|[_],_=>rfl
 ·exact fun _ _ _ _ _ _ us hl=>match us,hl with|[_,_],_=>rfl
 ·exact fun _ _ _ _ _ _ us hl=>match us,hl with|[_],_=>rfl
 ·exact fun _ _ _ _ _ _ us hl=>match us,hl with|[_],_=>rfl
 ·exact fun _ _ _ _ _ _ us hl=>match us,hl with|[_],_=>rfl
 ·exact fun _ _ _ _ _ _ us hl=>match us,hl with|[_],_=>rfl
 ·exact fun _ _ _ _ _ _ us hl=>match us,hl with|[_,_],_=>rfl
 ·exact fun _ _ _ _ _ _ us hl=>match us,hl with|[_,_],_=>rfl
 ·exact fun _ _ _ _ _ _ us hl=>match us,hl with|[_,_],_=>rfl
 ·exact fun _ _ _ _ _ _ us hl=>match us,hl with|[_,_],_=>rfl
 ·exact fun _ _ _ _ _ _ us hl=>match us,hl with|[_],_=>rfl
theorem tab_om:∀ y,y∈tb.ms→y.x.Ok tb:=fun _ h=>nomatch h
theorem tab_pm:∀ y,y∈tb.ms→pg (y.C ++ "." ++ y.m)=some y.x.d:=fun _ h=>nomatch h
theorem tab_bm:∀ y,y∈tb.ms→Hd.Bd (Str.ofString y.m) (Str.ofString y.qual) y.x:=fun _ h=>nomatch h
theorem law_in:("law",x16)∈tb.fs:=List.mem_of_getElem? (i:=16) rfl
noncomputable abbrev pr:Program:=PySem.Challenge.rw_shutways_k11_what_a_letter_is.row.prog
noncomputable abbrev vw:Program:=PySem.W.view pr [1,2,3,5,6,7,8,9,10,11,12,13,14,15,16,17,19,20,21,22,23,24,25,26,27,28,29]
noncomputable abbrev xt (s:Shared):Bool:=xlAt vw [] s&&recOk (RowW.records PySem.Challenge.rw_shutways_k11_what_a_letter_is.row.toRowW) s
theorem said:PySem.Challenge.rw_shutways_k11_what_a_letter_is.wellSaid=true:=by rw[Fast.te9446332074065402090];kernel_rfl
theorem left:LeftO pr vw [] xt (Hd.hook tb).obs (Hd.hook tb).val 12000:=Hd.left_of (by kernel_rfl) rfl (fun s=>by kernel_rfl) fun w os=>by kernel_rfl
end My
open PySem PySem.W PyProof.Rows
theorem PySem.Challenge.cw_shutways_k11_what_a_letter_is_holds : PySem.Challenge.rw_shutways_k11_what_a_letter_is.Holds := by
 refine holds_law My.said fun said=>?_;refine holds_open (q:=My.vw) (loose:=[]) (Xt:=My.xt) (XP:=XL My.vw []) (YP:=(Hd.hook My.tb).says) My.left (Hook.of _) (Hook.keeps _) (fun s e=>xl_of s (Bool.and_eq_true_iff.mp e).1) XL.keeps (by rfl) (by rfl) (by rfl) (fun s e=>recFacts_of (Bool.and_eq_true_iff.mp e).2) (by rfl) said (by decide +kernel) ⟨rfl,rfl,rfl,rfl,rfl,by decide +kernel⟩ ?hw ?hc
 case hw=>w_on;w_witness2
 case hc=>exact Hd.law_walk (k:=7) rfl rfl rfl ⟨rfl,by decide,by decide⟩ My.law_in rfl rfl My.tab_pg My.tab_pm My.tab_ok My.tab_om My.tab_bd My.tab_bm fun ns hl=>Own.law_ok (n:=0) hl fun _=>rfl
