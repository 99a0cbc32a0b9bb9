import PyProof.Rows.All
import Wide.All
import OpenK.AllK
import Wide.FinOn
import Lean
import PyProof.EqAt
import PyProof.EqKinds
import PyProof.TupleCall
import PyProof.SetScanFacts
import PyProof.Rows.SetFrom
import PyProof.Rows.SortWalk
import PyProof.CollectWalk
import PyProof.DictWalks
import PySem.Challenge.RW_holdback_k44_deeds_refused
set_option linter.all false
set_option maxRecDepth 100000
set_option maxHeartbeats 8000000
open PySem PySem.Spec PyProof.Rows
set_option Elab.async false
namespace L2
abbrev Key:=Sum Int Str
def jcp:Key->Value->Bool
 | .inl k,v=>Value.isInt k v
 | .inr x,v=>Value.isStrOf x v
def jo5(w:World):Key->Int
 | .inl k=>hashInt k
 | .inr x=>hashStr w x
theorem ze1:∀ {k:Key} {v:Value},jcp k v=true->(∃ i t,k=Sum.inl i/\v=Value.int i t)\/(∃ x t,k=Sum.inr x/\v=Value.str x t)
 | .inl i,v,h=>by
  obtain⟨t,e⟩:=Value.isInt_shape (k:=i) (v:=v) h
  exact .inl ⟨i,t,rfl,e⟩
 | .inr x,v,h=>by
  obtain⟨t,e⟩:=Value.isStrOf_shape (x:=x) (v:=v) h
  exact .inr ⟨x,t,rfl,e⟩
theorem jdv(i:Int)(t:Tok):jcp (.inl i) (.int i t)=true:=by simp[jcp,Value.isInt]
theorem jdw(x:Str)(t:Tok):jcp (.inr x) (.str x t)=true:=by simp[jcp,Value.isStrOf]
theorem jk5(a b:Int):decide ((Sum.inl a:Key)=Sum.inl b)=(a == b):=by
 by_cases e:a=b
 ·subst e;simp
 ·have h:¬ (Sum.inl a:Key)=Sum.inl b:=λq=>e (Sum.inl.inj q)
  rw[decide_eq_false h]
  exact(beq_eq_false_iff_ne.mpr e).symm
theorem jk6(a b:Str):decide ((Sum.inr a:Key)=Sum.inr b)=decide (a=b):=by
 by_cases e:a=b
 ·subst e;simp
 ·have h:¬ (Sum.inr a:Key)=Sum.inr b:=λq=>e (Sum.inr.inj q)
  rw[decide_eq_false h,decide_eq_false e]
theorem jk7(a:Int)(b:Str):decide ((Sum.inl a:Key)=Sum.inr b)=false:=decide_eq_false (λq=>nomatch q)
theorem jk8(a:Str)(b:Int):decide ((Sum.inr a:Key)=Sum.inl b)=false:=decide_eq_false (λq=>nomatch q)
def zgj(prog:Program)(w:World):PySem.KeyKind prog w Key where
 is:=jcp
 hash:=jo5 w
 inj:=λv a b ha hb=>by
  rcases ze1 ha with⟨i,t,rfl,rfl⟩ | ⟨x,t,rfl,rfl⟩
  ·rcases ze1 hb with⟨j,u,rfl,e⟩ | ⟨y,u,rfl,e⟩
   ·injection e with e1 _;rw[e1]
   ·exact nomatch e
  ·rcases ze1 hb with⟨j,u,rfl,e⟩ | ⟨y,u,rfl,e⟩
   ·exact nomatch e
   ·injection e with e1 _;rw[e1]
 byValue:=λk v h=>by
  rcases ze1 h with⟨i,t,rfl,rfl⟩ | ⟨x,t,rfl,rfl⟩<;>rfl
 pyHash:=λhv h=>by
  rcases ze1 hv with⟨i,t,rfl,rfl⟩ | ⟨x,t,rfl,rfl⟩
  ·exact wpAny_pyHash_int h
  ·exact wpAny_pyHash_str h
 eqBool:=λhu hv h=>by
  rcases ze1 hu with⟨i,t,rfl,rfl⟩ | ⟨x,t,rfl,rfl⟩
  ·rcases ze1 hv with⟨j,u,rfl,rfl⟩ | ⟨y,u,rfl,rfl⟩
   ·rw[jk5]at h;exact wpAny_eqBool_int h
   ·rw[jk7]at h;exact SeqAt.EqAt.int_str i t y u _ _ _ _ h
  ·rcases ze1 hv with⟨j,u,rfl,rfl⟩ | ⟨y,u,rfl,rfl⟩
   ·rw[jk8]at h;exact SeqAt.EqAt.str_int x t j u _ _ _ _ h
   ·rw[jk6]at h;exact wpAny_eqBool_str h
 «strs» :=λk x t v h=>by
  rcases ze1 h with⟨i,u,rfl,e⟩ | ⟨y,u,rfl,e⟩
  ·exact nomatch e
  ·injection e with e1 _
   subst e1
   cases v<;>rfl
theorem jae(prog:Program)(w:World)(i:Int)(t:Tok):(zgj prog w).is (.inl i) (.int i t)=true:=jdv i t
theorem jaf(prog:Program)(w:World)(x:Str)(t:Tok):(zgj prog w).is (.inr x) (.str x t)=true:=jdw x t
end L2
namespace L2
inductive V where
 | non | bl (b:Bool) | int (i:Int) | str (x:Str) | byt (b:Array UInt8) | flt (b:UInt64) | ref (a:Addr) | ty (n:String)
 deriving DecidableEq
def RelV:V->Value->Prop
 | .non,u=>u=Value.none
 | .bl b,u=>u=Value.bool b
 | .int i,u=>∃ t,u=Value.int i t
 | .str x,u=>∃ t,u=Value.str x t
 | .byt b,u=>∃ t,u=Value.bytes b t
 | .flt b,u=>∃ t,u=Value.float b t
 | .ref a,u=>u=Value.ref a
 | .ty n,u=>u=Value.type n
abbrev Vals:List V->List Value->Prop:=Paired RelV
theorem Vals.length{xs:List V}{us:List Value}(r:Vals xs us):xs.length=us.length:=Paired.length r
theorem Vals.get:∀ {xs:List V} {us:List Value} {i:Nat} {x:V},Vals xs us->xs[i]? =some x->∃ u,us[i]? =some u/\RelV x u
 | _,_,_,_,.nil,e=>by simp at e
 | _,_,0,_,.cons r _,e=>by simp at e;subst e;exact⟨_,rfl,r⟩
 | _,_,i+1,x,.cons _ t,e=>by
  obtain⟨u,h1,h2⟩:=Vals.get (i:=i) (x:=x) t (by simpa using e)
  exact⟨u,by simpa using h1,h2⟩
theorem Vals.set{x:V}{u:Value}(r:RelV x u):∀ {xs:List V} {us:List Value} (i:Nat),Vals xs us->Vals (xs.set i x) (us.set i u)
 | _,_,_,.nil=>.nil
 | _,_,0,.cons _ t=>.cons r t
 | _,_,i+1,.cons q t=>.cons q (Vals.set r i t)
theorem Vals.append:∀ {xs ys:List V} {us ws:List Value},Vals xs us->Vals ys ws->Vals (xs++ys) (us++ws)
 | _,_,_,_,.nil,s=>s
 | _,_,_,_,.cons r t,s=>.cons r (Vals.append t s)
theorem Vals.take:∀ {xs:List V} {us:List Value} (n:Nat),Vals xs us->Vals (xs.take n) (us.take n)
 | _,_,0,_=>.nil
 | _,_,_+1,.nil=>.nil
 | _,_,n+1,.cons r t=>.cons r (Vals.take n t)
theorem Vals.drop:∀ {xs:List V} {us:List Value} (n:Nat),Vals xs us->Vals (xs.drop n) (us.drop n)
 | _,_,0,r=>r
 | _,_,_+1,.nil=>.nil
 | _,_,n+1,.cons _ t=>Vals.drop n t
def RelO:Option V->Option Value->Prop
 | some v,some u=>RelV v u
 | none,none=>True
 | _,_=>False
def KV{κ :Type}:List (κ × V)->List (κ × Value)->Prop:=Paired λ(p: κ × V) (q: κ × Value)=>p.1=q.1/\RelV p.2 q.2
def kV:Key->V
 | .inl i=>.int i
 | .inr x=>.str x
inductive HO where
 /-- a list -/
 | lst (xs:List V)
 /-- a tuple (never changes) -/
 | tup (xs:List V)
 /-- a dict whose keys are ints and texts;one whose keys are tuples of ints and texts (the empty one is both) -/
 | dK (kvs:List (Key × V)) | dT (kvs:List (List Key × V))
 /-- a set of ints: its members,its size -/
 | set (S:Int->Bool) (n:Nat)
 /-- an instance of the class at C,its dict at dx,its attributes -/
 | ins (C dx:Addr) (fs:List (Str × V))
 /-- the dict of the instance at x -/
 | own (x:Addr)
 /-- the dict of an exception -/
 | xd (fs:List (Str × V))
 /-- a bound method,f of x -/
 | met (f x:Addr)
 /-- a range object lo,lo+1,.. below hi -/
 | rng (lo hi:Int)
 /-- a thing that is known to the object (the script;a dict while a loop walks it): read,never written while it is so -/
 | frz (o:Obj) (u:HO)
 /-- a code object's table -/
 | tbl (ps:Array Value)
 /-- any other thing,by what is true of its one object (a def of one's own: SetO a S n:=HO.ext λh=>..) -/
 | ext (φ :Heap->Prop)
abbrev Hp:=Addr->Option HO
def upd(H:Hp)(a:Addr)(o:HO):Hp:=λb=>if b=a then some o else H b
theorem zae{H:Hp}{a:Addr}{o:HO}:upd H a o a=some o:=by unfold upd;rw[if_pos rfl]
theorem zal{H:Hp}{a b:Addr}{o:HO}(h:b≠a):upd H a o b=H b:=by unfold upd;rw[if_neg h]
theorem zmx{H:Hp}{a:Addr}{o u:HO}:upd (upd H a o) a u=upd H a u:=by
 funext b;unfold upd;split<;>rfl
theorem zix{H:Hp}{a b:Addr}{o u:HO}(h:H a=some o)(h':H b=some u)(d:o≠u):a≠b:=by
 intro e;subst e;rw[h]at h';exact d (Option.some.inj h')
theorem zay{H:Hp}{a b:Addr}{o:HO}(h:H a=some o)(h':H b=none):a≠b:=by
 intro e;subst e;rw[h]at h';cases h'
section
variable(P:Program)(w:World)
def ObjOk(H:Hp)(h:Heap)(a:Addr):HO->Prop
 | .lst xs=>xs.length<=sizeLine/\∃ (its:List Value) (n:Nat),Vals xs its/\h.get? a=some { cls:=.type "list",data:=.seq its.toArray n }
 | .tup xs=>xs.length<=sizeLine/\∃ its:List Value,Vals xs its/\IsTup h a its.toArray
 | .dK kvs=>kvs.length<=sizeLine/\(a == sysModules)=false/\∃ vs,KV kvs vs/\h.DictOf (zgj P w) a vs
 | .dT kvs=>kvs.length<=sizeLine/\(a == sysModules)=false/\∃ xs:List (List Key × Addr × Value),
   Paired (λ(p:List Key × V) (q:List Key × Addr × Value)=>p.1=q.1/\H q.2.1=some (.tup (p.1.map kV))/\RelV p.2 q.2.2) kvs xs ∧
   ∃ o es ep,h.get? a=some o/\o.ExactDict/\o.data=.dict es ep/\es.toList=xs.map (entryOfKey (tupleKind (zgj P w)))/\(xs.map (·.1)).Nodup
 | .set S n=>h.SetOf (intKind P w) a S n
 | .ins C dx fs=>H dx=some (.own a)/\fs.length<=1000/\dx≠a/\h.get? a=some (W.instObj C dx) ∧
   ∃ mA,h.Ns1 dx mA/\(∀ f,RelO (fs.lookup f) (mA f))/\PySem.Within mA (fs.map (·.1))
 | .own _=>∃ o,h.get? a=some o
 | .xd fs=>∃ mA,h.Ns1 a mA/\∀ f,RelO (fs.lookup f) (mA f)
 | .rng lo hi=>∃ t u v,h.get? a=some { cls:=.type "range",data:=.fields #[.int lo t,.int hi u,.int 1 v] }
 | .frz o u=>h.get? a=some o/\ObjOk H h a u
 | .tbl ps=>h.get? a=some { cls:=.none,data:=.fields ps }
 | .met f x=>h.get? a=some (W.methodObj (.ref f) (.ref x))
 | .ext φ => φ h/\(∃ o,h.get? a=some o)/\∀ h1 h2:Heap,φ h1->(∀ o,h1.get? a=some o->h2.get? a=some o)-> φ h2
def HOk(H:Hp)(h:Heap):Prop:=∀ a o,H a=some o->ObjOk P w H h a o
end
section
variable{P:Program}{w:World}{H H':Hp}{h h':Heap}{a:Addr}{o:HO}
theorem ObjOk.lt(x:ObjOk P w H h a o):a<h.objs.size:=by
 cases o with
 | lst xs=>obtain⟨_,_,_,_,e⟩:=x;exact Heap.lt_size e
 | tup xs=>obtain⟨_,_,_,p⟩:=x;exact p.lt
 | dK kvs=>obtain⟨_,_,_,_,o,_,_,e,_⟩:=x;exact Heap.lt_size e
 | dT kvs=>obtain⟨_,_,_,_,o,_,_,e,_⟩:=x;exact Heap.lt_size e
 | set S n=>obtain⟨o,_,_,_,e,_⟩:=x;exact Heap.lt_size e
 | ins C dx fs=>obtain⟨_,_,_,e,_⟩:=x;exact Heap.lt_size e
 | own y=>obtain⟨_,e⟩:=x;exact Heap.lt_size e
 | xd fs=>obtain⟨_,⟨_,_,_,e,_⟩,_⟩:=x;exact Heap.lt_size e
 | rng lo hi=>obtain⟨_,_,_,e⟩:=x;exact Heap.lt_size e
 | frz ob u=>obtain⟨e,_⟩:=x;exact Heap.lt_size e
 | tbl ps=>exact Heap.lt_size (show h.get? a=some _ from x)
 | met f y=>exact Heap.lt_size (show h.get? a=some _ from x)
 | ext φ =>obtain⟨_,⟨_,e⟩,_⟩:=x;exact Heap.lt_size e
theorem Paired.mapP{α β :Type}{F G: α -> β ->Prop}:∀ {l₁:List α} {l₂:List β},Paired F l₁ l₂->(∀ a b,F a b->G a b)->Paired G l₁ l₂
 | _,_,.nil,_=>.nil
 | _,_,.cons r t,f=>.cons (f _ _ r) (Paired.mapP t f)
theorem ObjOk.stay(x:ObjOk P w H h a o)(k:∀ b u,(b=a\/H b=some (.own a))->h.get? b=some u->h'.get? b=some u)
  (ho:∀ b,H b=some (.own a)->H' b=some (.own a)) (ht:∀ b xs,H b=some (.tup xs)->H' b=some (.tup xs)):ObjOk P w H' h' a o:=by
 induction o with
 | lst xs=>obtain⟨z,its,n,r,e⟩:=x;exact⟨z,its,n,r,k _ _ (.inl rfl) e⟩
 | tup xs=>obtain⟨z,its,r,ob,e,c⟩:=x;exact⟨z,its,r,ob,k _ _ (.inl rfl) e,c⟩
 | dK kvs=>obtain⟨z,y,vs,r,ob,es,ep,e,c⟩:=x;exact⟨z,y,vs,r,ob,es,ep,k _ _ (.inl rfl) e,c⟩
 | dT kvs =>
  obtain⟨z,y,xs,r,ob,es,ep,e,c⟩:=x
  exact⟨z,y,xs,Paired.mapP r λp q z=>⟨z.1,ht _ _ z.2.1,z.2.2⟩,ob,es,ep,k _ _ (.inl rfl) e,c⟩
 | set S n=>obtain⟨ob,es,ep,t,e,c⟩:=x;exact⟨ob,es,ep,t,k _ _ (.inl rfl) e,c⟩
 | ins C dx fs =>
  obtain⟨d,z,ne,e,mA,⟨od,es,ep,e2,c⟩,r⟩:=x
  exact⟨ho _ d,z,ne,k _ _ (.inl rfl) e,mA,⟨od,es,ep,k _ _ (.inr d) e2,c⟩,r⟩
 | own y=>obtain⟨ob,e⟩:=x;exact⟨ob,k _ _ (.inl rfl) e⟩
 | xd fs=>obtain⟨mA,⟨od,es,ep,e,c⟩,r⟩:=x;exact⟨mA,⟨od,es,ep,k _ _ (.inl rfl) e,c⟩,r⟩
 | rng lo hi=>obtain⟨t,u,v,e⟩:=x;exact⟨t,u,v,k _ _ (.inl rfl) e⟩
 | frz ob u ih=>obtain⟨e,q⟩:=x;exact⟨k _ _ (.inl rfl) e,ih q⟩
 | tbl ps =>
  have e:h.get? a=some { cls:=.none,data:=.fields ps }:=x
  show h'.get? a=some { cls:=.none,data:=.fields ps }
  exact k a _ (.inl rfl) e
 | met f y =>
  have e:h.get? a=some (W.methodObj (.ref f) (.ref y)):=x
  show h'.get? a=some (W.methodObj (.ref f) (.ref y))
  exact k a _ (.inl rfl) e
 | ext φ =>obtain⟨p,⟨o,e⟩,st⟩:=x;exact⟨st _ _ p λo q=>k _ _ (.inl rfl) q,⟨o,k _ _ (.inl rfl) e⟩,st⟩
theorem HOk.lt(x:HOk P w H h)(e:H a=some o):a<h.objs.size:=(x a o e).lt
theorem HOk.fresh(x:HOk P w H h)(e:h.objs.size<=a):H a=none:=by
 cases q:H a with
 | none=>rfl
 | some u=>exact absurd (Nat.lt_of_lt_of_le (x.lt q) e) (Nat.lt_irrefl _)
theorem HOk.kept(x:HOk P w H h)(k:∀ b u,h.get? b=some u->h'.get? b=some u):HOk P w H h':=λa o e =>
 (x a o e).stay (λb u _ q=>k b u q) (λ_ q=>q) λ_ _ q=>q
theorem HOk.laid(x:HOk P w H h)(k:∀ b u,h.get? b=some u->h'.get? b=some u)(hp:h.objs.size<=a)(new:ObjOk P w (upd H a o) h' a o):HOk P w (upd H a o) h':=λb u e=>by
 have hn:=x.fresh hp
 by_cases hb:b=a
 ·subst hb;rw[zae]at e;cases e;exact new
 ·rw[zal hb]at e
  exact(x b u e).stay (λc v _ q=>k c v q) (λc q=>by rw[zal (zay q hn)];exact q) λc xs q=>by rw[zal (zay q hn)];exact q
end
def Rd(H:Hp)(a:Addr)(u:HO):Prop:=H a=some u\/∃ o,H a=some (.frz o u)
theorem Rd.ok{P:Program}{w:World}{H:Hp}{h:Heap}{a:Addr}{u:HO}(r:Rd H a u)(x:HOk P w H h):ObjOk P w H h a u:=by
 rcases r with r | ⟨o,r⟩
 ·exact x a u r
 ·obtain⟨_,q⟩:=x a _ r
  exact q
def Mut:Option HO->Prop
 | some (.lst _)=>True
 | some (.dK _)=>True
 | some (.dT _)=>True
 | some (.set _ _)=>True
 | some (.ins _ _ _)=>True
 | some (.ext _)=>True
 | _=>False
section
variable{P:Program}{w:World}{H:Hp}{h h':Heap}{x e:Addr}{o':HO}
theorem HOk.write(ok:HOk P w H h)(mu:Mut (H x))(he:e=x\/H e=some (.own x))(k:∀ b u,b≠e->h.get? b=some u->h'.get? b=some u)(heo:∃ u,h'.get? e=some u)
  (new:ObjOk P w (upd H x o') h' x o'):HOk P w (upd H x o') h':=λb u q=>by
 have nown:∀ c y,H c=some (.own y)->c≠x:=λc y r z=>by subst z;rw[r]at mu;exact mu
 have ntup:∀ c xs,H c=some (.tup xs)->c≠x:=λc xs r z=>by subst z;rw[r]at mu;exact mu
 by_cases hb:b=x
 ·subst hb;rw[zae]at q;cases q;exact new
 ·rw[zal hb]at q
  by_cases hbe:b=e
  ·have q':H b=some (.own x):=by
    rcases he with z | z
    ·exact absurd (hbe.trans z) hb
    ·rw[hbe];exact z
   rw[q]at q';cases q'
   obtain⟨v,hv⟩:=heo
   exact⟨v,by rw[hbe];exact hv⟩
  ·refine(ok b u q).stay (λc v hc r=>k c v ?_ r) (λc r=>by rw[zal (nown c b r)];exact r) λc xs r=>by rw[zal (ntup c xs r)];exact r
   rcases hc with rfl | hc
   ·exact hbe
   ·rintro rfl
    rcases he with z | z
    ·exact nown c b hc z
    ·rw[hc]at z;cases z;exact hb rfl
end
structure Un(fs ex:List Addr)(H H':Hp)(h h':Heap):Prop where
 keep:∀ b o,h.get? b=some o->H b=none->b∉fs->b∉ex->h'.get? b=some o
 slot:∀ b o,h.get? b=some o->H b=none->b∈fs->b∉ex->∃ sl,h'.get? b=some { o with slots:=sl }
 free:∀ b o,h.get? b=some o->H b=none->b∉ex->H' b=none
 there:∀ b o,h.get? b=some o->b∉ex->∃ o',h'.get? b=some o'
 tups:∀ b xs,H b=some (.tup xs)->H' b=some (.tup xs)
 frzs:∀ b o u,H b=some (.frz o u)->H' b=some (.frz o u)
 tbls:∀ b ps,H b=some (.tbl ps)->∃ more,H' b=some (.tbl (ps++more))
section
variable{fs fs' ex ex':List Addr}{H H1 H2:Hp}{h h1 h2 h':Heap}{a x e:Addr}{o:HO}
theorem Un.any(u:Un fs ex H H1 h h1){b:Addr}{ob:Obj}(q:h.get? b=some ob)(n:H b=none)(hx:b∉ex):∃ sl,h1.get? b=some { ob with slots:=sl }:=by
 by_cases hb:b∈fs
 ·exact u.slot b ob q n hb hx
 ·exact⟨ob.slots,u.keep b ob q n hb hx⟩
theorem Un.kept(k:∀ b u,h.get? b=some u->h'.get? b=some u):Un fs ex H H h h' :=
 ⟨λb ob q _ _ _=>k b ob q,λb ob q _ _ _=>⟨ob.slots,k b ob q⟩,λ_ _ _ n _=>n,λb ob q _=>⟨ob,k b ob q⟩,λ_ _ q=>q,λ_ _ _ q=>q,λ_ ps q=>⟨#[],by rw[q];simp⟩⟩
theorem Un.refl:Un fs ex H H h h:=Un.kept λ_ _ q=>q
theorem Un.laid(k:∀ b u,h.get? b=some u->h'.get? b=some u)(hp:h.objs.size<=a)(hn:H a=none):Un fs ex H (upd H a o) h h' where
 keep:=λb u q _ _ _=>k b u q
 slot:=λb u q _ _ _=>⟨u.slots,k b u q⟩
 free:=λb u q n _=>by rw[zal (Nat.ne_of_lt (Nat.lt_of_lt_of_le (Heap.lt_size q) hp))];exact n
 there:=λb u q _=>⟨u,k b u q⟩
 tups:=λb xs q=>by rw[zal (zay q hn)];exact q
 frzs:=λb u xs q=>by rw[zal (zay q hn)];exact q
 tbls:=λb ps q=>⟨#[],by rw[zal (zay q hn),q];simp⟩
theorem Un.write(mu:Mut (H x))(he:e=x\/H e=some (.own x))(k:∀ b u,b≠e->h.get? b=some u->h'.get? b=some u)(heo:∃ u,h'.get? e=some u):Un fs ex H (upd H x o) h h':=by
 have hx:∀ b,H b=none->b≠x:=λb n z=>by subst z;rw[n]at mu;exact mu
 have hb:∀ b,H b=none->b≠e:=λb n z=>by
  subst z
  rcases he with r | r
  ·exact hx b n r
  ·rw[n]at r;cases r
 have hm:∀ b u,H b=some u->¬ Mut (some u)->b≠x:=λb u q nm z=>by subst z;rw[q]at mu;exact nm mu
 refine⟨λb u q n _ _=>k b u (hb b n) q,λb u q n _ _=>⟨u.slots,k b u (hb b n) q⟩,λb u q n _=>by rw[zal (hx b n)];exact n,λb u q _=> ?_,
  λb xs q=>by rw[zal (hm b _ q λz=>z)];exact q,λb u xs q=>by rw[zal (hm b _ q λz=>z)];exact q,λb ps q=>⟨#[],by rw[zal (hm b _ q λz=>z),q];simp⟩⟩
 by_cases hbe:b=e
 ·subst hbe;exact heo
 ·exact⟨u,k b u hbe q⟩
end
def trk(h:Heap)(H:Hp):List Addr:=(List.range h.objs.size).filter λa=>(H a).isSome
def jgm(h:Heap)(H:Hp):Heap:=W.hideAll h (trk h H)
theorem jdx(h:Heap)(H:Hp):(jgm h H).objs.size=h.objs.size:=W.hideAll_size _ _
theorem jgn{h:Heap}{H:Hp}{b:Addr}{o:Obj}(e:h.get? b=some o)(n:H b=none):(jgm h H).get? b=some o :=
 W.hideAll_get _ e λhm=>by
  have q:(H b).isSome=true:=(List.mem_filter.mp hm).2
  rw[n]at q;simp at q
theorem ji3{h:Heap}{H:Hp}{b:Addr}{o:Obj}(e:(jgm h H).get? b=some o):h.get? b=some o/\H b=none:=by
 have e':h.get? b=some o:=W.of_hideAll (trk h H) e
 refine⟨e',?_⟩
 cases q:H b with
 | none=>rfl
 | some x =>
  have hm:b∈trk h H:=List.mem_filter.mpr ⟨List.mem_range.mpr (Heap.lt_size e'),by simp[q]⟩
  have z:(jgm h H).get? b=none:=W.hideAll_none (trk h H) hm
  rw[z]at e;cases e
def ji4(g h:Heap)(L:Addr):List (Addr × Obj):=(List.range h.objs.size).filterMap λa=>if a=L\/(g.get? a).isSome=true then none else(h.get? a).map λo=>(a,o)
def rest(g h:Heap)(L d:Addr):List (Addr × Obj):=(ji4 g h L).filter λp=>decide (p.1≠d)
end L2
namespace L2
structure Mod(K:W.Frag)(mg:Str->Option Value)(base:Heap):Prop where
 kin:K.In base
 glob:base.Ns mainGlobals mg
 blt:∃ mb,base.Ns builtinsNs mb/\∀ x:Str,x≠"__name__"->mb x=bootBuiltins x
 nolimit:base.NoLimit
structure Cx where
 prog:Program
 w:World
 K:W.Frag
 mg:Str->Option Value
 base:Heap
 A:Around
 N:List Str
 s₀:Shared
 H₀:Hp
 env:Env
 outer:List Env
 stack:List Env
 ex:List Addr
 fn:Str->Bool
 calm:Bool
 pn:List (Addr × Obj)
 xe:Value->Shared->Prop
def frs(l:List Env):List Addr:=l.filterMap (·.frame)
abbrev Cx.fs(X:Cx):List Addr:=frs X.outer
def Vis(sc:Scope)(x:Str):Prop:=sc.names.lookup x=some .local\/sc.names.lookup x=some .cell\/sc.names.lookup x=some .free
def Loc(sc:Scope)(x:Str):Prop:=sc.names.lookup x=some .local\/sc.names.lookup x=some .cell
def jo6(env:Env)(h:Heap)(m:Str->Option Value)(x:Str)(u:Value):Prop :=
 (env.kindOf x=some .local/\m x=some u)\/((env.kindOf x=some .cell\/env.kindOf x=some .free)/\∃ c,env.cells.lookup x=some c/\h.IsCell c (some u))
structure Cx.Ok(X:Cx):Prop where
 mod:Mod X.K X.mg X.base
 kind:X.env.scope.kind=.function
 glob:X.env.globals=mainGlobals
 blt:X.env.builtins=builtinsNs
 above:X.s₀.heap.objs.size<=X.env.locals
 inj:∀ x y c,X.env.cells.lookup x=some c->X.env.cells.lookup y=some c->x=y
 has:∀ x,(X.env.kindOf x=some .cell\/X.env.kindOf x=some .free)->∃ c,X.env.cells.lookup x=some c
 cab:∀ x c,X.fn x=true->X.env.cells.lookup x=some c->X.s₀.heap.objs.size<=c
 hd:X.calm=true->X.A.handled=none
 frames:X.A.frames=some X.stack
 stk:X.stack=X.outer\/(X.stack=X.env::X.outer/\X.env.frame=some X.env.locals)
 exf:∀ b∈X.ex,b≠X.env.locals/\∀ x c,X.env.cells.lookup x=some c->c≠b
 bs:∀ b o,X.base.get? b=some o->X.s₀.heap.get? b=some o/\X.H₀ b=none
 bsz:X.base.objs.size<=X.s₀.heap.objs.size
 noex:∀ b o,X.base.get? b=some o->b∉X.ex
 exfs:∀ b∈X.ex,b∉X.fs
 funs:X.s₀.heap.FunFrames X.base X.outer
 frf:∀ b∈X.fs,X.H₀ b=none
structure Inv(X:Cx)(pins:List (Addr × Obj))(σ:List (Option V))(H:Hp)(s:Shared):Prop where
 ok:X.Ok
 os:s.os=X.s₀.os
 bare:AllBare s.gens
 base:Un X.fs X.ex X.H₀ H X.s₀.heap s.heap
 loc:∃ m,s.heap.Ns X.env.locals m/\∀ (i:Nat) (x:Str) (v:V),X.N[i]? =some x->σ[i]? =some (some v)->Vis X.env.scope x->∃ u,RelV v u/\jo6 X.env s.heap m x u
 cell:∀ x c,X.env.cells.lookup x=some c->∃ v,s.heap.IsCell c v
 free:H X.env.locals=none
 freeC:∀ x c,X.env.cells.lookup x=some c->H c=none
 pin:∀ p∈X.pn++pins,s.heap.get? p.1=some p.2/\H p.1=none/\p.1≠X.env.locals/\p.1∉X.fs/\∀ v,p.2.data≠.cell v
 hok:HOk X.prog X.w H s.heap
 len:σ.length=X.N.length
section
variable{X:Cx}{pins:List (Addr × Obj)}{σ:List (Option V)}{H H':Hp}{s:Shared}{h':Heap}
theorem Cx.Ok.nofr(ok:X.Ok){b:Addr}{o:Obj}(e:X.base.get? b=some o):b∉X.fs:=λhb=>by
 have:=(ok.funs.mem hb).1
 rw[e]at this;cases this
theorem Inv.bs(I:Inv X pins σ H s):∀ b o,X.base.get? b=some o->s.heap.get? b=some o/\H b=none:=λb o e =>
 ⟨I.base.keep b o (I.ok.bs b o e).1 (I.ok.bs b o e).2 (I.ok.nofr e) (I.ok.noex b o e),I.base.free b o (I.ok.bs b o e).1 (I.ok.bs b o e).2 (I.ok.noex b o e)⟩
theorem Inv.bk(I:Inv X pins σ H s):∀ b o,X.base.get? b=some o->s.heap.get? b=some o:=λb o e=>(I.bs b o e).1
theorem Inv.mod(I:Inv X pins σ H s):Mod X.K X.mg X.base:=I.ok.mod
theorem Inv.kIn(I:Inv X pins σ H s):X.K.In s.heap:=I.ok.mod.kin.keeps I.bk
theorem Inv.lt(I:Inv X pins σ H s):X.env.locals<s.heap.objs.size:=let ⟨_,hn,_⟩:=I.loc;hn.lt
theorem Inv.sz(I:Inv X pins σ H s):X.s₀.heap.objs.size<=s.heap.objs.size:=Nat.le_trans I.ok.above (Nat.le_of_lt I.lt)
theorem Inv.nofs(I:Inv X pins σ H s){a:Addr}(h:s.heap.objs.size<=a):a∉X.fs:=λhb=>by
 obtain⟨_,o,ho,_⟩:=I.ok.funs.mem hb
 exact absurd (Nat.lt_of_lt_of_le (Heap.lt_size ho) (Nat.le_trans I.sz h)) (Nat.lt_irrefl _)
theorem Inv.cne(I:Inv X pins σ H s):∀ x c,X.env.cells.lookup x=some c->c≠X.env.locals:=λx c e z=>by
 obtain⟨v,o,ho,hd⟩:=I.cell x c e
 obtain⟨m,⟨o',es,ep,ho',hd',_⟩,_⟩:=I.loc
 rw[z,ho']at ho;cases ho;rw[hd']at hd;cases hd
theorem Inv.funs(I:Inv X pins σ H s):s.heap.FunFrames X.base X.outer:=by
 have all:∀ (l:List Env),(∀ b∈frs l,b∈X.fs)->X.s₀.heap.FunFrames X.base l->s.heap.FunFrames X.base l:=by
  intro l
  induction l with
  | nil=>intro _ _;trivial
  | cons env r ih =>
   intro hs hl
   obtain⟨hk,⟨L,o,hf,hn,ho,hd⟩,hr⟩:=hl
   have hL:L∈X.fs:=hs L (by unfold frs;rw[List.filterMap_cons,hf];exact List.mem_cons_self)
   obtain⟨sl,e⟩:=I.base.slot L o ho (I.ok.frf L hL) hL λz=>I.ok.exfs L z hL
   exact⟨hk,⟨L,_,hf,hn,e,hd⟩,ih (λb hb=>hs b (by unfold frs;rw[List.filterMap_cons,hf];exact List.mem_cons_of_mem _ hb)) hr⟩
 exact all X.outer (λ_ hb=>hb) I.ok.funs
theorem Inv.stack(I:Inv X pins σ H s):s.heap.FunFrames X.base X.stack:=by
 rcases I.ok.stk with e | ⟨e,hf⟩
 ·rw[e];exact I.funs
 ·rw[e]
  obtain⟨m,hn,_⟩:=I.loc
  refine .cons (by rw[I.ok.kind];decide) hf hn ?_ I.funs
  exact Heap.get?_none_of_le (Nat.le_trans I.ok.bsz I.ok.above)
theorem Inv.stkSub(I:Inv X pins σ H s):∀ b∈frs X.stack,b∈X.env.locals::X.fs:=λb hb=>by
 rcases I.ok.stk with e | ⟨e,hf⟩
 ·rw[e]at hb;exact List.mem_cons_of_mem _ hb
 ·rw[e]at hb
  unfold frs at hb
  rw[List.filterMap_cons,hf]at hb
  exact hb
theorem Inv.stkFree(I:Inv X pins σ H s):∀ b∈frs X.stack,H b=none:=λb hb=>by
 rcases List.mem_cons.mp (I.stkSub b hb)with e | hb
 ·rw[e];exact I.free
 ·obtain⟨_,o,ho,_⟩:=I.ok.funs.mem hb
  exact I.base.free b o ho (I.ok.frf b hb) λz=>I.ok.exfs b z hb
theorem Inv.step{g':Array GenState}{t':Nat}{d':Drawn}{ch:List Addr}(I:Inv X pins σ H s)
  (hch:∀ b∈ch,(b∈X.ex\/X.s₀.heap.objs.size<=b)/\b≠X.env.locals/\(∀ x c,X.env.cells.lookup x=some c->c≠b)/\∀ p∈X.pn++pins,p.1≠b)
  (keep:∀ b o,b≠X.env.locals->b∉X.fs->b∉ch->s.heap.get? b=some o->H b=none->h'.get? b=some o)
  (slot:∀ b o,b≠X.env.locals->b∈X.fs->b∉ch->s.heap.get? b=some o->H b=none->∃ sl,h'.get? b=some { o with slots:=sl }) (free:∀ b o,b∉ch->s.heap.get? b=some o->H b=none->H' b=none)
  (there:∀ b o,b∉ch->s.heap.get? b=some o->∃ o',h'.get? b=some o')
  (tups:∀ b xs,H b=some (.tup xs)->H' b=some (.tup xs)) (frzs:∀ b o u,H b=some (.frz o u)->H' b=some (.frz o u)) (tbls:∀ b ps,H b=some (.tbl ps)->∃ more,H' b=some (.tbl (ps++more)))
  (ns:∀ m,s.heap.Ns X.env.locals m->h'.Ns X.env.locals m) (hok:HOk X.prog X.w H' h') (hg:AllBare g') :
  Inv X pins σ H' { s with heap:=h',gens:=g',drawn:=d',toks:=t' }:=by
 have neL:∀ b o,X.s₀.heap.get? b=some o->b≠X.env.locals:=λb o e=>Nat.ne_of_lt (Nat.lt_of_lt_of_le (Heap.lt_size e) I.ok.above)
 have neC:∀ b o,X.s₀.heap.get? b=some o->b∉X.ex->b∉ch:=λb o e hx hb=>by
  rcases(hch b hb).1 with z | z
  ·exact hx z
  ·exact absurd (Nat.lt_of_lt_of_le (Heap.lt_size e) z) (Nat.lt_irrefl _)
 have cellK:∀ x c,X.env.cells.lookup x=some c->∀ v,s.heap.IsCell c v->h'.IsCell c v:=λx c e v ⟨o,ho,hd⟩=>by
  have nch:c∉ch:=λz=>(hch c z).2.2.1 x c e rfl
  by_cases hc:c∈X.fs
  ·obtain⟨sl,q⟩:=slot c o (I.cne x c e) hc nch ho (I.freeC x c e)
   exact⟨_,q,hd⟩
  ·exact⟨o,keep c o (I.cne x c e) hc nch ho (I.freeC x c e),hd⟩
 refine⟨I.ok,I.os,hg,⟨λb o e n hb hx=> ?_,λb o e n hb hx=> ?_,λb o e n hx=> ?_,λb o e hx=> ?_,λb xs e=>tups b xs (I.base.tups b xs e),λb o xs e=>frzs b o xs (I.base.frzs b o xs e),λb ps e=> ?_⟩,?_,λx c e=> ?_,?_,λx c e=> ?_,λp hp=> ?_,hok,I.len⟩
 ·exact keep b o (neL b o e) hb (neC b o e hx) (I.base.keep b o e n hb hx) (I.base.free b o e n hx)
 ·obtain⟨sl,e1⟩:=I.base.slot b o e n hb hx
  obtain⟨sl',e2⟩:=slot b _ (neL b o e) hb (neC b o e hx) e1 (I.base.free b o e n hx)
  exact⟨sl',e2⟩
 ·obtain⟨o',e1⟩:=I.base.there b o e hx
  exact free b o' (neC b o e hx) e1 (I.base.free b o e n hx)
 ·obtain⟨o',e1⟩:=I.base.there b o e hx
  exact there b o' (neC b o e hx) e1
 ·obtain⟨m1,e1⟩:=I.base.tbls b ps e
  obtain⟨m2,e2⟩:=tbls b _ e1
  exact⟨m1++m2,by rw[e2,Array.append_assoc]⟩
 ·obtain⟨m,hn,hl⟩:=I.loc
  refine⟨m,ns m hn,λi x v e1 e2 e3=> ?_⟩
  obtain⟨u,r,l⟩:=hl i x v e1 e2 e3
  refine⟨u,r,?_⟩
  rcases l with l | ⟨k,c,e,z⟩
  ·exact .inl l
  ·exact .inr ⟨k,c,e,cellK x c e _ z⟩
 ·obtain⟨v,z⟩:=I.cell x c e
  exact⟨v,cellK x c e v z⟩
 ·obtain⟨m,⟨o,_,_,ho,_⟩,_⟩:=I.loc
  exact free _ o (λz=>(hch _ z).2.1 rfl) ho I.free
 ·obtain⟨v,o,ho,hd⟩:=I.cell x c e
  exact free c o (λz=>(hch c z).2.2.1 x c e rfl) ho (I.freeC x c e)
 ·obtain⟨e,n,ne,nf,d⟩:=I.pin p hp
  have nch:p.1∉ch:=λz=>(hch p.1 z).2.2.2 p hp rfl
  exact⟨keep p.1 p.2 ne nf nch e n,free p.1 p.2 nch e n,ne,nf,d⟩
theorem Inv.un{t':Nat}(I:Inv X pins σ H s)(u:Un X.fs [] H H' s.heap h')(hok:HOk X.prog X.w H' h'):Inv X pins σ H' { s with heap:=h',toks:=t' }:=by
 obtain⟨m,⟨o,es,ep,ho,r⟩,_⟩:=id I.loc
 obtain⟨sl,hL⟩:=u.any ho I.free (by simp)
 exact I.step (g':=s.gens) (d':=s.drawn) (ch:=[]) (λ_ z=>nomatch z) (λb o _ hb _ e n=>u.keep b o e n hb (by simp)) (λb o _ hb _ e n=>u.slot b o e n hb (by simp)) (λb o _ e n=>u.free b o e n (by simp)) (λb o _ e=>u.there b o e (by simp)) u.tups u.frzs u.tbls (λm' hm=>by
  obtain⟨o',es',ep',ho',r'⟩:=hm
  rw[ho]at ho';cases ho'
  exact⟨_,es',ep',hL,r'⟩) hok I.bare
theorem Inv.call{g':Array GenState}{t':Nat}{d':Drawn}{ch:List Addr}(I:Inv X pins σ H s)(u:Un (frs X.stack) ch H H' s.heap h')(hok:HOk X.prog X.w H' h')(hg:AllBare g')
  (hch:∀ b∈ch,(b∈X.ex\/X.s₀.heap.objs.size<=b)/\b≠X.env.locals/\(∀ x c,X.env.cells.lookup x=some c->c≠b)/\∀ p∈X.pn++pins,p.1≠b) :
  Inv X pins σ H' { s with heap:=h',gens:=g',drawn:=d',toks:=t' }:=by
 obtain⟨m,⟨o,es,ep,ho,r⟩,_⟩:=id I.loc
 obtain⟨sl,hL⟩:=u.any ho I.free λz=>(hch _ z).2.1 rfl
 exact I.step (ch:=ch) hch (λb o hL hb hc e n=>u.keep b o e n (λz=>(List.mem_cons.mp (I.stkSub b z)).elim hL hb) hc) (λb o _ _ hc e n=>u.any e n hc) (λb o hc e n=>u.free b o e n hc) (λb o hc e=>u.there b o e hc) u.tups u.frzs u.tbls (λm' hm=>by
  obtain⟨o',es',ep',ho',r'⟩:=hm
  rw[ho]at ho';cases ho'
  exact⟨_,es',ep',hL,r'⟩) hok hg
theorem Inv.turned{t':Nat}{it:Addr}(I:Inv X pins σ H s)(k:∀ b o,b≠it->s.heap.get? b=some o->h'.get? b=some o)(hn:H it=none)(hL:it≠X.env.locals)
  (h1:it∈X.ex\/X.s₀.heap.objs.size<=it) (h2:∀ x c,X.env.cells.lookup x=some c->c≠it) (h3:∀ p∈X.pn++pins,p.1≠it):Inv X pins σ H { s with heap:=h',toks:=t' }:=by
 have nit:∀ b u,H b=some u->b≠it:=λb u e z=>by rw[z,hn]at e;cases e
 refine I.step (g':=s.gens) (d':=s.drawn) (ch:=[it]) (λb hb=> ?_) (λb o _ _ hc e _=>k b o (λz=>hc (by simp[z])) e) (λb o _ _ hc e _=>⟨o.slots,k b o (λz=>hc (by simp[z])) e⟩) (λ_ _ _ _ n=>n)
  (λb o hc e=>⟨o,k b o (λz=>hc (by simp[z])) e⟩) (λ_ _ e=>e) (λ_ _ _ e=>e) (λb ps e=>⟨#[],by rw[e];simp⟩) (λm hm=> ?_) (λb u e=> ?_) I.bare
 ·have e:b=it:=by simpa using hb
  subst e
  exact⟨h1,hL,h2,h3⟩
 ·obtain⟨o,es,ep,ho,r⟩:=hm
  exact⟨o,es,ep,k _ o (Ne.symm hL) ho,r⟩
 ·refine(I.hok b u e).stay (λc v hc q=>k c v ?_ q) (λ_ q=>q) λ_ _ q=>q
  rcases hc with z | z
  ·rw[z];exact nit b u e
  ·exact nit c _ z
theorem Inv.tok(I:Inv X pins σ H s)(t:Nat):Inv X pins σ H { s with toks:=t }:=I.un (h':=s.heap) (t':=t) Un.refl I.hok
theorem Inv.kept{t':Nat}(I:Inv X pins σ H s)(k:∀ b u,s.heap.get? b=some u->h'.get? b=some u):Inv X pins σ H { s with heap:=h',toks:=t' }:=I.un (Un.kept k) (I.hok.kept k)
theorem Inv.laid{a:Addr}{o:HO}{t':Nat}(I:Inv X pins σ H s)(k:∀ b u,s.heap.get? b=some u->h'.get? b=some u)(hp:s.heap.objs.size<=a)(new:ObjOk X.prog X.w (upd H a o) h' a o) :
  Inv X pins σ (upd H a o) { s with heap:=h',toks:=t' }:=I.un (Un.laid k hp (I.hok.fresh hp)) (I.hok.laid k hp new)
theorem Inv.write{x e:Addr}{o:HO}{t':Nat}(I:Inv X pins σ H s)(mu:Mut (H x))(he:e=x\/H e=some (.own x))(k:∀ b u,b≠e->s.heap.get? b=some u->h'.get? b=some u)(heo:∃ u,h'.get? e=some u)
  (new:ObjOk X.prog X.w (upd H x o) h' x o):Inv X pins σ (upd H x o) { s with heap:=h',toks:=t' }:=I.un (Un.write mu he k heo) (I.hok.write mu he k heo new)
theorem Inv.pins_of{pins':List (Addr × Obj)}(I:Inv X pins σ H s)(h:∀ p∈pins',s.heap.get? p.1=some p.2/\H p.1=none/\p.1≠X.env.locals/\p.1∉X.fs/\∀ v,p.2.data≠.cell v):Inv X pins' σ H s :=
 ⟨I.ok,I.os,I.bare,I.base,I.loc,I.cell,I.free,I.freeC,λp hp=>(List.mem_append.mp hp).elim (λz=>I.pin p (List.mem_append_left _ z)) (h p),I.hok,I.len⟩
theorem z6h{N:List Str}(hN:N.Nodup){i j:Nat}{x:Str}(a:N[i]? =some x)(b:N[j]? =some x):i=j:=by
 obtain⟨h1,e1⟩:=List.getElem?_eq_some_iff.mp a
 obtain⟨h2,e2⟩:=List.getElem?_eq_some_iff.mp b
 exact(List.getElem_inj hN).mp (e1.trans e2.symm)
theorem z78{M:Model}{A:Around}{E:Value->Shared->Prop}{i:Nat}{x:Str}{v:V}{u:Value}{Q:Unit->Shared->Prop}(I:Inv X pins σ H s)(hN:X.N.Nodup)(hi:X.N[i]? =some x)(hx:Loc X.env.scope x)(r:RelV v u)
  (h:∀ s',Inv X pins (σ.set i (some v)) H s'->(∃ a,Heap.SameBut a s.heap s'.heap/\(a=X.env.locals\/X.env.cells.lookup x=some a))->Q () s') (hf:X.fn x=true\/X.env.scope.names.lookup x=some .local:=by first | exact .inl rfl | exact .inr rfl | assumption):wpAny M A (storeName X.env x u) Q E s:=by
 obtain⟨m,hn,hl⟩:=id I.loc
 have hcls:(X.env.scope.kind == .class || (X.env.scope.kind == .module && X.env.locals != X.env.globals))=false:=by rw[I.ok.kind];rfl
 have hiσ:i<σ.length:=by rw[I.len];exact(List.getElem?_eq_some_iff.mp hi).1
 have cne:=I.cne
 have tracked:∀ {a:Addr} {h':Heap},(∃ o,s.heap.get? a=some o/\H a=none)->Heap.SameBut a s.heap h'->HOk X.prog X.w H h':=λ{a h'} ha hs b ob e=>by
  obtain⟨_,_,hfree⟩:=ha
  refine(I.hok b ob e).stay (λc w' hc q=>(hs.2 c ?_).trans q) (λ_ q=>q) λ_ _ q=>q
  rintro rfl
  rcases hc with rfl | hc
  ·rw[hfree]at e;cases e
  ·rw[hfree]at hc;cases hc
 rcases hx with hk | hk
 ·refine wpAny_storeName_local hk hn (λh' hn' hs=> ?_) hcls
  obtain⟨oL,_,_,hoL,_⟩:=id hn
  refine h _ ⟨I.ok,I.os,I.bare,⟨λb o e n hb hx=> ?_,λb o e n hb hx=> ?_,I.base.free,λb o e hx=> ?_,I.base.tups,I.base.frzs,I.base.tbls⟩,⟨_,hn',λj y v' e1 e2 e3=> ?_⟩,λy c e=> ?_,I.free,I.freeC,λp hp=> ?_,tracked ⟨oL,hoL,I.free⟩ hs,by simpa using I.len⟩ ⟨_,hs,.inl rfl⟩
  ·exact(hs.2 b (Nat.ne_of_lt (Nat.lt_of_lt_of_le (Heap.lt_size e) I.ok.above))).trans (I.base.keep b o e n hb hx)
  ·obtain⟨sl,e1⟩:=I.base.slot b o e n hb hx
   exact⟨sl,(hs.2 b (Nat.ne_of_lt (Nat.lt_of_lt_of_le (Heap.lt_size e) I.ok.above))).trans e1⟩
  ·obtain⟨o',e1⟩:=I.base.there b o e hx
   exact⟨o',(hs.2 b (Nat.ne_of_lt (Nat.lt_of_lt_of_le (Heap.lt_size e) I.ok.above))).trans e1⟩
  ·by_cases hj:j=i
   ·subst hj
    rw[hi]at e1;cases e1
    rw[List.getElem?_set_self hiσ]at e2
    cases e2
    exact⟨u,r,.inl ⟨hk,by simp⟩⟩
   ·rw[List.getElem?_set_ne (Ne.symm hj)]at e2
    obtain⟨u',r',q⟩:=hl j y v' e1 e2 e3
    refine⟨u',r',?_⟩
    rcases q with⟨k,e⟩ | ⟨k,c,e,z⟩
    ·refine .inl ⟨k,?_⟩
     have:y≠x:=λe=>hj (z6h hN e1 (e ▸ hi))
     simp[this,e]
    ·exact .inr ⟨k,c,e,z.sameBut hs (cne y c e)⟩
  ·obtain⟨w',z⟩:=I.cell y c e
   exact⟨w',z.sameBut hs (cne y c e)⟩
  ·obtain⟨e,n,ne,nf,d⟩:=I.pin p hp
   exact⟨(hs.2 p.1 ne).trans e,n,ne,nf,d⟩
 ·have hfn:X.fn x=true:=by
   rcases hf with z | z
   ·exact z
   ·rw[z]at hk;cases hk
  obtain⟨c,hc⟩:=I.ok.has x (.inl hk)
  obtain⟨w',z⟩:=I.cell x c hc
  refine wpAny_storeName_cell I.ok.kind hk hc z (λh' hc' hs=> ?_)
  obtain⟨oc,hoc,hocd⟩:=id z
  refine h { s with heap:=h' } ⟨I.ok,I.os,I.bare,⟨λb o e n hb hx=> ?_,λb o e n hb hx=> ?_,I.base.free,λb o e hx=> ?_,I.base.tups,I.base.frzs,I.base.tbls⟩,⟨m,hn.sameBut hs (Ne.symm (cne x c hc)),λj y v' e1 e2 e3=> ?_⟩,λy c' e=> ?_,I.free,I.freeC,λp hp=> ?_,tracked ⟨oc,hoc,I.freeC x c hc⟩ hs,by simpa using I.len⟩ ⟨c,hs,.inr hc⟩
  ·exact(hs.2 b (Nat.ne_of_lt (Nat.lt_of_lt_of_le (Heap.lt_size e) (I.ok.cab x c hfn hc)))).trans (I.base.keep b o e n hb hx)
  ·obtain⟨sl,e1⟩:=I.base.slot b o e n hb hx
   exact⟨sl,(hs.2 b (Nat.ne_of_lt (Nat.lt_of_lt_of_le (Heap.lt_size e) (I.ok.cab x c hfn hc)))).trans e1⟩
  ·obtain⟨o',e1⟩:=I.base.there b o e hx
   exact⟨o',(hs.2 b (Nat.ne_of_lt (Nat.lt_of_lt_of_le (Heap.lt_size e) (I.ok.cab x c hfn hc)))).trans e1⟩
  ·by_cases hj:j=i
   ·subst hj
    rw[hi]at e1;cases e1
    rw[List.getElem?_set_self hiσ]at e2
    cases e2
    exact⟨u,r,.inr ⟨.inl hk,c,hc,hc'⟩⟩
   ·rw[List.getElem?_set_ne (Ne.symm hj)]at e2
    obtain⟨u',r',q⟩:=hl j y v' e1 e2 e3
    refine⟨u',r',?_⟩
    rcases q with q | ⟨k,c',e,z'⟩
    ·exact .inl q
    ·refine .inr ⟨k,c',e,z'.sameBut hs ?_⟩
     rintro rfl
     exact hj (z6h hN e1 (I.ok.inj _ _ _ e hc ▸ hi))
  ·by_cases hcc:c'=c
   ·subst hcc;exact⟨_,hc'⟩
   ·obtain⟨w2,z2⟩:=I.cell y c' e
    exact⟨w2,z2.sameBut hs hcc⟩
  ·obtain⟨e,n,ne,nf,d⟩:=I.pin p hp
   refine⟨(hs.2 p.1 ?_).trans e,n,ne,nf,d⟩
   intro q
   rw[q,hoc]at e
   have q':oc=p.2:=Option.some.inj e
   exact d w' (by rw[<-q'];exact hocd)
theorem z19{M:Model}{A:Around}{E:Value->Shared->Prop}{i:Nat}{x:Str}{v:V}{u:Value}{Q:Unit->Shared->Prop}(I:Inv X pins σ H s)(hN:X.N.Nodup)(hi:X.N[i]? =some x)(hx:Loc X.env.scope x)(r:RelV v u)
  (h:∀ s',Inv X pins (σ.set i (some v)) H s'->Q () s') (hf:X.fn x=true\/X.env.scope.names.lookup x=some .local:=by first | exact .inl rfl | exact .inr rfl | assumption):wpAny M A (storeName X.env x u) Q E s :=
 z78 I hN hi hx r (λs' I' _=>h s' I') hf
theorem Inv.call'{s':Shared}{ch:List Addr}(I:Inv X pins σ H s)(ho:s'.os=s.os)(u:Un (frs X.stack) ch H H' s.heap s'.heap)(hok:HOk X.prog X.w H' s'.heap)(hg:AllBare s'.gens)
  (hch:∀ b∈ch,(b∈X.ex\/X.s₀.heap.objs.size<=b)/\b≠X.env.locals/\(∀ x c,X.env.cells.lookup x=some c->c≠b)/\∀ p∈X.pn++pins,p.1≠b):Inv X pins σ H' s':=by
 obtain⟨h',g',d',t',o'⟩:=s'
 have e:o'=s.os:=ho
 subst e
 exact I.call (g':=g') (t':=t') (d':=d') u hok hg hch
end
abbrev XK:=Value->Option Addr->Hp->Prop
abbrev St:=List (Option V)
abbrev VK:=V->Hp->Prop
abbrev TE:=St->Hp->VK->Prop
abbrev TT:=St->Hp->(Bool->Hp->Prop)->Prop
abbrev TA:=St->Hp->(List V->Hp->Prop)->Prop
structure Ends where
 nx:St->Hp->Prop
 rt:VK
 bk:St->Hp->Prop:=λ_ _=>False
 ct:St->Hp->Prop:=λ_ _=>False
abbrev TS:=Ends->St->Hp->Prop
def EP(X:Cx)(pins:List (Addr × Obj))(σ:St)(Q:VK)(u:Value)(s':Shared):Prop:=∃ v H',Inv X pins σ H' s'/\RelV v u/\Q v H'
def TP(X:Cx)(pins:List (Addr × Obj))(σ:St)(Q:Bool->Hp->Prop)(b:Bool)(s':Shared):Prop:=∃ H',Inv X pins σ H' s'/\Q b H'
def AP(X:Cx)(pins:List (Addr × Obj))(σ:St)(Q:List V->Hp->Prop)(us:List Value)(s':Shared):Prop:=∃ vs H',Inv X pins σ H' s'/\Vals vs us/\Q vs H'
def SP(X:Cx)(pins:List (Addr × Obj))(D:Ends)(f:Flow)(s':Shared):Prop :=
 match f with
 | .next=>∃ σ' H',Inv X pins σ' H' s'/\D.nx σ' H'
 | .brk=>∃ σ' H',Inv X pins σ' H' s'/\D.bk σ' H'
 | .cont=>∃ σ' H',Inv X pins σ' H' s'/\D.ct σ' H'
 | .ret u=>∃ v σ' H',Inv X pins σ' H' s'/\RelV v u/\D.rt v H'
def PE(X:Cx)(e:Expr)(t:TE):Prop :=
 ∀ (pins:List (Addr × Obj)) (s:Shared) (σ:St) (H:Hp) (Q:VK),Inv X pins σ H s->t σ H Q->wpAny (model X.prog X.w) X.A (eval e X.env) (EP X pins σ Q) X.xe s
def PT(X:Cx)(e:Expr)(t:TT):Prop :=
 ∀ (pins:List (Addr × Obj)) (s:Shared) (σ:St) (H:Hp) (Q:Bool->Hp->Prop),Inv X pins σ H s->t σ H Q->wpAny (model X.prog X.w) X.A (isTrue e X.env (eval e X.env)) (TP X pins σ Q) X.xe s
def PW(X:Cx)(e:Expr)(t:TT):Prop :=
 ∀ (whole:Sem Value) (pins:List (Addr × Obj)) (s:Shared) (σ:St) (H:Hp) (Q:Bool->Hp->Prop),Inv X pins σ H s->t σ H Q->wpAny (model X.prog X.w) X.A (isTrue e X.env whole) (TP X pins σ Q) X.xe s
theorem PW.pt{X:Cx}{e:Expr}{t:TT}(h:PW X e t):PT X e t:=h _
def PA(X:Cx)(es:List Expr)(t:TA):Prop :=
 ∀ (pos:Pos) (pins:List (Addr × Obj)) (s:Shared) (σ:St) (H:Hp) (Q:List V->Hp->Prop),Inv X pins σ H s->t σ H Q->wpAny (model X.prog X.w) X.A (spliced (backTo pos (starEach es X.env))) (AP X pins σ Q) X.xe s
def PS(X:Cx)(st:Stmt)(t:TS):Prop :=
 ∀ (pins:List (Addr × Obj)) (s:Shared) (σ:St) (H:Hp) (D:Ends),Inv X pins σ H s->t D σ H->wpAny (model X.prog X.w) X.A (exec st X.env) (SP X pins D) X.xe s
def PSs(X:Cx)(st:List Stmt)(t:TS):Prop :=
 ∀ (pins:List (Addr × Obj)) (s:Shared) (σ:St) (H:Hp) (D:Ends),Inv X pins σ H s->t D σ H->wpAny (model X.prog X.w) X.A (execs st X.env) (SP X pins D) X.xe s
theorem thn{α :Type}{t:Sem α}{Q Q': α ->Shared->Prop}{M:Model}{A:Around}{E:Value->Shared->Prop}{s:Shared}(h:wpAny M A t Q E s)(hQ:∀ a s,Q a s->Q' a s):wpAny M A t Q' E s:=wpAny_mono h hQ λ_ _ x=>x
end L2
namespace L2
section
variable{X:Cx}
def jns(i:Nat):TE:=λσ H Q=>∃ v,σ[i]? =some (some v)/\Q v H
def tC(v:V):TE:=λ_ H Q=>Q v H
theorem jk9{i:Nat}{x:Str}{pos:Pos}(hN:X.N[i]? =some x)(hv:Vis X.env.scope x)(hd:(x ==("__debug__":Str))=false:=by decide)(hcd:(x ==("__classdict__":Str))=false:=by decide):PE X (.Name x pos) (jns i):=by
 intro pins s σ H Q I h
 obtain⟨v,e,h⟩:=h
 obtain⟨m,hn,hl⟩:=I.loc
 obtain⟨u,r,l⟩:=hl i x v hN e hv
 have fin:EP X pins σ Q u s:=⟨v,H,I,r,h⟩
 rcases l with⟨hk,hm⟩ | ⟨hk,c,hc,hcell⟩
 ·exact wpAny_Name (wpAny_loadName_local I.ok.kind hk hn hm fin) hd
 ·rcases hk with hk | hk
  ·exact wpAny_Name (wpAny_loadName_cell I.ok.kind hk hc hcell fin) hd
  ·exact wpAny_Name (wpAny_loadName_free I.ok.kind hk hc hcell fin hcd) hd
theorem zaj{i j pos}:PE X (.Constant (.int i) j pos) (tC (.int i)):=λ_ _ _ H _ I h=>wpAny_Constant_int ⟨.int i,H,I.tok _,⟨_,rfl⟩,h⟩
theorem z79{b j pos}:PE X (.Constant (.bool b) j pos) (tC (.bl b)):=λ_ _ _ H _ I h=>Constant_bool ⟨.bl b,H,I,rfl,h⟩
theorem ziy{j pos}:PE X (.Constant .none j pos) (tC .non):=λ_ _ _ H _ I h=>Constant_none ⟨.non,H,I,rfl,h⟩
theorem zch{x j pos}:PE X (.Constant (.str x) j pos) (tC (.str x)):=λ_ _ _ H _ I h=>Calls.Constant_str ⟨.str x,H,I.tok _,⟨_,rfl⟩,h⟩
def Gl(X:Cx)(x:Str):Prop:=X.env.kindOf x=some .globalImplicit
theorem z2j{E:Value->Shared->Prop}{pins:List (Addr × Obj)}{s:Shared}{σ:St}{H:Hp}{x:Str}{u:Value}{pos:Pos}{Q:Value->Shared->Prop}(I:Inv X pins σ H s)(hg:Gl X x)(hm:X.mg x=some u)(h:Q u s)
  (hd:(x ==("__debug__":Str))=false:=by decide):wpAny (model X.prog X.w) X.A (eval (.Name x pos) X.env) Q E s :=
 Calls.Name_function_global I.ok.kind hg (Calls.loadGlobal_global (by rw[I.ok.glob];exact I.mod.glob.keeps I.bk) hm h) hd
theorem z8a{E:Value->Shared->Prop}{pins:List (Addr × Obj)}{s:Shared}{σ:St}{H:Hp}{x:Str}{u:Value}{pos:Pos}{Q:Value->Shared->Prop}(I:Inv X pins σ H s)(hg:Gl X x)(hm:X.mg x=none)(hv:bootBuiltins x=some u)(h:Q u s)
  (hn:x≠"__name__":=by decide) (hd:(x ==("__debug__":Str))=false:=by decide):wpAny (model X.prog X.w) X.A (eval (.Name x pos) X.env) Q E s:=by
 obtain⟨mb,h1,h2⟩:=I.mod.blt
 exact Calls.Name_function_global I.ok.kind hg (Calls.loadGlobal_builtin (by rw[I.ok.glob];exact I.mod.glob.keeps I.bk) hm (by rw[I.ok.blt];exact h1.keeps I.bk) ((h2 x hn).trans hv) h) hd
theorem ji5{x:Str}{v:V}{u:Value}{pos:Pos}(hg:Gl X x)(hm:X.mg x=some u)(r:RelV v u)(hd:(x ==("__debug__":Str))=false:=by decide):PE X (.Name x pos) (tC v) :=
 λ_ _ _ H _ I h=>z2j I hg hm ⟨v,H,I,r,h⟩ hd
theorem ji6{x:Str}{v:V}{u:Value}{pos:Pos}(hg:Gl X x)(hm:X.mg x=none)(hv:bootBuiltins x=some u)(r:RelV v u)(hn:x≠"__name__":=by decide)(hd:(x ==("__debug__":Str))=false:=by decide):PE X (.Name x pos) (tC v) :=
 λ_ _ _ H _ I h=>z8a I hg hm hv ⟨v,H,I,r,h⟩ hn hd
variable{a b:Expr}{ta tb:TE}{pos:Pos}
def PC(X:Cx)(op:CmpOp)(a b:Expr)(t:TE):Prop :=
 ∀ (pins:List (Addr × Obj)) (s:Shared) (σ:St) (H:Hp) (Q:VK),Inv X pins σ H s->t σ H Q →
  wpAny (model X.prog X.w) X.A (eval a X.env) (λv s₁=>wpAny (model X.prog X.w) X.A (eval b X.env) (λu s₂=>wpAny (model X.prog X.w) X.A (compareOp op v u) (EP X pins σ Q) X.xe s₂) X.xe s₁) X.xe s
theorem jgo(b:Expr){op:CmpOp}(h:op≠.In)(h2:op≠.NotIn):behindInMarks op b=false:=by
 have e1:(op == CmpOp.In)=false:=by cases op<;>first | rfl | exact absurd rfl h
 have e2:(op == CmpOp.NotIn)=false:=by cases op<;>first | rfl | exact absurd rfl h2
 cases b<;>simp[behindInMarks,e1,e2]
def tB(t:TE):TT:=λσ H Q=>t σ H λx H1=>∃ c,x=.bl c/\Q c H1
theorem z2k{op:CmpOp}{t:TE}(h:PC X op a b t)(h1:behindInMarks op b=false:=by first | exact jgo _ (by decide) (by decide) | rfl):PT X (.Compare a [op] [b] pos) (tB t):=by
 intro pins s σ H Q I hw
 refine wpAny_isTrue_Compare1 (thn (h pins s σ H _ I hw) λv s1 h1=>thn h1 λu s2 h2=>thn h2 λc s3 ⟨x,H1,I1,r1,q1⟩=> ?_) h1
 obtain⟨d,rfl,q⟩:=q1
 cases r1
 exact wpAny_truthy_bool ⟨H1,I1,q⟩
variable{tA tB':TT}{rest:List Expr}
def jkz(t u:TT):TT:=λσ H Q=>t σ H λc H1=>if c=true then u σ H1 Q else Q false H1
def tOr(t u:TT):TT:=λσ H Q=>t σ H λc H1=>if c=true then Q true H1 else u σ H1 Q
def jds(t:TT):TT:=λσ H Q=>t σ H λc H1=>Q (!c) H1
theorem z6i(ha:PT X a tA):PW X (.BoolOp .And [a] pos) tA:=by
 intro wh pins s σ H Q I h
 refine isTrue_and (thn (ha pins s σ H Q I h) λc s1 e=> ?_)
 cases c with
 | true=>exact isTrue_and_nil e
 | false=>exact e
theorem jih(ha:PT X a tA):PW X (.BoolOp .Or [a] pos) tA:=by
 intro wh pins s σ H Q I h
 refine isTrue_or (thn (ha pins s σ H Q I h) λc s1 e=> ?_)
 cases c with
 | false=>exact isTrue_or_nil e
 | true=>exact e
theorem jbo(ha:PT X a tA)(hb:PW X (.BoolOp .And (b::rest) pos) tB'):PW X (.BoolOp .And (a::b::rest) pos) (jkz tA tB'):=by
 intro wh pins s σ H Q I h
 refine isTrue_and (thn (ha pins s σ H _ I h) λc s1 ⟨H1,I1,q1⟩=> ?_)
 cases c with
 | true=>exact hb wh pins s1 σ H1 Q I1 q1
 | false=>exact⟨H1,I1,q1⟩
theorem jla(ha:PT X a tA)(hb:PW X (.BoolOp .Or (b::rest) pos) tB'):PW X (.BoolOp .Or (a::b::rest) pos) (tOr tA tB'):=by
 intro wh pins s σ H Q I h
 refine isTrue_or (thn (ha pins s σ H _ I h) λc s1 ⟨H1,I1,q1⟩=> ?_)
 cases c with
 | true=>exact⟨H1,I1,q1⟩
 | false=>exact hb wh pins s1 σ H1 Q I1 q1
theorem zr8(ha:PT X a tA):PT X (.UnaryOp .Not a pos) (jds tA):=by
 intro pins s σ H Q I h
 exact isTrue_not (ha pins s σ H (λc H1=>Q (!c) H1) I h)
def jag(ta tb:TE):TE:=λσ H Q=>ta σ H λx H1=>∃ c,x=.bl c/\if c=true then tb σ H1 Q else Q (.bl false) H1
def jo7(ta tb:TE):TE:=λσ H Q=>ta σ H λx H1=>∃ c,x=.bl c/\if c=true then Q (.bl true) H1 else tb σ H1 Q
theorem jbp{op}{t:TE}(h:PE X a t):PE X (.BoolOp op [a] pos) t:=λpins s σ H Q I hw=>BoolOp_one (h pins s σ H Q I hw)
theorem z8b(ha:PE X a ta)(hb:PE X (.BoolOp .And (b::rest) pos) tb):PE X (.BoolOp .And (a::b::rest) pos) (jag ta tb):=by
 intro pins s σ H Q I h
 refine BoolOp_and (thn (ha pins s σ H _ I h) λv s1 ⟨x,H1,I1,r1,q1⟩=> ?_)
 obtain⟨c,rfl,q1⟩:=q1
 cases r1
 refine wpAny_truthy_bool ?_
 cases c with
 | true=>exact hb pins s1 σ H1 Q I1 q1
 | false=>exact⟨.bl false,H1,I1,rfl,q1⟩
def tIf(t:TT)(ta tb:TE):TE:=λσ H Q=>t σ H λc H1=>if c=true then ta σ H1 Q else tb σ H1 Q
end
end L2
namespace L2
def SqL(K:W.Frag)(H:Hp)(a:Addr)(xs:List V):Prop :=
 Rd H a (.lst xs) ∨
  ∃ (o:Obj) (its:Array Value) (n:Nat),K.lookup a=some o/\o.cls=.type "list"/\o.dict=none/\o.data=.seq its n/\its.size<=sizeLine/\Vals xs its.toList
def SqT(K:W.Frag)(H:Hp)(a:Addr)(xs:List V):Prop :=
 Rd H a (.tup xs) ∨
  ∃ (o:Obj) (its:Array Value) (n:Nat),K.lookup a=some o/\o.cls=.type "tuple"/\o.data=.seq its n/\its.size<=sizeLine/\Vals xs its.toList
def jo8:Value->Option V
 | .none=>some .non
 | .bool b=>some (.bl b)
 | .int i _=>some (.int i)
 | .str x _=>some (.str x)
 | .bytes b _=>some (.byt b)
 | .float b _=>some (.flt b)
 | .ref a=>some (.ref a)
 | .type n=>some (.ty n)
 | _=>none
theorem RelV.abs{x:V}{u:Value}(r:RelV x u):jo8 u=some x:=by
 cases x with
 | non=>cases r;rfl
 | bl _=>cases r;rfl
 | int _=>obtain⟨t,rfl⟩:=r;rfl
 | str _=>obtain⟨t,rfl⟩:=r;rfl
 | byt _=>obtain⟨t,rfl⟩:=r;rfl
 | flt _=>obtain⟨t,rfl⟩:=r;rfl
 | ref _=>cases r;rfl
 | ty _=>cases r;rfl
theorem RelV.inj{x y:V}{u:Value}(r:RelV x u)(q:RelV y u):x=y:=Option.some.inj (r.abs.symm.trans q.abs)
theorem Vals.inj:∀ {xs ys:List V} {us:List Value},Vals xs us->Vals ys us->xs=ys
 | _,_,_,.nil,.nil=>rfl
 | _,_,_,.cons r t,.cons r' t'=>by rw[r.inj r',Vals.inj t t']
section
variable{X:Cx}{pins:List (Addr × Obj)}{σ:St}{H:Hp}{s:Shared}{a:Addr}{xs ys:List V}
theorem SqL.of{K:W.Frag}(h:H a=some (.lst xs)):SqL K H a xs:=.inl (.inl h)
theorem SqT.of{K:W.Frag}(h:H a=some (.tup xs)):SqT K H a xs:=.inl (.inl h)
theorem Inv.list(I:Inv X pins σ H s)(h:SqL X.K H a xs):∃ its:List Value,Vals xs its/\PlainL s.heap a its.toArray/\xs.length<=sizeLine:=by
 rcases h with h | ⟨o,its,n,hk,hc,hd,hs,hz,r⟩
 ·obtain⟨z,its,n,r,e⟩:=h.ok I.hok
  exact⟨its,r,⟨_,n,e,rfl,rfl,rfl⟩,z⟩
 ·refine⟨its.toList,r,⟨o,n,I.kIn a o hk,hc,hd,by simpa using hs⟩,?_⟩
  have e:=r.length
  simp only[Array.length_toList]at e
  omega
theorem Inv.tuple(I:Inv X pins σ H s)(h:SqT X.K H a xs):∃ its:List Value,Vals xs its/\IsTup s.heap a its.toArray/\xs.length<=sizeLine:=by
 rcases h with h | ⟨o,its,n,hk,hc,hs,hz,r⟩
 ·obtain⟨z,its,r,p⟩:=h.ok I.hok
  exact⟨its,r,p,z⟩
 ·refine⟨its.toList,r,⟨o,I.kIn a o hk,hc,n,by simpa using hs⟩,?_⟩
  have e:=r.length
  simp only[Array.length_toList]at e
  omega
theorem Inv.list_inj(I:Inv X pins σ H s)(h:SqL X.K H a xs)(h':SqL X.K H a ys):xs=ys:=by
 obtain⟨its,r,⟨o,n,e,_,_,d⟩,_⟩:=I.list h
 obtain⟨its',r',⟨o',n',e',_,_,d'⟩,_⟩:=I.list h'
 rw[e]at e';cases e'
 rw[d]at d'
 injection d' with d1 _
 have:its=its':=by simpa using congrArg Array.toList d1
 subst this
 exact r.inj r'
theorem Inv.tuple_inj(I:Inv X pins σ H s)(h:SqT X.K H a xs)(h':SqT X.K H a ys):xs=ys:=by
 obtain⟨its,r,⟨o,e,_,n,d⟩,_⟩:=I.tuple h
 obtain⟨its',r',⟨o',e',_,n',d'⟩,_⟩:=I.tuple h'
 rw[e]at e';cases e'
 rw[d]at d'
 injection d' with d1 _
 have:its=its':=by simpa using congrArg Array.toList d1
 subst this
 exact r.inj r'
end
section
variable{X:Cx}{pins:List (Addr × Obj)}{σ:St}{H:Hp}{s:Shared}{E:Value->Shared->Prop}
end
section
variable{X:Cx}{st:Stmt}{rest:List Stmt}{t u:TS}{e:Expr}{te:TE}{pos:Pos}
def zha:TS:=λD σ H=>D.nx σ H
def zby(t u:TS):TS:=λD σ H=>t { D with nx:=u D } σ H
theorem zcz:PSs X [] zha:=λ_ _ σ H _ I h=>wpAny_execs_nil ⟨σ,H,I,h⟩
theorem zaf(h1:PS X st t)(h2:PSs X rest u):PSs X (st::rest) (zby t u):=by
 intro pins s σ H D I h
 refine wpAny_execs_cons (thn (h1 pins s σ H { D with nx:=u D } I h) λf s1 q=> ?_)
 cases f with
 | next =>
  obtain⟨σ',H',I',q⟩:=q
  exact h2 pins s1 σ' H' D I' q
 | ret v=>exact q
 | brk=>exact q
 | cont=>exact q
theorem zag(h1:PS X st t):PSs X [st] t:=by
 intro pins s σ H D I h
 refine wpAny_execs_cons (thn (h1 pins s σ H D I h) λf s1 q=> ?_)
 cases f with
 | next=>exact wpAny_execs_nil q
 | ret v=>exact q
 | brk=>exact q
 | cont=>exact q
def jlb:TS:=λD σ H=>D.bk σ H
def ji7:TS:=λD σ H=>D.ct σ H
theorem jah:PS X (.Continue pos) ji7:=λ_ _ σ H _ I h=>wpAny_Continue ⟨σ,H,I,h⟩
theorem Inv.quiet{pins:List (Addr × Obj)}{σ:St}{H:Hp}{s:Shared}(I:Inv X pins σ H s):interactive X.env=false:=by simp[interactive,I.ok.kind]
def zfr(te:TE):TS:=λD σ H=>te σ H λ_ H1=>D.nx σ H1
theorem zb1(he:PE X e te)(hs:swapsWith e none pos.line X.env=pure false:=by rfl):PS X (.Expr e pos) (zfr te):=by
 intro pins s σ H D I h
 exact wpAny_Expr_any (thn (he pins s σ H _ I h) λv s1 ⟨x,H1,I1,r1,q1⟩=>⟨σ,H1,I1,q1⟩) I.quiet hs
def zgc(te:TE):TS:=λD σ H=>te σ H D.rt
theorem zbb(he:PE X e te):PS X (.Return (some e) pos) (zgc te):=by
 intro pins s σ H D I h
 exact wpAny_Return_some (thn (he pins s σ H _ I h) λv s1 ⟨x,H1,I1,r1,q1⟩=>⟨x,σ,H1,I1,r1,q1⟩)
def jnt:TS:=λD _ H=>D.rt .non H
def zkr(c:TT)(t u:TS):TS:=λD σ H=>c σ H λb H1=>if b=true then t D σ H1 else u D σ H1
theorem zd6{c:Expr}{a b:List Stmt}{tc:TT}(hc:PT X c tc)(ha:PSs X a t)(hb:PSs X b u):PS X (.If c a b pos) (zkr tc t u):=by
 intro pins s σ H D I h
 refine wpAny_If (thn (hc pins s σ H _ I h) λd s1 ⟨H1,I1,q1⟩=> ?_)
 cases d with
 | true=>exact ha pins s1 σ H1 D I1 q1
 | false=>exact hb pins s1 σ H1 D I1 q1
end
abbrev TG:=V->St->Hp->(St->Hp->Prop)->Prop
abbrev TGs:=List V->St->Hp->(St->Hp->Prop)->Prop
def PG(X:Cx)(target:Expr)(t:TG):Prop :=
 ∀ (pins:List (Addr × Obj)) (s:Shared) (σ:St) (H:Hp) (v:V) (u:Value) (Q:St->Hp->Prop),Inv X pins σ H s->RelV v u->t v σ H Q →
  wpAny (model X.prog X.w) X.A (assign target X.env u) (λ_ s'=>∃ σ' H',Inv X pins σ' H' s'/\Q σ' H') X.xe s
def PGs(X:Cx)(ts:List Expr)(t:TGs):Prop :=
 ∀ (pins:List (Addr × Obj)) (s:Shared) (σ:St) (H:Hp) (vs:List V) (us:List Value) (Q:St->Hp->Prop),Inv X pins σ H s->Vals vs us->t vs σ H Q →
  wpAny (model X.prog X.w) X.A (assignInOrder ((assignEach ts X.env).map (·.2)) us) (λ_ s'=>∃ σ' H',Inv X pins σ' H' s'/\Q σ' H') X.xe s
abbrev jnd:=V->V->V->Hp->(Hp->Prop)->Prop
def jnu(X:Cx)(t:jnd):Prop :=
 ∀ (pins:List (Addr × Obj)) (s:Shared) (σ:St) (H:Hp) (o i v:V) (ov iv u:Value) (Q:Hp->Prop),Inv X pins σ H s->RelV o ov->RelV i iv->RelV v u->t o i v H Q →
  wpAny (model X.prog X.w) X.A (setItem ov iv u) (λ_ s'=>∃ H',Inv X pins σ H' s'/\Q H') X.xe s
abbrev TIp:=V->V->Hp->VK->Prop
section
variable{X:Cx}{pos:Pos}
def zaz(i:Nat):TG:=λv σ H Q=>Q (σ.set i (some v)) H
theorem zc9{i:Nat}{x:Str}(hN:X.N.Nodup)(hi:X.N[i]? =some x)(hx:Loc X.env.scope x)(hf:X.fn x=true\/X.env.scope.names.lookup x=some .local:=by first | exact .inl rfl | exact .inr rfl | assumption):PG X (.Name x pos) (zaz i):=by
 intro pins s σ H v u Q I r h
 exact wpAny_assign_Name (z19 I hN hi hx r (λs' I'=>⟨_,H,I',h⟩) hf)
def jne:TGs:=λvs σ H Q=>vs=[]/\Q σ H
def jcq(t:TG)(u:TGs):TGs:=λvs σ H Q=>∃ v r,vs=v::r/\t v σ H λσ' H'=>u r σ' H' Q
theorem jdy:PGs X [] jne:=by
 intro pins s σ H vs us Q I r h
 obtain⟨e,h⟩:=h
 subst e
 cases r
 exact assignInOrder_nil ⟨σ,H,I,h⟩
theorem z2a{e:Expr}{es:List Expr}{t:TG}{u:TGs}(h1:PG X e t)(h2:PGs X es u)
  (hs:(assignEach (e::es) X.env).map (·.2)=assign e X.env::(assignEach es X.env).map (·.2):=by rfl):PGs X (e::es) (jcq t u):=by
 intro pins s σ H vs us Q I r h
 obtain⟨v,vr,e1,h⟩:=h
 subst e1
 cases r with
 | cons r rr =>
  rw[hs]
  refine assignInOrder_cons (thn (h1 pins s σ H _ _ _ I r h) λ_ s1 ⟨σ1,H1,I1,q1⟩=> ?_)
  exact h2 pins s1 σ1 H1 _ _ Q I1 rr q1
def jnf(K:W.Frag)(n:Nat)(t:TGs):TG:=λv σ H Q=>∃ a xs,v=.ref a/\SqT K H a xs/\xs.length=n/\t xs σ H Q
theorem jii{es:List Expr}{k:Nat}{t:TGs}{n:Nat}(hc:X.calm=true)(h:PGs X es t)
  (hn:(assignEach es X.env).length=n:=by rfl) (hst:(assignEach es X.env).findIdx? (·.1)=none:=by rfl):PG X (.Tuple es k pos) (jnf X.K n t):=by
 intro pins s σ H v u Q I r hw
 obtain⟨a,xs,e1,hq,hl,hw⟩:=hw
 subst e1
 cases r
 obtain⟨its,rv,ht,hz⟩:=I.tuple hq
 refine assign_Tuple_tuple (I.ok.hd hc) ht (by simp[hn,<-hl,rv.length]) hst λh' hx=> ?_
 have I1:Inv X pins σ H { s with heap:=h' }:=I.kept (t':=s.toks) λb o e=>hx b o (Nat.ne_of_lt (Heap.lt_size e)) e
 exact h pins _ σ H xs _ Q I1 (by simpa using rv) hw
def jng(to ti:TE)(t:jnd):TG:=λv σ H Q=>to σ H λo H1=>ti σ H1 λi H2=>t o i v H2 λH3=>Q σ H3
theorem jij{o i:Expr}{to ti:TE}{t:jnd}(ho:PE X o to)(hi:PE X i ti)(hs:jnu X t)
  (ha:∀ v,assign (.Subscript o i pos) X.env v=(do
   let ov ← holding [v] (eval o X.env)
   let iv ← holding [v,ov] (eval i X.env)
   standAt pos
   holding [v,ov,iv] (setItem ov iv v)
   release [v,ov,iv] []):=by intro _;rfl):PG X (.Subscript o i pos) (jng to ti t):=by
 intro pins s σ H v u Q I r h
 rw[ha]
 refine wpAny_bind (wpAny_holding (thn (ho pins s σ H _ I h) λov s1 ⟨x,H1,I1,r1,q1⟩=> ?_))
 refine wpAny_bind (wpAny_holding (thn (hi pins s1 σ H1 _ I1 q1) λiv s2 ⟨y,H2,I2,r2,q2⟩=> ?_))
 refine wpAny_bind (wpAny_standAt (wpAny_bind (wpAny_holding (thn (hs pins s2 σ H2 x y v ov iv u _ I2 r1 r2 r q2) λ_ s3 ⟨H3,I3,q3⟩=> ?_))))
 exact wpAny_release ⟨σ,H3,I3,q3⟩
def zd5(te:TE)(g:TG):TS:=λD σ H=>te σ H λx H1=>g x σ H1 D.nx
theorem jik{tg e:Expr}{te:TE}{g:TG}(he:PE X e te)(hg:PG X tg g)(hs:swapsWithSole [tg] e pos.line X.env=pure false:=by rfl)(hw:swappedStores [tg] e X.env=pure none:=by rfl)
  (h1:(assignEach [tg] X.env).map (·.2)=[assign tg X.env]:=by rfl):PS X (.Assign [tg] e pos) (zd5 te g):=by
 intro pins s σ H D I h
 refine wpAny_Assign_stores (thn (he pins s σ H _ I h) λv s1 ⟨x,H1,I1,r1,q1⟩=> ?_) hs hw
 rw[h1]
 exact thn (hg pins s1 σ H1 x v _ I1 r1 q1) λ_ s2 q=>q
theorem za2{i:Nat}{x:Str}{e:Expr}{te:TE}{pos':Pos}(hN:X.N.Nodup)(hi:X.N[i]? =some x)(hx:Loc X.env.scope x)(he:PE X e te)(hs:swapsWith e (some (.Name x pos')) pos.line X.env=pure false:=by rfl)(hf:X.fn x=true\/X.env.scope.names.lookup x=some .local:=by first | exact .inl rfl | exact .inr rfl | assumption) :
  PS X (.Assign [.Name x pos'] e pos) (zd5 te (zaz i)):=by
 intro pins s σ H D I h
 refine wpAny_Assign_Name (thn (he pins s σ H _ I h) λv s1 ⟨y,H1,I1,r1,q1⟩=> ?_) hs
 exact z19 I1 hN hi hx r1 (λs2 I2=>⟨_,H1,I2,q1⟩) hf
def jo9(i:Nat)(te:TE)(ti:TIp):TS:=λD σ H=>∃ x,σ[i]? =some (some x)/\te σ H λy H1=>ti x y H1 λz H2=>D.nx (σ.set i (some z)) H2
def ipI(f:Int->Int->Int):TIp:=λx y H Q=>∃ i j,x=.int i/\y=.int j/\Q (.int (f i j)) H
end
section
variable{X:Cx}{pos:Pos}
end
structure It where
 go:Nat->Hp->Prop
 yld:Nat->Hp->V->Hp->Prop
 stop:Nat->Hp->Prop
def FpOk(X:Cx)(pins:List (Addr × Obj))(H:Hp)(b:Addr):Prop :=
 H b=none/\b≠X.env.locals/\b∉X.fs/\(b∈X.ex\/X.s₀.heap.objs.size<=b)/\(∀ x c,X.env.cells.lookup x=some c->c≠b)/\∀ p∈X.pn++pins,p.1≠b
theorem Inv.fpOk{X:Cx}{pins:List (Addr × Obj)}{σ:St}{H H':Hp}{s:Shared}{b:Addr}(I:Inv X pins σ H s)(hb:s.heap.objs.size<=b)(hn:H' b=none):FpOk X pins H' b:=by
 refine⟨hn,Nat.ne_of_gt (Nat.lt_of_lt_of_le I.lt hb),I.nofs hb,.inr (Nat.le_trans I.sz hb),λx c e z=> ?_,λp hp z=> ?_⟩
 ·obtain⟨v,q⟩:=I.cell x c e
  exact absurd (Nat.lt_of_lt_of_le q.lt (by rw[z];exact hb)) (Nat.lt_irrefl _)
 ·exact absurd (Nat.lt_of_lt_of_le (Heap.lt_size (I.pin p hp).1) (by rw[z];exact hb)) (Nat.lt_irrefl _)
structure ji8(P:Program)(w:World)(K:W.Frag)(tg:Expr)(J:It)(fp:List Addr)(it:Addr)(tn:Nat->Heap->Prop):Prop where
 mem:it∈fp
 obj:∀ i h,tn i h->∀ b∈fp,∃ o,h.get? b=some o/\∀ v,o.data≠.cell v
 keep:∀ i h h',tn i h->(∀ b∈fp,∀ o,h.get? b=some o->h'.get? b=some o)->tn i h'
 item:∀ (X:Cx),X.prog=P->X.w=w->X.K=K->X.calm=true->∀ (i:Nat) (pins:List (Addr × Obj)) (s:Shared) (σ:St) (H:Hp) (E:Value->Shared->Prop),Inv X pins σ H s->(∀ b∈fp,FpOk X pins H b)->tn i s.heap->J.go i H →
  wpAny (model P w) X.A (pyNext (.ref it)) (λr s1=>∃ u,r=some u ∧
   wpAny (model P w) X.A (letOwnedTupleGo tg (.ref it) u) (λ_ s2=>∃ x H',Inv X pins σ H' s2/\RelV x u/\J.yld i H x H'/\tn (i+1) s2.heap/\∀ b∈fp,H' b=none) E s1) E s
 done:∀ (X:Cx),X.prog=P->X.w=w->X.K=K->X.calm=true->∀ (i:Nat) (pins:List (Addr × Obj)) (s:Shared) (σ:St) (H:Hp) (E:Value->Shared->Prop),Inv X pins σ H s->(∀ b∈fp,FpOk X pins H b)->tn i s.heap->J.stop i H →
  wpAny (model P w) X.A (pyNext (.ref it)) (λr s1=>r=none/\Inv X pins σ H s1) E s
 self:∀ (A:Around) (i:Nat) (s:Shared) (Q:Value->Shared->Prop) (E:Value->Shared->Prop),tn i s.heap->Q (.ref it) s->wpAny (model P w) A (pyIter (.ref it)) Q E s
abbrev TI:=St->Hp->(It->Hp->Prop)->Prop
def PIE(X:Cx)(pins:List (Addr × Obj))(σ:St)(tg:Expr)(R:It->Hp->Prop)(itv:Value)(s2:Shared):Prop :=
 ∃ (it:Addr) (fp:List Addr) (tn:Nat->Heap->Prop) (J:It) (H':Hp),itv=.ref it/\Inv X pins σ H' s2/\ji8 X.prog X.w X.K tg J fp it tn/\tn 0 s2.heap/\(∀ b∈fp,FpOk X pins H' b)/\R J H'
def PI(X:Cx)(tg iter:Expr)(wi:TI):Prop :=
 ∀ (pins:List (Addr × Obj)) (s:Shared) (σ:St) (H:Hp) (R:It->Hp->Prop),Inv X pins σ H s->wi σ H R →
  wpAny (model X.prog X.w) X.A (eval iter X.env) (λv s1=>wpAny (model X.prog X.w) X.A (pyIter v) (PIE X pins σ tg R) X.xe s1) X.xe s
theorem jgp{M:Model}{A:Around}{E:Value->Shared->Prop}{s:Shared}{tg:Expr}{it:Addr}{u:Value}{o:Obj}{n:String}{vs:Array Value}{Q:Unit->Shared->Prop}(ho:s.heap.get? it=some o)(hc:o.cls=.type n)(hd:o.data=.fields vs)
    (hn:["enumerate","zip","dict_itemiterator","dict_reverseitemiterator","odict_iterator","itertools.zip_longest","itertools.pairwise"].contains n=false) (hQ:Q () s):wpAny M A (letOwnedTupleGo tg (.ref it) u) Q E s:=by
  unfold letOwnedTupleGo
  cases tg<;>first
    | exact wpAny_pure hQ
    | (cases u<;>first
        | exact wpAny_pure hQ
        | (refine wpAny_bind (wpAny_load ho ?_)
           rw[hc,hd]
           show wpAny M A (if(["enumerate","zip","dict_itemiterator","dict_reverseitemiterator","odict_iterator","itertools.zip_longest","itertools.pairwise"].contains n && vs[0]? == some (rawInt _))=true then _ else _) Q E s
           rw[if_neg (by intro h;rw[hn,Bool.false_and]at h;cases h)]
           exact wpAny_pure hQ))
def Itl(K:W.Frag)(a:Addr):It :=
 ⟨λi H=>∃ xs x,SqL K H a xs/\xs[i]? =some x,λi H x H'=>H'=H/\∀ xs,SqL K H a xs->xs[i]? =some x,λi H=>∃ xs,SqL K H a xs/\xs.length<=i⟩
def Itt(K:W.Frag)(a:Addr):It :=
 ⟨λi H=>∃ xs x,SqT K H a xs/\xs[i]? =some x,λi H x H'=>H'=H/\∀ xs,SqT K H a xs->xs[i]? =some x,λi H=>∃ xs,SqT K H a xs/\xs.length<=i⟩
def Itr(lo:Int)(n:Nat):It:=⟨λi _=>i<n,λi H x H'=>H'=H/\x=.int (lo+i),λi _=>n<=i⟩
theorem jdz{P:Program}{w:World}{K:W.Frag}{tg:Expr}(a it:Addr):ji8 P w K tg (Itl K a) [it] it (λi h=>h.IsListIter it a i) where
 mem:=by simp
 obj:=λi h st b hb=>by
  have e:b=it:=by simpa using hb
  subst e
  obtain⟨o,e,c,d⟩:=st
  exact⟨o,e,λv z=>by rw[d]at z;cases z⟩
 keep:=λi h h' st k=>st.at λo e=>k it (by simp) o e
 item:=by
  intro X hP hw hK hc i pins s σ H E I hf st hg
  subst hP hw hK
  obtain⟨xs,x,hq,hx⟩:=hg
  obtain⟨its,rv,p,hz⟩:=I.list hq
  obtain⟨u,hu,ru⟩:=rv.get hx
  obtain⟨f0,f1,f2,f3,f4,f5⟩:=hf it (by simp)
  refine wpAny_pyNext_list_item st p.isList (x:=u) (by simpa using hu) λh' st' sb=> ?_
  have I1:Inv X pins σ H { s with heap:=h' }:=I.turned (t':=s.toks) (λb o hb e=>(sb.2 b hb).trans e) f0 f1 f3 f4 f5
  obtain⟨o,e,c,d⟩:=id st'
  exact⟨u,rfl,jgp (s:={ s with heap:=h' }) e c d (by decide) ⟨x,H,I1,ru,⟨rfl,λys hy=>by rw[I.list_inj hy hq];exact hx⟩,st',λb hb=>(hf b hb).1⟩⟩
 done:=by
  intro X hP hw hK hc i pins s σ H E I hf st hg
  subst hP hw hK
  obtain⟨xs,hq,hx⟩:=hg
  obtain⟨its,rv,p,hz⟩:=I.list hq
  obtain⟨f0,f1,f2,f3,f4,f5⟩:=hf it (by simp)
  have hl:=rv.length
  exact wpAny_pyNext_list_end (I.ok.hd hc) st p.isList (by simp;omega) λh' eb=>⟨rfl,I.turned (t':=s.toks) (λb o hb e=>eb b o hb e) f0 f1 f3 f4 f5⟩
 self:=λ_ _ _ _ _ st h=>wpAny_pyIter_listiter st h
theorem jcr{P:Program}{w:World}{K:W.Frag}{tg:Expr}(a it:Addr):ji8 P w K tg (Itt K a) [it] it (λi h=>h.IsTupleIter it a i) where
 mem:=by simp
 obj:=λi h st b hb=>by
  have e:b=it:=by simpa using hb
  subst e
  obtain⟨o,e,c,d⟩:=st
  exact⟨o,e,λv z=>by rw[d]at z;cases z⟩
 keep:=λi h h' st k=>st.at λo e=>k it (by simp) o e
 item:=by
  intro X hP hw hK hc i pins s σ H E I hf st hg
  subst hP hw hK
  obtain⟨xs,x,hq,hx⟩:=hg
  obtain⟨its,rv,p,hz⟩:=I.tuple hq
  obtain⟨u,hu,ru⟩:=rv.get hx
  obtain⟨f0,f1,f2,f3,f4,f5⟩:=hf it (by simp)
  refine wpAny_pyNext_tuple_item st (show s.heap.IsTuple a its.toArray from p) (x:=u) (by simpa using hu) λh' st' sb=> ?_
  have I1:Inv X pins σ H { s with heap:=h' }:=I.turned (t':=s.toks) (λb o hb e=>(sb.2 b hb).trans e) f0 f1 f3 f4 f5
  obtain⟨o,e,c,d⟩:=id st'
  exact⟨u,rfl,jgp (s:={ s with heap:=h' }) e c d (by decide) ⟨x,H,I1,ru,⟨rfl,λys hy=>by rw[I.tuple_inj hy hq];exact hx⟩,st',λb hb=>(hf b hb).1⟩⟩
 done:=by
  intro X hP hw hK hc i pins s σ H E I hf st hg
  subst hP hw hK
  obtain⟨xs,hq,hx⟩:=hg
  obtain⟨its,rv,p,hz⟩:=I.tuple hq
  obtain⟨f0,f1,f2,f3,f4,f5⟩:=hf it (by simp)
  have hl:=rv.length
  exact wpAny_pyNext_tuple_end (I.ok.hd hc) st (show s.heap.IsTuple a its.toArray from p) (by simp;omega) λh' eb=>⟨rfl,I.turned (t':=s.toks) (λb o hb e=>eb b o hb e) f0 f1 f3 f4 f5⟩
 self:=λ_ _ _ _ _ st h=>wpAny_pyIter_tupleiter st h
theorem jcs{P:Program}{w:World}{K:PySem.W.Frag}{tg:Expr}(it:Addr)(lo:Int)(n:Nat):ji8 P w K tg (Itr lo n) [it] it (λi h=>IsRangeIter h it (lo+(i:Nat) * 1) ((n:Int) - (i:Nat)) 1) where
 mem:=by simp
 obj:=λi h st b hb=>by
  have e:b=it:=by simpa using hb
  subst e
  exact⟨_,st,λv z=>by
   have z':Data.fields _=Data.cell v:=z
   cases z'⟩
 keep:=λi h h' st k=>k it (by simp) _ st
 item:=by
  intro X hP hw hK hc i pins s σ H E I hf st hg
  subst hP hw hK
  obtain⟨f0,f1,f2,f3,f4,f5⟩:=hf it (by simp)
  have W:=Walks.range (prog:=X.prog) (w:=X.w) (I.ok.hd hc) it lo 1 n
  refine W.item i s _ _ hg st λv h' tk hv st' kk=> ?_
  obtain⟨t,rfl⟩:=hv
  have I1:Inv X pins σ H { s with heap:=h',toks:=tk }:=I.turned (λb o hb e=>kk b o (by simpa using hb) e) f0 f1 f3 f4 f5
  refine⟨_,rfl,jgp (s:={ s with heap:=h',toks:=tk }) (n:="range_iterator") st' rfl rfl (by decide) ⟨.int (lo+i),H,I1,⟨t,?_⟩,⟨rfl,rfl⟩,st',λb hb=>(hf b hb).1⟩⟩
  rw[Int.mul_one]
 done:=by
  intro X hP hw hK hc i pins s σ H E I hf st hg
  subst hP hw hK
  obtain⟨f0,f1,f2,f3,f4,f5⟩:=hf it (by simp)
  exact wpAny_pyNext_range_end (I.ok.hd hc) st (by have:n<=i:=hg;omega) λh' eb=>⟨rfl,I.turned (t':=s.toks) (λb o hb e=>eb b o hb e) f0 f1 f3 f4 f5⟩
 self:=λ_ _ _ _ _ st h=>wpAny_pyIter_rangeiter st h
end L2
namespace L2
section
variable{X:Cx}{tg:Expr}
theorem jgq{pins:List (Addr × Obj)}{σ:St}{H:Hp}{s:Shared}{R:It->Hp->Prop}{E:Value->Shared->Prop}{lo hi:Int}{t u v:Tok}{tk:Nat}(I:Inv X pins σ H s)(h1: -(2 ^ 62)<=lo)(h2:lo<2 ^ 62)(h3: -(2 ^ 62)<=hi)(h4:hi<2 ^ 62)
  (q:R (Itr lo (hi - lo).toNat) H):wpAny (model X.prog X.w) X.A (pyIter (.ref s.heap.objs.size)) (PIE X pins σ tg R) E { s with heap:=s.heap.push { cls:=.type "range",data:=.fields #[.int lo t,.int hi u,.int 1 v] },toks:=tk }:=by
 refine wpAny_pyIter_range (IsRange.new ..) (small_one h1 h2 h3 h4) ?_
 have I1:Inv X pins σ H { s with heap:=s.heap.push { cls:=.type "range",data:=.fields #[.int lo t,.int hi u,.int 1 v] },toks:=tk }:=I.kept λb o e=>Heap.get?_push_of_some _ e
 refine⟨(s.heap.push { cls:=.type "range",data:=.fields #[.int lo t,.int hi u,.int 1 v] }).objs.size,[(s.heap.push { cls:=.type "range",data:=.fields #[.int lo t,.int hi u,.int 1 v] }).objs.size],_,_,H,rfl,
  I1.kept (t':=tk) λb o e=>Heap.get?_push_of_some _ e,jcs _ lo (hi - lo).toNat,?_,λb hb=> ?_,q⟩
 ·have e1:lo+((0:Nat):Int) * 1=lo:=by simp
  have e2:(((hi - lo).toNat:Nat):Int) - ((0:Nat):Int)=Builtin.Range.rangeSize lo hi 1:=by rw[rangeSize_one];split<;>omega
  show IsRangeIter _ _ (lo+((0:Nat):Int) * 1) ((((hi - lo).toNat:Nat):Int) - ((0:Nat):Int)) 1
  rw[e1,e2]
  exact Heap.get?_push_size _ rfl
 ·have e:b=(s.heap.push { cls:=.type "range",data:=.fields #[.int lo t,.int hi u,.int 1 v] }).objs.size:=by simpa using hb
  subst e
  exact I1.fpOk (Nat.le_refl _) (I1.hok.fresh (Nat.le_refl _))
def z0k(ta:TA):TI:=λσ H R=>ta σ H λvs H1=>∃ j:Int,vs=[.int j]/\ -(2 ^ 62)<=j/\j<2 ^ 62/\R (Itr 0 j.toNat) H1
def jlc(ta:TA):TI:=λσ H R=>ta σ H λvs H1=>∃ i j:Int,vs=[.int i,.int j]/\(-(2 ^ 62)<=i/\i<2 ^ 62/\ -(2 ^ 62)<=j/\j<2 ^ 62)/\R (Itr i (j - i).toNat) H1
theorem zhb{a:Expr}{ta:TA}{p pos:Pos}(hg:Gl X "range")(hm:X.mg "range"=none)(ha:PA X [a] ta)(hs:starEach [a] X.env=[(false,eval a X.env)]:=by rfl):PI X tg (.Call (.Name "range" p) [a] [] pos) (z0k ta):=by
 intro pins s σ H R I h
 refine Call_ (z8a I hg hm boot_range (PyProof.Rows.callWith_type1 (thn (ha pos pins s σ H _ I h) λus s1 ⟨vs,H1,I1,r1,q1⟩=> ?_) hs rfl))
 obtain⟨j,e,q1,q2,q⟩:=q1
 subst e
 cases r1 with
 | cons r rr =>
  cases rr
  obtain⟨t,rfl⟩:=r
  exact call_range_1 (jgq I1 (by omega) (by omega) q1 q2 (by simpa using q))
def jad(wi:TI)(g:TG)(tb:TS):TS:=λD σ H=>wi σ H λJ H1=>∃ W:Nat->Nat->St->Hp->Prop,(∃ m,W 0 m σ H1)/\∀ i m σ H,W i m σ H →
 (J.stop i H/\D.nx σ H)\/(J.go i H/\∃ N:St->Hp->Prop,(∀ σ' H',N σ' H'->∃ m',m'<m/\W (i+1) m' σ' H')/\∀ x H',J.yld i H x H'->g x σ H' λσ2 H2=>tb { D with nx:=N,ct:=N,bk:=D.nx } σ2 H2)
def z8c(fp:List Addr)(h:Heap):List (Addr × Obj):=fp.filterMap λb=>(h.get? b).map λo=>(b,o)
theorem zrd{fp:List Addr}{h:Heap}{b:Addr}{o:Obj}(hb:b∈fp)(e:h.get? b=some o):(b,o)∈z8c fp h:=List.mem_filterMap.mpr ⟨b,hb,by rw[e];rfl⟩
theorem jd0{fp:List Addr}{h:Heap}{p:Addr × Obj}(hp:p∈z8c fp h):p.1∈fp/\h.get? p.1=some p.2:=by
 obtain⟨b,hb,e⟩:=List.mem_filterMap.mp hp
 cases q:h.get? b with
 | none=>rw[q]at e;cases e
 | some o =>
  rw[q]at e
  have e':(b,o)=p:=Option.some.inj e
  subst e'
  exact⟨hb,q⟩
theorem Inv.pinned{pins:List (Addr × Obj)}{σ:St}{H:Hp}{s:Shared}{fp:List Addr}(I:Inv X pins σ H s)(hf:∀ b∈fp,FpOk X pins H b)(ho:∀ b∈fp,∃ o,s.heap.get? b=some o/\∀ v,o.data≠.cell v):Inv X (pins++z8c fp s.heap) σ H s :=
 I.pins_of λp hp=>(List.mem_append.mp hp).elim (λz=>I.pin p (List.mem_append_right _ z)) λz=>by
  obtain⟨hb,e⟩:=jd0 z
  obtain⟨f0,f1,f2,_⟩:=hf p.1 hb
  obtain⟨o,e',d⟩:=ho p.1 hb
  rw[e]at e';cases e'
  exact⟨e,f0,f1,f2,d⟩
theorem Inv.unpinned{pins pl:List (Addr × Obj)}{σ:St}{H:Hp}{s:Shared}(I:Inv X (pins++pl) σ H s):Inv X pins σ H s:=I.pins_of λp hp=>I.pin p (List.mem_append_right _ (List.mem_append_left _ hp))
theorem zr9{iter:Expr}{body:List Stmt}{wi:TI}{g:TG}{tb:TS}{pos:Pos}(hp:PassesOwn (model X.prog X.w) X.A X.env X.xe)(hc:X.calm=true)(hi:PI X tg iter wi)(hg:PG X tg g)(hb:PSs X body tb)
  (hs:∀ x,foldedSetIterable iter X.env x=pure x:=by intro _;rfl):PS X (.For tg iter body [] pos) (jad wi g tb):=by
 intro pins s σ H D I h
 refine wpAny_For (thn (hi pins s σ H _ I h) λv s1 h1=>thn h1 λitv s2 h2=> ?_) hs
 obtain⟨it,fp,tn,J,H2,e,I2,T,st2,f2,W,⟨m0,w0⟩,turn⟩:=h2
 subst e
 have stat:∀ {H':Hp},(∀ b∈fp,H' b=none)->∀ b∈fp,FpOk X pins H' b:=λhn b hb=>⟨hn b hb,(f2 b hb).2⟩
 refine codeAny_forLoop_any (λn s'=>∃ i σ' H',Inv X pins σ' H' s'/\tn i s'.heap/\(∀ b∈fp,H' b=none)/\W i n σ' H') ?_ m0 ⟨0,σ,H2,I2,st2,λb hb=>(f2 b hb).1,w0⟩
 rintro n s3 ⟨i,σ3,H3,I3,st3,fr3,w3⟩
 rcases turn i n σ3 H3 w3 with⟨stop,qn⟩ | ⟨go,N,hN,step⟩
 ·refine wpAny_passesOwn hp (thn (T.done X rfl rfl rfl hc i pins s3 σ3 H3 X.xe I3 (stat fr3) st3 stop) λr s4 ⟨hr,I4⟩=> ?_)
  subst hr
  exact wpAny_execs_nil ⟨σ3,H3,I4,qn⟩
 ·refine wpAny_passesOwn hp (thn (T.item X rfl rfl rfl hc i pins s3 σ3 H3 X.xe I3 (stat fr3) st3 go) λr s4 ⟨u,hr,h4⟩=> ?_)
  subst hr
  refine wpAny_passesOwn hp (thn h4 λ_ s5 ⟨x,H5,I5,r5,y5,st5,fr5⟩=> ?_)
  have I5':=I5.pinned (stat fr5) (T.obj _ _ st5)
  refine wpAny_passesOwn hp (thn (hg _ s5 σ3 H5 x u _ I5' r5 (step x H5 y5)) λ_ s6 ⟨σ6,H6,I6,q6⟩=> ?_)
  refine wpAny_passesOwn hp (thn (hb _ s6 σ6 H6 _ I6 q6) λf s7 q7=> ?_)
  have again:∀ {σ7:St} {H7:Hp},Inv X (pins++z8c fp s5.heap) σ7 H7 s7->N σ7 H7->∃ m,m<n/\∃ i σ' H',Inv X pins σ' H' s7/\tn i s7.heap/\(∀ b∈fp,H' b=none)/\W i m σ' H':=λ{σ7 H7} I7 n7=>by
   obtain⟨m',hm,w7⟩:=hN σ7 H7 n7
   refine⟨m',hm,i+1,σ7,H7,I7.unpinned,T.keep _ _ _ st5 λb hb o e=>(I7.pin (b,o) (List.mem_append_right _ (List.mem_append_right _ (zrd hb e)))).1,λb hb=> ?_,w7⟩
   obtain⟨o,e,d⟩:=T.obj _ _ st5 b hb
   exact(I7.pin (b,o) (List.mem_append_right _ (List.mem_append_right _ (zrd hb e)))).2.1
  cases f with
  | next=>obtain⟨σ7,H7,I7,n7⟩:=q7;exact again I7 n7
  | cont=>obtain⟨σ7,H7,I7,n7⟩:=q7;exact again I7 n7
  | brk=>obtain⟨σ7,H7,I7,q7⟩:=q7;exact⟨σ7,H7,I7.unpinned,q7⟩
  | ret v=>obtain⟨x7,σ7,H7,I7,r7,q7⟩:=q7;exact⟨x7,σ7,H7,I7.unpinned,r7,q7⟩
end
theorem jgr{K:PySem.W.Frag}{a:Addr}{xs:List V}{g:TG}{tb:TS}{D:Ends}{σ:St}{H:Hp}(Pv:Nat->St->Hp->Prop)(h0:Pv 0 σ H)(hl:∀ i σ H,i<=xs.length->Pv i σ H->SqL K H a xs)
  (hs:∀ i x σ H,xs[i]? =some x->Pv i σ H->g x σ H λσ2 H2=>tb { D with nx:=Pv (i+1),ct:=Pv (i+1),bk:=D.nx } σ2 H2) (hd:∀ σ H,Pv xs.length σ H->D.nx σ H) :
  ∃ W:Nat->Nat->St->Hp->Prop,(∃ m,W 0 m σ H)/\∀ i m σ H,W i m σ H →
   ((Itl K a).stop i H/\D.nx σ H)\/((Itl K a).go i H/\∃ N:St->Hp->Prop,(∀ σ' H',N σ' H'->∃ m',m'<m/\W (i+1) m' σ' H')/\∀ x H',(Itl K a).yld i H x H'->g x σ H' λσ2 H2=>tb { D with nx:=N,ct:=N,bk:=D.nx } σ2 H2):=by
 refine⟨λi m σ H=>m=xs.length - i/\i<=xs.length/\Pv i σ H,⟨xs.length,by simp,Nat.zero_le _,h0⟩,?_⟩
 rintro i m σ H ⟨rfl,hi,p⟩
 have q:=hl i σ H hi p
 by_cases hlt:i<xs.length
 ·refine .inr ⟨⟨xs,xs[i],q,by simp[hlt]⟩,Pv (i+1),λσ' H' p'=>⟨xs.length - (i+1),by omega,rfl,hlt,p'⟩,λx H' y=> ?_⟩
  obtain⟨e,y⟩:=y
  subst e
  exact hs i x σ _ (y xs q) p
 ·have e:i=xs.length:=by omega
  subst e
  exact .inl ⟨⟨xs,q,Nat.le_refl _⟩,hd σ H p⟩
theorem jd1{lo:Int}{n:Nat}{g:TG}{tb:TS}{D:Ends}{σ:St}{H:Hp}(Pv:Nat->St->Hp->Prop)(h0:Pv 0 σ H)
  (hs:∀ i σ H,i<n->Pv i σ H->g (.int (lo+i)) σ H λσ2 H2=>tb { D with nx:=Pv (i+1),ct:=Pv (i+1),bk:=D.nx } σ2 H2) (hd:∀ σ H,Pv n σ H->D.nx σ H) :
  ∃ W:Nat->Nat->St->Hp->Prop,(∃ m,W 0 m σ H)/\∀ i m σ H,W i m σ H →
   ((Itr lo n).stop i H/\D.nx σ H)\/((Itr lo n).go i H/\∃ N:St->Hp->Prop,(∀ σ' H',N σ' H'->∃ m',m'<m/\W (i+1) m' σ' H')/\∀ x H',(Itr lo n).yld i H x H'->g x σ H' λσ2 H2=>tb { D with nx:=N,ct:=N,bk:=D.nx } σ2 H2):=by
 refine⟨λi m σ H=>m=n - i/\i<=n/\Pv i σ H,⟨n,by simp,Nat.zero_le _,h0⟩,?_⟩
 rintro i m σ H ⟨rfl,hi,p⟩
 by_cases hlt:i<n
 ·refine .inr ⟨hlt,Pv (i+1),λσ' H' p'=>⟨n - (i+1),by omega,rfl,hlt,p'⟩,λx H' y=> ?_⟩
  obtain⟨e,y⟩:=y
  subst e y
  exact hs i σ _ hlt p
 ·have e:i=n:=by omega
  subst e
  exact .inl ⟨Nat.le_refl _,hd σ H p⟩
end L2
namespace L2
abbrev R2:=V->V->Hp->VK->Prop
def OpR(X:Cx)(f:Value->Value->Sem Value)(r:R2):Prop :=
 ∀ (pins:List (Addr × Obj)) (s:Shared) (σ:St) (H:Hp) (x y:V) (v u:Value) (Q:VK),Inv X pins σ H s->RelV x v->RelV y u->r x y H Q →
  wpAny (model X.prog X.w) X.A (f v u) (EP X pins σ Q) X.xe s
def UnR(X:Cx)(f:Value->Sem Value)(r:V->Hp->VK->Prop):Prop :=
 ∀ (pins:List (Addr × Obj)) (s:Shared) (σ:St) (H:Hp) (x:V) (v:Value) (Q:VK),Inv X pins σ H s->RelV x v->r x H Q →
  wpAny (model X.prog X.w) X.A (f v) (EP X pins σ Q) X.xe s
def zrl(X:Cx)(f:Value)(r:List V->Hp->VK->Prop):Prop :=
 ∀ (pins:List (Addr × Obj)) (s:Shared) (σ:St) (H:Hp) (xs:List V) (us:List Value) (Q:VK),Inv X pins σ H s->Vals xs us->r xs H Q →
  wpAny (model X.prog X.w) X.A (call f us) (EP X pins σ Q) X.xe s
def jpa(X:Cx)(r:V->Hp->(Bool->Hp->Prop)->Prop):Prop :=
 ∀ (pins:List (Addr × Obj)) (s:Shared) (σ:St) (H:Hp) (x:V) (v:Value) (Q:Bool->Hp->Prop),Inv X pins σ H s->RelV x v->r x H Q →
  wpAny (model X.prog X.w) X.A (truthy v) (TP X pins σ Q) X.xe s
def tOp(r:R2)(ta tb:TE):TE:=λσ H Q=>ta σ H λx H1=>tb σ H1 λy H2=>r x y H2 Q
def tUn(r:V->Hp->VK->Prop)(ta:TE):TE:=λσ H Q=>ta σ H λx H1=>r x H1 Q
def rI(C:Int->Int->Prop)(g:Int->Int->V):R2:=λx y H Q=>∃ i j,x=.int i/\y=.int j/\C i j/\Q (g i j) H
def rI0(g:Int->Int->V):R2:=λx y H Q=>∃ i j,x=.int i/\y=.int j/\Q (g i j) H
def rU(g:Int->V):V->Hp->VK->Prop:=λx H Q=>∃ i,x=.int i/\Q (g i) H
section
variable{X:Cx}{a b c:Expr}{ta tb tc:TE}{pos:Pos}
theorem jnv(ha:PE X a ta)(hb:PE X b tb){pins:List (Addr × Obj)}{s:Shared}{σ:St}{H:Hp}{R:V->V->Hp->Prop}(I:Inv X pins σ H s)
  (h:ta σ H λx H1=>tb σ H1 λy H2=>R x y H2) {Q:Value->Shared->Prop} {f:Value->Value->Sem Value}
  (hf:∀ v u s2 x y H2,Inv X pins σ H2 s2->RelV x v->RelV y u->R x y H2->wpAny (model X.prog X.w) X.A (f v u) Q X.xe s2) :
  wpAny (model X.prog X.w) X.A (eval a X.env) (λv s₁=>wpAny (model X.prog X.w) X.A (eval b X.env) (λu s₂=>wpAny (model X.prog X.w) X.A (f v u) Q X.xe s₂) X.xe s₁) X.xe s:=by
 refine thn (ha pins s σ H _ I h) λv s1 ⟨x,H1,I1,r1,q1⟩=> ?_
 refine thn (hb pins s1 σ H1 _ I1 q1) λu s2 ⟨y,H2,I2,r2,q2⟩=> ?_
 exact hf v u s2 x y H2 I2 r1 r2 q2
theorem zav{op:Operator}{r:R2}(ho:OpR X (binaryOp op) r)(ha:PE X a ta)(hb:PE X b tb):PE X (.BinOp a op b pos) (tOp r ta tb):=by
 intro pins s σ H Q I h
 exact wpAny_BinOp (jnv ha hb I h λv u s2 x y H2 I2 rx ry q=>ho pins s2 σ H2 x y v u Q I2 rx ry q)
theorem jgs{op:UnaryOp}{r:V->Hp->VK->Prop}(ho:UnR X (unaryOp op) r)(ha:PE X a ta):PE X (.UnaryOp op a pos) (tUn r ta):=by
 intro pins s σ H Q I h
 exact UnaryOp_ (thn (ha pins s σ H _ I h) λv s1 ⟨x,H1,I1,r1,q1⟩=>ho pins s1 σ H1 x v Q I1 r1 q1)
theorem opI{f:Value->Value->Sem Value}{C:Int->Int->Prop}{g:Int->Int->Int}
  (rule:∀ (i j:Int) (t u:Tok) (s:Shared) (Q:Value->Shared->Prop) (E:Value->Shared->Prop),C i j->Q (.int (g i j) s.toks) { s with toks:=s.toks+1 }->wpAny (model X.prog X.w) X.A (f (.int i t) (.int j u)) Q E s) :
  OpR X f (rI C λi j=>.int (g i j)):=by
 intro pins s σ H x y v u Q I rx ry h
 obtain⟨i,j,rfl,rfl,hc,q⟩:=h
 obtain⟨t,rfl⟩:=rx
 obtain⟨t',rfl⟩:=ry
 exact rule i j t t' s _ _ hc ⟨.int (g i j),H,I.tok _,⟨_,rfl⟩,q⟩
theorem jor{f:Value->Value->Sem Value}{g:Int->Int->Int}
  (rule:∀ (i j:Int) (t u:Tok) (s:Shared) (Q:Value->Shared->Prop) (E:Value->Shared->Prop),Q (.int (g i j) s.toks) { s with toks:=s.toks+1 }->wpAny (model X.prog X.w) X.A (f (.int i t) (.int j u)) Q E s) :
  OpR X f (rI0 λi j=>.int (g i j)):=by
 intro pins s σ H x y v u Q I rx ry h
 obtain⟨i,j,rfl,rfl,q⟩:=h
 obtain⟨t,rfl⟩:=rx
 obtain⟨t',rfl⟩:=ry
 exact rule i j t t' s _ _ ⟨.int (g i j),H,I.tok _,⟨_,rfl⟩,q⟩
theorem jnw{f:Value->Value->Sem Value}{g:Int->Int->Bool}
  (rule:∀ (i j:Int) (t u:Tok) (s:Shared) (Q:Value->Shared->Prop) (E:Value->Shared->Prop),Q (.bool (g i j)) s->wpAny (model X.prog X.w) X.A (f (.int i t) (.int j u)) Q E s) :
  OpR X f (rI0 λi j=>.bl (g i j)):=by
 intro pins s σ H x y v u Q I rx ry h
 obtain⟨i,j,rfl,rfl,q⟩:=h
 obtain⟨t,rfl⟩:=rx
 obtain⟨t',rfl⟩:=ry
 exact rule i j t t' s _ _ ⟨.bl (g i j),H,I,rfl,q⟩
def jos(i j:Int):Prop:=0<j/\j<1073741824
def jnh(i j:Int):Prop:=0<=j/\j<=1000000/\i.natAbs<2 ^ 64
def CMul(i j:Int):Prop:=(-(2 ^ 64)<i/\i<2 ^ 64)\/(-(2 ^ 64)<j/\j<2 ^ 64)
theorem CMul.ok{i j:Int}(h:CMul i j):IntMulOk i j:=by
 rcases h with⟨h1,h2⟩ | ⟨h1,h2⟩
 ·exact .of_left (intBits_le_64 h1 h2)
 ·exact .of_right (intBits_le_64 h1 h2)
theorem jld:OpR X (binaryOp .Add) (rI0 λi j=>.int (i+j)):=jor λ_ _ _ _ _ _ _ q=>add_int q
theorem z8d:OpR X (binaryOp .Sub) (rI0 λi j=>.int (i - j)):=jor λ_ _ _ _ _ _ _ q=>sub_int q
theorem jle:OpR X (binaryOp .Mult) (rI CMul λi j=>.int (i * j)):=opI λ_ _ _ _ _ _ _ hc q=>mul_int q hc.ok
theorem zb8:OpR X (binaryOp .FloorDiv) (rI jos λi j=>.int (i / j)):=opI λi j _ _ _ _ _ hc q=>by
 have h1:(0:Int)<j:=hc.1
 have h2:j<1073741824:=hc.2
 exact floordiv_int (by omega) (by rw[Int.fdiv_eq_ediv_of_nonneg i (by omega)];exact q) (.inl (PyProof.noPylong_small (by omega)))
theorem zcx:OpR X (binaryOp .Mod) (rI (λ_ j=>0<j) λi j=>.int (i % j)):=opI λi j _ _ _ _ _ hc q=>by
 have h1:(0:Int)<j:=hc
 exact mod_int' (by omega) (by rw[Int.fmod_eq_emod_of_nonneg i (by omega)];exact q)
theorem jbq:OpR X (binaryOp .Pow) (rI jnh λi j=>.int (i ^ j.toNat)):=opI λ_ _ _ _ _ _ _ hc q=>pow_int_small hc.1 hc.2.1 hc.2.2 q
theorem unI{f:Value->Sem Value}{g:Int->Int}
  (rule:∀ (i:Int) (t:Tok) (s:Shared) (Q:Value->Shared->Prop) (E:Value->Shared->Prop),Q (.int (g i) s.toks) { s with toks:=s.toks+1 }->wpAny (model X.prog X.w) X.A (f (.int i t)) Q E s) :
  UnR X f (rU λi=>.int (g i)):=by
 intro pins s σ H x v Q I rx h
 obtain⟨i,rfl,q⟩:=h
 obtain⟨t,rfl⟩:=rx
 exact rule i t s _ _ ⟨.int (g i),H,I.tok _,⟨_,rfl⟩,q⟩
theorem jbr:UnR X (unaryOp .USub) (rU λi=>.int (-i)):=unI λ_ _ _ _ _ q=>neg_int q
end
def jgt:V->V->Bool
 | .non,.non=>true | .non,.int _=>true | .int _,.non=>true | .non,.bl _=>true | .bl _,.non=>true | .non,.str _=>true | .str _,.non=>true
 | .int _,.int _=>true | .bl _,.bl _=>true | .str _,.str _=>true | .byt _,.byt _=>true
 | .int _,.str _=>true | .str _,.int _=>true | .bl _,.str _=>true | .str _,.bl _=>true
 | _,_=>false
def rEq:R2:=λx y H Q=>jgt x y=true/\Q (.bl (decide (x=y))) H
def rNe:R2:=λx y H Q=>jgt x y=true/\Q (.bl (!decide (x=y))) H
theorem jd2{i j:Int}:decide (V.int i=V.int j)=(i == j):=by
 rw[Bool.eq_iff_iff]
 simp
theorem jil{i j:Bool}:decide (V.bl i=V.bl j)=(i == j):=by
 rw[Bool.eq_iff_iff]
 simp
theorem jd3{i j:Str}:decide (V.str i=V.str j)=(i == j):=by
 rw[Bool.eq_iff_iff]
 simp
theorem jd4{i j:Array UInt8}:decide (V.byt i=V.byt j)=(i.toList == j.toList):=by
 rw[Bool.eq_iff_iff]
 cases i
 cases j
 simp
section
variable{X:Cx}{a b c:Expr}{ta tb tc:TE}{pos:Pos}
theorem zdn{pins:List (Addr × Obj)}{σ:St}{H:Hp}{s:Shared}{Q:VK}{k k':Bool}(I:Inv X pins σ H s)(q:Q (.bl k) H)(e:k=k'):EP X pins σ Q (.bool k') s:=by
 subst e
 exact⟨.bl k,H,I,rfl,q⟩
theorem jnx:OpR X (compareOp .Eq) rEq:=by
 intro pins s σ H x y v u Q I rx ry h
 obtain⟨hs,q⟩:=h
 cases x with
 | non =>
  cases rx
  cases y with
  | non=>cases ry;exact PySem.EqNone.eq_none_none (zdn I q (by simp))
  | bl j=>cases ry;exact PySem.EqNone.eq_none_bool (zdn I q (by simp))
  | int j=>obtain⟨t',rfl⟩:=ry;exact PySem.EqNone.eq_none_int (zdn I q (by simp))
  | str j=>obtain⟨t',rfl⟩:=ry;exact PySem.EqNone.eq_none_str (zdn I q (by simp))
  | _=>exact absurd (show false=true from hs) Bool.false_ne_true
 | bl i =>
  cases rx
  cases y with
  | non=>cases ry;exact PySem.EqNone.eq_bool_none (zdn I q (by simp))
  | bl j=>cases ry;exact eq_bool (zdn I q jil)
  | str j=>obtain⟨t',rfl⟩:=ry;exact PySem.EqMixed.eq_bool_str (zdn I q (by simp))
  | _=>exact absurd (show false=true from hs) Bool.false_ne_true
 | int i =>
  obtain⟨t,rfl⟩:=rx
  cases y with
  | non=>cases ry;exact PySem.EqNone.eq_int_none (zdn I q (by simp))
  | int j=>obtain⟨t',rfl⟩:=ry;exact eq_int (zdn I q jd2)
  | str j=>obtain⟨t',rfl⟩:=ry;exact PySem.EqMixed.eq_int_str (zdn I q (by simp))
  | _=>exact absurd (show false=true from hs) Bool.false_ne_true
 | str i =>
  obtain⟨t,rfl⟩:=rx
  cases y with
  | non=>cases ry;exact PySem.EqNone.eq_str_none (zdn I q (by simp))
  | bl j=>cases ry;exact PySem.EqMixed.eq_str_bool (zdn I q (by simp))
  | int j=>obtain⟨t',rfl⟩:=ry;exact PySem.EqMixed.eq_str_int (zdn I q (by simp))
  | str j=>obtain⟨t',rfl⟩:=ry;exact eq_str (zdn I q jd3)
  | _=>exact absurd (show false=true from hs) Bool.false_ne_true
 | byt i =>
  obtain⟨t,rfl⟩:=rx
  cases y with
  | byt j=>obtain⟨t',rfl⟩:=ry;exact W.eq_bytes (zdn I q jd4)
  | _=>exact absurd (show false=true from hs) Bool.false_ne_true
 | _=>cases y<;>exact absurd (show false=true from hs) Bool.false_ne_true
theorem jny:OpR X (compareOp .NotEq) rNe:=by
 intro pins s σ H x y v u Q I rx ry h
 obtain⟨hs,q⟩:=h
 cases x with
 | non =>
  cases rx
  cases y with
  | non=>cases ry;exact PySem.EqNone.ne_none_none (zdn I q (by simp))
  | bl j=>cases ry;exact PySem.EqNone.ne_none_bool (zdn I q (by simp))
  | int j=>obtain⟨t',rfl⟩:=ry;exact PySem.EqNone.ne_none_int (zdn I q (by simp))
  | str j=>obtain⟨t',rfl⟩:=ry;exact PySem.EqNone.ne_none_str (zdn I q (by simp))
  | _=>exact absurd (show false=true from hs) Bool.false_ne_true
 | bl i =>
  cases rx
  cases y with
  | non=>cases ry;exact PySem.EqNone.ne_bool_none (zdn I q (by simp))
  | bl j=>cases ry;exact ne_bool (zdn I q (congrArg not jil))
  | str j=>obtain⟨t',rfl⟩:=ry;exact PySem.EqMixed.ne_bool_str (zdn I q (by simp))
  | _=>exact absurd (show false=true from hs) Bool.false_ne_true
 | int i =>
  obtain⟨t,rfl⟩:=rx
  cases y with
  | non=>cases ry;exact PySem.EqNone.ne_int_none (zdn I q (by simp))
  | int j=>obtain⟨t',rfl⟩:=ry;exact ne_int (zdn I q (congrArg not jd2))
  | str j=>obtain⟨t',rfl⟩:=ry;exact PySem.EqMixed.ne_int_str (zdn I q (by simp))
  | _=>exact absurd (show false=true from hs) Bool.false_ne_true
 | str i =>
  obtain⟨t,rfl⟩:=rx
  cases y with
  | non=>cases ry;exact PySem.EqNone.ne_str_none (zdn I q (by simp))
  | bl j=>cases ry;exact PySem.EqMixed.ne_str_bool (zdn I q (by simp))
  | int j=>obtain⟨t',rfl⟩:=ry;exact PySem.EqMixed.ne_str_int (zdn I q (by simp))
  | str j=>obtain⟨t',rfl⟩:=ry;exact ne_str (zdn I q (congrArg not jd3))
  | _=>exact absurd (show false=true from hs) Bool.false_ne_true
 | byt i =>
  obtain⟨t,rfl⟩:=rx
  cases y with
  | byt j=>obtain⟨t',rfl⟩:=ry;exact W.ne_bytes (zdn I q (congrArg not jd4))
  | _=>exact absurd (show false=true from hs) Bool.false_ne_true
 | _=>cases y<;>exact absurd (show false=true from hs) Bool.false_ne_true
theorem jnz:OpR X (compareOp .Lt) (rI0 λi j=>.bl (decide (i<j))):=jnw λ_ _ _ _ _ _ _ q=>lt_int q
theorem jn0:OpR X (compareOp .LtE) (rI0 λi j=>.bl (decide (i<=j))):=jnw λ_ _ _ _ _ _ _ q=>le_int q
theorem jn1:OpR X (compareOp .Gt) (rI0 λi j=>.bl (decide (j<i))):=jnw λ_ _ _ _ _ _ _ q=>gt_int q
theorem jbs:OpR X (compareOp .Is) (λx y H Q=>y=.non/\Q (.bl (decide (x=.non))) H):=by
 intro pins s σ H x y v u Q I rx ry h
 obtain⟨rfl,q⟩:=h
 cases ry
 refine is_none_gen (zdn I q ?_)
 cases x<;>first
  | (cases rx;rfl)
  | (obtain⟨t,rfl⟩:=rx;rfl)
theorem jai:OpR X (compareOp .IsNot) (λx y H Q=>y=.non/\Q (.bl (!decide (x=.non))) H):=by
 intro pins s σ H x y v u Q I rx ry h
 obtain⟨rfl,q⟩:=h
 cases ry
 refine isnot_none_gen (zdn I q ?_)
 cases x<;>first
  | (cases rx;rfl)
  | (obtain⟨t,rfl⟩:=rx;rfl)
theorem zcu(b:Expr){op:CmpOp}(h:op≠.In:=by decide)(h2:op≠.NotIn:=by decide):behindInMarks op b=false:=by
 have e1:(op == CmpOp.In)=false:=by cases op<;>first | rfl | exact absurd rfl h
 have e2:(op == CmpOp.NotIn)=false:=by cases op<;>first | rfl | exact absurd rfl h2
 cases b<;>simp[behindInMarks,e1,e2]
theorem zxy{op:CmpOp}{r:R2}(ho:OpR X (compareOp op) r)(ha:PE X a ta)(hb:PE X b tb)(hm:behindInMarks op b=false):PE X (.Compare a [op] [b] pos) (tOp r ta tb):=by
 intro pins s σ H Q I h
 exact wpAny_Compare1 (jnv ha hb I h λv u s2 x y H2 I2 rx ry q=>ho pins s2 σ H2 x y v u Q I2 rx ry q) hm
def zek(t:TE):TT:=λσ H Q=>t σ H λx H'=>∃ k,x=.bl k/\Q k H'
theorem zbt{op:CmpOp}{r:R2}(ho:OpR X (compareOp op) r)(ha:PE X a ta)(hb:PE X b tb)(hm:behindInMarks op b=false):PT X (.Compare a [op] [b] pos) (zek (tOp r ta tb)):=by
 intro pins s σ H Q I h
 refine wpAny_isTrue_Compare1 (thn (ha pins s σ H _ I h) λv s1 ⟨x,H1,I1,r1,q1⟩=>thn (hb pins s1 σ H1 _ I1 q1) λu s2 ⟨y,H2,I2,r2,q2⟩ =>
  thn (ho pins s2 σ H2 x y v u _ I2 r1 r2 q2) λc s3 ⟨z,H3,I3,r3,k,e,q3⟩=> ?_) hm
 subst e
 cases r3
 exact wpAny_truthy_bool ⟨H3,I3,q3⟩
def znu(r r':R2)(ta tb tc:TE):TE:=λσ H Q=>ta σ H λx H1=>tb σ H1 λy H2=>r x y H2 λz H3=>∃ k,z=.bl k ∧
 (if k=true then tc σ H3 λw' H4=>r' y w' H4 Q else Q (.bl false) H3)
theorem z2b{op op':CmpOp}{r r':R2}(ho:OpR X (compareOp op) r)(ho':OpR X (compareOp op') r')(ha:PE X a ta)(hb:PE X b tb)(hc:PE X c tc)
  (hm:lastMarks [op,op'] [b,c]=false:=by with_unfolding_all rfl):PE X (.Compare a [op,op'] [b,c] pos) (znu r r' ta tb tc):=by
 intro pins s σ H Q I h
 refine Compare_chain (thn (ha pins s σ H _ I h) λv s1 ⟨x,H1,I1,r1,q1⟩=>chain_link (thn (hb pins s1 σ H1 _ I1 q1) λu s2 ⟨y,H2,I2,r2,q2⟩ =>
  thn (ho pins s2 σ H2 x y v u _ I2 r1 r2 q2) λd s3 ⟨z,H3,I3,r3,k,e,q3⟩=> ?_)) hm
 subst e
 cases r3
 refine wpAny_truthy_bool ?_
 cases k with
 | false=>exact ite_ff ⟨.bl false,H3,I3,rfl,q3⟩
 | true=>exact ite_tt (chain_last (thn (hc pins s3 σ H3 _ I3 q3) λw' s4 ⟨z',H4,I4,r4,q4⟩=>ho' pins s4 σ H4 y z' u w' Q I4 r2 r4 q4))
theorem zvc{op op':CmpOp}{r r':R2}(ho:OpR X (compareOp op) r)(ho':OpR X (compareOp op') r')(ha:PE X a ta)(hb:PE X b tb)(hc:PE X c tc)
  (hm:lastMarks [op,op'] [b,c]=false:=by with_unfolding_all rfl):PT X (.Compare a [op,op'] [b,c] pos) (zek (znu r r' ta tb tc)):=by
 intro pins s σ H Q I h
 refine isTrue_chain (thn (ha pins s σ H _ I h) λv s1 ⟨x,H1,I1,r1,q1⟩=>test_link (thn (hb pins s1 σ H1 _ I1 q1) λu s2 ⟨y,H2,I2,r2,q2⟩ =>
  thn (ho pins s2 σ H2 x y v u _ I2 r1 r2 q2) λd s3 ⟨z,H3,I3,r3,k,e,q3⟩=> ?_)) hm
 subst e
 cases r3
 refine wpAny_truthy_bool ?_
 cases k with
 | false =>
  obtain⟨k',e',q'⟩:=q3
  cases e'
  exact ite_ff ⟨H3,I3,q'⟩
 | true =>
  refine ite_tt (test_last (thn (hc pins s3 σ H3 _ I3 q3) λw' s4 ⟨z',H4,I4,r4,q4⟩=>thn (ho' pins s4 σ H4 y z' u w' _ I4 r2 r4 q4) λd' s5 ⟨z2,H5,I5,r5,k2,e2,q5⟩=> ?_))
  subst e2
  cases r5
  exact wpAny_truthy_bool ⟨H5,I5,q5⟩
def jim(K:W.Frag)(x:V)(H:Hp)(k:Bool):Prop :=
 match x with
 | .non=>k=false
 | .bl b=>k=b
 | .int i=>k=(i != 0)
 | .str y=>y.length<=sizeLine/\k=((y.length:Int) != 0)
 | .byt y=>y.size<=sizeLine/\k=((y.size:Int) != 0)
 | .ref p=>(∃ xs,SqL K H p xs/\k= !xs.isEmpty)\/(∃ xs,SqT K H p xs/\k= !xs.isEmpty)\/∃ kvs,H p=some (.dK kvs)/\k= !kvs.isEmpty
 | _=>False
theorem jct{κ :Type}{kvs:List (κ × V)}{vs:List (κ × Value)}(r:KV kvs vs):(!vs.isEmpty)= !kvs.isEmpty:=by
 cases r<;>rfl
theorem z5y{xs:List V}{its:List Value}(r:Vals xs its):(!its.toArray.isEmpty)= !xs.isEmpty:=by
 cases r<;>simp
theorem z5z:(sizeLine:Nat)<2 ^ 63:=by rw[sizeLine_eq];decide
theorem jin:jpa X (λx H Q=>∃ k,jim X.K x H k/\Q k H):=by
 intro pins s σ H x v Q I rx h
 obtain⟨k,e,q⟩:=h
 have hl:=z5z
 have hs:sizeLine=16777216:=sizeLine_eq
 cases x with
 | non =>
  cases rx
  have e':k=false:=e
  subst e'
  exact truthy_none ⟨H,I,q⟩
 | bl b =>
  cases rx
  have e':k=b:=e
  subst e'
  exact wpAny_truthy_bool ⟨H,I,q⟩
 | int i =>
  obtain⟨t,rfl⟩:=rx
  have e':k=(i != 0):=e
  subst e'
  exact PySem.P.truthy_int ⟨H,I,q⟩
 | str y =>
  obtain⟨t,rfl⟩:=rx
  obtain⟨hy,e'⟩:y.length<=sizeLine/\k=((y.length:Int) != 0):=e
  subst e'
  exact PySem.P.truthy_str (by omega) ⟨H,I.tok _,q⟩
 | byt y =>
  obtain⟨t,rfl⟩:=rx
  obtain⟨hy,e'⟩:y.size<=sizeLine/\k=((y.size:Int) != 0):=e
  subst e'
  exact W.truthy_bytes (by omega) ⟨H,I.tok _,q⟩
 | ref p =>
  cases rx
  have e':(∃ xs,SqL X.K H p xs/\k= !xs.isEmpty)\/(∃ xs,SqT X.K H p xs/\k= !xs.isEmpty)\/∃ kvs,H p=some (.dK kvs)/\k= !kvs.isEmpty:=e
  rcases e' with⟨xs,hx,e'⟩ | ⟨xs,hx,e'⟩ | ⟨kvs,hx,e'⟩
  ·subst e'
   obtain⟨its,r,pl,hz⟩:=I.list hx
   have hlen:=r.length
   exact wpAny_truthy_list pl.isList (by simp only[List.size_toArray];omega) ⟨H,I.tok _,by rw[z5y r];exact q⟩
  ·subst e'
   obtain⟨its,r,pl,hz⟩:=I.tuple hx
   have hlen:=r.length
   exact truthy_tuple pl (by simp only[List.size_toArray];omega) ⟨H,I.tok _,by rw[z5y r];exact q⟩
  ·subst e'
   obtain⟨hz,hS,vs,r,m⟩:kvs.length<=sizeLine/\(p == sysModules)=false/\∃ vs,KV kvs vs/\s.heap.DictOf (zgj X.prog X.w) p vs:=I.hok p _ hx
   have hlen:kvs.length=vs.length:=Paired.length r
   exact wpAny_truthy_dict hS m (by omega) ⟨H,I.tok _,by rw[jct r];exact q⟩
 | _=>exact(show False from e).elim
theorem zvd(ha:PE X a ta)(he:∀ whole,isTrue a X.env whole=(do let v ← whole;standAt a.pos;holding [v] (truthy v))) :
  PT X a (λσ H Q=>ta σ H λx H'=>∃ k,jim X.K x H' k/\Q k H'):=by
 intro pins s σ H Q I h
 exact isTrue_plain (thn (ha pins s σ H _ I h) λv s1 ⟨x,H1,I1,r1,q1⟩=>jin pins s1 σ H1 x v Q I1 r1 q1) (he _)
theorem jcu:OpR X (binaryOp .Add) (λx y H Q=>∃ i j,x=.str i/\y=.str j/\i.length+j.length<=sizeLine/\Q (.str (i++j)) H):=by
 intro pins s σ H x y v u Q I rx ry h
 obtain⟨i,j,rfl,rfl,hz,q⟩:=h
 obtain⟨t,rfl⟩:=rx
 obtain⟨t',rfl⟩:=ry
 exact add_str (λt' tk=>⟨.str (i++j),H,I.tok _,⟨_,rfl⟩,q⟩) hz
theorem z4k{x:V}{us:List Value}(r:Vals [x] us):∃ u,us=[u]/\RelV x u:=by
 cases r with
 | cons r1 r2=>cases r2;exact⟨_,rfl,r1⟩
theorem jgu:zrl X (.builtin "ord") (λxs H Q=>∃ x,xs=[.str x]/\x.length=1/\Q (.int (x.cps.getD 0 0:Nat)) H):=by
 intro pins s σ H xs us Q I r h
 obtain⟨x,rfl,hz,q⟩:=h
 obtain⟨u,rfl,t,rfl⟩:=z4k r
 exact ord_of_one hz ⟨.int _,H,I.tok _,⟨_,rfl⟩,q⟩
def jn2(K:W.Frag)(x:V)(H:Hp)(n:Nat):Prop :=
 match x with
 | .str y=>y.length<=sizeLine/\n=y.length
 | .byt y=>y.size<=sizeLine/\n=y.size
 | .ref p=>(∃ xs,SqL K H p xs/\n=xs.length)\/∃ xs,SqT K H p xs/\n=xs.length
 | _=>False
theorem jgv:zrl X (.builtin "len") (λxs H Q=>∃ x n,xs=[x]/\jn2 X.K x H n/\Q (.int n) H):=by
 intro pins s σ H xs us Q I r h
 obtain⟨x,n,rfl,e,q⟩:=h
 obtain⟨u,rfl,rx⟩:=z4k r
 have hl:=z5z
 have hs:sizeLine=16777216:=sizeLine_eq
 cases x with
 | str y =>
  obtain⟨t,rfl⟩:=rx
  obtain⟨hy,e'⟩:y.length<=sizeLine/\n=y.length:=e
  subst e'
  exact len_str (by omega) ⟨.int _,H,I.tok _,⟨_,rfl⟩,q⟩
 | byt y =>
  obtain⟨t,rfl⟩:=rx
  obtain⟨hy,e'⟩:y.size<=sizeLine/\n=y.size:=e
  subst e'
  exact W.len_bytes (by omega) ⟨.int _,H,I.tok _,⟨_,rfl⟩,q⟩
 | ref p =>
  cases rx
  have e':(∃ xs,SqL X.K H p xs/\n=xs.length)\/∃ xs,SqT X.K H p xs/\n=xs.length:=e
  rcases e' with⟨xs,hx,e'⟩ | ⟨xs,hx,e'⟩
  ·subst e'
   obtain⟨its,r',pl,hz⟩:=I.list hx
   have hlen:=r'.length
   exact Calls.call_len_list pl.isList (by simp only[List.size_toArray];omega) ⟨.int xs.length,H,I.tok _,⟨_,by simp only[List.size_toArray];rw[hlen]⟩,q⟩
  ·subst e'
   obtain⟨its,r',pl,hz⟩:=I.tuple hx
   have hlen:=r'.length
   exact len_tuple pl (by simp only[List.size_toArray];omega) ⟨.int xs.length,H,I.tok _,⟨_,by simp only[List.size_toArray];rw[hlen]⟩,q⟩
 | _=>exact(show False from e).elim
end
end L2
namespace L2
structure ObjM(h:Heap)(x dx C:Addr)(mA:Str->Option Value):Prop where
 obj:h.get? x=some (W.instObj C dx)
 ns:h.Ns1 dx mA
 ne:dx≠x
theorem jd5{h:Heap}{dx:Addr}{mA:Str->Option Value}(n:h.Ns1 dx mA):∃ od,h.get? dx=some od/\∀ name,W.lookIn name od=some (mA name):=by
 obtain⟨o,es,ep,ho,hd,hk,_,hm⟩:=n
 refine⟨o,ho,λname=> ?_⟩
 have e:=hm name
 unfold nsFind findBy at e
 rw[<-Array.find?_toList]at e
 unfold W.lookIn
 rw[hd]
 dsimp only
 split
 ·rename_i y q
  rw[q]at e
  exact congrArg some e
 ·rename_i q
  rw[q]at e
  have a:es.toList.any (·.refKey)=false:=by
   rw[List.any_eq_false]
   intro y hy
   obtain⟨z,t,hkey⟩:=hk y (Array.mem_toList_iff.mp hy)
   simp[DictEntry.refKey,hkey]
  have a':¬ es.toList.any (·.refKey)=true:=by rw[a];exact Bool.false_ne_true
  rw[if_neg a']
  exact congrArg some e
theorem ObjM.look{h:Heap}{x dx C:Addr}{mA:Str->Option Value}(I:ObjM h x dx C mA):∃ od,W.InstAt h x (W.instObj C dx) C (some od)/\∀ name,W.lookIn name od=some (mA name) :=
 let ⟨od,ho,hl⟩:=jd5 I.ns
 ⟨od,⟨I.obj,rfl,rfl,ho⟩,hl⟩
section
variable{prog:Program}{w:World}{A:Around}{E:Value->Shared->Prop}{s:Shared}{K:W.Frag}{x dx C f:Addr}{mA:Str->Option Value}{name:Str}{v:Value}
theorem ji9{expr:Bool}{Q:Value->Shared->Prop}(X:K.In s.heap)(I:ObjM s.heap x dx C mA)(hg:W.plainGet K C name=true)(hh:W.hasDictIn K C=true)
  (ha:W.findIn K (.ref C) name=some none) (hv:mA name=some v) (hv':W.handedIn v=true) (h:Q v { s with toks:=s.toks+1 }) :
  wpAny (model prog w) A (getAttr (.ref x) name expr) Q E s:=by
 obtain⟨od,J,hl⟩:=I.look
 exact W.get_value X J (W.plainGet_of hg).1 (W.findObj_own hh ha rfl (by rw[hl,hv])) hv' h
theorem jgw{pl:Sem Bool}{Q:Value × List Value->Shared->Prop}(X:K.In s.heap)(I:ObjM s.heap x dx C mA)(hg:W.plainGet K C name=true)
  (hf:W.findIn K (.ref C) name=some (some (.ref f))) (ht:W.isFn K (.ref f)=true) (hv:mA name=none) (h:Q (.ref f,[.ref x]) s) :
  wpAny (model prog w) A (getMethod (.ref x) name pl) Q E s:=by
 obtain⟨od,J,hl⟩:=I.look
 exact W.method_fn X J (W.plainGet_of hg).1 (W.plainGet_of hg).2 hf (beq_iff_eq.mp ht) (by show(W.lookIn name od).map (·.isSome)=some false;rw[hl,hv];rfl) h
theorem jja{ns:List Str}{Q:Unit->Shared->Prop}(X:K.In s.heap)(I:ObjM s.heap x dx C mA)
  (hs:W.findIn K (.ref C) "__setattr__"=some (some (.builtin "object.__setattr__"))) (hp:W.plainOver K C=true) (ht:W.takerIn K C name=some none) (hh:W.hasDictIn K C=true)
  (hw:PySem.Within mA ns) (hsz:ns.length<=sizeLine)
  (h:∀ h',ObjM h' x dx C (λy=>if y=name then some v else mA y)->Heap.SameBut dx s.heap h'->Q () { s with heap:=h',toks:=s.toks+2 }) :
  wpAny (model prog w) A (setAttr (.ref x) name v) Q E s:=by
 obtain⟨od,J,hl⟩:=I.look
 refine W.set_plain X J hs (W.osa_open (s:={ s with toks:=s.toks+1 }) (r:=none) X J hp ht λb=> ?_)
 obtain⟨cd,hc,hd'⟩:=W.any_some hh
 have hx:s.heap.get? x=some ⟨.ref C,some dx,.plain,#[]⟩:=I.obj
 refine wpAny_bind (wpAny_pure (wpAny_bind (wpAny_bind (wpAny_loadPart hx (wpAny_bind (W.Looks.here (s:={ s with toks:=s.toks+1 }) (W.looks_clsIn X hc) ?_))))))
 rw[hd']
 refine wpAny_pure (a:=some dx) (wpAny_bind (wpAny_pure (wpAny_bind ?_)))
 refine wpAny_nsSet1 (s:={ s with toks:=s.toks+1 }) I.ns λh' hn2 hs2=> ?_
 obtain⟨oD,esD,epD,hoD,hdD,hcD⟩:=hn2.count (PySem.Within.cons name v hw)
 refine wpAny_bind (wpAny_lookBehind hoD (by rw[hdD];exact pastItsLine_dict (Nat.le_trans hcD (by rw[List.length_cons];omega))) ?_)
 exact wpAny_pure (h _ ⟨(hs2.2 _ (Ne.symm I.ne)).trans I.obj,hn2,I.ne⟩ hs2)
theorem jgx{R:Result->Shared->Prop}{vs:List Value}{kw:List (Str × Value)}(X:K.In s.heap)(hm:W.makesIn K C=true)
  (hi:W.findIn K (.ref C) "__init__"=some (some (.ref f))) (hf:W.typeIn K (.ref f)=some (.type "function"))
  (h:codeAny (model prog w) (A.under (.builtin "type.__call__" ⟨.ref C::vs,kw⟩)) (.call (.ref f) ⟨.ref (s.heap.objs.size+1)::vs,kw⟩) (W.InitBack (s.heap.objs.size+1) R)
   { s with heap:=(s.heap.push W.emptyDict).push (W.instObj C s.heap.objs.size) }) :
  codeAny (model prog w) A (.call (.ref C) ⟨vs,kw⟩) R s:=by
 obtain⟨hh,g,d,t,os⟩:=s
 exact W.make_core (W.makes_of X hm) (W.looks_findIn X hi) (λself=>W.bind_fn X self hf) (.inl rfl) h
end
def zfs(f:Str)(v:V):List (Str × V)->List (Str × V)
 | []=>[(f,v)]
 | (g,x)::r=>if g=f then(g,v)::r else(g,x)::zfs f v r
theorem z2l(f g:Str)(v:V):∀ fs:List (Str × V),(zfs f v fs).lookup g=if g=f then some v else fs.lookup g
 | []=>by
  show List.lookup g [(f,v)]=_
  by_cases h:g=f
  ·have hb:(g == f)=true:=beq_iff_eq.mpr h
   simp only[List.lookup,hb,if_pos h]
  ·have hb:(g == f)=false:=beq_eq_false_iff_ne.mpr h
   simp only[List.lookup,hb,if_neg h]
 | (k,x)::r=>by
  have ih:=z2l f g v r
  rw[show zfs f v ((k,x)::r)=(if k=f then(k,v)::r else(k,x)::zfs f v r)from rfl]
  by_cases hk:k=f
  ·rw[if_pos hk]
   by_cases h:g=k
   ·have hb:(g == k)=true:=beq_iff_eq.mpr h
    simp only[List.lookup,hb,if_pos (h.trans hk)]
   ·have hb:(g == k)=false:=beq_eq_false_iff_ne.mpr h
    simp only[List.lookup,hb,if_neg (λe:g=f=>h (e.trans hk.symm))]
  ·rw[if_neg hk]
   by_cases h:g=k
   ·have hb:(g == k)=true:=beq_iff_eq.mpr h
    simp only[List.lookup,hb,if_neg (λe:g=f=>hk (h.symm.trans e))]
   ·have hb:(g == k)=false:=beq_eq_false_iff_ne.mpr h
    simp only[List.lookup,hb]
    exact ih
theorem z2m(f:Str)(v:V):∀ fs:List (Str × V),f∈(zfs f v fs).map (·.1)/\∀ g,g∈fs.map (·.1)->g∈(zfs f v fs).map (·.1)
 | []=>⟨by simp[zfs],λg h=>by simp at h⟩
 | (k,x)::r=>by
  obtain⟨i1,i2⟩:=z2m f v r
  rw[show zfs f v ((k,x)::r)=(if k=f then(k,v)::r else(k,x)::zfs f v r)from rfl]
  by_cases hk:k=f
  ·rw[if_pos hk]
   subst hk
   exact⟨by simp,λg h=>by simpa using h⟩
  ·rw[if_neg hk]
   refine⟨?_,λg h=> ?_⟩
   ·rw[List.map_cons]
    exact List.mem_cons_of_mem _ i1
   ·rw[List.map_cons]at h ⊢
    rcases List.mem_cons.mp h with e | e
    ·exact List.mem_cons.mpr (.inl e)
    ·exact List.mem_cons_of_mem _ (i2 g e)
theorem zka(f:Str)(v:V):∀ fs:List (Str × V),(zfs f v fs).length<=fs.length+1
 | []=>by simp[zfs]
 | (k,x)::r=>by
  have ih:=zka f v r
  rw[show zfs f v ((k,x)::r)=(if k=f then(k,v)::r else(k,x)::zfs f v r)from rfl]
  by_cases hk:k=f
  ·rw[if_pos hk,List.length_cons,List.length_cons];omega
  ·rw[if_neg hk,List.length_cons,List.length_cons];omega
theorem RelO.some_of{v:V}{o:Option Value}(r:RelO (some v) o):∃ u,o=some u/\RelV v u:=by
 cases o with
 | none=>exact(show False from r).elim
 | some u=>exact⟨u,rfl,r⟩
theorem RelO.none_of{o:Option Value}(r:RelO none o):o=none:=by
 cases o with
 | none=>rfl
 | some u=>exact(show False from r).elim
theorem jd6{v:V}{u:Value}(r:RelV v u):W.handedIn u=true:=by
 cases v with
 | non=>cases (show u=Value.none from r);rfl
 | bl b=>cases (show u=Value.bool b from r);rfl
 | int i=>obtain⟨t,e⟩:=(show ∃ t,u=Value.int i t from r);cases e;rfl
 | str x=>obtain⟨t,e⟩:=(show ∃ t,u=Value.str x t from r);cases e;rfl
 | byt b=>obtain⟨t,e⟩:=(show ∃ t,u=Value.bytes b t from r);cases e;rfl
 | flt b=>obtain⟨t,e⟩:=(show ∃ t,u=Value.float b t from r);cases e;rfl
 | ref a=>cases (show u=Value.ref a from r);rfl
 | ty n=>cases (show u=Value.type n from r);rfl
section
variable{P:Program}{w:World}{H H':Hp}{h h':Heap}{a C dx:Addr}{fs fs':List (Str × V)}
theorem z6j(hok:HOk P w H h)(e:H a=some (.ins C dx fs)):∃ mA,ObjM h a dx C mA/\(∀ f,RelO (fs.lookup f) (mA f))/\PySem.Within mA (fs.map (·.1))/\fs.length<=1000/\H dx=some (.own a):=by
 obtain⟨d,z,ne,ob,mA,n,r,q⟩:=(show ObjOk P w H h a (.ins C dx fs)from hok a _ e)
 exact⟨mA,⟨ob,n,ne⟩,r,q,z,d⟩
end
structure Cls(K:W.Frag)(C:Addr):Prop where
 pg:W.plainGet K C Str.empty=true
 hd:W.hasDictIn K C=true
 po:W.plainOver K C=true
 sa:W.findIn K (.ref C) "__setattr__"=some (some (.builtin "object.__setattr__"))
theorem Cls.get{K:W.Frag}{C:Addr}(c:Cls K C)(f:Str):W.plainGet K C f=true:=c.pg
def NoAttr(K:W.Frag)(C:Addr)(f:Str):Prop:=W.findIn K (.ref C) f=some none
theorem NoAttr.taker{K:W.Frag}{C:Addr}{f:Str}(n:NoAttr K C f):W.takerIn K C f=some none:=by
 unfold W.takerIn
 rw[show W.findIn K (.ref C) f=some none from n]
 rfl
structure Con(K:W.Frag)(C:Addr)(f:Str)(v:V)(u:Value):Prop where
 at_:W.findIn K (.ref C) f=some (some u)
 rel:RelV v u
 get:W.specialIn K u "__get__"=some none
 cp:W.copiedNames.contains f=false
structure jni(K:W.Frag)(C:Addr)(m:Str)(f:Addr):Prop where
 at_:W.findIn K (.ref C) m=some (some (.ref f))
 fn:W.isFn K (.ref f)=true
 kp:W.keepIn K (.ref f)=true
section
variable{X:Cx}{pins:List (Addr × Obj)}{σ:St}{H:Hp}{s:Shared}{a C dx:Addr}{fs:List (Str × V)}{f:Str}{v:V}{A:Around}{E:Value->Shared->Prop}
theorem z50{b:Bool}{Q:Value->Shared->Prop}(I:Inv X pins σ H s)(e:H a=some (.ins C dx fs))(c:Cls X.K C)(n:NoAttr X.K C f)(l:fs.lookup f=some v)
  (h:∀ u s',Inv X pins σ H s'->RelV v u->Q u s'):wpAny (model X.prog X.w) A (getAttr (.ref a) f b) Q E s:=by
 obtain⟨mA,O,r,_,_,_⟩:=z6j I.hok e
 obtain⟨u,hu,ru⟩:=RelO.some_of (v:=v) (o:=mA f) (by rw[<-l];exact r f)
 exact ji9 I.kIn O (c.get f) c.hd n hu (jd6 ru) (h u _ (I.tok _) ru)
theorem z51{m:Str}{g:Addr}{pl:Sem Bool}{Q:Value × List Value->Shared->Prop}(I:Inv X pins σ H s)(e:H a=some (.ins C dx fs))(c:Cls X.K C)(k:jni X.K C m g)(l:fs.lookup m=none)
  (h:Q (.ref g,[.ref a]) s):wpAny (model X.prog X.w) A (getMethod (.ref a) m pl) Q E s:=by
 obtain⟨mA,O,r,_,_,_⟩:=z6j I.hok e
 have hn:mA m=none:=RelO.none_of (by rw[<-l];exact r m)
 exact jgw I.kIn O (c.get m) k.at_ k.fn hn h
theorem z52{y:V}{u:Value}{Q:Unit->Shared->Prop}(I:Inv X pins σ H s)(e:H a=some (.ins C dx fs))(c:Cls X.K C)(n:NoAttr X.K C f)(hl:fs.length<1000)(ry:RelV y u)
  (h:∀ s',Inv X pins σ (upd H a (.ins C dx (zfs f y fs))) s'->Q () s'):wpAny (model X.prog X.w) A (setAttr (.ref a) f u) Q E s:=by
 obtain⟨mA,O,r,wi,_,ho⟩:=z6j I.hok e
 have hz:(fs.map (·.1)).length<=sizeLine:=by rw[List.length_map,sizeLine_eq];omega
 refine jja I.kIn O c.sa c.po n.taker c.hd wi hz λh' O' sb=>h _ ?_
 have hd:∃ o,h'.get? dx=some o:=let ⟨o,_,_,e',_⟩:=O'.ns;⟨o,e'⟩
 refine I.write (x:=a) (e:=dx) (by rw[e];exact True.intro) (.inr ho) (λb q hb z=>(sb.2 b hb).trans z) hd ?_
 refine⟨by rw[zal O.ne];exact ho,?_,O.ne,O'.obj,_,O'.ns,λg=> ?_,λg hg=> ?_⟩
 ·have:=zka f y fs;omega
 ·show RelO ((zfs f y fs).lookup g) (if g=f then some u else mA g)
  rw[z2l]
  by_cases q:g=f
  ·rw[if_pos q,if_pos q];exact ry
  ·rw[if_neg q,if_neg q];exact r g
 ·by_cases q:g=f
  ·rw[q];exact(z2m f y fs).1
  ·refine(z2m f y fs).2 g (wi g λz=>hg ?_)
   show(if g=f then some u else mA g)=none
   rw[if_neg q];exact z
theorem Inv.made(I:Inv X pins σ H s):Inv X pins σ (upd (upd H s.heap.objs.size (.own (s.heap.objs.size+1))) (s.heap.objs.size+1) (.ins C s.heap.objs.size []))
  { s with heap:=(s.heap.push W.emptyDict).push (W.instObj C s.heap.objs.size) }:=by
 have e1:(s.heap.push W.emptyDict).get? s.heap.objs.size=some W.emptyDict:=Heap.get?_push_size s.heap rfl
 have e2:((s.heap.push W.emptyDict).push (W.instObj C s.heap.objs.size)).get? (s.heap.objs.size+1)=some (W.instObj C s.heap.objs.size):=by
  have:=Heap.get?_push_size (s.heap.push W.emptyDict) (o:=W.instObj C s.heap.objs.size) rfl
  rwa [Heap.size_push]at this
 have e3:(s.heap.push W.emptyDict).Ns s.heap.objs.size (λ_=>none):=⟨W.emptyDict,#[],_,e1,rfl,(λe he=>absurd he (by simp)),λ_=>rfl⟩
 have I1:=I.laid (a:=s.heap.objs.size) (o:=.own (s.heap.objs.size+1)) (h':=s.heap.push W.emptyDict) (t':=s.toks) (λb u q=>Heap.get?_push_of_some _ q) (Nat.le_refl _) ⟨_,e1⟩
 refine I1.laid (a:=s.heap.objs.size+1) (o:=.ins C s.heap.objs.size []) (t':=s.toks) (λb u q=>Heap.get?_push_of_some _ q) (Nat.le_of_eq (Heap.size_push _ _)) ?_
 have ne:s.heap.objs.size≠s.heap.objs.size+1:=Nat.ne_of_lt (Nat.lt_succ_self _)
 refine⟨by rw[zal ne,zae],Nat.zero_le _,ne,e2,λ_=>none,(Heap.Ns1.of_empty e3).at λo q=>Heap.get?_push_of_some _ q,λ_=>True.intro,λy hy=>absurd rfl hy⟩
theorem jjb{prog:Program}{w:World}{env:Env}{e:Expr}{f:Str}{pos:Pos}{s:Shared}{Q:Value->Shared->Prop}(hb:attributeBase e f env (eval e env)=eval e env)
  (h:wpAny (model prog w) A (eval e env) (λo s₁=>wpAny (model prog w) A (getAttr o f true) Q E s₁) E s):wpAny (model prog w) A (eval (.Attribute e f pos) env) Q E s :=
 Attribute_any_ h (by rw[arm_eval_Attribute,hb])
end
def zdx(K:W.Frag)(ta:TE)(f:Str):TE:=λσ H Q=>ta σ H λx H1=>∃ a C dx fs v,x=.ref a/\H1 a=some (.ins C dx fs)/\Cls K C/\NoAttr K C f/\fs.lookup f=some v/\Q v H1
def z53(K:W.Frag)(ta tv:TE)(f:Str):TS:=λD σ H=>tv σ H λy H1=>ta σ H1 λx H2=>∃ a C dx fs,x=.ref a/\H2 a=some (.ins C dx fs)/\Cls K C/\NoAttr K C f/\fs.length<1000 ∧
 D.nx σ (upd H2 a (.ins C dx (zfs f y fs)))
def jot(X:Cx)(op:Operator)(rd:V->V->Hp->VK->Prop):Prop :=
 ∀ (pins:List (Addr × Obj)) (s:Shared) (σ:St) (H:Hp) (x y:V) (u v:Value) (Q:VK),Inv X pins σ H s->RelV x u->RelV y v->rd x y H Q->wpAny (model X.prog X.w) X.A (inplaceOp op u v) (EP X pins σ Q) X.xe s
def jaj(K:W.Frag)(ta tv:TE)(rd:V->V->Hp->VK->Prop)(f:Str):TS:=λD σ H=>ta σ H λx H1=>∃ a C dx fs v,x=.ref a/\H1 a=some (.ins C dx fs)/\Cls K C/\NoAttr K C f/\fs.lookup f=some v ∧
 tv σ H1 λy H2=>rd v y H2 λz H3=>∃ dx' fs',H3 a=some (.ins C dx' fs')/\fs'.length<1000/\D.nx σ (upd H3 a (.ins C dx' (zfs f z fs')))
section
variable{X:Cx}{o e value:Expr}{f:Str}{pos pos' tpos:Pos}{ta tv:TE}
theorem zas(he:PE X e ta)(hb:attributeBase e f X.env (eval e X.env)=eval e X.env):PE X (.Attribute e f pos) (zdx X.K ta f):=by
 intro pins s σ H Q I h
 refine jjb hb (thn (he pins s σ H _ I h) λu s1 ⟨x,H1,I1,rx,a,C,dx,fs,v,ex,ea,c,n,l,q⟩=> ?_)
 subst ex
 obtain rfl:u=Value.ref a:=rx
 exact z50 I1 ea c n l λu' s2 I2 ru=>⟨v,H1,I2,ru,q⟩
theorem zhv(ha:PE X o ta)(hv:PE X value tv)(hs:swapsWith value (some (.Attribute o f pos')) pos.line X.env=pure false):PS X (.Assign [.Attribute o f pos'] value pos) (z53 X.K ta tv f):=by
 intro pins s σ H D I h
 refine plainObj_wpAny_Assign_Attribute (thn (hv pins s σ H _ I h) λu s1 ⟨y,H1,I1,ry,q⟩=>thn (ha pins s1 σ H1 _ I1 q) λov s2 ⟨x,H2,I2,rx,a,C,dx,fs,ex,ea,c,n,l,q2⟩=> ?_) hs
 subst ex
 obtain rfl:ov=Value.ref a:=rx
 exact z52 I2 ea c n l ry λs3 I3=>⟨σ,_,I3,q2⟩
theorem jd7{op:Operator}{rd:V->V->Hp->VK->Prop}(ha:PE X o ta)(hv:PE X value tv)(hop:jot X op rd):PS X (.AugAssign (.Attribute o f tpos) op value pos) (jaj X.K ta tv rd f):=by
 intro pins s σ H D I h
 refine wpAny_AugAssign_AttributeAny (thn (ha pins s σ H _ I h) λov s1 ⟨x,H1,I1,rx,a,C,dx,fs,v,ex,ea,c,n,l,q⟩=> ?_)
 subst ex
 obtain rfl:ov=Value.ref a:=rx
 refine z50 I1 ea c n l λu s2 I2 ru=>thn (hv pins s2 σ H1 _ I2 q) λw3 s3 ⟨y,H2,I3,ry,q3⟩=>thn (hop pins s3 σ H2 v y u w3 _ I3 ru ry q3) λw4 s4 ⟨z,H3,I4,rz,dx',fs',ea',l',q4⟩=> ?_
 exact z52 I4 ea' c n l' rz λs5 I5=>⟨σ,_,I5,q4⟩
def jnj:V->V->Hp->VK->Prop:=λx y H Q=>∃ i j,x=.int i/\y=.int j/\Q (.int (i+j)) H
theorem jlf:jot X .Add jnj:=by
 rintro pins s σ H x y u v Q I rx ry ⟨i,j,rfl,rfl,q⟩
 obtain⟨t,rfl⟩:=(show ∃ t,u=Value.int i t from rx)
 obtain⟨t',rfl⟩:=(show ∃ t',v=Value.int j t' from ry)
 exact PyProof.Rows.iadd_int ⟨.int (i+j),H,I.tok _,⟨_,rfl⟩,q⟩
end
section
variable{X:Cx}{pins:List (Addr × Obj)}{σ:St}{H:Hp}{s:Shared}{A:Around}{E:Value->Shared->Prop}{Q:Value->Shared->Prop}{c:Value}{b:Bool}
inductive jdt(K:W.Frag)(H:Hp):V->Value->Prop where
 | non:jdt K H .non (.type "NoneType")
 | bl (x:Bool):jdt K H (.bl x) (.type "bool")
 | int (i:Int):jdt K H (.int i) (.type "int")
 | str (x:Str):jdt K H (.str x) (.type "str")
 | flt (x:UInt64):jdt K H (.flt x) (.type "float")
 | lst {a:Addr} {xs:List V} (e:H a=some (.lst xs)):jdt K H (.ref a) (.type "list")
 | frz {a:Addr} {o:Obj} {xs:List V} (e:H a=some (.frz o (.lst xs))):jdt K H (.ref a) (.type "list")
 | tup {a:Addr} {xs:List V} (e:H a=some (.tup xs)):jdt K H (.ref a) (.type "tuple")
 | dK {a:Addr} {kvs:List (Key × V)} (e:H a=some (.dK kvs)):jdt K H (.ref a) (.type "dict")
 | dT {a:Addr} {kvs:List (List Key × V)} (e:H a=some (.dT kvs)):jdt K H (.ref a) (.type "dict")
 | ins {a C dx:Addr} {fs:List (Str × V)} (e:H a=some (.ins C dx fs)) (cl:Cls K C) (ha:W.findIn K (.ref C) "__class__"=some (some (.builtin "object.__class__")))
   (hn:W.specialIn K (.builtin "object.__class__") "__get__"=some (some (.builtin "getset_descriptor.__get__"))) (htk:W.takesIn K (.builtin "object.__class__")=some true)
   (hm:W.mroIn K C (.type "object")=some true):jdt K H (.ref a) (.ref C)
end
end L2
namespace L2
structure Room(k:Nat)(A:Around):Prop where
 hd:A.handled=none
 dp:A.depth+3 * k+5<recursionLimit
 un:A.units+16 * k+200<cLine
theorem Room.mono{j k:Nat}{A:Around}(r:Room k A)(h:j<=k):Room j A:=⟨r.hd,by have:=r.dp;omega,by have:=r.un;omega⟩
theorem Room.deeper{k:Nat}{A:Around}(r:Room (k+1) A)(env:Env):Room k (A.deeper env) :=
 ⟨r.hd,by have:=r.dp;show A.depth+1+3 * k+5<_;omega,by have:=r.un;show A.units+3+16 * k+200<_;omega⟩
theorem jcv{A:Around}{C:Addr}{us:List Value}{kw:List (Str × Value)}:(A.under (.builtin "type.__call__" ⟨.ref C::us,kw⟩)).depth=A.depth+1:=by
 first | rfl | simp[Around.under,Code.weight,Code.isCreation,Code.isGuard,Code.isCaller,Code.frames,Code.isFrame,guardIds]
theorem jcw{A:Around}{C:Addr}{us:List Value}{kw:List (Str × Value)}:(A.under (.builtin "type.__call__" ⟨.ref C::us,kw⟩)).units=A.units+1:=by
 first | rfl | simp[Around.under,Code.cUnits,Code.frames,Code.isFrame]
theorem Room.make{k:Nat}{A:Around}(r:Room (k+1) A)(C:Addr)(us:List Value)(kw:List (Str × Value)):Room k (A.under (.builtin "type.__call__" ⟨.ref C::us,kw⟩)) :=
 ⟨r.hd,by have:=r.dp;rw[jcv];omega,by have:=r.un;rw[jcw];omega⟩
theorem Room.depth{k:Nat}{A:Around}(r:Room k A):A.depth<recursionLimit:=by have:=r.dp;omega
theorem Room.units{k:Nat}{A:Around}(r:Room k A):A.units+64<cLine:=by have:=r.un;omega
def zaw:TA:=λ_ H Q=>Q [] H
def zac(ta:TE)(tr:TA):TA:=λσ H Q=>ta σ H λx H1=>tr σ H1 λxs H2=>Q (x::xs) H2
section
variable{X:Cx}{e:Expr}{es:List Expr}{te:TE}{t:TA}{pos:Pos}
theorem zad:PA X [] zaw:=λ_ _ _ _ H Q I h=>Calls.spliced_nil ⟨[],H,I,.nil,h⟩
theorem zaa(ha:PE X e te)(hr:PA X es t)(hs:starEach (e::es) X.env=(false,eval e X.env)::starEach es X.env:=by rfl):PA X (e::es) (zac te t):=by
 intro pos pins s σ H Q I h
 rw[hs]
 show wpAny _ _ (spliced ((false,eval e X.env)::backTo pos (starEach es X.env))) _ _ s
 refine Calls.spliced_cons (thn (ha pins s σ H _ I h) λu s1 ⟨x,H1,I1,r1,q1⟩=> ?_)
 exact thn (hr pos pins s1 σ H1 _ I1 q1) λus s2 ⟨xs,H2,I2,r2,q2⟩=>⟨x::xs,H2,I2,.cons r1 r2,q2⟩
def z6k(t:TA):TE:=λσ H Q=>t σ H λxs H1=>xs.length<=sizeLine/\∀ p,H1 p=none->Q (.ref p) (upd H1 p (.tup xs))
def zll(t:TA):TE:=λσ H Q=>t σ H λxs H1=>xs.length<=sizeLine/\∀ p,H1 p=none->Q (.ref p) (upd H1 p (.lst xs))
theorem ziz{x1}(h:PA X es t):PE X (.Tuple es x1 pos) (z6k t):=by
 intro pins s σ H Q I hq
 refine wpAny_Tuple_spliced (thn (h pos pins s σ H _ I hq) λus s1 ⟨xs,H1,I1,r,z,q⟩=>⟨by rw[<-r.length];exact z,?_⟩)
 have hf:H1 s1.heap.objs.size=none:=I1.hok.fresh (Nat.le_refl _)
 refine⟨.ref s1.heap.objs.size,upd H1 s1.heap.objs.size (.tup xs),I1.laid (t':=s1.toks) (λb u e=>Heap.get?_push_of_some _ e) (Nat.le_refl _) ?_,rfl,q _ hf⟩
 exact⟨z,us,r,⟨_,Heap.get?_push_size _ rfl,rfl,_,rfl⟩⟩
theorem zcf(h:PA X es t):PE X (.List es pos) (zll t):=by
 intro pins s σ H Q I hq
 refine wpAny_List_spliced (thn (h pos pins s σ H _ I hq) λus s1 ⟨xs,H1,I1,r,z,q⟩=>⟨by rw[<-r.length];exact z,?_⟩)
 have hf:H1 s1.heap.objs.size=none:=I1.hok.fresh (Nat.le_refl _)
 refine⟨.ref s1.heap.objs.size,upd H1 s1.heap.objs.size (.lst xs),I1.laid (t':=s1.toks) (λb u e=>Heap.get?_push_of_some _ e) (Nat.le_refl _) ?_,rfl,q _ hf⟩
 exact⟨z,us,0,r,Heap.get?_push_size _ rfl⟩
end
abbrev Sp:=List V->Hp->VK->XK->Prop
abbrev CXT:=List Env->Hp->Shared->XK->Value->Shared->Prop
structure Env0(P:Program)(w:World)(K:W.Frag)(mg:Str->Option Value)(base:Heap)(A:Around)(outer:List Env)(s:Shared)(H:Hp):Prop where
 frames:A.frames=some outer
 mod:Mod K mg base
 bs:∀ b o,base.get? b=some o->s.heap.get? b=some o/\H b=none
 bsz:base.objs.size<=s.heap.objs.size
 funs:s.heap.FunFrames base outer
 frf:∀ b∈frs outer,H b=none
 hok:HOk P w H s.heap
 bare:AllBare s.gens
def CE(outer:List Env)(P:Program)(w:World)(H:Hp)(s:Shared)(Q:VK)(u:Value)(s':Shared):Prop :=
 ∃ v H',s'.os=s.os/\AllBare s'.gens/\Un (frs outer) [] H H' s.heap s'.heap/\HOk P w H' s'.heap/\RelV v u/\Q v H'
def CR(CX:CXT)(outer:List Env)(P:Program)(w:World)(H:Hp)(s:Shared)(Q:VK)(E:XK)(r:Result)(s':Shared):Prop :=
 match r with
 | .ok (.ret u)=>CE outer P w H s Q u s'
 | .ok _=>False
 | .error e=>CX outer H s E e s'
structure FnOk(P:Program)(w:World)(K:W.Frag)(mg:Str->Option Value)(base:Heap)(CX:CXT)(k:Nat)(f:Addr)(fd:FuncData)(ps:List Str)(sp:Sp):Prop where
 len:∀ vs H Q E,sp vs H Q E->vs.length=ps.length
 run:∀ (A:Around) (outer:List Env) (s:Shared) (H:Hp) (args:Args) (us:List Value) (vs:List V) (Q:VK) (E:XK),Room k A->Env0 P w K mg base A outer s H->BindsTo s fd args (ps.zip us)->Vals vs us->sp vs H Q E →
  codeAny (model P w) A (.call (.ref f) args) (CR CX outer P w H s Q E) s
theorem FnOk.imp{P:Program}{w:World}{K:W.Frag}{mg:Str->Option Value}{base:Heap}{CX:CXT}{k:Nat}{f:Addr}{fd:FuncData}{ps:List Str}{sp sp':Sp}(F:FnOk P w K mg base CX k f fd ps sp)
  (h:∀ vs H Q E,sp' vs H Q E->sp vs H Q E):FnOk P w K mg base CX k f fd ps sp' :=
 ⟨λvs H Q E q=>F.len vs H Q E (h _ _ _ _ q),λA outer s H args us vs Q E hr he hb hv hs=>F.run A outer s H args us vs Q E hr he hb hv (h _ _ _ _ hs)⟩
theorem Env0.make{P:Program}{w:World}{K:W.Frag}{mg:Str->Option Value}{base:Heap}{A:Around}{outer:List Env}{s:Shared}{H:Hp}(e:Env0 P w K mg base A outer s H)(C:Addr)(us:List Value)(kw:List (Str × Value)) :
  Env0 P w K mg base (A.under (.builtin "type.__call__" ⟨.ref C::us,kw⟩)) outer s H:=⟨by first | exact e.frames | (simpa [Around.under,Code.envs,Code.isFrame,pushEnvs]using e.frames),e.mod,e.bs,e.bsz,e.funs,e.frf,e.hok,e.bare⟩
section
variable{X:Cx}{pins:List (Addr × Obj)}{σ:St}{H:Hp}{s s':Shared}
theorem Inv.env0(I:Inv X pins σ H s):Env0 X.prog X.w X.K X.mg X.base X.A X.stack s H :=
 ⟨I.ok.frames,I.ok.mod,I.bs,Nat.le_trans I.ok.bsz I.sz,I.stack,I.stkFree,I.hok,I.bare⟩
theorem Inv.after{Q:VK}{u:Value}(I:Inv X pins σ H s)(h:CE X.stack X.prog X.w H s Q u s'):EP X pins σ Q u s':=by
 obtain⟨v,H',os,bare,un,hok,r,q⟩:=h
 obtain⟨hh,g,d,t,os'⟩:=s'
 obtain rfl:os'=s.os:=os
 exact⟨v,H',I.call (h':=hh) (g':=g) (d':=d) (t':=t) (ch:=[]) un hok bare (λb z=>absurd z (by simp)),r,q⟩
end
def zi0(sp:Sp)(dvs:List V)(E:St->XK)(t:TA):TE:=λσ H Q=>t σ H λvs H1=>sp (vs++dvs) H1 Q (E σ)
def za0(C:Addr)(m:Str)(sp:Sp)(dvs:List V)(E:St->XK)(ta:TE)(t:TA):TE:=λσ H Q=>ta σ H λx H1=>∃ a dx fs,x=.ref a/\H1 a=some (.ins C dx fs)/\fs.lookup m=none ∧
 t σ H1 λvs H2=>sp (x::(vs++dvs)) H2 Q (E σ)
def z8e(C:Addr)(sp:Sp)(dvs:List V)(E:St->XK)(t:TA):TE:=λσ H Q=>t σ H λvs H1=>∀ x dx,H1 x=none->H1 dx=none->dx≠x →
 sp (.ref x::(vs++dvs)) (upd (upd H1 dx (.own x)) x (.ins C dx [])) (λv H2=>v=.non/\Q (.ref x) H2) (E σ)
def Binds(K:W.Frag)(fd:FuncData)(ps:List Str)(ds:List Value):Prop :=
 ∀ (s:Shared) (us:List Value),K.In s.heap->(us++ds).length=ps.length->BindsTo s fd ⟨us,[]⟩ (ps.zip (us++ds))
theorem Binds.all{K:W.Frag}{fd:FuncData}{ps:List Str}(h:∀ us:List Value,us.length=ps.length->bindArgs fd ⟨us,[]⟩=pure (ps.zip us)):Binds K fd ps []:=λs us _ hl=>by
 rw[List.append_nil]at hl ⊢
 exact .of_eq (h us hl)
def znv(CX:CXT)(X:Cx)(E:St->XK):Prop:=∀ (pins:List (Addr × Obj)) (σ:St) (H:Hp) (s:Shared) (e:Value) (s':Shared),Inv X pins σ H s->CX X.stack H s (E σ) e s'->X.xe e s'
section
variable{X:Cx}{CX:CXT}{k:Nat}{f C:Addr}{fd:FuncData}{ps:List Str}{sp:Sp}{dvs:List V}{ds:List Value}{E:St->XK}{x m:Str}{p pos apos:Pos}{e o:Expr}{es:List Expr}{ta:TE}{t:TA}
theorem jd8{pins:List (Addr × Obj)}{σ:St}{H:Hp}{s:Shared}{Q:VK}{us:List Value}{vs:List V}(F:FnOk X.prog X.w X.K X.mg X.base CX k f fd ps sp)(hr:Room k X.A)(hb:Binds X.K fd ps ds)(hd:Vals dvs ds)(hx:znv CX X E)
  (I:Inv X pins σ H s) (r:Vals vs us) (h:sp (vs++dvs) H Q (E σ)):wpAny (model X.prog X.w) X.A (call (.ref f) us) (EP X pins σ Q) X.xe s:=by
 have r2:Vals (vs++dvs) (us++ds):=r.append hd
 have hl:(us++ds).length=ps.length:=by rw[<-r2.length];exact F.len _ _ _ _ h
 refine wpAny_call (codeAny_mono (F.run X.A X.stack s H ⟨us,[]⟩ (us++ds) (vs++dvs) Q (E σ) hr I.env0 (hb s us I.kIn hl) r2 h) λr s' hq=> ?_)
 cases r with
 | error e=>exact hx pins σ H s e s' I hq
 | ok fl =>
  cases fl with
  | ret u=>exact I.after hq
  | next=>exact False.elim hq
  | brk=>exact False.elim hq
  | cont=>exact False.elim hq
theorem jjc(F:FnOk X.prog X.w X.K X.mg X.base CX k f fd ps sp)(hr:Room k X.A)(hg:Gl X x)(hm:X.mg x=some (.ref f))(hk:W.keepIn X.K (.ref f)=true)(hb:Binds X.K fd ps ds)(hd:Vals dvs ds)(hx:znv CX X E)
  (ha:PA X (e::es) t) (hdb:(x ==("__debug__":Str))=false:=by decide) (he:starEach (e::es) X.env=(false,eval e X.env)::starEach es X.env:=by rfl) (hpl:(backTo pos (starEach es X.env)).any (·.1)=false:=by rfl) :
  PE X (.Call (.Name x p) (e::es) [] pos) (zi0 sp dvs E t):=by
 intro pins s σ H Q I h
 refine wpAny_Call_Name_kw (z2j I hg hm ?_ hdb)
 refine W.callWith_K (h₀:=X.base) I.ok.mod.kin hk (thn (ha pos pins s σ H _ I h) λus s1 ⟨vs,H1,I1,r,q⟩=>⟨I1.kIn,?_⟩) he hpl
 exact jd8 F hr hb hd hx I1 r q
theorem jjd{pl:Sem Bool}(he:PE X o ta)(c:Cls X.K C)(hm:jni X.K C m f)(F:FnOk X.prog X.w X.K X.mg X.base CX k f fd ps sp)(hr:Room k X.A)(hb:Binds X.K fd ps ds)(hd:Vals dvs ds)(hx:znv CX X E)(ha:PA X (e::es) t)
  (hst:starEach (e::es) X.env=(false,eval e X.env)::starEach es X.env:=by rfl) (hpl:(backTo pos (starEach es X.env)).any (·.1)=false:=by rfl)
  (ht:eval (.Call (.Attribute o m apos) (e::es) [] pos) X.env=(do
   let ov ← eval o X.env
   standAt apos.atName
   let (f,first) ← holding [ov] (getMethod ov m pl)
   callWith pos f first (backTo pos (starEach (e::es) X.env)) (backToKw pos (keywordEach [] X.env))):=by rfl) :
  PE X (.Call (.Attribute o m apos) (e::es) [] pos) (za0 C m sp dvs E ta t):=by
 intro pins s σ H Q I h
 refine W.methodCall_KW (pl:=pl) (thn (he pins s σ H _ I h) λu s1 ⟨x,H1,I1,rx,a,dx,fs,ex,ea,l,q⟩=> ?_) ht
 subst ex
 obtain rfl:u=Value.ref a:=rx
 refine z51 I1 ea c hm l ?_
 refine W.callWith_K (first:=[.ref a]) (h₀:=X.base) I.ok.mod.kin hm.kp (thn (ha pos pins s1 σ H1 _ I1 q) λus s2 ⟨vs,H2,I2,r,q2⟩=>⟨I2.kIn,?_⟩) hst hpl
 exact jd8 (us:=.ref a::us) (vs:=.ref a::vs) F hr hb hd hx I2 (.cons rfl r) q2
theorem jgy{pl:Sem Bool}(he:PE X o ta)(c:Cls X.K C)(hm:jni X.K C m f)(F:FnOk X.prog X.w X.K X.mg X.base CX k f fd ps sp)(hr:Room k X.A)(hb:Binds X.K fd ps ds)(hd:Vals dvs ds)(hx:znv CX X E)
  (ht:eval (.Call (.Attribute o m apos) [] [] pos) X.env=(do
   let ov ← eval o X.env
   standAt apos.atName
   let (f,first) ← holding [ov] (getMethod ov m pl)
   callWith pos f first (backTo pos (starEach [] X.env)) (backToKw pos (keywordEach [] X.env))):=by rfl) :
  PE X (.Call (.Attribute o m apos) [] [] pos) (za0 C m sp dvs E ta zaw):=by
 intro pins s σ H Q I h
 refine W.methodCall_KW (pl:=pl) (thn (he pins s σ H _ I h) λu s1 ⟨x,H1,I1,rx,a,dx,fs,ex,ea,l,q⟩=> ?_) ht
 subst ex
 obtain rfl:u=Value.ref a:=rx
 refine z51 I1 ea c hm l ?_
 exact W.callWith_K0 (first:=[.ref a]) I1.kIn hm.kp (jd8 (us:=[.ref a]) (vs:=[.ref a]) F hr hb hd hx I1 (.cons rfl .nil) q)
structure Mk(K:W.Frag)(C f:Addr):Prop where
 makes:W.makesIn K C=true
 init:W.findIn K (.ref C) "__init__"=some (some (.ref f))
 fn:W.isFn K (.ref f)=true
 kp:W.keepIn K (.ref C)=true
theorem jgz{pins:List (Addr × Obj)}{σ:St}{H:Hp}{s:Shared}{Q:VK}{us:List Value}{vs:List V}(M:Mk X.K C f)(F:FnOk X.prog X.w X.K X.mg X.base CX k f fd ps sp)(hr:Room (k+1) X.A)(hb:Binds X.K fd ps ds)(hd:Vals dvs ds)
  (hx:znv CX X E) (I:Inv X pins σ H s) (r:Vals vs us)
  (h:∀ x dx,H x=none->H dx=none->dx≠x->sp (.ref x::(vs++dvs)) (upd (upd H dx (.own x)) x (.ins C dx [])) (λv H2=>v=.non/\Q (.ref x) H2) (E σ)) :
  wpAny (model X.prog X.w) X.A (call (.ref C) us) (EP X pins σ Q) X.xe s:=by
 have hq:=h (s.heap.objs.size+1) s.heap.objs.size (I.hok.fresh (Nat.le_succ _)) (I.hok.fresh (Nat.le_refl _)) (Nat.ne_of_lt (Nat.lt_succ_self _))
 have I2:=Inv.made (C:=C) I
 have r2:Vals (V.ref (s.heap.objs.size+1)::(vs++dvs)) (Value.ref (s.heap.objs.size+1)::(us++ds)):=.cons rfl (r.append hd)
 have hl:(Value.ref (s.heap.objs.size+1)::us++ds).length=ps.length:=by
  have e:=r2.length
  rw[F.len _ _ _ _ hq]at e
  exact e.symm
 refine wpAny_call (jgx (f:=f) I.kIn M.makes M.init (beq_iff_eq.mp M.fn) (codeAny_mono (F.run _ X.stack _ _ ⟨Value.ref (s.heap.objs.size+1)::us,[]⟩ (Value.ref (s.heap.objs.size+1)::(us++ds)) _ _ (E σ) (hr.make C us [])
  (I2.env0.make C us []) (hb _ (Value.ref (s.heap.objs.size+1)::us) I2.kIn hl) r2 hq) λr s' hq'=> ?_))
 cases r with
 | error e=>exact hx pins σ _ _ e s' I2 hq'
 | ok fl =>
  cases fl with
  | ret u =>
   obtain⟨v,H',I3,rv,ev,q3⟩:=I2.after hq'
   subst ev
   exact⟨rv,⟨V.ref (s.heap.objs.size+1),H',I3,rfl,q3⟩⟩
  | next=>exact False.elim hq'
  | brk=>exact False.elim hq'
  | cont=>exact False.elim hq'
theorem jje(M:Mk X.K C f)(F:FnOk X.prog X.w X.K X.mg X.base CX k f fd ps sp)(hr:Room (k+1) X.A)(hg:Gl X x)(hm:X.mg x=some (.ref C))(hb:Binds X.K fd ps ds)(hd:Vals dvs ds)(hx:znv CX X E)
  (ha:PA X (e::es) t) (hdb:(x ==("__debug__":Str))=false:=by decide) (he:starEach (e::es) X.env=(false,eval e X.env)::starEach es X.env:=by rfl) (hpl:(backTo pos (starEach es X.env)).any (·.1)=false:=by rfl) :
  PE X (.Call (.Name x p) (e::es) [] pos) (z8e C sp dvs E t):=by
 intro pins s σ H Q I h
 refine wpAny_Call_Name_kw (z2j I hg hm ?_ hdb)
 refine W.callWith_K (h₀:=X.base) I.ok.mod.kin M.kp (thn (ha pos pins s σ H _ I h) λus s1 ⟨vs,H1,I1,r,q⟩=>⟨I1.kIn,?_⟩) he hpl
 exact jgz M F hr hb hd hx I1 r q
end
section
variable{X:Cx}{CX:CXT}{k:Nat}{f C:Addr}{fd:FuncData}{ps ks:List Str}{sp:Sp}{E:St->XK}{x m:Str}{p pos apos kpos:Pos}{e o:Expr}{es:List Expr}{kws:List Keyword}{te ta:TE}{t tk:TA}{nm:Option Str}
structure jou(K:W.Frag)(fd:FuncData)(ps ks:List Str)(g:List Value->List Value->List Value)(gV:List V->List V->List V):Prop where
 to:∀ (s:Shared) (us ws:List Value),K.In s.heap->(g us ws).length=ps.length->BindsTo s fd ⟨us,ks.zip ws⟩ (ps.zip (g us ws))
 rel:∀ {vs:List V} {us:List Value} {zs:List V} {ws:List Value},Vals vs us->Vals zs ws->Vals (gV vs zs) (g us ws)
variable{g:List Value->List Value->List Value}{gV:List V->List V->List V}
end
structure zaq(N P:List Str)(sc:Scope):Prop where
 kind:sc.kind=.function
 co:sc.isCoroutine=false
 gen:sc.isGenerator=false
 nd:N.Nodup
 pre:N.take P.length=P
 par:∀ x∈P,sc.names.lookup x=some .local\/sc.names.lookup x=some .cell
 nofree:∀ y∈sc.names,y.2≠.free
theorem z8f{kindOf:Str->Option NameKind}{x:Str}:∀ {binds:List (Str × Value)} {m:Str->Option Value},(∀ v,(x,v)∉binds)->bindL kindOf binds m x=m x
 | [],_,_=>rfl
 | (n,v)::r,m,h=>by
  unfold bindL
  rw[z8f λw hw=>h w (List.mem_cons_of_mem _ hw)]
  split
  ·have:x≠n:=by rintro rfl;exact h v List.mem_cons_self
   simp[this]
  ·rfl
theorem z8g{kindOf:Str->Option NameKind}{x:Str}:∀ {binds:List (Str × Value)} {m:Str->Option Value},(∀ v,(x,v)∉binds)->bindC kindOf binds m x=m x
 | [],_,_=>rfl
 | (n,v)::r,m,h=>by
  unfold bindC
  rw[z8g λw hw=>h w (List.mem_cons_of_mem _ hw)]
  split
  ·rfl
  ·have:x≠n:=by rintro rfl;exact h v List.mem_cons_self
   simp[this]
theorem z8h{kindOf:Str->Option NameKind}{x:Str}{v:Value}:∀ {P:List Str} {vs:List Value} {i:Nat} {m:Str->Option Value},P.Nodup->P[i]? =some x->vs[i]? =some v->kindOf x=some .local →
  bindL kindOf (P.zip vs) m x=some v
 | [],_,_,_,_,h,_,_=>by simp at h
 | _::_,[],_,_,_,_,h,_=>by simp at h
 | p::P,w::vs,0,m,nd,h1,h2,hk=>by
  simp at h1 h2;subst h1;subst h2
  show bindL kindOf ((p,w)::P.zip vs) m p=_
  unfold bindL
  rw[z8f λv hv=>(List.nodup_cons.mp nd).1 (List.of_mem_zip hv).1,if_pos hk]
  simp
 | p::P,w::vs,i+1,m,nd,h1,h2,hk=>by
  show bindL kindOf ((p,w)::P.zip vs) m x=_
  unfold bindL
  exact z8h (i:=i) (List.nodup_cons.mp nd).2 (by simpa using h1) (by simpa using h2) hk
theorem z8i{kindOf:Str->Option NameKind}{x:Str}{v:Value}:∀ {P:List Str} {vs:List Value} {i:Nat} {m:Str->Option Value},P.Nodup->P[i]? =some x->vs[i]? =some v->kindOf x≠some .local →
  bindC kindOf (P.zip vs) m x=some v
 | [],_,_,_,_,h,_,_=>by simp at h
 | _::_,[],_,_,_,_,h,_=>by simp at h
 | p::P,w::vs,0,m,nd,h1,h2,hk=>by
  simp at h1 h2;subst h1;subst h2
  show bindC kindOf ((p,w)::P.zip vs) m p=_
  unfold bindC
  rw[z8g λv hv=>(List.nodup_cons.mp nd).1 (List.of_mem_zip hv).1,if_neg hk]
  simp
 | p::P,w::vs,i+1,m,nd,h1,h2,hk=>by
  show bindC kindOf ((p,w)::P.zip vs) m x=_
  unfold bindC
  exact z8i (i:=i) (List.nodup_cons.mp nd).2 (by simpa using h1) (by simpa using h2) hk
def zbn(N:List Str)(vs:List V):St:=vs.map some++List.replicate (N.length - vs.length) none
def zfi(CX:CXT)(P:Program)(w:World)(K:W.Frag)(mg:Str->Option Value)(base:Heap)(N:List Str)(qual:Str)(scope:Scope)(f:Addr)(cd:Value)(A:Around)(outer:List Env)(s:Shared)(H:Hp)(E:XK):Cx where
 prog:=P
 w:=w
 K:=K
 mg:=mg
 base:=base
 A:=A.deeper (envOfC qual scope s.heap.objs.size f cd)
 N:=N
 s₀:=s
 H₀:=H
 env:=envOfC qual scope s.heap.objs.size f cd
 outer:=outer
 stack:=envOfC qual scope s.heap.objs.size f cd::outer
 ex:=[]
 calm:=true
 fn:=λ_=>true
 pn:=[]
 xe:=λe s'=>wpAny (model P w) (A.deeper (envOfC qual scope s.heap.objs.size f cd)) (leaving (envOfC qual scope s.heap.objs.size f cd) e) (λ_ s''=>CX outer H s E e s'') (λe' s''=>CX outer H s E e' s'') s'
theorem jbt{sc:Scope}{n:Nat}{x:Str}(h:sc.names.lookup x=some .cell):∃ c,(cellsFrom n sc.names []).lookup x=some c:=by
 have q:=W.cellsFrom_some sc.names n [] (.inl h)
 exact Option.isSome_iff_exists.mp q
theorem jd9{CX:CXT}{P:Program}{w:World}{K:W.Frag}{mg:Str->Option Value}{base:Heap}{N ps:List Str}{qual:Str}{scope:Scope}{f:Addr}{cd:Value}{A:Around}{outer:List Env}{s s1:Shared}{H:Hp}{E:XK}{us:List Value}{vs:List V}
  (S:zaq N ps scope) (hd:A.handled=none) (e0:Env0 P w K mg base A outer s H) (hl:vs.length=ps.length) (r:Vals vs us)
  (x:InCallC s s.heap.objs.size (bindL (envOfC qual scope s.heap.objs.size f cd).kindOf (ps.zip us) λ_=>none) (cellsFrom (s.heap.objs.size+1) scope.names []) (bindC (envOfC qual scope s.heap.objs.size f cd).kindOf (ps.zip us) λ_=>none) s1) :
  Inv (zfi CX P w K mg base N qual scope f cd A outer s H E) [] (zbn N vs) H s1:=by
 have hpl:ps.length<=N.length:=by have:=congrArg List.length S.pre;rw[List.length_take]at this;omega
 obtain⟨h1,tk,rfl,hk⟩:=x.done
 have noA:∀ b:Addr,b∉(zfi CX P w K mg base N qual scope f cd A outer s H E).ex:=λb z=>absurd (show b∈([]:List Addr)from z) (by simp)
 refine⟨⟨e0.mod,S.kind,rfl,rfl,Nat.le_refl _,λy z c h1 h2=> ?_,λy hy=> ?_,λy c _ h=> ?_,λ_=>hd,Around.frames_deeper e0.frames,.inr ⟨rfl,rfl⟩,λb z=>absurd z (noA b),e0.bs,e0.bsz,λb _ _=>noA b,λb z=>absurd z (noA b),e0.funs,e0.frf⟩,
  rfl,e0.bare,Un.kept hk,⟨_,x.toInCall.ns,λi y v h1 h2 h3=> ?_⟩,λy c h=>⟨_,x.cell y c h⟩,e0.hok.fresh (Nat.le_refl _),λy c h=> ?_,λp hp=>absurd (show p∈([]:List (Addr × Obj))from hp) (by simp),e0.hok.kept hk,?_⟩
 ·exact name_of_addr x.apart (PySem.mem_of_lookup h1) (PySem.mem_of_lookup h2)
 ·have hy:scope.names.lookup y=some .cell\/scope.names.lookup y=some .free:=hy
  rcases hy with hy | hy
  ·exact jbt hy
  ·exact absurd rfl (S.nofree _ (PySem.mem_of_lookup hy))
 ·exact Nat.le_of_lt (x.above y c (PySem.mem_of_lookup h))
 ·have hi:i<vs.length:=by
   unfold zbn at h2
   by_cases hi:i<vs.length
   ·exact hi
   ·rw[List.getElem?_append_right (by simpa using hi)]at h2
    rw[List.getElem?_replicate]at h2
    split at h2<;>cases h2
  have ha:vs[i]? =some v:=by
   unfold zbn at h2
   rw[List.getElem?_append_left (by simpa using hi),List.getElem?_map]at h2
   cases e:vs[i]? with
   | none=>rw[e]at h2;cases h2
   | some a=>rw[e]at h2;cases h2;rfl
  obtain⟨u,hu,rv⟩:=r.get ha
  have hp:ps[i]? =some y:=by
   rw[<-S.pre,List.getElem?_take_of_lt (by omega)];exact h1
  have ndP:ps.Nodup:=by rw[<-S.pre];exact S.nd.sublist (List.take_sublist _ _)
  refine⟨u,rv,?_⟩
  rcases S.par y (List.mem_of_getElem? hp)with k | k
  ·exact .inl ⟨k,z8h ndP hp hu k⟩
  ·obtain⟨c,e⟩:=jbt (n:=s.heap.objs.size+1) k
   refine .inr ⟨.inl k,c,e,?_⟩
   have q:=x.cell y c e
   rw[z8i ndP hp hu (by show scope.names.lookup y≠_;rw[k];decide)]at q
   exact q
 ·exact e0.hok.fresh (Nat.le_of_lt (x.above y c (PySem.mem_of_lookup h)))
 ·unfold zbn
  show _=N.length
  rw[List.length_append,List.length_map,List.length_replicate]
  omega
theorem jn3{CX:CXT}{P:Program}{w:World}{K:W.Frag}{mg:Str->Option Value}{base:Heap}{k:Nat}{f:Addr}{name qual:Str}{params:Arguments}{body:List Stmt}{scope:Scope}{dV kV doc pm cdv ct oc:Value}{an od:Option Addr}
  {osl:Array (Option Value)} {N ps:List Str} {sp:Sp} (lk:K.lookup f=some ⟨oc,od,.func (W.fnOf name qual params body scope dV kV doc pm an cdv ct),osl⟩) (hcd:W.codeIn K cdv qual=true) (S:zaq N ps scope)
  (len:∀ vs H Q E,sp vs H Q E->vs.length=ps.length)
  (hbody:∀ (A:Around) (outer:List Env) (s:Shared) (H:Hp) (vs:List V) (Q:VK) (E:XK),Room k (A.deeper (envOfC qual scope s.heap.objs.size f cdv))->sp vs H Q E →
   ∃ t,PSs (zfi CX P w K mg base N qual scope f cdv A outer s H E) body t/\t { nx:=λ_ H'=>Q .non H',rt:=Q } (zbn N vs) H) :
  FnOk P w K mg base CX (k+1) f (W.fnOf name qual params body scope dV kV doc pm an cdv ct) ps sp:=by
 refine⟨len,λA outer s H args us vs Q E hr e0 hb r hsp=> ?_⟩
 have hl:=len _ _ _ _ hsp
 have KX:K.In s.heap:=e0.mod.kin.keeps λb o e=>(e0.bs b o e).1
 have lim:s.heap.NoLimit:=e0.mod.nolimit.keeps λb o e=>(e0.bs b o e).1
 have hkind:∀ y∈ps.zip us,scope.names.lookup y.1=some .local\/(scope.names.lookup y.1=some .cell/\((cellsFrom (s.heap.objs.size+1) scope.names []).lookup y.1).isSome=true):=λ⟨n,v⟩ hy=>by
  rcases S.par n (List.of_mem_zip hy).1 with q | q
  ·exact .inl q
  ·exact .inr ⟨q,W.cellsFrom_some _ _ _ (.inl q)⟩
 refine codeAny_call_function hr.depth (KX _ _ lk) rfl S.co S.gen rfl (W.codeRec_of KX hcd) (hb _ _ _ _ ?_)
 refine wpAny_newFunctionEnv_cells S.kind hkind λenv he s1 x=> ?_
 subst he
 refine⟨lim.keeps x.toInCall.keep,codeAny_func ?_⟩
 obtain⟨t,ht,hq⟩:=hbody A outer s H vs Q E (hr.deeper _) hsp
 have I:Inv (zfi CX P w K mg base N qual scope f cdv A outer s H E) [] (zbn N vs) H s1:=jd9 S hr.hd e0 hl r x
 refine wpAny_mono (ht [] s1 (zbn N vs) H _ I hq) (λfl s' hs=> ?_) λe s' hs=>hs
 have fin:∀ {σ':St} {H':Hp} {v:V} {u:Value},Inv (zfi CX P w K mg base N qual scope f cdv A outer s H E) [] σ' H' s'->RelV v u->Q v H'->CE outer P w H s Q u s' :=
  λ{σ' H' v u} J rv q=>⟨v,H',J.os,J.bare,J.base,J.hok,rv,q⟩
 cases fl with
 | ret u =>
  obtain⟨v,σ',H',J,rv,q⟩:=hs
  exact fin J rv q
 | next =>
  obtain⟨σ',H',J,q⟩:=hs
  exact fin (v:=V.non) (u:=Value.none) J rfl q
 | brk =>
  obtain⟨_,_,_,q⟩:=hs
  exact False.elim q
 | cont =>
  obtain⟨_,_,_,q⟩:=hs
  exact False.elim q
end L2
namespace L2
section
variable{X:Cx}{x:Str}{p pos:Pos}{e:Expr}{es:List Expr}{t:TA}{id T:String}{r:List V->Hp->VK->Prop}
def tCB(r:List V->Hp->VK->Prop)(t:TA):TE:=λσ H Q=>t σ H λvs H1=>r vs H1 Q
theorem zcm(hc:zrl X (.builtin id) r)(hg:Gl X x)(hm:X.mg x=none)(hv:bootBuiltins x=some (.builtin id))(ha:PA X (e::es) t)(hn:x≠"__name__":=by decide)(hdb:(x ==("__debug__":Str))=false:=by decide)
  (he:starEach (e::es) X.env=(false,eval e X.env)::starEach es X.env:=by rfl) (hpl:(backTo pos (starEach es X.env)).any (·.1)=false:=by rfl):PE X (.Call (.Name x p) (e::es) [] pos) (tCB r t):=by
 intro pins s σ H Q I h
 refine wpAny_Call_Name_kw (z8a I hg hm hv ?_ hn hdb)
 exact PyProof.Rows.callWith_builtin1 (thn (ha pos pins s σ H _ I h) λus s1 ⟨vs,H1,I1,r1,q1⟩=>hc pins s1 σ H1 vs us Q I1 r1 q1) he hpl
theorem zhc(hc:zrl X (.type T) r)(hg:Gl X x)(hm:X.mg x=none)(hv:bootBuiltins x=some (.type T))(ha:PA X (e::es) t)(hn:x≠"__name__":=by decide)(hdb:(x ==("__debug__":Str))=false:=by decide)
  (he:starEach (e::es) X.env=(false,eval e X.env)::starEach es X.env:=by rfl) (hpl:(backTo pos (starEach es X.env)).any (·.1)=false:=by rfl):PE X (.Call (.Name x p) (e::es) [] pos) (tCB r t):=by
 intro pins s σ H Q I h
 refine wpAny_Call_Name_kw (z8a I hg hm hv ?_ hn hdb)
 exact PyProof.Rows.callWith_type1 (thn (ha pos pins s σ H _ I h) λus s1 ⟨vs,H1,I1,r1,q1⟩=>hc pins s1 σ H1 vs us Q I1 r1 q1) he hpl
end
end L2
namespace HT
open PySem PyProof.Rows
section
open PySem.SeqAt
open PySem.AutoSeq1 (wpAny_loadPart')
open PySem.MeetsSeq PySem.MeetsSeq2 PySem.MeetsSeq3
end
section
variable{prog:Program}{w:World}{A:Around}{E:Value->Shared->Prop}{s:Shared}
theorem cat_tup{t b:Addr}{vs ws:List Value}{Q:Value->Shared->Prop}(ht:IsTup s.heap t vs.toArray)(hb:IsTup s.heap b ws.toArray)(hv:vs≠[])
  (h1:ws=[]->Q (.ref t) s) (h2:ws≠[]->Q (.ref s.heap.objs.size) { s with heap:=s.heap.push { cls:=.type "tuple",data:=.seq (vs++ws).toArray } })
  (hsz:vs.length+ws.length<=sizeLine):wpAny (model prog w) A (binaryOp .Add (.ref t) (.ref b)) Q E s:=by
 obtain⟨⟨cls,dd,data,sl⟩,ho,hc,n,hd⟩:=id ht
 obtain⟨⟨cls2,dd2,data2,sl2⟩,ho2,hc2,n2,hd2⟩:=id hb
 simp only at hc hd hc2 hd2
 subst hc hd hc2 hd2
 have e:vs.toArray++ws.toArray=(vs++ws).toArray:=by simp
 by_cases hw:ws=[]
 ·exact concat_meets ⟨_,ho,rfl⟩ ⟨_,ho2,rfl⟩ noFill_tuple_add seq_tuple_add PySem.F.slot_tuple_add PySem.F.entry_tuple_add (PySem.F.args_tuple_add_2 _ _)
   (tuple_addW1 t b vs.toArray ws.toArray n n2 dd dd2 sl sl2 (by simpa using hv) (by simp[hw])) ⟨ho,ho2,h1 hw⟩
 ·refine concat_meets ⟨_,ho,rfl⟩ ⟨_,ho2,rfl⟩ noFill_tuple_add seq_tuple_add PySem.F.slot_tuple_add PySem.F.entry_tuple_add (PySem.F.args_tuple_add_2 _ _)
   (tuple_addW2 t b vs.toArray ws.toArray n n2 dd dd2 sl sl2 (by simpa using hv) (by simpa using hw) (by rw[List.size_toArray,List.size_toArray];exact hsz)) ⟨ho,ho2,?_⟩
  rw[e]
  exact h2 hw
def sIx(n d:Nat):Option Int->Nat
 | none=>d
 | some v=>if v<0 then(v+(n:Int)).toNat else min v.toNat n
theorem jlg(n d:Nat)(hd:d<=n)(o:Option Int):sIx n d o<=n:=by
 cases o with
 | none=>exact hd
 | some v =>
  show(if v<0 then(v+(n:Int)).toNat else min v.toNat n)<=n
  by_cases hv:v<0
  ·rw[if_pos hv];omega
  ·rw[if_neg hv];exact Nat.min_le_right _ _
theorem jea(v:Int)(n d:Nat):(if v<0 then max (v+(n:Int)) 0 else min v (n:Int))=((sIx n d (some v):Nat):Int):=by
 show(if v<0 then max (v+(n:Int)) 0 else min v (n:Int))=(((if v<0 then(v+(n:Int)).toNat else min v.toNat n):Nat):Int)
 by_cases hv:v<0
 ·simp only[if_pos hv];omega
 ·simp only[if_neg hv];omega
theorem jcx(lo hi:Option Int)(n:Nat):Builtin.Slice.sliceAdjust lo hi 1 (n:Int)=(((sIx n 0 lo:Nat):Int),((sIx n n hi:Nat):Int)):=by
 have h1:¬ ((1:Int)<0):=by omega
 unfold Builtin.Slice.sliceAdjust
 simp only[h1,if_false]
 refine Prod.ext ?_ ?_
 ·cases lo with
  | none=>rfl
  | some v=>exact jea v n 0
 ·cases hi with
  | none=>rfl
  | some v=>exact jea v n n
theorem jcy(i j:Nat):Builtin.Slice.slicePlaces (i:Int) (j:Int) 1=j - i:=by
 unfold Builtin.Slice.slicePlaces
 have h1:(1:Int) > 0:=by omega
 simp only[h1,if_true,Int.ediv_one]
 split<;>omega
theorem z54{v:Value}{o:Option Int}{Q:Option Int->Shared->Prop}(p:IsPart v o)(h:Q o s):wpAny (model prog w) A (Builtin.Slice.slicePartIndex v) Q E s:=by
 cases p with
 | none=>exact slicePart_none h
 | int i t=>exact slicePart_int h
theorem z0l{sl:Addr}{vl vu:Value}{lo hi:Option Int}{n:Nat}{Q:Int × Int × Nat->Shared->Prop}(hs:s.heap.IsSliceOf sl vl vu .none)(pl:IsPart vl lo)(pu:IsPart vu hi)
  (h:Q (((sIx n 0 lo:Nat):Int),1,sIx n n hi - sIx n 0 lo) s):wpAny (model prog w) A (Builtin.Slice.sliceApplied (.ref sl) (pure (n:Int))) Q E s:=by
 obtain⟨os,hos,hcs,hds⟩:=id hs
 unfold Builtin.Slice.sliceApplied Builtin.Slice.sliceFields
 refine wpAny_bind (wpAny_bind (wpAny_field hos hds (x:=vl) rfl (wpAny_bind (wpAny_field hos hds (x:=vu) rfl (wpAny_bind (wpAny_field hos hds (x:=.none) rfl (wpAny_pure ?_)))))))
 refine wpAny_bind (slicePart_none ?_)
 show wpAny _ _ (if((1:Int) == 0)=true then _ else _) _ _ s
 rw[if_neg (by decide)]
 refine wpAny_bind (z54 pl (wpAny_bind (z54 pu (wpAny_bind (wpAny_pure ?_)))))
 show wpAny _ _ (match Builtin.Slice.sliceAdjust lo hi 1 (n:Int)with | (lo,hi)=>pure (lo,(1:Int),Builtin.Slice.slicePlaces lo hi 1)) _ _ s
 rw[jcx lo hi n]
 show wpAny _ _ (pure (((sIx n 0 lo:Nat):Int),(1:Int),Builtin.Slice.slicePlaces ((sIx n 0 lo:Nat):Int) ((sIx n n hi:Nat):Int) 1)) _ _ s
 rw[jcy]
 exact wpAny_pure h
theorem jg0(xs:Array Value)(i k:Nat):((List.range k).filterMap λ(m:Nat)=>xs[((i:Int)+(m:Int) * 1).toNat]?).toArray=((xs.toList.drop i).take k).toArray:=by
 have e:(λ(m:Nat)=>xs[((i:Int)+(m:Int) * 1).toNat]?)=λm=>xs[i+m]? :=by
  funext m
  have:((i:Int)+(m:Int) * 1).toNat=i+m:=by omega
  rw[this]
 rw[e]
 have:=pick_run xs i k
 rw[List.filterMap_map]at this
 have e2:((λx=>xs[x]?) ∘ λx=>i+x)=λm=>xs[i+m]? :=rfl
 rw[e2]at this
 rw[this]
theorem getItem_tuple_cut{t sl:Addr}{items:Array Value}{vl vu:Value}{lo hi:Option Int}{Q:Value->Shared->Prop}(ht:IsTup s.heap t items)(hs:s.heap.IsSliceOf sl vl vu .none)(pl:IsPart vl lo)(pu:IsPart vu hi)
  (hw:¬ (sIx items.size 0 lo=0/\sIx items.size items.size hi=items.size))
  (h:Q (.ref s.heap.objs.size) { s with heap:=s.heap.push { cls:=.type "tuple",data:=.seq ((items.toList.drop (sIx items.size 0 lo)).take (sIx items.size items.size hi - sIx items.size 0 lo)).toArray } })
  (hsz:items.size<=sizeLine):wpAny (model prog w) A (getItem (.ref t) (.ref sl)) Q E s:=by
 have htake:sizeOk (.seq ((items.toList.drop (sIx items.size 0 lo)).take (sIx items.size items.size hi - sIx items.size 0 lo)).toArray):=by
  show((items.toList.drop (sIx items.size 0 lo)).take (sIx items.size items.size hi - sIx items.size 0 lo)).toArray.size<=sizeLine
  rw[List.size_toArray,List.length_take,List.length_drop,Array.length_toList]
  omega
 have hj:sIx items.size items.size hi<=items.size:=jlg _ _ (Nat.le_refl _) hi
 obtain⟨os,hos,hcs,hds⟩:=id hs
 have hTs:s.TypeIs (.ref sl) "slice":=⟨os,hos,hcs⟩
 unfold getItem
 try with_reducible refine wpAny_holding ?_
 first | refine wpAny_bind (wpAny_pure ?_) | skip
 refine wpAny_bind (wpAny_sequenceKey ht.typeIs (by decide) ?_)
 refine wpAny_bind (wpAny_callSpecial?_slot (name:=Str.ofString "__getitem__") ht.typeIs PyProof.Rows.slot_tuple_getitem
  (wpAny_call_entry PyProof.Rows.slot_tuple_getitem ht.typeIs entry_tuple_getitem ?_ (args_tuple_getitem _ _)))
 show wpAny _ _ (Builtin.Tuple.tupleItemsOf (.ref t) >>= _) _ _ s
 refine wpAny_bind (tupleItemsOf_ ht ?_)
 refine wpAny_bind (wpAny_typeOf hTs ?_)
 rw[if_pos (by decide)]
 refine wpAny_bind (z0l hs pl pu ?_)
 have hno:¬ ((((sIx items.size 0 lo:Nat):Int) == 0 && (1:Int) == 1 && (sIx items.size items.size hi - sIx items.size 0 lo) == items.size)=true):=by
  intro q
  rw[Bool.and_eq_true,Bool.and_eq_true]at q
  have q1:((sIx items.size 0 lo:Nat):Int)=0:=eq_of_beq q.1.1
  have q2:sIx items.size items.size hi - sIx items.size 0 lo=items.size:=eq_of_beq q.2
  exact hw ⟨by omega,by omega⟩
 show wpAny _ _ (if(((sIx items.size 0 lo:Nat):Int) == 0 && (1:Int) == 1 && (sIx items.size items.size hi - sIx items.size 0 lo) == items.size)=true then _ else _) _ _ s
 rw[if_neg hno,jg0]
 first
  | exact wpAny_bind (m:=Builtin.Tuple.tupleExact _) (wpAny_newObj_type (wpAny_pure ⟨_,rfl,wpAny_pure h⟩) htake)
  | exact wpAny_bind (m:=Builtin.Tuple.tupleExact _) (wpAny_newObj_type (wpAny_bind (wpAny_pure (wpAny_pure ⟨_,rfl,wpAny_pure h⟩))) htake)
  | exact wpAny_bind (wpAny_bind (m:=Builtin.Tuple.tupleExact _) (wpAny_newObj_type (wpAny_pure (wpAny_pure ⟨_,rfl,wpAny_pure h⟩)) htake))
  | exact wpAny_bind (wpAny_bind (m:=Builtin.Tuple.tupleExact _) (wpAny_newObj_type (wpAny_pure ⟨_,rfl,wpAny_pure h⟩) htake))
end
end HT
namespace L2
abbrev TO:=St->Hp->(Option Int->Hp->Prop)->Prop
def PO(X:Cx)(e:Option Expr)(t:TO):Prop :=
 ∀ (pins:List (Addr × Obj)) (s:Shared) (σ:St) (H:Hp) (Q:Option Int->Hp->Prop),Inv X pins σ H s->t σ H Q →
  wpAny (model X.prog X.w) X.A (evalPart e X.env) (λu s'=>∃ o H',Inv X pins σ H' s'/\IsPart u o/\Q o H') X.xe s
def zh6:TO:=λ_ H Q=>Q none H
def zxz(t:TE):TO:=λσ H Q=>t σ H λx H1=>∃ i,x=.int i/\Q (some i) H1
section
variable{X:Cx}{e:Expr}{te:TE}{lo hi:Option Expr}{tl th:TO}{pos p2:Pos}
theorem zkb:PO X none zh6:=by
 intro pins s σ H Q I h
 rw[evalPart_none]
 exact wpAny_pure ⟨none,H,I,.none,h⟩
theorem zkc(h:PE X e te):PO X (some e) (zxz te):=by
 intro pins s σ H Q I hw
 rw[evalPart_some]
 refine thn (h pins s σ H _ I hw) λu s1 ⟨x,H1,I1,r1,q1⟩=> ?_
 obtain⟨i,rfl,q⟩:=q1
 obtain⟨t,rfl⟩:=r1
 exact⟨some i,H1,I1,.int i t,q⟩
def SlR(X:Cx)(r:V->Option Int->Option Int->Hp->VK->Prop):Prop :=
 ∀ (pins:List (Addr × Obj)) (s:Shared) (σ:St) (H:Hp) (x:V) (v vl vu:Value) (lo hi:Option Int) (sl:Addr) (Q:VK),Inv X pins σ H s->RelV x v->s.heap.IsSliceOf sl vl vu .none->IsPart vl lo->IsPart vu hi->r x lo hi H Q →
  ∃ T id,typeLookup (.type T) "__getitem__"=pure (some (.builtin id))/\s.TypeIs v T/\wpAny (model X.prog X.w) X.A (getItem v (.ref sl)) (EP X pins σ Q) X.xe s
theorem SlR.or{r r':V->Option Int->Option Int->Hp->VK->Prop}(h:SlR X r)(h':SlR X r'):SlR X (λx lo hi H Q=>r x lo hi H Q\/r' x lo hi H Q):=by
 intro pins s σ H x v vl vu lo hi sl Q I rx hs pl pu q
 rcases q with q | q
 ·exact h pins s σ H x v vl vu lo hi sl Q I rx hs pl pu q
 ·exact h' pins s σ H x v vl vu lo hi sl Q I rx hs pl pu q
def tSl(r:V->Option Int->Option Int->Hp->VK->Prop)(te:TE)(tl th:TO):TE:=λσ H Q=>te σ H λx H1=>tl σ H1 λl H2=>th σ H2 λu H3=>r x l u H3 Q
theorem zhd{r:V->Option Int->Option Int->Hp->VK->Prop}(hr:SlR X r)(he:PE X e te)(hl:PO X lo tl)(hu:PO X hi th):PE X (.Subscript e (.Slice lo hi none p2) pos) (tSl r te tl th):=by
 intro pins s σ H Q I h
 refine Subscript_ (thn (he pins s σ H _ I h) λv s1 ⟨x,H1,I1,r1,q1⟩=> ?_)
 refine wpAny_Slice (thn (hl pins s1 σ H1 _ I1 q1) λvl s2 ⟨l,H2,I2,pl,q2⟩=>thn (hu pins s2 σ H2 _ I2 q2) λvu s3 ⟨u,H3,I3,pu,q3⟩=> ?_)
 rw[evalPart_none]
 refine wpAny_pure ?_
 have I4:Inv X pins σ H3 { s3 with heap:=s3.heap.push { cls:=.type "slice",data:=.fields #[vl,vu,.none] } }:=I3.kept (t':=s3.toks) λb ob q=>Heap.get?_push_of_some _ q
 obtain⟨T,id,hT,ht,hg⟩:=hr pins { s3 with heap:=s3.heap.push { cls:=.type "slice",data:=.fields #[vl,vu,.none] } } σ H3 x v vl vu l u s3.heap.objs.size Q I4 r1 (Heap.IsSliceOf.new ..) pl pu q3
 show wpAny (model X.prog X.w) X.A (subscriptTail e (.Slice lo hi none p2) v (.ref s3.heap.objs.size)) (EP X pins σ Q) X.xe { s3 with heap:=s3.heap.push { cls:=.type "slice",data:=.fields #[vl,vu,.none] } }
 exact tail_any (ops:=[.ref s3.heap.objs.size,v]) ht hT hg (by with_unfolding_all rfl)
def jg1(xs:List V)(lo hi:Option Int):List V:=(xs.drop (HT.sIx xs.length 0 lo)).take (HT.sIx xs.length xs.length hi - HT.sIx xs.length 0 lo)
theorem z2n(xs:List V)(lo hi:Option Int):(jg1 xs lo hi).length<=xs.length:=by
 unfold jg1
 rw[List.length_take,List.length_drop]
 omega
def jov(K:W.Frag):V->Option Int->Option Int->Hp->VK->Prop:=λx lo hi H Q=>∃ a xs,x=.ref a/\SqT K H a xs ∧
 ¬ (HT.sIx xs.length 0 lo=0/\HT.sIx xs.length xs.length hi=xs.length)/\∀ p,H p=none->Q (.ref p) (upd H p (.tup (jg1 xs lo hi)))
theorem jlh:SlR X (jov X.K):=by
 intro pins s σ H x v vl vu lo hi sl Q I rx hs pl pu h
 obtain⟨a,xs,rfl,hx,hw,q⟩:=h
 cases rx
 obtain⟨its,r,ht,hz⟩:=I.tuple hx
 have hlen:its.toArray.size=xs.length:=by rw[List.size_toArray];exact r.length.symm
 refine⟨"tuple",_,PyProof.Rows.slot_tuple_getitem.lookup,ht.typeIs,?_⟩
 refine HT.getItem_tuple_cut ht hs pl pu (by rw[hlen];exact hw) ?_ (by rw[hlen];exact hz)
 rw[hlen]
 refine⟨.ref s.heap.objs.size,_,I.laid (t':=s.toks) (o:=.tup (jg1 xs lo hi)) (λb ob q=>Heap.get?_push_of_some _ q) (Nat.le_refl _) ?_,rfl,q _ (I.hok.fresh (Nat.le_refl _))⟩
 exact⟨Nat.le_trans (z2n xs lo hi) hz,_,(r.drop (HT.sIx xs.length 0 lo)).take (HT.sIx xs.length xs.length hi - HT.sIx xs.length 0 lo),IsTup.new _ _⟩
def jjf(K:W.Frag):R2:=λx y H Q=>∃ a b xs ys,x=.ref a/\y=.ref b/\SqT K H a xs/\SqT K H b ys/\xs≠[]/\xs.length+ys.length<=sizeLine ∧
 (ys=[]->Q (.ref a) H)/\(ys≠[]->∀ p,H p=none->Q (.ref p) (upd H p (.tup (xs++ys))))
theorem Vals.nil_iff{xs:List V}{us:List Value}(r:Vals xs us):us=[]↔xs=[]:=by
 cases r with
 | nil=>simp
 | cons _ _=>simp
theorem jjg:OpR X (binaryOp .Add) (jjf X.K):=by
 intro pins s σ H x y v u Q I rx ry h
 obtain⟨a,b,xs,ys,rfl,rfl,ha,hb,hx,hz,q1,q2⟩:=h
 cases rx
 cases ry
 obtain⟨its,r1,p1,_⟩:=I.tuple ha
 obtain⟨its2,r2,p2,_⟩:=I.tuple hb
 refine HT.cat_tup p1 p2 (λz=>hx (r1.nil_iff.mp z)) (λz=>⟨.ref a,H,I,rfl,q1 (r2.nil_iff.mp z)⟩) (λz=> ?_) (by rw[<-r1.length,<-r2.length];exact hz)
 refine⟨.ref s.heap.objs.size,_,I.laid (t':=s.toks) (o:=.tup (xs++ys)) (λb ob q=>Heap.get?_push_of_some _ q) (Nat.le_refl _) ?_,rfl,q2 (λw=>z (r2.nil_iff.mpr w)) _ (I.hok.fresh (Nat.le_refl _))⟩
 exact⟨by rw[List.length_append];exact hz,_,r1.append r2,IsTup.new _ _⟩
end
end L2
namespace L2
def ixN(n:Nat)(i:Int):Option Nat:=if 0<=i then(if i<n then some i.toNat else none)else if -(n:Int)<=i then some (i+n).toNat else none
def atI{α :Type}(xs:List α)(i:Int):Option α :=(ixN xs.length i).bind λj=>xs[j]?
theorem jeb{n:Nat}{i:Int}{j:Nat}(h:ixN n i=some j):seqIndex? i n=some j/\j<n/\ -(n:Int)<=i/\i<n:=by
 unfold ixN at h
 by_cases h0:0<=i
 ·rw[if_pos h0]at h
  by_cases h1:i<n
  ·rw[if_pos h1]at h
   have e:i.toNat=j:=Option.some.inj h
   exact⟨by rw[seqIndex_of h0 h1,e],by omega,by omega,h1⟩
  ·rw[if_neg h1]at h;cases h
 ·rw[if_neg h0]at h
  by_cases h1: -(n:Int)<=i
  ·rw[if_pos h1]at h
   have e:(i+n).toNat=j:=Option.some.inj h
   exact⟨by rw[seqIndex_neg (by omega) h1,e],by omega,h1,by omega⟩
  ·rw[if_neg h1]at h;cases h
theorem jak{α :Type}{xs:List α}{i:Int}{v: α}(h:atI xs i=some v):∃ j,seqIndex? i xs.length=some j/\xs[j]? =some v/\j<xs.length/\ -(xs.length:Int)<=i/\i<xs.length:=by
 unfold atI at h
 cases e:ixN xs.length i with
 | none=>rw[e]at h;cases h
 | some j =>
  rw[e]at h
  obtain⟨h1,h2,h3,h4⟩:=jeb e
  exact⟨j,h1,h,h2,h3,h4⟩
theorem z6l{α :Type}{xs:List α}{j:Nat}{v: α}(h:xs[j]? =some v):atI xs (j:Int)=some v:=by
 have hj:j<xs.length:=(List.getElem?_eq_some_iff.mp h).1
 have e:ixN xs.length (j:Int)=some j:=by
  unfold ixN
  rw[if_pos (by omega),if_pos (by omega)];simp
 unfold atI;rw[e];exact h
def jjh(b:Expr):Prop:=∀ o i,subscripted b false o i=operate [o,i] (getItem o i)
def IxR(X:Cx)(r:R2):Prop :=
 ∀ (value slice:Expr) (pins:List (Addr × Obj)) (s:Shared) (σ:St) (H:Hp) (x y:V) (v u:Value) (Q:VK),Inv X pins σ H s->RelV x v->RelV y u->r x y H Q →
  subscripted slice false v u=operate [v,u] (getItem v u)->wpAny (model X.prog X.w) X.A (subscriptTail value slice v u) (EP X pins σ Q) X.xe s
def MtR(X:Cx)(id:String)(r:V->List V->Hp->VK->Prop):Prop :=
 ∀ (pins:List (Addr × Obj)) (s:Shared) (σ:St) (H:Hp) (x:V) (xs:List V) (v:Value) (us:List Value) (Q:VK),Inv X pins σ H s->RelV x v->Vals xs us->r x xs H Q →
  wpAny (model X.prog X.w) X.A (call (.builtin id) (v::us)) (EP X pins σ Q) X.xe s
section
variable{X:Cx}{a b:Expr}{ta tb:TE}{pos:Pos}
theorem IxR.or{r r':R2}(h:IxR X r)(h':IxR X r'):IxR X (λx y H Q=>r x y H Q\/r' x y H Q):=by
 intro value slice pins s σ H x y v u Q I rx ry q hs
 rcases q with q | q
 ·exact h value slice pins s σ H x y v u Q I rx ry q hs
 ·exact h' value slice pins s σ H x y v u Q I rx ry q hs
theorem zdk{r:R2}(hr:IxR X r)(ha:PE X a ta)(hb:PE X b tb)(hs:jjh b):PE X (.Subscript a b pos) (tOp r ta tb):=by
 intro pins s σ H Q I h
 exact Subscript_ (jnv ha hb I h λv u s2 x y H2 I2 rx ry q=>hr a b pins s2 σ H2 x y v u Q I2 rx ry q (hs _ _))
def jow(K:W.Frag):R2:=λx y H Q=>∃ p xs i v,x=.ref p/\y=.int i/\SqL K H p xs/\atI xs i=some v/\Q v H
def jox(K:W.Frag):R2:=λx y H Q=>∃ p xs i v,x=.ref p/\y=.int i/\SqT K H p xs/\atI xs i=some v/\Q v H
def joy:R2:=λx y H Q=>∃ z i c,x=.str z/\y=.int i/\z.length<=sizeLine/\atI z.cps.toList i=some c/\Q (.str ⟨#[c]⟩) H
theorem jji:IxR X (jow X.K):=by
 intro value slice pins s σ H x y v u Q I rx ry h hs
 obtain⟨p,xs,i,z,rfl,rfl,hq,he,q⟩:=h
 cases rx
 obtain⟨t,rfl⟩:=ry
 obtain⟨its,r,pl,hz⟩:=I.list hq
 obtain⟨j,h1,h2,h3,h4,h5⟩:=jak he
 obtain⟨w,ew,rw'⟩:=r.get h2
 have hl:=r.length
 have hn:=z5z
 have fin:EP X pins σ Q w s:=⟨z,H,I,rw',q⟩
 by_cases h0:0<=i
 ·have hj:i.toNat=j:=by
   rw[seqIndex_of h0 h5]at h1
   exact Option.some.inj h1
  exact item_listR pl.isList h0 (by omega) (by rw[hj];simpa using ew) fin hs
 ·have hj:(i+(its.toArray.size:Int)).toNat=j:=by
   rw[seqIndex_neg (by omega) h4]at h1
   rw[List.size_toArray,<-hl]
   exact Option.some.inj h1
  exact subscriptTail_builtinR (x:=w) pl.isList.typeIs slot_list_getitem.lookup
   (wpAny_getItem_list_neg (Q:=λr s'=>r=w/\EP X pins σ Q r s') pl.isList (by omega) (by rw[List.size_toArray]<;>omega) (by omega) (by rw[hj];simpa using ew) ⟨rfl,fin⟩) hs
theorem jli:IxR X (jox X.K):=by
 intro value slice pins s σ H x y v u Q I rx ry h hs
 obtain⟨p,xs,i,z,rfl,rfl,hq,he,q⟩:=h
 cases rx
 obtain⟨t,rfl⟩:=ry
 obtain⟨its,r,pl,hz⟩:=I.tuple hq
 obtain⟨j,h1,h2,h3,h4,h5⟩:=jak he
 obtain⟨w,ew,rw'⟩:=r.get h2
 have hl:=r.length
 have hn:=z5z
 have fin:EP X pins σ Q w s:=⟨z,H,I,rw',q⟩
 exact subscriptTail_builtinR (x:=w) pl.typeIs slot_tuple_getitem.lookup
  (getItem_tuple (j:=j) (Q:=λr s'=>r=w/\EP X pins σ Q r s') pl (by omega) (by omega) (by rw[List.size_toArray,<-hl];exact h1) (by simpa using ew) ⟨rfl,fin⟩) hs
theorem jlj:IxR X joy:=by
 intro value slice pins s σ H x y v u Q I rx ry h hs
 obtain⟨z,i,c,rfl,rfl,hz,he,q⟩:=h
 obtain⟨t,rfl⟩:=rx
 obtain⟨t',rfl⟩:=ry
 obtain⟨j,h1,h2,h3,h4,h5⟩:=jak he
 have hl:z.cps.toList.length=z.length:=by simp[Str.length]
 rw[hl]at h1 h4 h5
 have hn:=z5z
 exact tail_any (typeIs_str s z t) slot_str_getitem.lookup (getItem_str (c:=c) (by
  have e1:decide (i< -(2 ^ 63:Int))=false:=decide_eq_false (by omega)
  have e2:decide (i ≥ 2 ^ 63)=false:=decide_eq_false (by omega)
  rw[e1,e2,Bool.or_false]) (by rw[h1];simpa using h2) ⟨.str ⟨#[c]⟩,H,I.tok _,⟨_,rfl⟩,q⟩) hs
def rIx(K:W.Frag):R2:=λx y H Q=>jow K x y H Q\/jox K x y H Q\/joy x y H Q
theorem jlk:IxR X (rIx X.K):=jji.or (jli.or jlj)
theorem jcz(its:List Value)(n j:Nat)(u:Value):Obj.mapSeq (·.setIfInBounds j u) { cls:=.type "list",data:=.seq its.toArray n }={ cls:=.type "list",data:=.seq (its.set j u).toArray n }:=by
 simp[Obj.mapSeq]
theorem Inv.lst{pins:List (Addr × Obj)}{σ:St}{H:Hp}{s:Shared}{p:Addr}{xs:List V}(I:Inv X pins σ H s)(h:H p=some (.lst xs)) :
  ∃ (its:List Value) (n:Nat),Vals xs its/\s.heap.get? p=some { cls:=.type "list",data:=.seq its.toArray n }/\xs.length<=sizeLine:=by
 obtain⟨z,its,n,r,e⟩:=I.hok p _ h
 exact⟨its,n,r,e,z⟩
theorem Inv.lstUpd{pins:List (Addr × Obj)}{σ:St}{H:Hp}{s:Shared}{p:Addr}{xs ys:List V}{its its':List Value}{n n':Nat}{f:Obj->Obj}(I:Inv X pins σ H s)(h:H p=some (.lst xs))
  (ho:s.heap.get? p=some { cls:=.type "list",data:=.seq its.toArray n }) (hf:f { cls:=.type "list",data:=.seq its.toArray n }={ cls:=.type "list",data:=.seq its'.toArray n' }) (r:Vals ys its') (hz:ys.length<=sizeLine) (t:Nat) :
  Inv X pins σ (upd H p (.lst ys)) { s with heap:=s.heap.update p f,toks:=t }:=by
 have e:(s.heap.update p f).get? p=some { cls:=.type "list",data:=.seq its'.toArray n' }:=by
  rw[Heap.get?_update_self f ho (by rw[hf]<;>rfl),hf]
 refine I.write (x:=p) (e:=p) (by rw[h];trivial) (.inl rfl) (λb u hb q=>(Heap.get?_update_other _ _ (Ne.symm hb)).trans q) ⟨_,e⟩ ?_
 exact⟨hz,its',n',r,e⟩
def jll:V->V->V->Hp->(Hp->Prop)->Prop:=λo i v H Q=>∃ p xs k j,o=.ref p/\i=.int k/\H p=some (.lst xs)/\ixN xs.length k=some j/\Q (upd H p (.lst (xs.set j v)))
theorem jg2:jnu X jll:=by
 intro pins s σ H o i v ov iv u Q I ro ri rv h
 obtain⟨p,xs,k,j,rfl,rfl,hp,hj,q⟩:=h
 cases ro
 obtain⟨t,rfl⟩:=ri
 obtain⟨its,n,r,ho,hz⟩:=I.lst hp
 obtain⟨h1,h2,h3,h4⟩:=jeb hj
 have hl:=r.length
 have hn:=z5z
 have I':Inv X pins σ (upd H p (.lst (xs.set j v))) { s with heap:=s.heap.update p (Obj.mapSeq (·.setIfInBounds j u)) } :=
  I.lstUpd hp ho (jcz its n j u) (r.set rv j) (by rw[List.length_set];exact hz) s.toks
 by_cases h0:0<=k
 ·have hk:k.toNat=j:=by
   rw[seqIndex_of h0 h4]at h1
   exact Option.some.inj h1
  exact W.ki_setAt ho h0 (by omega) (by rw[List.size_toArray,<-hl];exact h4) (by rw[hk];exact⟨_,I',q⟩)
 ·have hk:(k+(its.toArray.size:Int)).toNat=j:=by
   rw[seqIndex_neg (by omega) h3]at h1
   rw[List.size_toArray,<-hl]
   exact Option.some.inj h1
  exact W.ki_setBack ho (by omega) (by rw[List.size_toArray,<-hl];exact h3) (by omega) (by rw[hk];exact⟨_,I',q⟩)
theorem z8j(lo hi:Option Int)(n:Nat):(sliceBounds lo hi none n).1=((HT.sIx n 0 lo:Nat):Int)/\(sliceBounds lo hi none n).2.1=((HT.sIx n n hi:Nat):Int)/\(sliceBounds lo hi none n).2.2=1:=by
 refine⟨?_,?_,rfl⟩
 ·cases lo with
  | none=>simp[sliceBounds,HT.sIx]
  | some i =>
   simp only[sliceBounds,HT.sIx,Option.getD_none,show(1:Int) > 0 by decide,if_true]
   by_cases h:i<0
   ·simp only[h,if_true]<;>omega
   ·simp only[h,if_false]<;>omega
 ·cases hi with
  | none=>simp[sliceBounds,HT.sIx]
  | some i =>
   simp only[sliceBounds,HT.sIx,Option.getD_none,show(1:Int) > 0 by decide,if_true]
   by_cases h:i<0
   ·simp only[h,if_true]<;>omega
   ·simp only[h,if_false]<;>omega
theorem z6m(its:List Value)(lo hi:Option Int):slicePick its.toArray lo hi none=((its.drop (HT.sIx its.length 0 lo)).take (HT.sIx its.length its.length hi - HT.sIx its.length 0 lo)).toArray:=by
 obtain⟨h1,h2,h3⟩:=z8j lo hi its.toArray.size
 unfold slicePick
 rw[h1,h2,h3]
 simp only[sliceRange_one,pick_run,List.size_toArray]<;>rfl
def joz(K:W.Frag):V->Option Int->Option Int->Hp->VK->Prop:=λx lo hi H Q=>∃ a xs,x=.ref a/\SqL K H a xs/\∀ p,H p=none->Q (.ref p) (upd H p (.lst (jg1 xs lo hi)))
theorem jjj:SlR X (joz X.K):=by
 intro pins s σ H x v vl vu lo hi sl Q I rx hs pl pu h
 obtain⟨a,xs,rfl,hx,q⟩:=h
 cases rx
 obtain⟨its,r,ht,hz⟩:=I.list hx
 have hlen:=r.length
 refine⟨"list",_,slot_list_getitem.lookup,ht.isList.typeIs,?_⟩
 refine wpAny_getItem_list_slice ht.isList hs pl pu .none (by simp) ?_ (by rw[List.size_toArray]<;>omega)
 rw[z6m,<-hlen]
 refine⟨.ref s.heap.objs.size,_,I.laid (t':=s.toks) (o:=.lst (jg1 xs lo hi)) (λb ob q=>Heap.get?_push_of_some _ q) (Nat.le_refl _) ?_,rfl,q _ (I.hok.fresh (Nat.le_refl _))⟩
 exact⟨Nat.le_trans (z2n xs lo hi) hz,_,0,(r.drop (HT.sIx xs.length 0 lo)).take (HT.sIx xs.length xs.length hi - HT.sIx xs.length 0 lo),Heap.get?_push_size _ rfl⟩
def z0m:V->Bool
 | .non=>true
 | .bl _=>true
 | .int _=>true
 | .str _=>true
 | _=>false
def eqV:V->V->Bool
 | .non,.non=>true
 | .bl a,.bl b=>a == b
 | .bl a,.int b=>(if a then 1 else 0) == b
 | .int a,.bl b=>a ==(if b then 1 else 0)
 | .int a,.int b=>a == b
 | .str a,.str b=>a == b
 | _,_=>false
theorem jlm{A:Around}{s:Shared}{y x:V}{u v:Value}(ry:RelV y u)(rx:RelV x v)(fy:z0m y=true)(fx:z0m x=true):SeqAt.EqAt A s u v (eqV y x):=by
 cases y with
 | non =>
  cases ry
  cases x with
  | non=>cases rx;exact SeqAt.EqAt.same _
  | bl b=>cases rx;exact SeqAt.EqAt.none_bool b
  | int b=>obtain⟨t,rfl⟩:=rx;exact SeqAt.EqAt.none_int b t
  | str b=>obtain⟨t,rfl⟩:=rx;exact SeqAt.EqAt.none_str b t
  | _=>exact absurd (show false=true from fx) Bool.false_ne_true
 | bl a =>
  cases ry
  cases x with
  | non=>cases rx;exact SeqAt.EqAt.bool_none a
  | bl b=>cases rx;exact SeqAt.EqAt.bool_bool a b
  | int b=>obtain⟨t,rfl⟩:=rx;exact SeqAt.EqAt.bool_int a b t
  | str b=>obtain⟨t,rfl⟩:=rx;exact SeqAt.EqAt.bool_str a b t
  | _=>exact absurd (show false=true from fx) Bool.false_ne_true
 | int a =>
  obtain⟨t',rfl⟩:=ry
  cases x with
  | non=>cases rx;exact SeqAt.EqAt.int_none a t'
  | bl b=>cases rx;exact SeqAt.EqAt.int_bool a t' b
  | int b=>obtain⟨t,rfl⟩:=rx;exact SeqAt.EqAt.int_int a t' b t
  | str b=>obtain⟨t,rfl⟩:=rx;exact SeqAt.EqAt.int_str a t' b t
  | _=>exact absurd (show false=true from fx) Bool.false_ne_true
 | str a =>
  obtain⟨t',rfl⟩:=ry
  cases x with
  | non=>cases rx;exact SeqAt.EqAt.str_none a t'
  | bl b=>cases rx;exact SeqAt.EqAt.str_bool a t' b
  | int b=>obtain⟨t,rfl⟩:=rx;exact SeqAt.EqAt.str_int a t' b t
  | str b=>obtain⟨t,rfl⟩:=rx;exact SeqAt.EqAt.str_str a t' b t
  | _=>exact absurd (show false=true from fx) Bool.false_ne_true
 | _=>exact absurd (show false=true from fy) Bool.false_ne_true
def eqU(x:V)(u:Value):Bool:=match u with
 | .none=>eqV .non x
 | .bool b=>eqV (.bl b) x
 | .int i _=>eqV (.int i) x
 | .str z _=>eqV (.str z) x
 | _=>false
theorem jio{x y:V}{u:Value}(r:RelV y u)(f:z0m y=true):eqU x u=eqV y x:=by
 cases y with
 | non=>cases r;rfl
 | bl b=>cases r;rfl
 | int i=>obtain⟨t,rfl⟩:=r;rfl
 | str z=>obtain⟨t,rfl⟩:=r;rfl
 | _=>exact absurd (show false=true from f) Bool.false_ne_true
theorem jal{x:V}:∀ {xs:List V} {us:List Value},Vals xs us->xs.all z0m=true->us.any (eqU x)=xs.any λy=>eqV y x
 | _,_,.nil,_=>rfl
 | y::xs,u::us,.cons r t,f=>by
  rw[List.all_cons,Bool.and_eq_true]at f
  rw[List.any_cons,List.any_cons,jio r f.1,jal t f.2]
theorem z6n{A:Around}{s:Shared}{x:V}{v:Value}(rx:RelV x v)(fx:z0m x=true):∀ {xs:List V} {us:List Value},Vals xs us->xs.all z0m=true->∀ u∈us,SeqAt.EqAt A s u v (eqU x u)
 | _,_,.nil,_=>λu hu=>by cases hu
 | y::xs,u::us,.cons r t,f=>λu' hu=>by
  rw[List.all_cons,Bool.and_eq_true]at f
  rcases List.mem_cons.mp hu with rfl | hu
  ·rw[jio r f.1];exact jlm r rx f.1 fx
  ·exact z6n rx fx t f.2 u' hu
def inV(x:V)(xs:List V):Bool:=xs.any λy=>eqV y x
def rIn(K:W.Frag)(neg:Bool):R2:=λx y H Q=>∃ p xs,y=.ref p/\(SqL K H p xs\/SqT K H p xs)/\z0m x=true/\xs.all z0m=true/\Q (.bl (if neg then !inV x xs else inV x xs)) H
theorem jec:OpR X (compareOp .In) (rIn X.K false):=by
 intro pins s σ H x y v u Q I rx ry h
 obtain⟨p,xs,rfl,hq,fx,fs,q⟩:=h
 cases ry
 rcases hq with hq | hq
 ·obtain⟨its,r,pl,hz⟩:=I.list hq
  refine SeqAt.in_listAt (eqU x) pl.isList (λw hw=>z6n rx fx r fs w (by simpa using hw)) ⟨.bl _,H,I,rfl,?_⟩
  rw[show its.toArray.any (eqU x)=its.any (eqU x) by simp,jal r fs]
  exact q
 ·obtain⟨its,r,pl,hz⟩:=I.tuple hq
  refine SeqAt.in_tupleAt (eqU x) pl (λw hw=>z6n rx fx r fs w (by simpa using hw)) ⟨.bl _,H,I,rfl,?_⟩
  rw[show its.toArray.any (eqU x)=its.any (eqU x) by simp,jal r fs]
  exact q
theorem z8k:zrl X (.type "list") (λxs H Q=>∃ p ys,xs=[.ref p]/\(SqL X.K H p ys\/SqT X.K H p ys)/\∀ l,H l=none->Q (.ref l) (upd H l (.lst ys))):=by
 intro pins s σ H xs us Q I r h
 obtain⟨p,ys,rfl,hq,q⟩:=h
 obtain⟨u,rfl,rx⟩:=z4k r
 cases rx
 have fin:∀ (its:List Value),Vals ys its->ys.length<=sizeLine->∀ (h':Heap) (c':Nat),(∀ b o',s.heap.get? b=some o'->h'.get? b=some o') →
   h'.get? s.heap.objs.size=some { cls:=.type "list",dict:=none,data:=.seq its.toArray c',slots:= #[] }->EP X pins σ Q (.ref s.heap.objs.size) { s with heap:=h' }:=λits r' hz h' c' kp e =>
  ⟨.ref s.heap.objs.size,_,I.laid (t':=s.toks) kp (Nat.le_refl _) (show ObjOk X.prog X.w _ h' _ (.lst ys)from⟨hz,its,c',r',e⟩),rfl,q _ (I.hok.fresh (Nat.le_refl _))⟩
 rcases hq with hq | hq
 ·obtain⟨its,r',pl,hz⟩:=I.list hq
  have hlen:=r'.length
  obtain⟨o,ho,hc,n,hd⟩:=pl.isList
  exact call_list_seq p (.inl rfl) ho hc hd (λh' c' kp e=>fin its r' hz h' c' kp e) (by simp only[List.size_toArray]<;>omega)
 ·obtain⟨its,r',pl,hz⟩:=I.tuple hq
  have hlen:=r'.length
  obtain⟨o,ho,hc,n,hd⟩:=pl
  exact call_list_seq p (.inr rfl) ho hc hd (λh' c' kp e=>fin its r' hz h' c' kp e) (by simp only[List.size_toArray]<;>omega)
theorem z6o:zrl X (.type "tuple") (λxs H Q=>∃ p ys,xs=[.ref p]/\((SqL X.K H p ys/\∀ l,H l=none->Q (.ref l) (upd H l (.tup ys)))\/(SqT X.K H p ys/\Q (.ref p) H))):=by
 intro pins s σ H xs us Q I r h
 obtain⟨p,ys,rfl,h⟩:=h
 obtain⟨u,rfl,rx⟩:=z4k r
 cases rx
 rcases h with⟨hq,q⟩ | ⟨hq,q⟩
 ·obtain⟨its,r',pl,hz⟩:=I.list hq
  have hlen:=r'.length
  refine call_tuple_list pl.isList (λh' kp=> ?_) (by simp only[List.size_toArray]<;>omega)
  have I1:Inv X pins σ H { s with heap:=h' }:=I.kept (t':=s.toks) kp
  have I2:Inv X pins σ (upd H h'.objs.size (.tup ys)) { s with heap:=h'.push { cls:=.type "tuple",data:=.seq its.toArray } } :=
   I1.laid (t':=s.toks) (λb o e=>Heap.get?_push_of_some _ e) (Nat.le_refl _) (show ObjOk X.prog X.w _ _ _ (.tup ys)from⟨hz,its,r',IsTup.new _ _⟩)
  exact⟨.ref h'.objs.size,_,I2,rfl,q _ (I1.hok.fresh (Nat.le_refl _))⟩
 ·obtain⟨its,r',pl,hz⟩:=I.tuple hq
  exact call_tuple_same pl ⟨.ref p,H,I,rfl,q⟩
def tyV(K:W.Frag)(T:String)(x:V)(H:Hp):Prop:=match x with
 | .str _=>T="str"
 | .int _=>T="int"
 | .ref p=>(T="list"/\∃ xs,SqL K H p xs)\/(T="tuple"/\∃ o,K.lookup p=some o/\o.cls=.type "tuple"/\o.dict=none) ∨
   (T="dict"/\((∃ kvs,H p=some (.dK kvs))\/∃ kvs,H p=some (.dT kvs)))\/(T="set"/\∃ S n,H p=some (.set S n))
 | _=>False
theorem jip{pins:List (Addr × Obj)}{σ:St}{H:Hp}{s:Shared}{T:String}{x:V}{v:Value}(I:Inv X pins σ H s)(r:RelV x v)(ty:tyV X.K T x H) :
  s.TypeIs v T/\∀ a,v=.ref a->∃ ob,s.heap.get? a=some ob/\ob.dict=none:=by
 cases x with
 | str z =>
  obtain⟨t,rfl⟩:=r
  cases (show T="str" from ty)
  exact⟨typeIs_str s z t,λ_ e=>nomatch e⟩
 | int i =>
  obtain⟨t,rfl⟩:=r
  cases (show T="int" from ty)
  exact⟨typeIs_int s i t,λ_ e=>nomatch e⟩
 | ref p =>
  cases r
  rcases ty with⟨rfl,xs,hq⟩ | ⟨rfl,o,hk,hc,hd⟩ | ⟨rfl,hk⟩ | ⟨rfl,S,n,hk⟩
  ·obtain⟨its,_,pl,_⟩:=I.list hq
   refine⟨pl.isList.typeIs,λa e=> ?_⟩
   cases e
   obtain⟨o,n,e,c,hd,_⟩:=pl
   exact⟨o,e,hd⟩
  ·refine⟨⟨o,I.kIn p o hk,hc⟩,λa e=> ?_⟩
   cases e
   exact⟨o,I.kIn _ o hk,hd⟩
  ·have z:∃ o,s.heap.get? p=some o/\o.ExactDict:=by
    rcases hk with⟨kvs,hk⟩ | ⟨kvs,hk⟩
    ·obtain⟨_,_,_,_,o,_,_,e,ex,_⟩:=I.hok p _ hk
     exact⟨o,e,ex⟩
    ·obtain⟨_,_,_,_,o,_,_,e,ex,_⟩:=I.hok p _ hk
     exact⟨o,e,ex⟩
   obtain⟨o,e,ex⟩:=z
   refine⟨⟨o,e,ex.1⟩,λa e2=> ?_⟩
   cases e2
   exact⟨o,e,ex.2.1⟩
  ·obtain⟨o,_,_,_,e,ex,_⟩:=I.hok p _ hk
   refine⟨⟨o,e,ex.1⟩,λa e2=> ?_⟩
   cases e2
   exact⟨o,e,ex.2.1⟩
 | _=>exact False.elim ty
def jn4(K:W.Frag)(T:String)(r:V->List V->Hp->VK->Prop)(to:TE):TE:=λσ H Q=>to σ H λx H1=>tyV K T x H1/\r x [] H1 Q
def tBM(K:W.Frag)(T:String)(r:V->List V->Hp->VK->Prop)(to:TE)(t:TA):TE:=λσ H Q=>to σ H λx H1=>tyV K T x H1/\t σ H1 λxs H2=>r x xs H2 Q
variable{o e:Expr}{es:List Expr}{to:TE}{t:TA}{name:Str}{apos cpos:Pos}{T id:String}{r:V->List V->Hp->VK->Prop}
theorem jln(pa:PlainAttrs T)(slot:Slot T name id)(hty:typeOf (.builtin id)=pure (.type "method_descriptor"))(hm:MtR X id r)(ho:PE X o to)
  (hbase:attributeBase o name X.env (eval o X.env)=eval o X.env:=by rfl) (hline:(apos.endLine == cpos.line)=true:=by rfl):PE X (.Call (.Attribute o name apos) [] [] cpos) (jn4 X.K T r to):=by
 intro pins s σ H Q I h
 refine wpAny_Call_method0_late hbase hline (thn (ho pins s σ H _ I h) λv s1 ⟨x,H1,I1,r1,ty,q1⟩=> ?_)
 obtain⟨h1,h2⟩:=jip I1 r1 ty
 exact⟨T,id,pa,slot,hty,h1,h2,Calls.callWith_builtin rfl (PySem.evalArgs_none (hm pins s1 σ H1 x [] v [] Q I1 r1 .nil q1))⟩
theorem z8l(pa:PlainAttrs T)(slot:Slot T name id)(hty:typeOf (.builtin id)=pure (.type "method_descriptor"))(hm:MtR X id r)(ho:PE X o to)(ha:PA X (e::es) t)
  (hbase:attributeBase o name X.env (eval o X.env)=eval o X.env:=by rfl)
  (hfew:((backTo cpos (starEach (e::es) X.env)).all (λx=> !x.1) && (backToKw cpos (keywordEach [] X.env)).all (λx=>x.1.isSome)
   && decide ((e::es).length+([]:List Keyword).length+(if([]:List Keyword).isEmpty then 0 else 1)<30))=true:=by rfl)
  (hline:(apos.endLine == cpos.line)=true:=by rfl) (hs:starEach (e::es) X.env=(false,eval e X.env)::starEach es X.env:=by rfl) (hplain:(backTo cpos (starEach es X.env)).any (·.1)=false:=by rfl) :
  PE X (.Call (.Attribute o name apos) (e::es) [] cpos) (tBM X.K T r to t):=by
 intro pins s σ H Q I h
 refine wpAny_Call_method_late hbase hfew hline rfl (thn (ho pins s σ H _ I h) λv s1 ⟨x,H1,I1,r1,ty,q1⟩=> ?_)
 obtain⟨h1,h2⟩:=jip I1 r1 ty
 refine⟨T,id,pa,slot,hty,h1,h2,?_⟩
 have hA:=ha cpos pins s1 σ H1 _ I1 q1
 rw[hs]at hA ⊢
 refine Calls.callWith_builtin (by show(false || (backTo cpos (starEach es X.env)).any (·.1))=false;rw[hplain]<;>rfl) (Calls.evalArgs_plain ?_)
 exact thn hA λus s2 ⟨vs,H2,I2,r2,q2⟩=>hm pins s2 σ H2 x vs v us Q I2 r1 r2 q2
end
end L2
namespace L2
def MtM(X:Cx)(id:String)(r:V->List V->Hp->VK->Prop):Prop :=
 ∀ (pins:List (Addr × Obj)) (s:Shared) (σ:St) (H:Hp) (x:V) (xs:List V) (v:Value) (us:List Value) (Q:VK),Inv X pins σ H s->RelV x v->Vals xs us->r x xs H Q →
  wpAny (model X.prog X.w) X.A (call (.builtin id) (v::us)) (EP X pins σ Q) X.xe s
theorem Vals.one:∀ {x:V} {us:List Value},Vals [x] us->∃ u,us=[u]/\RelV x u
 | _,_,.cons r .nil=>⟨_,rfl,r⟩
theorem Vals.two:∀ {x y:V} {us:List Value},Vals [x,y] us->∃ u v,us=[u,v]/\RelV x u/\RelV y v
 | _,_,_,.cons r (.cons q .nil)=>⟨_,_,rfl,r,q⟩
theorem Vals.zero:∀ {us:List Value},Vals [] us->us=[]
 | _,.nil=>rfl
theorem Vals.eraseIdx:∀ {xs:List V} {us:List Value} (i:Nat),Vals xs us->Vals (xs.eraseIdx i) (us.eraseIdx i)
 | _,_,_,.nil=>.nil
 | _,_,0,.cons _ t=>t
 | _,_,i+1,.cons r t=>.cons r (Vals.eraseIdx i t)
theorem Vals.rep{xs:List V}{us:List Value}(h:Vals xs us):∀ k:Nat,Vals (List.replicate k xs).flatten (List.replicate k us).flatten
 | 0=>.nil
 | k+1=>by
  rw[List.replicate_succ,List.replicate_succ,List.flatten_cons,List.flatten_cons]
  exact Vals.append h (Vals.rep h k)
theorem zve(its:List Value):∀ (k:Nat) (acc:List Value),
  List.foldl (λx1 x2=>x1++x2) acc.toArray (List.replicate k its.toArray)=(acc++(List.replicate k its).flatten).toArray
 | 0,acc=>by simp
 | k+1,acc=>by
  have e:acc.toArray++its.toArray=(acc++its).toArray:=by simp
  have e2:(acc++its)++(List.replicate k its).flatten=acc++(List.replicate (k+1) its).flatten:=by
   rw[List.replicate_succ,List.flatten_cons,List.append_assoc]
  rw[<-e2,<-zve its k (acc++its),<-e,List.replicate_succ,List.foldl_cons]
section
variable{X:Cx}{pins:List (Addr × Obj)}{σ:St}{H:Hp}{s:Shared}{l b:Addr}{xs ys zs:List V}
theorem Inv.lset{its its':List Value}{n:Nat}{f:Array Value->Array Value}{t':Nat}(I:Inv X pins σ H s)(hH:H l=some (.lst xs))
  (e:s.heap.get? l=some { cls:=.type "list",data:=.seq its.toArray n }) (hf:f its.toArray=its'.toArray) (hv:Vals ys its') (hz:ys.length<=sizeLine) :
  Inv X pins σ (upd H l (.lst ys)) { s with heap:=s.heap.update l (Obj.mapSeq f),toks:=t' }:=by
 have q:=PySem.IsL.update e f
 rw[hf]at q
 refine I.write (x:=l) (e:=l) (by rw[hH];exact trivial) (.inl rfl) (λb' u hb hu=>(Heap.get?_update_other s.heap (Obj.mapSeq f) (Ne.symm hb)).trans hu) ⟨_,q⟩ ?_
 exact⟨hz,its',_,hv,q⟩
theorem Inv.lnew{its:List Value}{t':Nat}(I:Inv X pins σ H s)(hv:Vals ys its)(hz:ys.length<=sizeLine) :
  Inv X pins σ (upd H s.heap.objs.size (.lst ys)) { s with heap:=s.heap.push { cls:=.type "list",data:=.seq its.toArray },toks:=t' } :=
 I.laid (λ_ _ q=>Heap.get?_push_of_some _ q) (Nat.le_refl _) ⟨hz,its,0,hv,Heap.get?_push_size _ rfl⟩
theorem Inv.fresh(I:Inv X pins σ H s):H s.heap.objs.size=none:=I.hok.fresh (Nat.le_refl _)
theorem Inv.lstM(I:Inv X pins σ H s)(hH:H l=some (.lst xs)):xs.length<=sizeLine/\∃ (its:List Value) (n:Nat),Vals xs its/\xs.length=its.length/\s.heap.get? l=some { cls:=.type "list",data:=.seq its.toArray n }:=by
 obtain⟨z,its,n,r,e⟩:=I.hok l _ hH
 exact⟨z,its,n,r,r.length,e⟩
theorem jg3{n:Nat}(h:n<=sizeLine):Builtin.List.listTooLong n=false:=by
 unfold Builtin.List.listTooLong
 exact decide_eq_false (by omega)
end
section
variable{X:Cx}
def jed:V->List V->Hp->VK->Prop:=λx vs H Q=>∃ l xs y,x=.ref l/\vs=[y]/\H l=some (.lst xs)/\xs.length<sizeLine/\Q .non (upd H l (.lst (xs++[y])))
theorem zl8:MtM X "list.append" jed:=by
 intro pins s σ H x vs v us Q I rx rv h
 obtain⟨l,xs,y,rfl,rfl,hH,hz,q⟩:=h
 cases rx
 obtain⟨u,rfl,ru⟩:=rv.one
 obtain⟨z,its,n,r,hl,e⟩:=I.lstM hH
 refine call_meets F.slot_list_append ⟨_,e,rfl⟩ F.entry_list_append (F.args_list_append_2 _ _) (PySem.list_append l its.toArray n u (by rw[List.size_toArray];omega)) ⟨e,?_⟩
 refine⟨.non,_,I.lset (its':=its++[u]) hH e (by simp) (r.append (.cons ru .nil)) ?_,rfl,q⟩
 rw[List.length_append,List.length_singleton]
 omega
def jiq:V->List V->Hp->VK->Prop:=λx vs H Q=>∃ l xs,x=.ref l/\vs=[]/\H l=some (.lst xs)/\Q .non (upd H l (.lst []))
theorem jg4:MtM X "list.clear" jiq:=by
 intro pins s σ H x vs v us Q I rx rv h
 obtain⟨l,xs,rfl,rfl,hH,q⟩:=h
 cases rx
 have hus:=rv.zero
 subst hus
 obtain⟨z,its,n,r,hl,e⟩:=I.lstM hH
 refine call_meets F.slot_list_clear ⟨_,e,rfl⟩ F.entry_list_clear (F.args_list_clear_1 _) (AutoSeq1.list_clear_list_0 l its.toArray n (by rw[List.size_toArray];omega)) ⟨e,?_⟩
 exact⟨.non,_,I.lset (its':=[]) (ys:=[]) hH e rfl .nil (Nat.zero_le _),rfl,q⟩
def jn5:R2:=λx y H Q=>∃ l b xs zs,x=.ref l/\y=.ref b/\H l=some (.lst xs)/\H b=some (.lst zs)/\xs.length+zs.length<=sizeLine/\∀ p,H p=none->Q (.ref p) (upd H p (.lst (xs++zs)))
theorem jlo:OpR X (binaryOp .Add) jn5:=by
 intro pins s σ H x y v u Q I rx ry h
 obtain⟨l,b,xs,zs,rfl,rfl,hH,hB,hz,q⟩:=h
 cases rx
 cases ry
 obtain⟨z,its,n,r,hl,e⟩:=I.lstM hH
 obtain⟨z2,its2,n2,r2,hl2,e2⟩:=I.lstM hB
 refine PySem.P.add_list e e2 ?_ (by rw[List.size_toArray,List.size_toArray];omega)
 have ea:its.toArray++its2.toArray=(its++its2).toArray:=by simp
 rw[ea]
 exact⟨.ref _,_,I.lnew (t':=s.toks) (r.append r2) (by rw[List.length_append];omega),rfl,q _ I.fresh⟩
def jn6:R2:=λx y H Q=>∃ l k xs,x=.ref l/\y=.int k/\H l=some (.lst xs)/\ -(2 ^ 63)<=k/\k<2 ^ 63/\xs.length * k.toNat<=sizeLine ∧
 ∀ p,H p=none->Q (.ref p) (upd H p (.lst (List.replicate k.toNat xs).flatten))
theorem jee{α :Type}(xs:List α)(k:Nat):(List.replicate k xs).flatten.length=k * xs.length:=by
 induction k with
 | zero=>simp
 | succ k ih=>rw[List.replicate_succ,List.flatten_cons,List.length_append,ih,Nat.succ_mul,Nat.add_comm]
theorem jlp:OpR X (binaryOp .Mult) jn6:=by
 intro pins s σ H x y v u Q I rx ry h
 obtain⟨l,k,xs,rfl,rfl,hH,h1,h2,hz,q⟩:=h
 cases rx
 obtain⟨t,rfl⟩:=ry
 obtain⟨z,its,n,r,hl,e⟩:=I.lstM hH
 have hlen:its.toArray.size * k.toNat<=sizeLine:=by rw[List.size_toArray,<-hl];exact hz
 have hcap:¬ its.toArray.size * k.toNat >(2 ^ 63 - 1) / 8:=by
  have:(sizeLine:Nat)<=(2 ^ 63 - 1) / 8:=by decide
  omega
 have hfit:¬ (!Builtin.List.listFitsIndex k)=true:=by
  rw[fitsIndex_both h1 h2]
  exact Bool.false_ne_true
 have hlong:¬ Builtin.List.listTooLong (its.toArray.size * k.toNat)=true:=by
  rw[jg3 hlen]
  exact Bool.false_ne_true
 have hnew:List.foldl (λx1 x2=>x1++x2) #[] (List.replicate (if its.toArray.isEmpty=true then 0 else k.toNat) its.toArray)=(List.replicate k.toNat its).flatten.toArray:=by
  have f0:∀ m:Nat,List.foldl (λx1 x2=>x1++x2) #[] (List.replicate m its.toArray)=(List.replicate m its).flatten.toArray:=λm=>by
   have:=zve its m []
   rw[List.nil_append]at this
   exact this
  rw[f0]
  cases its with
  | nil=>simp
  | cons a r'=>rw[if_neg (by simp)]
 refine wpAny_binaryOp_repeat_ref (T:="list") (U:="int") (by decide) ⟨_,e,rfl⟩ (λs'=>typeIs_int s' k t) noFill_list_mul F.fills_int_mul F.slot_int_rmul repeat_list F.slot_int_index.lookup
  (call_meets F.slot_int_rmul (typeIs_int s k t) F.entry_int_rmul (F.args_int_rmul_2 _ _) (int___rmul___int_list k t l its.toArray n)
   ⟨e,rfl,⟨_,e,rfl⟩,call_meets F.slot_list_mul ⟨_,e,rfl⟩ F.entry_list_mul (F.args_list_mul_2 _ _) (AutoListH.list___mul___list_int_3 l its.toArray n k t hfit hcap hlong) ⟨e,?_⟩⟩)
 rw[hnew]
 exact⟨.ref _,_,I.lnew (t':=s.toks) (r.rep k.toNat) (by rw[jee,Nat.mul_comm];exact hz),rfl,q _ I.fresh⟩
end
section
variable{prog:Program}{w:World}{A:Around}{E:Value->Shared->Prop}{s:Shared}
set_option maxRecDepth 100000 in
end
section
variable{X:Cx}
end
end L2
namespace L2
section
variable{κ :Type}[DecidableEq κ]
def zre(kvs:List (κ × V))(k: κ):Option V:=(kvs.find? λkv=>decide (kv.1=k)).map (·.2)
def zx0(kvs:List (κ × V))(k: κ)(v:V):List (κ × V) :=
 if(kvs.any λkv=>decide (kv.1=k))=true then kvs.map (λkv=>if kv.1=k then(kv.1,v)else kv)else kvs++[(k,v)]
theorem zhe{p: κ × V}{r:List (κ × V)}{k: κ}(e:p.1=k):zre (p::r) k=some p.2:=by simp[zre,List.find?_cons,e]
theorem zhf{p: κ × V}{r:List (κ × V)}{k: κ}(e:¬ p.1=k):zre (p::r) k=zre r k:=by simp[zre,List.find?_cons,e]
theorem zrf(k: κ):∀ kvs:List (κ × V),(kvs.any λkv=>decide (kv.1=k))=(zre kvs k).isSome
 | []=>rfl
 | p::r=>by
  rw[List.any_cons]
  by_cases e:p.1=k
  ·simp only[zhe e,decide_eq_true e,Bool.true_or,Option.isSome_some]
  ·rw[zhf e,decide_eq_false e,Bool.false_or];exact zrf k r
theorem jbu(k j: κ)(y:V):∀ kvs:List (κ × V),zre (kvs.map λkv=>if kv.1=k then(kv.1,y)else kv) j=(zre kvs j).map λx=>if j=k then y else x
 | []=>rfl
 | p::r=>by
  have ih:=jbu k j y r
  rw[List.map_cons]
  by_cases h:p.1=k
  ·rw[if_pos h]
   by_cases e:p.1=j
   ·rw[zhe (p:=(p.1,y)) e,zhe e,Option.map_some,if_pos (e.symm.trans h)]
   ·rw[zhf (p:=(p.1,y)) e,zhf e,ih]
  ·rw[if_neg h]
   by_cases e:p.1=j
   ·rw[zhe (p:=p) e,zhe e,Option.map_some,if_neg (λz=>h (e.trans z))]
   ·rw[zhf (p:=p) e,zhf e,ih]
theorem z8m(k j: κ)(y:V):∀ kvs:List (κ × V),zre kvs k=none->zre (kvs++[(k,y)]) j=if j=k then some y else zre kvs j
 | [],_=>by
  by_cases e:k=j
  ·rw[if_pos e.symm];exact zhe (p:=(k,y)) e
  ·rw[if_neg (λz=>e z.symm)];exact zhf (p:=(k,y)) e
 | p::r,hn=>by
  rw[List.cons_append]
  have hk:¬ p.1=k:=λz=>by rw[zhe z]at hn;cases hn
  rw[zhf hk]at hn
  have ih:=z8m k j y r hn
  by_cases e:p.1=j
  ·rw[zhe e,zhe e,if_neg (λz=>hk (e.trans z))]
  ·rw[zhf e,zhf e,ih]
theorem jbv(kvs:List (κ × V))(k j: κ)(y:V):zre (zx0 kvs k y) j=if j=k then some y else zre kvs j:=by
 unfold zx0
 by_cases a:(kvs.any λkv=>decide (kv.1=k))=true
 ·rw[if_pos a,jbu]
  rw[zrf]at a
  by_cases e:j=k
  ·obtain⟨x,hx⟩:=Option.isSome_iff_exists.mp a
   rw[if_pos e,e,hx,Option.map_some,if_pos rfl]
  ·rw[if_neg e]
   cases zre kvs j with
   | none=>rfl
   | some x=>rw[Option.map_some,if_neg e]
 ·rw[if_neg a]
  refine z8m k j y kvs ?_
  rw[zrf]at a
  cases q:zre kvs k with
  | none=>rfl
  | some x=>rw[q]at a;exact(a rfl).elim
theorem zmy(kvs:List (κ × V))(k: κ)(v:V):(zx0 kvs k v).length<=kvs.length+1:=by
 unfold zx0
 split
 ·rw[List.length_map];omega
 ·rw[List.length_append,List.length_cons,List.length_nil];omega
theorem jbw{kvs:List (κ × V)}{k: κ}(v:V)(h:zre kvs k=none):zx0 kvs k v=kvs++[(k,v)]:=by
 unfold zx0
 rw[zrf,h]
 exact if_neg (by decide)
theorem RelO.isSome_eq{o:Option V}{u:Option Value}(r:RelO o u):o.isSome=u.isSome:=by
 cases o with
 | none=>cases u with
  | none=>rfl
  | some _=>exact(show False from r).elim
 | some _=>cases u with
  | none=>exact(show False from r).elim
  | some _=>rfl
theorem RelO.getD{o:Option V}{u:Option Value}{d:V}{d':Value}(r:RelO o u)(rd:RelV d d'):RelV (o.getD d) (u.getD d'):=by
 cases o with
 | none=>cases u with
  | none=>exact rd
  | some _=>exact(show False from r).elim
 | some _=>cases u with
  | none=>exact(show False from r).elim
  | some _=>exact r
theorem KV.val{kvs:List (κ × V)}{vs:List (κ × Value)}(r:KV kvs vs)(k: κ):RelO (zre kvs k) (valueAt vs k):=by
 unfold KV at r
 induction r with
 | nil=>exact True.intro
 | @cons p q ps qs h t ih =>
  obtain⟨h1,h2⟩:=h
  by_cases e:p.1=k
  ·have e':q.1=k:=h1.symm.trans e
   have b:valueAt (q::qs) k=some q.2:=by simp[valueAt,List.find?_cons,e']
   rw[zhe e,b];exact h2
  ·have e':¬ q.1=k:=λz=>e (h1.trans z)
   have b:valueAt (q::qs) k=valueAt qs k:=by simp[valueAt,List.find?_cons,e']
   rw[zhf e,b];exact ih
theorem KV.any{kvs:List (κ × V)}{vs:List (κ × Value)}(r:KV kvs vs)(k: κ):(kvs.any λkv=>decide (kv.1=k))=vs.any λkv=>decide (kv.1=k):=by
 unfold KV at r
 induction r with
 | nil=>rfl
 | cons h t ih=>rw[List.any_cons,List.any_cons,ih,h.1]
theorem KV.repl{kvs:List (κ × V)}{vs:List (κ × Value)}(r:KV kvs vs)(k: κ){y:V}{u:Value}(ry:RelV y u) :
  KV (kvs.map λkv=>if kv.1=k then(kv.1,y)else kv) (vs.map λkv=>if kv.1=k then(kv.1,u)else kv):=by
 unfold KV at r ⊢
 induction r with
 | nil=>exact .nil
 | @cons p q ps qs h t ih =>
  rw[List.map_cons,List.map_cons]
  refine .cons ?_ ih
  obtain⟨h1,h2⟩:=h
  by_cases e:p.1=k
  ·rw[if_pos e,if_pos (h1.symm.trans e)];exact⟨h1,ry⟩
  ·rw[if_neg e,if_neg (λz=>e (h1.trans z))];exact⟨h1,h2⟩
theorem KV.put{kvs:List (κ × V)}{vs:List (κ × Value)}(r:KV kvs vs)(k: κ){y:V}{u:Value}(ry:RelV y u):KV (zx0 kvs k y) (stored vs k u):=by
 unfold zx0 stored
 rw[r.any k]
 by_cases e:(vs.any λkv=>decide (kv.1=k))=true
 ·rw[if_pos e,if_pos e];exact r.repl k ry
 ·rw[if_neg e,if_neg e];exact Paired.snoc r ⟨rfl,ry⟩
theorem KV.length{kvs:List (κ × V)}{vs:List (κ × Value)}(r:KV kvs vs):kvs.length=vs.length:=Paired.length r
end
theorem jc0{P:Program}{w:World}{k:Key}{u:Value}(r:RelV (kV k) u):(zgj P w).is k u=true:=by
 cases k with
 | inl i=>obtain⟨t,e⟩:=(show ∃ t,u=Value.int i t from r);subst e;exact jae P w i t
 | inr x=>obtain⟨t,e⟩:=(show ∃ t,u=Value.str x t from r);subst e;exact jaf P w x t
theorem z8n{P:Program}{w:World}:∀ {ks:List Key} {us:List Value},Vals (ks.map kV) us->ItemsAre (zgj P w) ks us
 | [],_,r=>by rw[List.map_nil]at r;cases r;exact .nil
 | k::ks,_,r=>by
  rw[List.map_cons]at r
  cases r with
  | cons h t=>exact .cons (jc0 h) (z8n t)
abbrev KT(H:Hp):List (List Key × V)->List (List Key × Addr × Value)->Prop:=Paired λp q=>p.1=q.1/\H q.2.1=some (.tup (p.1.map kV))/\RelV p.2 q.2.2
theorem KT.val{H:Hp}{kvs:List (List Key × V)}{xs:List (List Key × Addr × Value)}(r:KT H kvs xs)(k:List Key):RelO (zre kvs k) ((atKey xs k).map (·.2)):=by
 induction r with
 | nil=>exact True.intro
 | @cons p q ps qs h t ih =>
  obtain⟨h1,_,h2⟩:=h
  by_cases e:p.1=k
  ·have e':q.1=k:=h1.symm.trans e
   have b:atKey (q::qs) k=some q.2:=by simp[atKey,List.find?_cons,e']
   rw[zhe e,b];exact h2
  ·have e':¬ q.1=k:=λz=>e (h1.trans z)
   have b:atKey (q::qs) k=atKey qs k:=by simp[atKey,List.find?_cons,e']
   rw[zhf e,b];exact ih
theorem KT.repl{H:Hp}{kvs:List (List Key × V)}{xs:List (List Key × Addr × Value)}(r:KT H kvs xs)(k:List Key){y:V}{u:Value}(ry:RelV y u) :
  KT H (kvs.map λkv=>if kv.1=k then(kv.1,y)else kv) (xs.map (putAt k u)):=by
 induction r with
 | nil=>exact .nil
 | @cons p q ps qs h t ih =>
  rw[List.map_cons,List.map_cons]
  refine .cons ?_ ih
  obtain⟨h1,h2,h3⟩:=h
  unfold putAt
  by_cases e:p.1=k
  ·rw[if_pos e,if_pos (h1.symm.trans e)];exact⟨h1,h2,ry⟩
  ·rw[if_neg e,if_neg (λz=>e (h1.trans z))];exact⟨h1,h2,h3⟩
theorem KT.put{H:Hp}{kvs:List (List Key × V)}{xs:List (List Key × Addr × Value)}(r:KT H kvs xs)(k:List Key){b:Addr}{y:V}{u:Value}(hb:H b=some (.tup (k.map kV)))(ry:RelV y u) :
  KT H (zx0 kvs k y) (storedH xs k b u):=by
 have e:(kvs.any λkv=>decide (kv.1=k))=(atKey xs k).isSome:=by
  rw[zrf,(r.val k).isSome_eq,Option.isSome_map]
 unfold zx0 storedH
 rw[e]
 by_cases q:(atKey xs k).isSome=true
 ·rw[if_pos q,if_pos q];exact r.repl k ry
 ·rw[if_neg q,if_neg q];exact Paired.snoc r ⟨rfl,hb,ry⟩
theorem KT.keeps{H H':Hp}{kvs:List (List Key × V)}{xs:List (List Key × Addr × Value)}(r:KT H kvs xs)(ht:∀ b ys,H b=some (.tup ys)->H' b=some (.tup ys)):KT H' kvs xs :=
 Paired.mapP r λ_ _ z=>⟨z.1,ht _ _ z.2.1,z.2.2⟩
section
variable{P:Program}{w:World}{H:Hp}{h:Heap}{a:Addr}
theorem jlq{u:HO}(ok:HOk P w H h)(e:Rd H a u):ObjOk P w H h a u:=e.ok ok
theorem z8o{kvs:List (Key × V)}(ok:HOk P w H h)(e:Rd H a (.dK kvs)):kvs.length<=sizeLine/\(a == sysModules)=false/\∃ vs,KV kvs vs/\h.DictOf (zgj P w) a vs :=
 show ObjOk P w H h a (.dK kvs)from jlq ok e
theorem jn7{kvs:List (Key × V)}(ok:HOk P w H h)(e:H a=some (.dK kvs)):kvs.length<=sizeLine/\(a == sysModules)=false/\∃ vs,KV kvs vs/\h.DictOf (zgj P w) a vs:=z8o ok (.inl e)
theorem z55{ks:List Key}(ok:HOk P w H h)(e:H a=some (.tup (ks.map kV))):(tupleKind (zgj P w)).is h ks a:=by
 obtain⟨_,its,r,o,h1,h2,n,h3⟩:=(show ObjOk P w H h a (.tup (ks.map kV))from ok a _ e)
 exact⟨o,its.toArray,n,h1,h2,h3,by simpa using z8n r⟩
theorem jam{kvs:List (List Key × V)}(ok:HOk P w H h)(e:Rd H a (.dT kvs)):kvs.length<=sizeLine/\(a == sysModules)=false ∧
  ∃ xs,KT H kvs xs/\h.DictOfH (tupleKind (zgj P w)) a xs:=by
 obtain⟨z,y,xs,r,o,es,ep,h1,h2,h3,h4,h5⟩:=(show ObjOk P w H h a (.dT kvs)from jlq ok e)
 refine⟨z,y,xs,r,o,es,ep,h1,h2,h3,h4,λx hx=> ?_,h5⟩
 have all:∀ {l:List (List Key × V)} {m:List (List Key × Addr × Value)},KT H l m->∀ x∈m,(tupleKind (zgj P w)).is h x.1 x.2.1:=by
  intro l m q
  induction q with
  | nil=>intro x hx;exact nomatch hx
  | @cons p q ps qs hq t ih =>
   intro x hx
   rcases List.mem_cons.mp hx with e | hx
   ·subst e
    exact z55 ok (by rw[<-hq.1];exact hq.2.1)
   ·exact ih x hx
 exact all r x hx
theorem jn8{kvs:List (List Key × V)}(ok:HOk P w H h)(e:H a=some (.dT kvs)):kvs.length<=sizeLine/\(a == sysModules)=false ∧
  ∃ xs,KT H kvs xs/\h.DictOfH (tupleKind (zgj P w)) a xs:=jam ok (.inl e)
end
def DGet(H:Hp)(a:Addr)(y:V)(r:Option V):Prop :=
 (∃ kvs k,Rd H a (.dK kvs)/\y=kV k/\r=zre kvs k)\/∃ kvs k b,Rd H a (.dT kvs)/\y=.ref b/\H b=some (.tup (k.map kV))/\r=zre kvs k
def DPut(H:Hp)(a:Addr)(y v:V)(H':Hp):Prop :=
 (∃ kvs k,H a=some (.dK kvs)/\y=kV k/\kvs.length<sizeLine/\H'=upd H a (.dK (zx0 kvs k v))) ∨
 ∃ kvs k b,H a=some (.dT kvs)/\y=.ref b/\H b=some (.tup (k.map kV))/\kvs.length<sizeLine/\H'=upd H a (.dT (zx0 kvs k v))
theorem DGet.k{H:Hp}{a:Addr}{kvs:List (Key × V)}{k:Key}(e:H a=some (.dK kvs)):DGet H a (kV k) (zre kvs k):=.inl ⟨kvs,k,.inl e,rfl,rfl⟩
theorem DGet.t{H:Hp}{a b:Addr}{kvs:List (List Key × V)}{k:List Key}(e:H a=some (.dT kvs))(eb:H b=some (.tup (k.map kV))):DGet H a (.ref b) (zre kvs k):=.inr ⟨kvs,k,b,.inl e,rfl,eb,rfl⟩
theorem DPut.k{H:Hp}{a:Addr}{kvs:List (Key × V)}{k:Key}{v:V}(e:H a=some (.dK kvs))(hl:kvs.length<sizeLine):DPut H a (kV k) v (upd H a (.dK (zx0 kvs k v))):=.inl ⟨kvs,k,e,rfl,hl,rfl⟩
theorem DPut.t{H:Hp}{a b:Addr}{kvs:List (List Key × V)}{k:List Key}{v:V}(e:H a=some (.dT kvs))(eb:H b=some (.tup (k.map kV)))(hl:kvs.length<sizeLine) :
  DPut H a (.ref b) v (upd H a (.dT (zx0 kvs k v))):=.inr ⟨kvs,k,b,e,rfl,eb,hl,rfl⟩
section
variable{X:Cx}{pins:List (Addr × Obj)}{σ:St}{H:Hp}{s:Shared}{a:Addr}{y v:V}{u r:Value}{o:Option V}{A:Around}{E:Value->Shared->Prop}
theorem Inv.big(I:Inv X pins σ H s):sysModules<s.heap.objs.size:=by
 have h:mainGlobals<s.heap.objs.size:=(I.mod.glob.keeps I.bk).lt
 exact Nat.lt_trans (by decide) h
theorem jef{Q:Value->Shared->Prop}(hu:A.units+1<cLine)(I:Inv X pins σ H s)(g:DGet H a y (some v))(ry:RelV y u)(h:∀ w' s',Inv X pins σ H s'->RelV v w'->Q w' s') :
  wpAny (model X.prog X.w) A (getItem (.ref a) u) Q E s:=by
 rcases g with⟨kvs,k,e,ey,l⟩ | ⟨kvs,k,b,e,ey,eb,l⟩
 ·subst ey
  obtain⟨z,hd,vs,rel,dd⟩:=z8o I.hok e
  obtain⟨w',hw,rw'⟩:=RelO.some_of (v:=v) (o:=valueAt vs k) (by rw[l];exact rel.val k)
  exact wpAny_getItem_of (jc0 ry) dd.mapOf hw (h w' _ (I.tok _) rw')
 ·subst ey
  cases (show u=Value.ref b from ry)
  obtain⟨z,hd,xs,rel,dd⟩:=jam I.hok e
  obtain⟨w',hw,rw'⟩:=RelO.some_of (v:=v) (o:=(atKey xs k).map (·.2)) (by rw[l];exact rel.val k)
  obtain⟨p,hp,hp2⟩:=Option.map_eq_some_iff.mp hw
  refine wpAny_getItem_heap (tupleKind_room_in1 hu) (z55 I.hok eb) dd hp ?_
  rw[hp2]
  exact h w' _ (I.tok _) rw'
theorem jpb{Q:Value->Shared->Prop}(hu:A.units+1<cLine)(I:Inv X pins σ H s)(g:DGet H a y o)(ry:RelV y u)(h:∀ s',Inv X pins σ H s'->Q (.bool o.isSome) s') :
  wpAny (model X.prog X.w) A (compareOp .In u (.ref a)) Q E s:=by
 rcases g with⟨kvs,k,e,ey,l⟩ | ⟨kvs,k,b,e,ey,eb,l⟩
 ·subst ey
  obtain⟨z,hd,vs,rel,dd⟩:=z8o I.hok e
  refine wpAny_in_of (jc0 ry) hd dd.mapOf ?_
  rw[<-(rel.val k).isSome_eq,<-l]
  exact h _ (I.tok _)
 ·subst ey
  cases (show u=Value.ref b from ry)
  obtain⟨z,hd,xs,rel,dd⟩:=jam I.hok e
  refine wpAny_in_heap (tupleKind_room_in1 hu) (z55 I.hok eb) hd dd ?_
  have q:=(rel.val k).isSome_eq
  rw[Option.isSome_map]at q
  rw[<-q,<-l]
  exact h _ (I.tok _)
theorem jjk{Q:Value->Shared->Prop}(hu:A.units+1<cLine)(I:Inv X pins σ H s)(g:DGet H a y o)(ry:RelV y u)(h:∀ s',Inv X pins σ H s'->Q (.bool (!o.isSome)) s') :
  wpAny (model X.prog X.w) A (compareOp .NotIn u (.ref a)) Q E s:=by
 rcases g with⟨kvs,k,e,ey,l⟩ | ⟨kvs,k,b,e,ey,eb,l⟩
 ·subst ey
  obtain⟨z,hd,vs,rel,dd⟩:=z8o I.hok e
  refine wpAny_notIn_of (jc0 ry) hd dd.mapOf ?_
  rw[<-(rel.val k).isSome_eq,<-l]
  exact h _ (I.tok _)
 ·subst ey
  cases (show u=Value.ref b from ry)
  obtain⟨z,hd,xs,rel,dd⟩:=jam I.hok e
  refine wpAny_notIn_heap (tupleKind_room_in1 hu) (z55 I.hok eb) hd dd ?_
  have q:=(rel.val k).isSome_eq
  rw[Option.isSome_map]at q
  rw[<-q,<-l]
  exact h _ (I.tok _)
theorem jeg{h':Heap}{t':Nat}{ob:HO}(I:Inv X pins σ H s)(mu:Mut (H a))(hs:Heap.SameBut a s.heap h')(he:∃ q,h'.get? a=some q)(new:ObjOk X.prog X.w (upd H a ob) h' a ob) :
  Inv X pins σ (upd H a ob) { s with heap:=h',toks:=t' } :=
 I.write (x:=a) (e:=a) mu (.inl rfl) (λb q hb z=>(hs.2 b hb).trans z) he new
theorem jir{P:Program}{w:World}{H':Hp}{h':Heap}{kvs:List (Key × V)}{vs:List (Key × Value)}(z:kvs.length<=sizeLine)(hd:(a == sysModules)=false)(rel:KV kvs vs)(dd:h'.DictOf (zgj P w) a vs) :
  ObjOk P w H' h' a (.dK kvs):=⟨z,hd,vs,rel,dd⟩
theorem jeh{H':Hp}{Q:Unit->Shared->Prop}(hu:A.units+1<cLine)(I:Inv X pins σ H s)(g:DPut H a y v H')(ry:RelV y u)(rv:RelV v r)(h:∀ s',Inv X pins σ H' s'->Q () s') :
  wpAny (model X.prog X.w) A (setItem (.ref a) u r) Q E s:=by
 rcases g with⟨kvs,k,e,ey,l,eH⟩ | ⟨kvs,k,b,e,ey,eb,l,eH⟩
 ·subst ey eH
  obtain⟨z,hd,vs,rel,dd⟩:=jn7 I.hok e
  have hz:vs.length<=sizeLine:=by rw[<-rel.length];exact z
  have hl:(zx0 kvs k v).length<=sizeLine:=by have:=zmy kvs k v;omega
  refine wpAny_setItem_pairs (hsz:=hz) (jc0 ry) dd λh' dd' hs=>h _ ?_
  have he:∃ q,h'.get? a=some q:=let ⟨q,_,_,hq,_⟩:=dd';⟨q,hq⟩
  exact jeg I (by rw[e];exact True.intro) hs he (jir hl hd (rel.put k rv) dd')
 ·subst ey eH
  cases (show u=Value.ref b from ry)
  obtain⟨z,hd,xs,rel,dd⟩:=jn8 I.hok e
  have hz:xs.length<=sizeLine:=by rw[<-Paired.length rel];exact z
  have hl:(zx0 kvs k v).length<=sizeLine:=by have:=zmy kvs k v;omega
  refine wpAny_setItem_heap (hsz:=hz) (tupleKind_room_in1 hu) (z55 I.hok eb) dd λh' dd' hs=>h _ ?_
  obtain⟨q,es,ep,hq,h2,h3,h4,_,h5⟩:=dd'
  refine jeg I (by rw[e];exact True.intro) hs ⟨q,hq⟩ ⟨hl,hd,_,(rel.put k eb rv).keeps λc ys ec=> ?_,q,es,ep,hq,h2,h3,h4,h5⟩
  rw[zal (zix ec e (λz=>nomatch z))]
  exact ec
end
section
variable{X:Cx}{pins:List (Addr × Obj)}{σ:St}{H:Hp}{s:Shared}{a:Addr}{kvs:List (Key × V)}{k:Key}{u:Value}{A:Around}{E:Value->Shared->Prop}
end
def jo0(i:Expr):Prop:=∀ ov iv,subscripted i false ov iv=operate [ov,iv] (getItem ov iv)
theorem jjl{prog:Program}{w:World}{A:Around}{E:Value->Shared->Prop}{s:Shared}{env:Env}{value slice:Expr}{pos:Pos}{T id:String}{Q:Value->Shared->Prop}
  (hl:typeLookup (.type T) "__getitem__"=pure (some (.builtin id))) (hs:jo0 slice)
  (h:wpAny (model prog w) A (eval value env) (λo s₁=>wpAny (model prog w) A (eval slice env) (λi s₂=>s₂.TypeIs o T/\wpAny (model prog w) A (getItem o i) Q E s₂) E s₁) E s) :
  wpAny (model prog w) A (eval (.Subscript value slice pos) env) Q E s:=by
 refine Subscript_ (wpAny_mono h (λo s₁ h₁=>wpAny_mono h₁ (λi s₂ h₂=> ?_) λ_ _ x=>x) λ_ _ x=>x)
 obtain⟨hT,h₂⟩:=h₂
 unfold subscriptTail
 refine wpAny_bind ?_
 rw[getitemInPython_of_ne hT.not_modules]
 refine wpAny_bind (wpAny_specialOf hT hl ?_)
 have fin:wpAny (model prog w) A (subscripted slice false o i) (λr s₃=>wpAny (model prog w) A (letTemporaryGo value o r >>= λ_=>pure r) Q E s₃) E s₂:=by
  rw[hs o i]
  exact wpAny_operating (wpAny_mono h₂ (λr s₃ h₃=>wpAny_bind (wpAny_letTemporaryGo (wpAny_pure h₃))) λ_ _ x=>x)
 first
  | exact wpAny_pure (wpAny_bind fin)
  | exact wpAny_bind (wpAny_pure (wpAny_bind fin))
  | exact wpAny_bind fin
theorem jan{X:Cx}{pins:List (Addr × Obj)}{σ:St}{H:Hp}{s:Shared}{a:Addr}{y:V}{o:Option V}(I:Inv X pins σ H s)(g:DGet H a y o):s.TypeIs (.ref a) "dict":=by
 rcases g with⟨kvs,k,e,_,_⟩ | ⟨kvs,k,b,e,_,_,_⟩
 ·obtain⟨_,_,vs,_,dd⟩:=z8o I.hok e
  exact dd.typeIs
 ·obtain⟨_,_,xs,_,dd⟩:=jam I.hok e
  exact dd.typeIs
def jjm(td ty:TE):TE:=λσ H Q=>td σ H λx H1=>ty σ H1 λy H2=>∃ a v,x=.ref a/\DGet H2 a y (some v)/\Q v H2
def jnk(ty td:TE):TE:=λσ H Q=>ty σ H λy H1=>td σ H1 λx H2=>∃ a o,x=.ref a/\DGet H2 a y o/\Q (.bl o.isSome) H2
def ztn(ty td:TE):TE:=λσ H Q=>ty σ H λy H1=>td σ H1 λx H2=>∃ a o,x=.ref a/\DGet H2 a y o/\Q (.bl (!o.isSome)) H2
def jc1(td ty tv:TE):TS:=λD σ H=>tv σ H λv H1=>td σ H1 λx H2=>ty σ H2 λy H3=>∃ a H4,x=.ref a/\DPut H3 a y v H4/\D.nx σ H4
section
variable{X:Cx}{o i e value:Expr}{pos pos' tpos:Pos}{td ty tv:TE}
theorem jjn(hu:X.A.units+1<cLine)(ho:PE X o td)(hi:PE X i ty)(hs:jo0 i):PE X (.Subscript o i pos) (jjm td ty):=by
 intro pins s σ H Q I h
 refine jjl PySem.F.slot_dict_getitem.lookup hs (thn (ho pins s σ H _ I h) λu s1 ⟨x,H1,I1,rx,q1⟩=>thn (hi pins s1 σ H1 _ I1 q1) λiv s2 ⟨y,H2,I2,ry,a,v,ex,g,q2⟩=> ?_)
 subst ex
 obtain rfl:u=Value.ref a:=rx
 exact⟨jan I2 g,jef hu I2 g ry λw' s3 I3 rw'=>⟨v,H2,I3,rw',q2⟩⟩
theorem jis(hu:X.A.units+1<cLine)(hi:PE X i ty)(ho:PE X o td):PC X .In i o (jnk ty td):=by
 intro pins s σ H Q I h
 refine thn (hi pins s σ H _ I h) λiv s1 ⟨y,H1,I1,ry,q1⟩=>thn (ho pins s1 σ H1 _ I1 q1) λu s2 ⟨x,H2,I2,rx,a,ov,ex,g,q2⟩=> ?_
 subst ex
 obtain rfl:u=Value.ref a:=rx
 exact jpb hu I2 g ry λs3 I3=>⟨.bl ov.isSome,H2,I3,rfl,q2⟩
theorem zo8(hu:X.A.units+1<cLine)(hi:PE X i ty)(ho:PE X o td):PC X .NotIn i o (ztn ty td):=by
 intro pins s σ H Q I h
 refine thn (hi pins s σ H _ I h) λiv s1 ⟨y,H1,I1,ry,q1⟩=>thn (ho pins s1 σ H1 _ I1 q1) λu s2 ⟨x,H2,I2,rx,a,ov,ex,g,q2⟩=> ?_
 subst ex
 obtain rfl:u=Value.ref a:=rx
 exact jjk hu I2 g ry λs3 I3=>⟨.bl (!ov.isSome),H2,I3,rfl,q2⟩
theorem z6p(hu:X.A.units+1<cLine)(ho:PE X o td)(hi:PE X i ty)(hv:PE X value tv)(hs:swapsWith value (some (.Subscript o i pos')) pos.line X.env=pure false) :
  PS X (.Assign [.Subscript o i pos'] value pos) (jc1 td ty tv):=by
 intro pins s σ H D I h
 refine wpAny_Assign_Subscript (thn (hv pins s σ H _ I h) λr s1 ⟨v,H1,I1,rv,q1⟩=>thn (ho pins s1 σ H1 _ I1 q1) λu s2 ⟨x,H2,I2,rx,q2⟩=>thn (hi pins s2 σ H2 _ I2 q2) λiv s3 ⟨y,H3,I3,ry,a,H4,ex,g,q3⟩=> ?_) hs
 subst ex
 obtain rfl:u=Value.ref a:=rx
 exact jeh hu I3 g ry rv λs4 I4=>⟨σ,H4,I4,q3⟩
end
theorem jg5{P:Program}{w:World}{H:Hp}(h:Heap)(hb:sysModules<h.objs.size):ObjOk P w H (h.push { cls:=.type "dict",data:=.dict #[] }) h.objs.size (.dK []) :=
 ⟨Nat.zero_le _,beq_eq_false_iff_ne.mpr (Ne.symm (Nat.ne_of_lt hb)),[],.nil,Heap.DictOf.new h⟩
theorem jg6{P:Program}{w:World}{H:Hp}(h:Heap)(hb:sysModules<h.objs.size):ObjOk P w H (h.push { cls:=.type "dict",data:=.dict #[] }) h.objs.size (.dT []) :=
 ⟨Nat.zero_le _,beq_eq_false_iff_ne.mpr (Ne.symm (Nat.ne_of_lt hb)),[],.nil,_,#[],0,Heap.get?_push_size _ rfl,⟨rfl,rfl,rfl⟩,rfl,rfl,List.nodup_nil⟩
def z8p:TE:=λ_ H Q=>∀ p,H p=none->Q (.ref p) (upd H p (.dK []))
def jei:TE:=λ_ H Q=>∀ p,H p=none->Q (.ref p) (upd H p (.dT []))
section
variable{X:Cx}{pos:Pos}
theorem z6q:PE X (.Dict [] [] pos) z8p:=λpins s σ H Q I h =>
 wpAny_Dict_empty ⟨.ref s.heap.objs.size,_,I.laid (a:=s.heap.objs.size) (o:=.dK []) (t':=s.toks) (λ_ _ q=>Heap.get?_push_of_some _ q) (Nat.le_refl _) (jg5 s.heap I.big),rfl,h _ (I.hok.fresh (Nat.le_refl _))⟩
theorem jg7:PE X (.Dict [] [] pos) jei:=λpins s σ H Q I h =>
 wpAny_Dict_empty ⟨.ref s.heap.objs.size,_,I.laid (a:=s.heap.objs.size) (o:=.dT []) (t':=s.toks) (λ_ _ q=>Heap.get?_push_of_some _ q) (Nat.le_refl _) (jg6 s.heap I.big),rfl,h _ (I.hok.fresh (Nat.le_refl _))⟩
end
structure M1(X:Cx)(o:Expr)(m:Str)(apos:Pos)(e:Expr)(cpos:Pos):Prop where
 base:attributeBase o m X.env (eval o X.env)=eval o X.env
 few:((backTo cpos (starEach [e] X.env)).all (λx=> !x.1) && (backToKw cpos (keywordEach [] X.env)).all (λx=>x.1.isSome)
  && decide (([e]:List Expr).length+([]:List Keyword).length+(if([]:List Keyword).isEmpty then 0 else 1)<30))=true
 line:(apos.endLine == cpos.line)=true
 trees:backTo cpos (starEach [e] X.env)=[(false,eval e X.env)]
structure M2(X:Cx)(o:Expr)(m:Str)(apos:Pos)(e f:Expr)(cpos:Pos):Prop where
 base:attributeBase o m X.env (eval o X.env)=eval o X.env
 few:((backTo cpos (starEach [e,f] X.env)).all (λx=> !x.1) && (backToKw cpos (keywordEach [] X.env)).all (λx=>x.1.isSome)
  && decide (([e,f]:List Expr).length+([]:List Keyword).length+(if([]:List Keyword).isEmpty then 0 else 1)<30))=true
 line:(apos.endLine == cpos.line)=true
 trees:backTo cpos (starEach [e,f] X.env)=[(false,eval e X.env),(false,eval f X.env)]
def IsD(H:Hp)(a:Addr):Prop:=(∃ kvs,Rd H a (.dK kvs))\/∃ kvs,Rd H a (.dT kvs)
theorem jlr{X:Cx}{pins:List (Addr × Obj)}{σ:St}{H:Hp}{s:Shared}{a:Addr}(I:Inv X pins σ H s)(d:IsD H a) :
  s.TypeIs (.ref a) "dict"/\(∀ b,Value.ref a=.ref b->∃ ob,s.heap.get? b=some ob/\ob.dict=none)/\(a == sysModules)=false:=by
 rcases d with⟨kvs,e⟩ | ⟨kvs,e⟩
 ·obtain⟨_,hd,vs,_,dd⟩:=z8o I.hok e
  refine⟨dd.typeIs,λb q=> ?_,hd⟩
  cases q
  obtain⟨ob,_,_,h1,h2,_⟩:=dd
  exact⟨ob,h1,h2.2.1⟩
 ·obtain⟨_,hd,xs,_,dd⟩:=jam I.hok e
  refine⟨dd.typeIs,λb q=> ?_,hd⟩
  cases q
  obtain⟨ob,_,_,h1,h2,_⟩:=dd
  exact⟨ob,h1,h2.2.1⟩
section
variable{X:Cx}{pins:List (Addr × Obj)}{σ:St}{H:Hp}{s:Shared}{a:Addr}{y d:V}{u r:Value}{o:Option V}{A:Around}{E:Value->Shared->Prop}
theorem jls{Q:Value->Shared->Prop}(hu:A.units+1<cLine)(I:Inv X pins σ H s)(g:DGet H a y o)(ry:RelV y u)(h:∀ w' s',Inv X pins σ H s'->RelV (o.getD .non) w'->Q w' s') :
  wpAny (model X.prog X.w) A (call (.builtin "dict.get") [.ref a,u]) Q E s:=by
 rcases g with⟨kvs,k,e,ey,l⟩ | ⟨kvs,k,b,e,ey,eb,l⟩
 ·subst ey
  obtain⟨z,hd,vs,rel,dd⟩:=z8o I.hok e
  refine call_meetsIn PySem.F.slot_dict_get dd.typeIs PySem.F.entry_dict_get (PySem.F.args_dict_get_2 _ _) (meets_dict_get (zgj X.prog X.w) a (jc0 ry) hd) ⟨_,dd.mapOf,h _ _ (I.tok _) ?_⟩
  rw[l]
  exact(rel.val k).getD rfl
 ·subst ey
  cases (show u=Value.ref b from ry)
  obtain⟨z,hd,xs,rel,dd⟩:=jam I.hok e
  refine call_meetsIn PySem.F.slot_dict_get dd.typeIs PySem.F.entry_dict_get (PySem.F.args_dict_get_2 _ _) (meetsH_dict_get (tupleKind (zgj X.prog X.w)) a b hd) ⟨tupleKind_room_in1 hu,k,xs,z55 I.hok eb,dd,h _ _ (I.tok _) ?_⟩
  rw[l]
  exact(rel.val k).getD rfl
end
def jej(td ty:TE):TE:=λσ H Q=>td σ H λx H1=>∃ a,x=.ref a/\IsD H1 a/\ty σ H1 λy H2=>∃ o,DGet H2 a y o/\Q (o.getD .non) H2
section
variable{X:Cx}{o e f:Expr}{apos cpos:Pos}{td ty tx:TE}
theorem jg8(hu:X.A.units+1<cLine)(ho:PE X o td)(he:PE X e ty)(m:M1 X o "get" apos e cpos):PE X (.Call (.Attribute o "get" apos) [e] [] cpos) (jej td ty):=by
 intro pins s σ H Q I h
 refine wpAny_Call_method m.base m.few m.line PySem.F.plainAttrs_dict PySem.F.slot_dict_get PySem.F.type_dict_get (thn (ho pins s σ H _ I h) λu s1 ⟨x,H1,I1,rx,a,ex,d,q1⟩=> ?_)
 subst ex
 obtain rfl:u=Value.ref a:=rx
 obtain⟨t1,t2,_⟩:=jlr I1 d
 refine⟨t1,t2,?_⟩
 rw[m.trees]
 refine Calls.callWith_builtin rfl (Calls.evalArgs_plain (Calls.spliced_cons (thn (he pins s1 σ H1 _ I1 q1) λiv s2 ⟨y,H2,I2,ry,ov,g,q2⟩=>Calls.spliced_nil ?_)))
 exact jls hu I2 g ry λw' s3 I3 rw'=>⟨_,H2,I3,rw',q2⟩
end
section
variable{X:Cx}{pins:List (Addr × Obj)}{σ:St}{H:Hp}{s:Shared}{a:Addr}{kvs:List (Key × V)}{A:Around}{E:Value->Shared->Prop}
theorem jg9{Q:Value->Shared->Prop}(I:Inv X pins σ H s)(e:Rd H a (.dK kvs))(h:∀ p s',H p=none->Inv X pins σ (upd H p (.dK kvs)) s'->Q (.ref p) s'):wpAny (model X.prog X.w) A (call (.type "dict") [.ref a]) Q E s:=by
 obtain⟨z,hd,vs,rel,dd⟩:=z8o I.hok e
 refine kt_call_dict hd dd (by rw[<-rel.length];exact z) λh' dd' hs=> ?_
 refine h _ _ (I.hok.fresh (Nat.le_refl _)) (I.laid (a:=s.heap.objs.size) (o:=.dK kvs) (t':=s.toks) (λb q hq=> ?_) (Nat.le_refl _) (jir z (beq_eq_false_iff_ne.mpr (Ne.symm (Nat.ne_of_lt I.big))) rel dd'))
 exact(hs.2 b (Nat.ne_of_lt (Heap.lt_size hq))).trans (Heap.get?_push_of_some _ hq)
end
section
variable{X:Cx}{pins:List (Addr × Obj)}{σ:St}{H:Hp}{s:Shared}{a:Addr}{y:V}{u:Value}{A:Around}{E:Value->Shared->Prop}
end
end L2
namespace Att
open PySem PySem.W PySem.Calls PyProof.Rows
theorem z2o{P:Params}{h:Heap}:∀ (ns:List Int) (vs:List Value),WellAll P h vs (ns.map WData.int)->IntsAre vs ns:=by
 intro ns
 induction ns with
 | nil =>
  intro vs w
  rw[List.map_nil]at w
  cases w
  exact .nil
 | cons n ns ih =>
  intro vs w
  rw[List.map_cons]at w
  cases w with
  | cons a b =>
   cases a
   exact .cons _ _ (ih _ b)
theorem jek{l:OpenLaw}{n:Nat}(hn:l.most=some n){P:Params}{h:Heap}{args:List WData}{vals:List Value}
  (hpre:l.row.toRowW.claim.pre args=true) (hwl:WellAll P h vals args) :
  ∃ a vs ns,vals=[Value.ref a]/\args=[WData.list (ns.map WData.int)]/\h.get? a=some { cls:=.type "list",data:=.seq vs.toArray }/\IntsAre vs ns/\ns.length<=n:=by
 have hsh:WShape.hasAll [] args [.list .int]=true:=(pre_splitW hpre).1
 have hc:l.pre.holds [] { args:=args }=true:=(pre_splitW hpre).2
 obtain⟨d,r,rfl,h1,h2⟩:=hasAllW_cons hsh
 obtain rfl:=hasAllW_nil h2
 obtain⟨xs,rfl,h3⟩:=hasW_list h1
 obtain⟨ns,rfl⟩:=items_int h3
 have hlen:ns.length<=n:=by
  unfold OpenLaw.pre at hc
  have h4:(WTm.not (.lt (.lit (.int (n:Int))) (.len (.arg 0)))).holds [] { args:=[.list (ns.map .int)] }=true:=by
   have h4:=(holds_andW hc).1
   rw[hn]at h4
   exact h4
  have h5:=condW_of h4 (w_not (w_lt w_lit (w_len_list (w_arg rfl))))
  rw[List.length_map]at h5
  refine Nat.le_of_not_lt λq=> ?_
  have q':(n:Int)<((ns.length:Nat):Int):=by omega
  first
   | (rw[decide_eq_true q']at h5;exact absurd h5 (by decide))
   | (simp at h5;omega)
 cases hwl with
 | cons w1 w2 =>
  cases w2
  cases w1 with
  | list ho hall=>exact⟨_,_,ns,rfl,rfl,ho,z2o ns _ hall,hlen⟩
theorem jel(l:OpenLaw)(args:List WData):l.row.toRowW.claim.post args (.bool true) args=true :=
 postW_of (r:=l.row.toRowW) (X:=(true == true))
  (show WShape.has [] (.bool true) .bool=true by first | rfl | decide | simp[WShape.has,WShape.arms,WShape.armsAll])
  (show(WTm.eq .res (.lit (.bool true))).value [] { args:=args,res:=some (.bool true),after:=args }=some (.bool (true == true))from w_eq_bool (w_res rfl) w_lit) rfl
theorem attach_call{l:OpenLaw}{n:Nat}{q:Program}{loose:List Str}{XP:(Str->Option Value)->Heap->Prop}{YP:World->Heap->Prop}{d:DefRec}
  (hn:l.most=some n) (hdf:d.params.defaults=[])
  (call:∀ (w:World) (s₀ s₁:Shared) (mg mb:Str->Option Value) (fa:Addr) (o:Obj) (pm cd doc:Value) (a:Addr) (vs:List Value) (ns:List Int),
   Ground q loose [] XP w s₀ mg mb s₁.heap->YP w s₁.heap →
   s₁.heap.get? fa=some o->o.data=.func (docDef d.name d.params d.body d.scope pm cd doc)->s₁.heap.CodeRec cd d.name->mg d.name=some (.ref fa) →
   s₁.heap.get? a=some { cls:=.type "list",data:=.seq vs.toArray }->IntsAre vs ns->ns.length<=n->s₁.gens= #[] →
   codeAny (model l.prog w) callerA (.call (.ref fa) ⟨[.ref a],[]⟩) (λr s'=>r=.ok (.ret (.bool true))/\OldK s₁.heap s'.heap/\s'.os=s₁.os/\AllBare s'.gens) s₁) :
  WalkO q loose XP YP l.row.toRowW d [] (λf vs=>PySem.call f vs):=by
 intro w s₀ s₁ mg mb G Y fa o pm cd doc dV kV ho hd hcd hD hmg hg args vals as hpre hlay hrd hwl hlo
 obtain rfl:dV=.none:=Dflts.none hD hdf
 obtain rfl:kV=.none:=Dflts.noKw hD
 obtain⟨a,vs,ns,rfl,rfl,hobj,hints,hlen⟩:=jek hn hpre hwl
 refine enter_call (codeAny_mono (call w s₀ s₁ mg mb fa o pm cd doc a vs ns G Y ho (fd_plain hd) hcd hmg hobj hints hlen hg) λr s' hq=> ?_)
 obtain⟨rfl,h2,h3,h4⟩:=hq
 exact⟨.inl ⟨.bool true,.bool true,[],rfl,λ_=>rfl,.bool true,jel l _,λ_=>⟨List.Pairwise.nil,λ_ hm=>(nomatch hm)⟩⟩,h2,h3,h4⟩
section
variable{prog:Program}{w:World}{A:Around}{E:Value->Shared->Prop}{s:Shared}{K:Frag}
end
end Att
namespace L2
theorem z2p:∀ {vs:List Value} {ns:List Int},IntsAre vs ns->Vals (ns.map V.int) vs
 | _,_,.nil=>.nil
 | _,_,.cons n t h=>.cons ⟨t,rfl⟩ (z2p h)
def jn9(H:Hp):Prop:=∀ b,H b=none\/∃ o xs,H b=some (.frz o (.lst xs))
theorem jha{P:Program}{w:World}{K:W.Frag}{mg mb:Str->Option Value}{CX:CXT}{k:Nat}{fa a:Addr}{fd:FuncData}{x:Str}{sp:Sp}{s₁:Shared}{vs:List Value}{ns:List Int}
  (KX:K.In s₁.heap) (hns:s₁.heap.Ns mainGlobals mg) (hb:s₁.heap.Ns builtinsNs mb) (hbb:∀ x:Str,x≠"__name__"->mb x=bootBuiltins x) (hlim:s₁.heap.NoLimit) (hg:s₁.gens= #[])
  (ha:s₁.heap.get? a=some { cls:=.type "list",data:=.seq vs.toArray }) (hi:IntsAre vs ns) (hl:ns.length<=sizeLine) (hr:Room k callerA)
  (F:∀ base:Heap,K.In base->base.Ns mainGlobals mg->FnOk P w K mg base CX k fa fd [x] sp) (hbind:∀ (s:Shared) (u:Value),BindsTo s fd ⟨[u],[]⟩ [(x,u)])
  (hsp:∀ H:Hp,jn9 H->SqL K H a (ns.map V.int)->sp [.ref a] H (λv _=>v=.bl true) λ_ _ _=>False)
  (hCX:∀ H e s',CX [] H s₁ (λ_ _ _=>False) e s'->False) :
  codeAny (model P w) callerA (.call (.ref fa) ⟨[.ref a],[]⟩) (λr s'=>r=.ok (.ret (.bool true))/\OldK s₁.heap s'.heap/\s'.os=s₁.os/\AllBare s'.gens) s₁:=by
 have rv:=z2p hi
 have lenV:=hi.length
 have core:∀ H:Hp,jn9 H->SqL K H a (ns.map V.int)->HOk P w H s₁.heap->(∀ b,H b≠none->b=a)->(H a≠none->K.lookup a=none) →
   codeAny (model P w) callerA (.call (.ref fa) ⟨[.ref a],[]⟩) (λr s'=>r=.ok (.ret (.bool true))/\OldK s₁.heap s'.heap/\s'.os=s₁.os/\AllBare s'.gens) s₁:=by
  intro H hO hS hok hA hK
  have base_of:∀ {b:Addr} {o:Obj},s₁.heap.get? b=some o->H b=none->(jgm s₁.heap H).get? b=some o:=λe n=>jgn e n
  have noA:∀ {b:Addr} {o:Obj} {es:Array DictEntry} {ep:Nat},s₁.heap.get? b=some o->o.data=.dict es ep->H b=none:=λ{b o es ep} e d=>by
   cases q:H b with
   | none=>rfl
   | some u =>
    have e':b=a:=hA b (by rw[q];simp)
    subst e'
    rw[ha]at e;cases e
    have d':Data.seq vs.toArray _=Data.dict es ep:=d
    cases d'
  have nsK:∀ {b:Addr} {m:Str->Option Value},s₁.heap.Ns b m->(jgm s₁.heap H).Ns b m:=λ{b m} ⟨o,es,ep,e,d,r⟩=>⟨o,es,ep,base_of e (noA e d),d,r⟩
  have hKb:K.In (jgm s₁.heap H):=λb o e=>base_of (KX b o e) (by
   cases q:H b with
   | none=>rfl
   | some u =>
    have e':b=a:=hA b (by rw[q];simp)
    subst e'
    rw[hK (by rw[q];simp)]at e;cases e)
  have hM:Mod K mg (jgm s₁.heap H):=⟨hKb,nsK hns,⟨mb,nsK hb,hbb⟩,let ⟨mc,h1,h2⟩:=hlim;⟨mc,nsK h1,h2⟩⟩
  have e0:Env0 P w K mg (jgm s₁.heap H) callerA [] s₁ H:=⟨rfl,hM,λb o e=>ji3 e,Nat.le_of_eq (jdx _ _),trivial,λb hb=>absurd (show b∈([]:List Addr)from hb) (by simp),hok,.of_eq hg⟩
  refine codeAny_mono ((F _ hKb (nsK hns)).run callerA [] s₁ H ⟨[.ref a],[]⟩ [.ref a] [.ref a] _ _ hr e0 (hbind s₁ (.ref a)) (.cons rfl .nil) (hsp H hO hS)) λr s' h=> ?_
  cases r with
  | error e=>exact(hCX H e s' h).elim
  | ok fl =>
   cases fl with
   | next=>exact False.elim h
   | brk=>exact False.elim h
   | cont=>exact False.elim h
   | ret u =>
    obtain⟨v,H',os,bare,un,hok',r',q⟩:=h
    have q':v=.bl true:=q
    subst q'
    obtain rfl:u=Value.bool true:=r'
    refine⟨rfl,OldK.of_keep λb o e=> ?_,os,bare⟩
    cases q:H b with
    | none=>exact un.keep b o e q (by intro z;exact absurd (show b∈([]:List Addr)from z) (by simp)) (by simp)
    | some u =>
     rcases hO b with z | ⟨ob,xs,z⟩
     ·rw[q]at z;cases z
     ·have z2:=un.frzs b ob _ z
      obtain⟨e1,_⟩:=hok b _ z
      obtain⟨e2,_⟩:=hok' b _ z2
      rw[e]at e1;cases e1
      exact e2
 cases hk:K.lookup a with
 | some o =>
  have e:=KX a o hk
  rw[ha]at e
  cases e
  refine core (λ_=>none) (λ_=>.inl rfl) (.inr ⟨_,vs.toArray,_,hk,rfl,rfl,rfl,by rw[List.size_toArray,lenV];exact hl,by simpa using rv⟩) (λb u z=>by have z':(none:Option HO)=some u:=z;cases z') (λb z=>absurd rfl z) λz=>absurd rfl z
 | none =>
  refine core (λb=>if b=a then some (.frz { cls:=.type "list",data:=.seq vs.toArray } (.lst (ns.map V.int)))else none) (λb=> ?_) (.inl (.inr ⟨{ cls:=.type "list",data:=.seq vs.toArray },if_pos rfl⟩)) (λb u z=> ?_) (λb z=> ?_) λ_=>hk
  ·by_cases hb:b=a
   ·exact .inr ⟨_,_,if_pos hb⟩
   ·exact .inl (if_neg hb)
  ·by_cases hb:b=a
   ·have z':=(if_pos hb).symm.trans z
    cases z'
    subst hb
    exact⟨ha,by rw[List.length_map];exact hl,vs,_,rv,ha⟩
   ·have z':=(if_neg hb).symm.trans z
    cases z'
  ·by_cases hb:b=a
   ·exact hb
   ·exact absurd (if_neg hb) z
end L2
namespace L2
theorem walk_of{l:W.OpenLaw}{n k:Nat}{q:Program}{loose:List Str}{XP:(Str->Option Value)->Heap->Prop}{YP:World->Heap->Prop}{d:DefRec}{K:Params->W.Frag}{CX:World->CXT}{sp:World->Sp}{x:Str}
  (hn:l.most=some n) (hn2:n<=sizeLine) (hdf:d.params.defaults=[]) (hr:Room k callerA)
  (hY:∀ (w:World) (h:Heap),YP w h->(K w.params).In h)
  (F:∀ (w:World) (mg:Str->Option Value) (fa:Addr) (h:Heap),(K w.params).In h->h.Ns mainGlobals mg->mg d.name=some (.ref fa) →
   ∃ fd:FuncData,(∀ (s:Shared) (u:Value),BindsTo s fd ⟨[u],[]⟩ [(x,u)]) ∧
    ∀ base:Heap,(K w.params).In base->base.Ns mainGlobals mg->FnOk l.prog w (K w.params) mg base (CX w) k fa fd [x] (sp w))
  (hsp:∀ (w:World) (H:Hp) (a:Addr) (ns:List Int),ns.length<=n->jn9 H->SqL (K w.params) H a (ns.map V.int)->sp w [.ref a] H (λv _=>v=.bl true) λ_ _ _=>False)
  (hCX:∀ (w:World) (H:Hp) (s:Shared) (e:Value) (s':Shared),CX w [] H s (λ_ _ _=>False) e s'->False) :
  W.WalkO q loose XP YP l.row.toRowW d [] (λf vs=>PySem.call f vs):=by
 refine Att.attach_call hn hdf λw s₀ s₁ mg mb fa o pm cd doc a vs ns G Y ho hd hcd hmg hobj hints hlen hg=> ?_
 have KX:=hY w _ Y
 obtain⟨fd,hb,hF⟩:=F w mg fa _ KX G.T.g hmg
 exact jha KX G.T.g G.T.b G.T.builtins G.T.nolimit hg hobj hints (Nat.le_trans hlen hn2) hr hF hb (λH hO hS=>hsp w H a ns hlen hO hS) λH e s'=>hCX w H s₁ e s'
end L2
namespace L2
def za9(s:Stmt)(j:Nat):Stmt:=match s with
 | .ClassDef _ _ _ body _ _ _ _ _ _ _=>body.getD j (.Pass ⟨0,0,0,0⟩)
 | _=>.Pass ⟨0,0,0,0⟩
def zan(s:Stmt):Arguments:=match s with
 | .FunctionDef _ a _ _ _ _ _ _ _ _=>a
 | _=>{ posonlyargs:=[],args:=[],vararg:=none,kwonlyargs:=[],kw_defaults:=[],kwarg:=none,defaults:=[] }
def zam(s:Stmt):List Stmt:=match s with
 | .FunctionDef _ _ b _ _ _ _ _ _ _=>b
 | _=>[]
def zab(s:Stmt):Scope:=match s with
 | .FunctionDef _ _ _ _ _ _ sc _ _ _=>sc
 | _=>{ kind:=.function,names:=[],isGenerator:=false,isCoroutine:=false }
abbrev E0:XK:=λ_ _ _=>False
structure Fun(K:W.Frag)(x qual:Str)(st:Stmt)(f:Addr)(fd:FuncData):Prop where
 ex:∃ (oc:Value) (od:Option Addr) (kV doc pm:Value) (an:Option Addr) (cdv ct:Value) (osl:Array (Option Value)),
  fd=W.fnOf x qual (zan st) (zam st) (zab st) .none kV doc pm an cdv ct/\K.lookup f=some ⟨oc,od,.func fd,osl⟩/\W.codeIn K cdv qual=true
 kp:W.keepIn K (.ref f)=true
section
variable{P:Program}{w:World}{K:W.Frag}{mg:Str->Option Value}{base:Heap}
theorem Fun.binds{x qual:Str}{st:Stmt}{f:Addr}{fd:FuncData}{ps:List Str}(F:Fun K x qual st f fd)
  (h:∀ (kV doc pm:Value) (an:Option Addr) (cdv ct:Value) (us:List Value),us.length=ps.length->bindArgs (W.fnOf x qual (zan st) (zam st) (zab st) .none kV doc pm an cdv ct) ⟨us,[]⟩=pure (ps.zip us)):Binds K fd ps []:=by
 obtain⟨oc,od,kV,doc,pm,an,cdv,ct,osl,rfl,lk,hcd⟩:=F.ex
 exact .all (h kV doc pm an cdv ct)
theorem za7{x qual:Str}{st:Stmt}{f:Addr}{oc:Value}{od an:Option Addr}{osl:Array (Option Value)}{kV doc pm cdv ct:Value}(l:K.lookup f=some ⟨oc,od,.func (W.fnOf x qual (zan st) (zam st) (zab st) .none kV doc pm an cdv ct),osl⟩)
  (c:W.codeIn K cdv qual=true) (k:W.keepIn K (.ref f)=true):Fun K x qual st f (W.fnOf x qual (zan st) (zam st) (zab st) .none kV doc pm an cdv ct):=⟨⟨oc,od,kV,doc,pm,an,cdv,ct,osl,rfl,l,c⟩,k⟩
end
theorem zx1{A:Around}{k:Nat}(hr:Room k A):A.units+1<cLine:=Nat.lt_of_le_of_lt (Nat.add_le_add_left (by decide:1<=64) _) hr.units
section
variable{X:Cx}
end
def Same(H H':Hp):Prop:=∀ b o,H b=some o->H' b=some o
theorem Same.refl(H:Hp):Same H H:=λ_ _ h=>h
theorem Same.trans{H H1 H2:Hp}(a:Same H H1)(b:Same H1 H2):Same H H2:=λc o h=>b c o (a c o h)
theorem Same.free{H H':Hp}(e:Same H H'){l:Addr}(h:H' l=Option.none):H l=Option.none:=by
 cases q:H l with
 | none=>rfl
 | some o =>
  rw[e l o q]at h
  cases h
theorem Same.seq{K:W.Frag}{H H':Hp}{a:Addr}{xs:List V}(e:Same H H')(h:SqL K H a xs):SqL K H' a xs:=by
 rcases h with(h | ⟨o,h⟩) | h
 ·exact .inl (.inl (e _ _ h))
 ·exact .inl (.inr ⟨o,e _ _ h⟩)
 ·exact .inr h
section
variable{κ :Type}[DecidableEq κ]
theorem jhb{kvs:List (κ × V)}{k: κ}(h:zre kvs k=none):¬ k∈kvs.map (·.1):=by
 intro m
 obtain⟨p,hp,e⟩:=List.mem_map.mp m
 have q:(kvs.any λkv=>decide (kv.1=k))=true:=List.any_eq_true.mpr ⟨p,hp,decide_eq_true e⟩
 rw[zrf,h]at q
 exact absurd q (by simp)
theorem jem:∀ {l:List κ} {k: κ},l.Nodup->¬ k∈l->(l++[k]).Nodup
 | [],k,_,_=>by simp
 | a::r,k,h,hk=>by
  obtain⟨h1,h2⟩:=List.nodup_cons.mp h
  show(a::(r++[k])).Nodup
  refine List.nodup_cons.mpr ⟨λm=> ?_,jem h2 λm=>hk (List.mem_cons.mpr (Or.inr m))⟩
  rcases List.mem_append.mp m with q | q
  ·exact h1 q
  ·exact hk (List.mem_cons.mpr (Or.inl (List.mem_singleton.mp q).symm))
theorem jjo{kvs:List (κ × V)}{k: κ}(v:V)(hn:(kvs.map (·.1)).Nodup)(h:zre kvs k=none):((zx0 kvs k v).map (·.1)).Nodup:=by
 rw[jbw v h,List.map_append]
 exact jem hn (jhb h)
end
end L2
namespace L2
theorem zx2{env:Env}:∀ (names:List (Str × NameKind)) (cs:List (Str × Addr)),
  (∀ x∈names,x.2=.free->∃ c,env.cells.lookup x.1=some c)->(∀ x c,cs.lookup x=some c->env.cells.lookup x=some c) →
  ∃ cl,(forIn names cs λx r=>(if(x.2 == NameKind.free)=true then do let a ← cellOf env x.1;pure (ForInStep.yield ((x.1,a)::r))else pure (ForInStep.yield r):Sem (ForInStep (List (Str × Addr)))))=pure cl ∧
   (∀ x c,cl.lookup x=some c->env.cells.lookup x=some c)/\(∀ x,(cs.lookup x).isSome=true->(cl.lookup x).isSome=true) ∧
   ∀ x∈names,x.2=.free->(cl.lookup x.1).isSome=true
 | [],cs,_,h=>⟨cs,rfl,h,λ_ z=>z,λ_ z=>nomatch z⟩
 | (n,k)::r,cs,hf,h=>by
  by_cases hk:k=.free
  ·subst hk
   obtain⟨c,hc⟩:=hf (n,.free) List.mem_cons_self rfl
   obtain⟨cl,e,h1,h2,h3⟩:=zx2 r ((n,c)::cs) (λx hx=>hf x (List.mem_cons_of_mem _ hx)) (λx c' hx=>by
    by_cases hxn:x=n
    ·subst hxn;simp only[List.lookup_cons,beq_self_eq_true]at hx;cases hx;exact hc
    ·have:(x == n)=false:=beq_eq_false_iff_ne.mpr hxn
     simp only[List.lookup_cons,this]at hx;exact h x c' hx)
   refine⟨cl,?_,h1,λx hx=>h2 x ?_,λx hx hxf=> ?_⟩
   ·rw[List.forIn_cons]
    show((if(NameKind.free == NameKind.free)=true then _ else _) >>= _)=_
    rw[if_pos (show(NameKind.free == NameKind.free)=true from rfl)]
    unfold cellOf
    show(((match env.cells.lookup n with | some a=>pure a | none=>_) >>= _) >>= _)=_
    rw[hc]
    exact e
   ·by_cases hxn:x=n
    ·subst hxn;simp
    ·have:(x == n)=false:=beq_eq_false_iff_ne.mpr hxn
     simp only[List.lookup_cons,this];exact hx
   ·rcases List.mem_cons.mp hx with rfl | hx
    ·exact h2 n (by simp)
    ·exact h3 x hx hxf
  ·obtain⟨cl,e,h1,h2,h3⟩:=zx2 r cs (λx hx=>hf x (List.mem_cons_of_mem _ hx)) h
   refine⟨cl,?_,h1,h2,λx hx hxf=> ?_⟩
   ·rw[List.forIn_cons]
    have hb:(k == NameKind.free)=false:=by simpa using hk
    show((if(k == NameKind.free)=true then _ else _) >>= _)=_
    rw[if_neg (by simp[hb])]
    exact e
   ·rcases List.mem_cons.mp hx with rfl | hx
    ·exact absurd hxf hk
    ·exact h3 x hx hxf
theorem z2q{env:Env}{scope:Scope}(hf:∀ x∈scope.names,x.2=.free->∃ c,env.cells.lookup x.1=some c) :
  ∃ cl,closureFor scope env=pure cl/\(∀ x c,cl.lookup x=some c->env.cells.lookup x=some c)/\∀ x∈scope.names,x.2=.free->(cl.lookup x.1).isSome=true:=by
 obtain⟨cl,e,h1,_,h3⟩:=zx2 (env:=env) scope.names [] hf (λx c h=>by simp at h)
 refine⟨cl,?_,h1,h3⟩
 unfold closureFor
 show(forIn scope.names ([]:List (Str × Addr)) _ >>= _)=_
 have:(forIn scope.names ([]:List (Str × Addr)) λx r=>(if(x.2 == NameKind.free)=true then do let a ← cellOf env x.1;pure (ForInStep.yield ((x.1,a)::r))else pure (ForInStep.yield r):Sem (ForInStep (List (Str × Addr))))) >>=(λr=>(pure r:Sem _))=(pure cl:Sem _):=by rw[e];rfl
 exact this
theorem z0b{env:Env}:∀ {names:List (Str × NameKind)} {x:Str},names.lookup x=some .free →
  (names.map λ(n,k)=>if(k == NameKind.free && env.scope.kind == .function && env.kindOf n == some .cell)then(n,NameKind.cell)else(n,k)).lookup x=some .cell ∨
  (names.map λ(n,k)=>if(k == NameKind.free && env.scope.kind == .function && env.kindOf n == some .cell)then(n,NameKind.cell)else(n,k)).lookup x=some .free
 | [],_,h=>by simp at h
 | (n,k)::r,x,h=>by
  by_cases hx:x=n
  ·subst hx
   simp only[List.lookup_cons,beq_self_eq_true]at h
   cases h
   show List.lookup x ((if _ then(x,NameKind.cell)else(x,NameKind.free))::_)=_\/List.lookup x ((if _ then(x,NameKind.cell)else(x,NameKind.free))::_)=_
   split
   ·exact .inl (by simp)
   ·exact .inr (by simp)
  ·have hb:(x == n)=false:=beq_eq_false_iff_ne.mpr hx
   simp only[List.lookup_cons,hb]at h
   have ih:=z0b (env:=env) h
   show List.lookup x ((if _ then(n,NameKind.cell)else(n,k))::_)=_\/List.lookup x ((if _ then(n,NameKind.cell)else(n,k))::_)=_
   split<;>(simp only[List.lookup_cons,hb];exact ih)
theorem z0c{env:Env}:∀ {names:List (Str × NameKind)} {x:Str},
  ((names.map λ(n,k)=>if(k == NameKind.free && env.scope.kind == .function && env.kindOf n == some .cell)then(n,NameKind.cell)else(n,k)).lookup x=some .cell ∨
  (names.map λ(n,k)=>if(k == NameKind.free && env.scope.kind == .function && env.kindOf n == some .cell)then(n,NameKind.cell)else(n,k)).lookup x=some .free)->(x,NameKind.free)∈names\/(x,NameKind.cell)∈names
 | [],_,h=>by simp at h
 | (n,k)::r,x,h=>by
  by_cases hx:x=n
  ·subst hx
   have h:List.lookup x ((if(k == NameKind.free && env.scope.kind == .function && env.kindOf x == some .cell)=true then(x,NameKind.cell)else(x,k))::_)=some .cell\/List.lookup x ((if(k == NameKind.free && env.scope.kind == .function && env.kindOf x == some .cell)=true then(x,NameKind.cell)else(x,k))::_)=some .free:=h
   split at h
   ·rename_i hc
    rw[Bool.and_eq_true,Bool.and_eq_true]at hc
    have:k=.free:=by simpa using hc.1.1
    subst this
    exact .inl List.mem_cons_self
   ·simp only[List.lookup_cons,beq_self_eq_true]at h
    rcases h with h | h
    ·cases h;exact .inr List.mem_cons_self
    ·cases h;exact .inl List.mem_cons_self
  ·have hb:(x == n)=false:=beq_eq_false_iff_ne.mpr hx
   have h:List.lookup x ((if(k == NameKind.free && env.scope.kind == .function && env.kindOf n == some .cell)=true then(n,NameKind.cell)else(n,k))::_)=some .cell\/List.lookup x ((if(k == NameKind.free && env.scope.kind == .function && env.kindOf n == some .cell)=true then(n,NameKind.cell)else(n,k))::_)=some .free:=h
   have h':=h
   split at h'
   all_goals
    simp only[List.lookup_cons,hb]at h'
    exact(z0c h').imp (List.mem_cons_of_mem _) (List.mem_cons_of_mem _)
theorem zo9{a b:Addr}{n:Nat}(h:a<n)(h2:n<=b):a≠b:=Nat.ne_of_lt (Nat.lt_of_lt_of_le h h2)
def Cx.block(X:Cx)(pins:List (Addr × Obj))(s:Shared)(H:Hp)(Nc:List Str)(scope:Scope)(cl:List (Str × Addr))(C:Addr)(fp:List Addr):Cx where
 prog:=X.prog
 w:=X.w
 K:=X.K
 mg:=X.mg
 base:=X.base
 A:=X.A
 N:=Nc
 s₀:=s
 H₀:=H
 env:=compEnvC scope cl C X.env
 outer:=X.stack
 stack:=X.stack
 ex:=fp
 fn:=λ_=>false
 calm:=X.calm
 pn:=X.pn++pins
 xe:=λ_ _=>False
structure z2r(X:Cx)(scope:Scope)(tn cn:List Str)(cap:List Nat):Prop where
 kind:scope.kind=.function
 nocell:∀ y∈scope.names,y.2≠.cell
 names:∀ y∈scope.names,y.2=.local->scope.names.lookup y.1=some .local
 free:∀ y∈scope.names,y.2=.free->X.env.kindOf y.1=some .cell\/X.env.kindOf y.1=some .free
 drawn:∀ x∈cn,scope.names.lookup x=some .free
 caps:cap.map (λi=>X.N[i]?)=cn.map some
def z6r(k:Nat)(cap:List Nat)(σ:St):St:=List.replicate k none++cap.map λi=>(σ[i]?).join
theorem HOk.track{P:Program}{w:World}{H:Hp}{h:Heap}{a:Addr}{o:HO}(x:HOk P w H h)(hn:H a=none)(new:ObjOk P w (upd H a o) h a o):HOk P w (upd H a o) h:=λb u e=>by
 by_cases hb:b=a
 ·subst hb;rw[zae]at e;cases e;exact new
 ·rw[zal hb]at e
  refine(x b u e).stay (λ_ _ _ q=>q) (λc q=> ?_) λc xs q=> ?_
  ·rw[zal (zay q hn)];exact q
  ·rw[zal (zay q hn)];exact q
section
variable{X:Cx}{pins:List (Addr × Obj)}{σ:St}{H:Hp}{s:Shared}
theorem Inv.pinlt(I:Inv X pins σ H s){p:Addr × Obj}(hp:p∈X.pn++pins):p.1<s.heap.objs.size:=Heap.lt_size (I.pin p hp).1
theorem Inv.stkne(I:Inv X pins σ H s){b:Addr}(h1:b≠X.env.locals)(h2:b∉X.fs):b∉frs X.stack:=λz=>(List.mem_cons.mp (I.stkSub b z)).elim h1 h2
theorem Inv.stklt(I:Inv X pins σ H s){b:Addr}(h:b∈frs X.stack):b<s.heap.objs.size:=by
 obtain⟨_,o,ho,_⟩:=I.stack.mem h
 exact Heap.lt_size ho
theorem Inv.block{scope:Scope}{tn cn:List Str}{cap:List Nat}{cl:List (Str × Addr)}{C:Addr}{fp:List Addr}{pins':List (Addr × Obj)}{s1:Shared}(I:Inv X pins σ H s)(S:z2r X scope tn cn cap)
  (hcl:∀ x c,cl.lookup x=some c->X.env.cells.lookup x=some c) (hcl2:∀ x∈scope.names,x.2=.free->(cl.lookup x.1).isSome=true)
  (hf:∀ b∈fp,FpOk X pins H b) (hfl:∀ b∈fp,b<s.heap.objs.size) (hC:s.heap.objs.size<=C) (k:∀ b o,s.heap.get? b=some o->s1.heap.get? b=some o)
  (hos:s1.os=s.os) (hg:s1.gens=s.gens) (hns:∃ m,s1.heap.Ns C m)
  (hp:∀ p∈pins',s1.heap.get? p.1=some p.2/\H p.1=none/\p.1≠C/\p.1∉frs X.stack/\∀ v,p.2.data≠.cell v) :
  Inv (X.block pins s H (tn++cn) scope cl C fp) pins' (z6r tn.length cap σ) H s1:=by
 have ok:(X.block pins s H (tn++cn) scope cl C fp).Ok:=by
  refine⟨I.ok.mod,S.kind,I.ok.glob,I.ok.blt,hC,λx y c h1 h2=>I.ok.inj x y c (hcl x c h1) (hcl y c h2),λx hx=> ?_,λx c z _=>(by cases z),I.ok.hd,I.ok.frames,.inl rfl,λb hb=>⟨?_,λx c e=>(hf b hb).2.2.2.2.1 x c (hcl x c e)⟩,I.bs,Nat.le_trans I.ok.bsz I.sz,λb o e hb=> ?_,λb hb=>I.stkne (hf b hb).2.1 (hf b hb).2.2.1,I.stack,I.stkFree⟩
  ·rcases z0c (env:=X.env) hx with z | z
   ·exact Option.isSome_iff_exists.mp (hcl2 _ z rfl)
   ·exact absurd rfl (S.nocell _ z)
  ·exact Nat.ne_of_lt (Nat.lt_of_lt_of_le (hfl b hb) hC)
  ·rcases(hf b hb).2.2.2.1 with z | z
   ·exact I.ok.noex b o e z
   ·have h1:b<X.base.objs.size:=Heap.lt_size e
    exact absurd (Nat.lt_of_lt_of_le h1 (Nat.le_trans I.ok.bsz z)) (Nat.lt_irrefl _)
 refine⟨ok,hos,by rw[hg];exact I.bare,Un.kept k,?_,λx c e=> ?_,I.hok.fresh hC,λx c e=>I.freeC x c (hcl x c e),λp hp'=> ?_,I.hok.kept k,?_⟩
 ·obtain⟨m,hm⟩:=hns
  refine⟨m,hm,λi x v h1 h2 h3=> ?_⟩
  have hi:tn.length<=i:=by
   rcases Nat.lt_or_ge i tn.length with z | z
   ·unfold z6r at h2
    rw[List.getElem?_append_left (by simpa using z),List.getElem?_replicate]at h2
    split at h2<;>cases h2
   ·exact z
  unfold z6r at h2
  rw[List.getElem?_append_right (by simpa using hi),List.length_replicate,List.getElem?_map]at h2
  have h1':cn[i - tn.length]? =some x:=by
   have:(tn++cn)[i]? =some x:=h1
   rwa [List.getElem?_append_right hi]at this
  cases hq:cap[i - tn.length]? with
  | none=>rw[hq]at h2;cases h2
  | some j =>
   rw[hq]at h2
   have hj:X.N[j]? =some x:=by
    have:=congrArg (λl=>l[i - tn.length]?) S.caps
    simp only[List.getElem?_map,hq,h1',Option.map_some]at this
    exact Option.some.inj this
   have hv:σ[j]? =some (some v):=by
    cases hs:σ[j]? with
    | none=>simp[hs]at h2
    | some y=>simp only[Option.map_some,hs,Option.join_some]at h2;cases h2;rfl
   have hxf:(x,NameKind.free)∈scope.names:=PySem.mem_of_lookup (S.drawn x (List.mem_of_getElem? h1'))
   have hk:=S.free _ hxf rfl
   obtain⟨m0,_,hl0⟩:=I.loc
   obtain⟨u,r,q⟩:=hl0 j x v hj hv (hk.elim (λz=>.inr (.inl z)) λz=>.inr (.inr z))
   refine⟨u,r,.inr ⟨z0b (S.drawn x (List.mem_of_getElem? h1')),?_⟩⟩
   rcases q with⟨kl,_⟩ | ⟨_,c,hc,z⟩
   ·have kl':X.env.kindOf x=some .local:=kl
    rcases hk with hk | hk<;>(rw[kl']at hk;cases hk)
   ·obtain⟨c',hc'⟩:=Option.isSome_iff_exists.mp (hcl2 _ hxf rfl)
    have:=hcl _ _ hc'
    rw[hc]at this
    cases this
    exact⟨c,hc',z.keeps k⟩
 ·obtain⟨v,z⟩:=I.cell x c (hcl x c e)
  exact⟨v,z.keeps k⟩
 ·rcases List.mem_append.mp hp' with z | z
  ·obtain⟨e,n,ne,nf,d⟩:=I.pin p z
   exact⟨k _ _ e,n,Nat.ne_of_lt (Nat.lt_of_lt_of_le (Heap.lt_size e) hC),I.stkne ne nf,d⟩
  ·exact hp p z
 ·unfold z6r
  show _=(tn++cn).length
  have:=congrArg List.length S.caps
  simp only[List.length_map]at this
  simp[this]
end
def zju:TT:=λ_ H Q=>Q true H
def PTs(X:Cx)(ifs:List Expr)(t:TT):Prop :=
 ∀ (pins:List (Addr × Obj)) (s:Shared) (σ:St) (H:Hp) (Q:Bool->Hp->Prop),Inv X pins σ H s->t σ H Q →
  wpAny (model X.prog X.w) X.A (forIn ifs true λc r=>if r=true then do let ok ← isTrue c X.env (eval c X.env);pure (ForInStep.yield ok)else pure (ForInStep.yield r)) (TP X pins σ Q) X.xe s
theorem zjf{X:Cx}:PTs X [] zju:=λpins s σ H Q I h=>wpAny_tests_nil ⟨H,I,h⟩
theorem jen{X:Cx}{c:Expr}{t:TT}(h:PT X c t):PTs X [c] t:=λpins s σ H Q I q=>wpAny_tests_one (h pins s σ H Q I q)
theorem jeo{prog:Program}{w:World}{A:Around}{R:Result->Shared->Prop}{s:Shared}{elt target iter:Expr}{ifs:List Expr}{scope:Scope}{pos:Pos}{it acc:Value}{env:Env}(Jn:Nat->Shared->Prop)
  (turn:∀ n s,Jn n s->wpAny (model prog w) A (pyNext it) (λr s₁=>match r with
   | none=>R (.ok .next) s₁
   | some v=>wpAny (model prog w) A (letOwnedTupleGo target it v) (λ_ s₂=>wpAny (model prog w) A (assign target env v) (λ_ s₃ =>
     wpAny (model prog w) A (forIn ifs true λc r=>if r=true then do let ok ← isTrue c env (eval c env);pure (ForInStep.yield ok)else pure (ForInStep.yield r)) (λok s₄ =>
      if ok=true then wpAny (model prog w) A (eval elt env) (λx s₅ =>
       wpAny (model prog w) A (call (.builtin "list.append") [acc,x]) (λ_ s₆=>∃ m,m<n/\Jn m s₆) (λ_ _=>False) s₅) (λ_ _=>False) s₄
      else ∃ m,m<n/\Jn m s₄) (λ_ _=>False) s₃) (λ_ _=>False) s₂) (λ_ _=>False) s₁) (λ_ _=>False) s)
  (n:Nat) (h:Jn n s):codeAny (model prog w) A (.compLoop (.ListComp elt [⟨target,iter,ifs,0⟩] scope pos) 0 it acc env) R s:=by
 refine codeAny_loop rfl Jn (λn' s' hJ=> ?_) n h
 show wpAny _ A ((compTurn (.ListComp elt [⟨target,iter,ifs,0⟩] scope pos) 0 it acc env).onRaise (λx'=>do noteFrame x' env;theTreesLotGoes x')) _ _ s'
 refine wpAny_noted (wpAny_noRaise ?_)
 rw[compTurn_list]
 refine wpAny_bind (wpAny_standAt (wpAny_bind (thn (turn n' s' hJ) λr s₁ h₁=> ?_)))
 cases r with
 | none=>exact wpAny_pure h₁
 | some v =>
  refine wpAny_bind (thn h₁ λ_ s₂ h₂=> ?_)
  refine wpAny_bind (thn h₂ λ_ s₃ h₃=>wpAny_bind (thn h₃ λok s₄ h₄=> ?_))
  cases ok with
  | false=>exact wpAny_pure ⟨rfl,h₄⟩
  | true=>exact wpAny_bind (wpAny_bind (thn h₄ λx' s₅ h₅=>wpAny_bind (thn h₅ λ_ s₆ h₆=>wpAny_pure (wpAny_pure ⟨rfl,h₆⟩))))
def zl9(wi:TI)(g:TG)(tt:TT)(te:TE)(k:Nat)(cap:List Nat):TE:=λσ H Q=>wi σ H λJ H1 =>
 ∃ W:Nat->Nat->St->List V->Hp->Prop,(∃ m,W 0 m (z6r k cap σ) [] H1)/\∀ i m σ' ys H,W i m σ' ys H →
  (J.stop i H/\∀ p,H p=none->Q (.ref p) (upd H p (.lst ys))) ∨
  (J.go i H/\ys.length<sizeLine/\∀ x H',J.yld i H x H'->g x σ' H' λσ2 H2=>tt σ2 H2 λb H3 =>
   if b=true then ∃ N:VK,(∀ y H4,N y H4->∃ m',m'<m/\W (i+1) m' σ2 (ys++[y]) H4)/\te σ2 H3 N else ∃ m',m'<m/\W (i+1) m' σ2 ys H3)
structure CompDone(X:Cx)(fp:List Addr)(H:Hp)(s:Shared)(Q:VK)(acc:Value)(C:Addr)(r:Result)(s':Shared):Prop where
 ok:r=.ok .next
 ex:∃ (D:Addr) (ys:List V) (its:List Value) (n:Nat) (H':Hp),acc=.ref D/\Vals ys its/\ys.length<=sizeLine/\s'.heap.get? D=some { cls:=.type "list",data:=.seq its.toArray n }/\s.heap.objs.size<=D/\D≠C/\H' D=none/\H' C=none ∧
  (∃ m,s'.heap.Ns C m)/\Un (frs X.stack) fp H H' s.heap s'.heap/\HOk X.prog X.w H' s'.heap/\∀ p,H' p=none->Q (.ref p) (upd H' p (.lst ys))
 ge:s.heap.objs.size<=C
 os:s'.os=s.os
 bare:AllBare s'.gens
section
variable{X:Cx}{pins:List (Addr × Obj)}{σ:St}{H:Hp}{s:Shared}
theorem jbx{tg iter elt:Expr}{ifs:List Expr}{scope:Scope}{pos:Pos}{g:TG}{tt:TT}{te:TE}{tn cn:List Str}{cap:List Nat}{cl:List (Str × Addr)}{it:Addr}{fp:List Addr}{tn':Nat->Heap->Prop}{J:It}{Q:VK}{E:Value->Shared->Prop}
  (I:Inv X pins σ H s) (S:z2r X scope tn cn cap) (hc:X.calm=true)
  (hcl:∀ x c,cl.lookup x=some c->X.env.cells.lookup x=some c) (hcl2:∀ x∈scope.names,x.2=.free->(cl.lookup x.1).isSome=true)
  (T:ji8 X.prog X.w X.K tg J fp it tn') (st:tn' 0 s.heap) (hf:∀ b∈fp,FpOk X pins H b)
  (hg:∀ C,PG (X.block pins s H (tn++cn) scope cl C fp) tg g) (ht:∀ C,PTs (X.block pins s H (tn++cn) scope cl C fp) ifs tt) (he:∀ C,PE (X.block pins s H (tn++cn) scope cl C fp) elt te)
  (W:Nat->Nat->St->List V->Hp->Prop) {m0:Nat} (w0:W 0 m0 (z6r tn.length cap σ) [] H)
  (step:∀ i m σ' ys H,W i m σ' ys H →
   (J.stop i H/\∀ p,H p=none->Q (.ref p) (upd H p (.lst ys))) ∨
   (J.go i H/\ys.length<sizeLine/\∀ x H',J.yld i H x H'->g x σ' H' λσ2 H2=>tt σ2 H2 λb H3 =>
    if b=true then ∃ N:VK,(∀ y H4,N y H4->∃ m',m'<m/\W (i+1) m' σ2 (ys++[y]) H4)/\te σ2 H3 N else ∃ m',m'<m/\W (i+1) m' σ2 ys H3)) :
  wpAny (model X.prog X.w) X.A (newList []) (λacc s₃=>wpAny (model X.prog X.w) X.A (newFunctionEnv scope X.env.globals cl [] X.env.qual none .none (some X.env)) (λcenv s₄ =>
   codeAny (model X.prog X.w) X.A (.compStart (.ListComp elt [⟨tg,iter,ifs,0⟩] scope pos) 0 (.ref it) acc { cenv with scope:=relabel scope X.env }) (CompDone X fp H s Q acc cenv.locals) s₄) E s₃) E s:=by
 refine wpAny_newObj_type (wpAny_newFunctionEnv S.nocell (by intro y hy;simp at hy) (λh₁ hns₁ hsb₁=> ?_) S.kind)
 dsimp only at hns₁ hsb₁ ⊢
 generalize hH2:s.heap.push { cls:=.type "list",dict:=none,data:=.seq ([]:List Value).toArray }=H2 at hns₁ hsb₁ ⊢
 have hCs:H2.objs.size=s.heap.objs.size+1:=by rw[<-hH2,Heap.size_push]
 generalize hCe:H2.objs.size=C at hns₁ hsb₁ ⊢
 have hC:C=s.heap.objs.size+1:=hCe.symm.trans hCs
 generalize hD:s.heap.objs.size=D at *
 have hDC:D≠C:=by rw[hC];exact Nat.ne_of_lt (Nat.lt_succ_self _)
 have old:∀ b o,s.heap.get? b=some o->h₁.get? b=some o:=λb o e=>by
  have hb:b<D:=by rw[<-hD];exact Heap.lt_size e
  have hbC:b≠C:=zo9 hb (by rw[hC];exact Nat.le_succ _)
  exact hsb₁.extBut b o hbC (Heap.get?_push_of_some _ (hH2 ▸ Heap.get?_push_of_some _ e))
 have hDo:h₁.get? D=some { cls:=.type "list",data:=.seq ([]:List Value).toArray }:=by
  refine hsb₁.extBut _ _ hDC (Heap.get?_push_of_some _ ?_)
  rw[<-hH2,<-hD]
  exact Heap.get?_push_size _ rfl
 have hfl:∀ b∈fp,b<s.heap.objs.size:=λb hb=>by
  obtain⟨o,e,_⟩:=T.obj 0 _ st b hb
  exact Heap.lt_size e
 have hDn:H D=none:=by rw[<-hD];exact I.hok.fresh (Nat.le_refl _)
 have hDs:D∉frs X.stack:=λz=>zo9 (I.stklt z) (Nat.le_of_eq hD) rfl
 have I0:Inv (X.block pins s H (tn++cn) scope cl C fp) [(D,{ cls:=.type "list",data:=.seq ([]:List Value).toArray 0 })] (z6r tn.length cap σ) H { s with heap:=h₁,toks:=s.toks+([]:List (Str × Value)).length } :=
  I.block S hcl hcl2 hf hfl (by omega) old rfl rfl ⟨_,hns₁⟩ λp hp=>by
   rw[List.mem_singleton]at hp
   subst hp
   exact⟨hDo,hDn,hDC,hDs,λv z=>nomatch z⟩
 have fpok:∀ {H':Hp} {o:Obj},(∀ b∈fp,H' b=none)->∀ b∈fp,FpOk (X.block pins s H (tn++cn) scope cl C fp) [(D,o)] H' b:=λ{H' o} hn b hb=>by
  obtain⟨_,f1,f2,f3,f4,f5⟩:=hf b hb
  have hbl:=hfl b hb
  refine⟨hn b hb,?_,I.stkne f1 f2,.inl hb,λx c e=>f4 x c (hcl x c e),λp hp=> ?_⟩
  ·exact zo9 hbl (by rw[hD,hC];exact Nat.le_succ _)
  ·rcases List.mem_append.mp hp with z | z
   ·exact f5 p z
   ·rw[List.mem_singleton]at z;subst z;exact Ne.symm (zo9 hbl (Nat.le_of_eq hD))
 have st1:tn' 0 h₁:=T.keep _ _ _ st λb _ o e=>old b o e
 have loop:∀ s₃:Shared,s₃={ s with heap:=h₁,toks:=s.toks+([]:List (Str × Value)).length } →
   codeAny (model X.prog X.w) X.A (.compLoop (.ListComp elt [⟨tg,iter,ifs,0⟩] scope pos) 0 (.ref it) (.ref D) (compEnvC scope cl C X.env)) (CompDone X fp H s Q (.ref D) C) s₃:=by
  rintro s₃ rfl
  refine jeo (λn s'=>∃ i σ' ys its nn H',Inv (X.block pins s H (tn++cn) scope cl C fp) [(D,{ cls:=.type "list",data:=.seq (its:List Value).toArray nn })] σ' H' s'/\tn' i s'.heap/\(∀ b∈fp,H' b=none)/\Vals ys its/\ys.length<=sizeLine/\W i n σ' ys H') ?_ m0
   ⟨0,_,[],[],0,H,I0,st1,λb hb=>(hf b hb).1,.nil,Nat.zero_le _,w0⟩
  rintro n s4 ⟨i,σ4,ys,its,nn,H4,I4,st4,fr4,r4,l4,w4⟩
  rcases step i n σ4 ys H4 w4 with⟨stop,qn⟩ | ⟨go,hlt,next⟩
  ·refine thn (T.done (X.block pins s H (tn++cn) scope cl C fp) rfl rfl rfl hc i _ s4 σ4 H4 _ I4 (fpok fr4) st4 stop) λr s5 ⟨hr,I5⟩=> ?_
   subst hr
   have hp:=I5.pin (D,_) (List.mem_append_right _ List.mem_cons_self)
   obtain⟨m5,hm5,_⟩:=I5.loc
   exact⟨rfl,⟨D,ys,its,nn,H4,rfl,r4,l4,hp.1,by omega,hDC,hp.2.1,I5.free,⟨m5,hm5⟩,I5.base,I5.hok,qn⟩,by omega,I5.os,I5.bare⟩
  ·refine thn (T.item (X.block pins s H (tn++cn) scope cl C fp) rfl rfl rfl hc i _ s4 σ4 H4 _ I4 (fpok fr4) st4 go) λr s5 ⟨u,hr,h5⟩=> ?_
   subst hr
   refine thn h5 λ_ s6 ⟨x,H6,I6,r6,y6,st6,fr6⟩=> ?_
   have I6':=I6.pinned (fpok fr6) (T.obj _ _ st6)
   refine thn (hg C _ s6 σ4 H6 x u _ I6' r6 (next x H6 y6)) λ_ s7 ⟨σ7,H7,I7,q7⟩=> ?_
   refine thn (ht C _ s7 σ7 H7 _ I7 q7) λok s8 ⟨H8,I8,q8⟩=> ?_
   have keepst:∀ {σ9:St} {H9:Hp} {s9:Shared},Inv (X.block pins s H (tn++cn) scope cl C fp) ([(D,{ cls:=.type "list",data:=.seq its.toArray nn })]++z8c fp s6.heap) σ9 H9 s9->(∀ b∈fp,∀ o,s6.heap.get? b=some o->s9.heap.get? b=some o)/\∀ b∈fp,H9 b=none:=λ{σ9 H9 s9} I9=>by
    refine⟨λb hb o e=>(I9.pin (b,o) (List.mem_append_right _ (List.mem_append_right _ (zrd hb e)))).1,λb hb=> ?_⟩
    obtain⟨o,e,_⟩:=T.obj _ _ st6 b hb
    exact(I9.pin (b,o) (List.mem_append_right _ (List.mem_append_right _ (zrd hb e)))).2.1
   cases ok with
   | false =>
    obtain⟨m',hm',w'⟩:=q8
    obtain⟨k1,k2⟩:=keepst I8
    exact⟨m',hm',i+1,σ7,ys,its,nn,H8,I8.unpinned,T.keep _ _ _ st6 k1,k2,r4,l4,w'⟩
   | true =>
    obtain⟨Nw,hN,q8⟩:=q8
    refine thn (he C _ s8 σ7 H8 Nw I8 q8) λv s9 ⟨y,H9,I9,r9,n9⟩=> ?_
    obtain⟨m',hm',w'⟩:=hN y H9 n9
    obtain⟨k1,k2⟩:=keepst I9
    have hp:=I9.pin (D,_) (List.mem_append_right _ (List.mem_append_left _ List.mem_cons_self))
    have e:=hp.1
    have hlen:=r4.length
    refine call_meets F.slot_list_append ⟨_,e,rfl⟩ F.entry_list_append (F.args_list_append_2 _ _) (PySem.list_append D its.toArray nn v (by rw[List.size_toArray];omega)) ⟨e,?_⟩
    have q:=PySem.IsL.update e (λxs=>xs.push v)
    have Ia:Inv (X.block pins s H (tn++cn) scope cl C fp) [] σ7 H9 s9:=I9.pins_of λp hp=>nomatch hp
    have Ib:=Ia.turned (h':=s9.heap.update D (Obj.mapSeq (·.push v))) (t':=s9.toks) (it:=D) (λb o hb eb=>(Heap.get?_update_other _ _ (Ne.symm hb)).trans eb) hp.2.1 hDC (.inr (by show s.heap.objs.size<=D;omega))
     (λx c ec z=>by
      obtain⟨vv,zc⟩:=I.cell x c (hcl x c ec)
      exact zo9 zc.lt (Nat.le_of_eq hD) z)
     (λp hp'=>by
      rw[List.append_nil]at hp'
      exact zo9 (I.pinlt hp') (Nat.le_of_eq hD))
    have q':(s9.heap.update D (Obj.mapSeq (·.push v))).get? D=some { cls:=.type "list",data:=.seq (its++[v]).toArray (nn+1) }:=by
     rw[if_neg (by simp)]at q
     rw[<-List.push_toArray]
     exact q
    refine⟨m',hm',i+1,σ7,ys++[y],its++[v],nn+1,H9,Ib.pins_of (λp hp'=> ?_),T.keep _ _ _ st6 λb hb o eb=> ?_,k2,r4.append (.cons r9 .nil),?_,w'⟩
    ·rw[List.mem_singleton]at hp'
     subst hp'
     exact⟨q',hp.2.1,hDC,hDs,λv' z=>nomatch z⟩
    ·have hbl:=hfl b hb
     exact(Heap.get?_update_other _ _ (Ne.symm (zo9 hbl (Nat.le_of_eq hD)))).trans (k1 b hb o eb)
    ·rw[List.length_append,List.length_singleton]
     omega
 exact codeAny_compStart_list (loop _ rfl) (T.self _ 0 _ _ _ st1 (loop _ rfl))
theorem CompDone.inv{Q:VK}{acc:Value}{C:Addr}{r:Result}{s':Shared}{fp:List Addr}(I:Inv X pins σ H s)(hf:∀ b∈fp,FpOk X pins H b)(h:CompDone X fp H s Q acc C r s') :
  ∃ D H',acc=.ref D/\Inv X pins σ H' s'/\Q (.ref D) H'/\H' C=none/\∃ m,s'.heap.Ns C m:=by
 obtain⟨_,⟨D,ys,its,n,H',rfl,r4,l4,e,hD,hDC,hDn,hCn,hm,u,ok,q⟩,hC,os,bare⟩:=h
 have lt:∀ b o,s.heap.get? b=some o->b≠D:=λb o eb=>zo9 (Heap.lt_size eb) hD
 have ltH:∀ b o,H b=some o->b≠D:=λb o eb=>zo9 (I.hok.lt eb) hD
 refine⟨D,upd H' D (.lst ys),rfl,I.call' (ch:=fp) os ⟨u.keep,u.slot,λb o eb n' hx=> ?_,u.there,λb xs eb=> ?_,λb o x eb=> ?_,λb ps eb=> ?_⟩ (ok.track hDn ⟨l4,its,n,r4,e⟩) bare (λb hb=> ?_),q D hDn,?_,hm⟩
 ·rw[zal (lt b o eb)];exact u.free b o eb n' hx
 ·rw[zal (ltH b _ eb)];exact u.tups b xs eb
 ·rw[zal (ltH b _ eb)];exact u.frzs b o x eb
 ·rw[zal (ltH b _ eb)];exact u.tbls b ps eb
 ·obtain⟨_,f1,f2,f3,f4,f5⟩:=hf b hb
  exact⟨f3,f1,f4,f5⟩
 ·rw[zal (Ne.symm hDC)];exact hCn
theorem Inv.letgo{C:Addr}{h':Heap}{s1:Shared}{σ1:St}{H1:Hp}(I:Inv X pins σ H s)(hC:s.heap.objs.size<=C)(I1:Inv X pins σ1 H1 s1)(hn:H1 C=none)(hs:Heap.SameBut C s1.heap h'):Inv X pins σ1 H1 { s1 with heap:=h' }:=by
 refine I1.turned (t':=s1.toks) (it:=C) (λb o hb e=>(hs.2 b hb).trans e) hn (λz=> ?_) (.inr ?_) (λx c e z=> ?_) λp hp z=> ?_
 ·exact zo9 I.lt hC z.symm
 ·exact Nat.le_trans I.sz hC
 ·obtain⟨v,zc⟩:=I.cell x c e
  exact zo9 zc.lt hC z
 ·exact zo9 (I.pinlt hp) hC z
variable{tg iter elt:Expr}{ifs:List Expr}{scope:Scope}{pos:Pos}{wi:TI}{g:TG}{tt:TT}{te:TE}{tn cn:List Str}{cap:List Nat}
theorem zkd(S:z2r X scope tn cn cap)(hc:X.calm=true)(hi:PI X tg iter wi)
  (hg:∀ pins s H cl C fp,PG (X.block pins s H (tn++cn) scope cl C fp) tg g) (ht:∀ pins s H cl C fp,PTs (X.block pins s H (tn++cn) scope cl C fp) ifs tt) (he:∀ pins s H cl C fp,PE (X.block pins s H (tn++cn) scope cl C fp) elt te)
  (hs:∀ x,foldedSetIterable iter X.env x=pure x:=by intro _;rfl):PE X (.ListComp elt [⟨tg,iter,ifs,0⟩] scope pos) (zl9 wi g tt te tn.length cap):=by
 intro pins s σ H Q I h
 obtain⟨cl,ecl,hcl,hcl2⟩:=z2q (env:=X.env) (scope:=scope) λx hx hxf=>I.ok.has x.1 (S.free x hx hxf)
 rw[eval_ListComp]
 refine wpAny_comprehension_free (use:=none) rfl hs ecl S.kind S.names (thn (hi pins s σ H _ I h) λv s1 h1=>thn h1 λitv s2 h2=> ?_)
 obtain⟨it,fp,tn',J,H2,e,I2,T,st2,f2,W,⟨m0,w0⟩,turn⟩:=h2
 subst e
 refine thn (jbx I2 S hc hcl hcl2 T st2 f2 (λC=>hg _ _ _ _ C _) (λC=>ht _ _ _ _ C _) (λC=>he _ _ _ _ C _) W w0 turn) λacc s3 h3=>thn h3 λcenv s4 h4=>codeAny_mono h4 λr s5 h5=> ?_
 have hr:=h5.ok
 subst hr
 obtain⟨D,H',rfl,I5,q5,hCn,m,hm⟩:=h5.inv I2 f2
 exact⟨m,hm,λh' hs'=>⟨.ref D,H',I2.letgo h5.ge I5 hCn hs',rfl,q5⟩⟩
theorem jao{i:Nat}{x:Str}{px spos:Pos}(S:z2r X scope tn cn cap)(hc:X.calm=true)(hN:X.N.Nodup)(hi':X.N[i]? =some x)(hx:X.env.scope.names.lookup x=some .local)(hi:PI X tg iter wi)
  (hg:∀ pins s H cl C fp,PG (X.block pins s H (tn++cn) scope cl C fp) tg g) (ht:∀ pins s H cl C fp,PTs (X.block pins s H (tn++cn) scope cl C fp) ifs tt) (he:∀ pins s H cl C fp,PE (X.block pins s H (tn++cn) scope cl C fp) elt te)
  (hsw:swapsWith (.ListComp elt [⟨tg,iter,ifs,0⟩] scope pos) (some (.Name x px)) spos.line X.env=pure true:=by rfl)
  (hs:∀ x,foldedSetIterable iter X.env x=pure x:=by intro _;rfl):PS X (.Assign [.Name x px] (.ListComp elt [⟨tg,iter,ifs,0⟩] scope pos) spos) (zd5 (zl9 wi g tt te tn.length cap) (zaz i)):=by
 intro pins s σ H D I h
 obtain⟨cl,ecl,hcl,hcl2⟩:=z2q (env:=X.env) (scope:=scope) λx hx hxf=>I.ok.has x.1 (S.free x hx hxf)
 rw[exec_Assign_Name_used _ _ _ _ hsw]
 refine wpAny_bind (wpAny_standAt (wpAny_bind ?_))
 unfold evalThenUse
 refine wpAny_bind ?_
 refine wpAny_comprehension_free (use:=some (assign (.Name x px) X.env)) rfl hs ecl S.kind S.names (thn (hi pins s σ H _ I h) λv s1 h1=>thn h1 λitv s2 h2=> ?_)
 obtain⟨it,fp,tn',J,H2,e,I2,T,st2,f2,W,⟨m0,w0⟩,turn⟩:=h2
 subst e
 refine thn (jbx (Q:=λx' H1=>zaz i x' σ H1 D.nx) I2 S hc hcl hcl2 T st2 f2 (λC=>hg _ _ _ _ C _) (λC=>ht _ _ _ _ C _) (λC=>he _ _ _ _ C _) W w0 turn) λacc s3 h3=>thn h3 λcenv s4 h4=>codeAny_mono h4 λr s5 h5=> ?_
 have hr:=h5.ok
 subst hr
 obtain⟨Da,H',rfl,I5,q5,hCn,m,hm⟩:=h5.inv I2 f2
 show wpAny _ _ (assign (.Name x px) X.env (.ref Da)) _ _ s5
 refine wpAny_assign_Name (z78 I5 hN hi' (.inl hx) (show RelV (.ref Da) (.ref Da)from rfl) (λs6 I6 ⟨a,hsb,ha⟩=> ?_) (.inr hx))
 refine⟨m,hm.sameBut hsb ?_,λh' hs'=> ?_⟩
 ·rcases ha with z | z
  ·exact Ne.symm (z ▸ zo9 I2.lt h5.ge)
  ·obtain⟨vv,zc⟩:=I2.cell x a z
   exact Ne.symm (zo9 zc.lt h5.ge)
 ·exact wpAny_pure (wpAny_pure ⟨σ.set i (some (.ref Da)),H',I2.letgo h5.ge I6 hCn hs',q5⟩)
end
end L2
namespace L2
theorem ObjOk.there{P:Program}{w:World}{H:Hp}{h:Heap}{a:Addr}{o:HO}(x:ObjOk P w H h a o):∃ ob,h.get? a=some ob:=by
 cases o with
 | lst xs=>obtain⟨_,_,_,_,e⟩:=x;exact⟨_,e⟩
 | tup xs=>obtain⟨_,_,_,ob,e,_⟩:=x;exact⟨_,e⟩
 | dK kvs=>obtain⟨_,_,_,_,ob,_,_,e,_⟩:=x;exact⟨_,e⟩
 | dT kvs=>obtain⟨_,_,_,_,ob,_,_,e,_⟩:=x;exact⟨_,e⟩
 | set S n=>obtain⟨ob,_,_,_,e,_⟩:=x;exact⟨_,e⟩
 | ins C dx fs=>obtain⟨_,_,_,e,_⟩:=x;exact⟨_,e⟩
 | own y=>exact x
 | xd fs=>obtain⟨_,⟨ob,_,_,e,_⟩,_⟩:=x;exact⟨_,e⟩
 | rng lo hi=>obtain⟨_,_,_,e⟩:=x;exact⟨_,e⟩
 | frz ob u=>obtain⟨e,_⟩:=x;exact⟨_,e⟩
 | tbl ps=>exact⟨_,show h.get? a=some _ from x⟩
 | met f y=>exact⟨_,show h.get? a=some _ from x⟩
 | ext φ =>exact x.2.1
theorem HOk.nh{P:Program}{w:World}{H:Hp}{h:Heap}{a:Addr}(x:HOk P w H h)(e:h.get? a=none):H a=none:=by
 cases q:H a with
 | none=>rfl
 | some o =>
  obtain⟨ob,e'⟩:=(x a o q).there
  rw[e]at e';cases e'
section
variable{X:Cx}{pins:List (Addr × Obj)}{σ:St}{H H':Hp}{s:Shared}{h':Heap}
theorem Inv.stepN{g':Array GenState}{t':Nat}{d':Drawn}{ch:List Addr}(I:Inv X pins σ H s)
  (hch:∀ b∈ch,(b∈X.ex\/X.s₀.heap.get? b=none)/\b≠X.env.locals/\(∀ x c,X.env.cells.lookup x=some c->c≠b)/\∀ p∈X.pn++pins,p.1≠b)
  (keep:∀ b o,b≠X.env.locals->b∉X.fs->b∉ch->s.heap.get? b=some o->H b=none->h'.get? b=some o)
  (slot:∀ b o,b≠X.env.locals->b∈X.fs->b∉ch->s.heap.get? b=some o->H b=none->∃ sl,h'.get? b=some { o with slots:=sl }) (free:∀ b o,b∉ch->s.heap.get? b=some o->H b=none->H' b=none)
  (there:∀ b o,b∉ch->s.heap.get? b=some o->∃ o',h'.get? b=some o')
  (tups:∀ b xs,H b=some (.tup xs)->H' b=some (.tup xs)) (frzs:∀ b o u,H b=some (.frz o u)->H' b=some (.frz o u)) (tbls:∀ b ps,H b=some (.tbl ps)->∃ more,H' b=some (.tbl (ps++more)))
  (ns:∀ m,s.heap.Ns X.env.locals m->h'.Ns X.env.locals m) (hok:HOk X.prog X.w H' h') (hg:AllBare g') :
  Inv X pins σ H' { s with heap:=h',gens:=g',drawn:=d',toks:=t' }:=by
 have neL:∀ b o,X.s₀.heap.get? b=some o->b≠X.env.locals:=λb o e=>Nat.ne_of_lt (Nat.lt_of_lt_of_le (Heap.lt_size e) I.ok.above)
 have neC:∀ b o,X.s₀.heap.get? b=some o->b∉X.ex->b∉ch:=λb o e hx hb=>by
  rcases(hch b hb).1 with z | z
  ·exact hx z
  ·rw[e]at z;cases z
 have cellK:∀ x c,X.env.cells.lookup x=some c->∀ v,s.heap.IsCell c v->h'.IsCell c v:=λx c e v ⟨o,ho,hd⟩=>by
  have nch:c∉ch:=λz=>(hch c z).2.2.1 x c e rfl
  by_cases hc:c∈X.fs
  ·obtain⟨sl,q⟩:=slot c o (I.cne x c e) hc nch ho (I.freeC x c e)
   exact⟨_,q,hd⟩
  ·exact⟨o,keep c o (I.cne x c e) hc nch ho (I.freeC x c e),hd⟩
 refine⟨I.ok,I.os,hg,⟨λb o e n hb hx=> ?_,λb o e n hb hx=> ?_,λb o e n hx=> ?_,λb o e hx=> ?_,λb xs e=>tups b xs (I.base.tups b xs e),λb o xs e=>frzs b o xs (I.base.frzs b o xs e),λb ps e=> ?_⟩,?_,λx c e=> ?_,?_,λx c e=> ?_,λp hp=> ?_,hok,I.len⟩
 ·exact keep b o (neL b o e) hb (neC b o e hx) (I.base.keep b o e n hb hx) (I.base.free b o e n hx)
 ·obtain⟨sl,e1⟩:=I.base.slot b o e n hb hx
  obtain⟨sl',e2⟩:=slot b _ (neL b o e) hb (neC b o e hx) e1 (I.base.free b o e n hx)
  exact⟨sl',e2⟩
 ·obtain⟨o',e1⟩:=I.base.there b o e hx
  exact free b o' (neC b o e hx) e1 (I.base.free b o e n hx)
 ·obtain⟨o',e1⟩:=I.base.there b o e hx
  exact there b o' (neC b o e hx) e1
 ·obtain⟨m1,e1⟩:=I.base.tbls b ps e
  obtain⟨m2,e2⟩:=tbls b _ e1
  exact⟨m1++m2,by rw[e2,Array.append_assoc]⟩
 ·obtain⟨m,hn,hl⟩:=I.loc
  refine⟨m,ns m hn,λi x v e1 e2 e3=> ?_⟩
  obtain⟨u,r,l⟩:=hl i x v e1 e2 e3
  refine⟨u,r,?_⟩
  rcases l with l | ⟨k,c,e,z⟩
  ·exact .inl l
  ·exact .inr ⟨k,c,e,cellK x c e _ z⟩
 ·obtain⟨v,z⟩:=I.cell x c e
  exact⟨v,cellK x c e v z⟩
 ·obtain⟨m,⟨o,_,_,ho,_⟩,_⟩:=I.loc
  exact free _ o (λz=>(hch _ z).2.1 rfl) ho I.free
 ·obtain⟨v,o,ho,hd⟩:=I.cell x c e
  exact free c o (λz=>(hch c z).2.2.1 x c e rfl) ho (I.freeC x c e)
 ·obtain⟨e,n,ne,nf,d⟩:=I.pin p hp
  have nch:p.1∉ch:=λz=>(hch p.1 z).2.2.2 p hp rfl
  exact⟨keep p.1 p.2 ne nf nch e n,free p.1 p.2 nch e n,ne,nf,d⟩
end
structure Fly(bad:Addr->Prop)(H:Hp)(h:Heap)(e:Addr)(cls:Value):Prop where
 nb:¬ bad e
 free:H e=none
 ex:∃ (oe:Obj) (vs:Array Value),h.get? e=some oe/\oe.cls=cls/\oe.dict=none/\oe.data=.fields vs/\(vs[1]? =some .none ∨
  ∃ (T:Addr) (oT:Obj) (ts:Array Value),vs[1]? =some (.ref T)/\¬ bad T/\H T=none/\T≠e/\h.get? T=some oT/\oT.data=.fields ts/\ts[3]? =some .none)
theorem Fly.mono{bad bad':Addr->Prop}{H:Hp}{h:Heap}{e:Addr}{cls:Value}(F:Fly bad H h e cls)(k:∀ a,bad' a->bad a):Fly bad' H h e cls:=by
 obtain⟨nb,fr,oe,vs,h1,h2,h3,h4,h5⟩:=F
 refine⟨λz=>nb (k _ z),fr,oe,vs,h1,h2,h3,h4,?_⟩
 rcases h5 with z | ⟨T,oT,ts,a,b,c⟩
 ·exact .inl z
 ·exact .inr ⟨T,oT,ts,a,λz=>b (k _ z),c⟩
section
variable{M:Model}{A:Around}{E:Value->Shared->Prop}{s:Shared}
theorem z56{base:Heap}{env:Env}{outer:List Env}{L e:Addr}{oe:Obj}{vs:Array Value}{hd:Value}{nx:Bool}{Q:Unit->Shared->Prop}
  (hfr:A.frames=some (env::outer)) (hl:s.heap.FunFrames base (env::outer)) (hf:env.frame=some L) (he:s.heap.get? e=some oe) (hdt:oe.data=.fields vs) (hsz:1<vs.size)
  (h:∀ h' T oT ts,(∀ b o,s.heap.get? b=some o->b≠e->b∉frs (env::outer)->h'.get? b=some o)->(∀ b o,s.heap.get? b=some o->b≠e->∃ sl,h'.get? b=some { o with slots:=sl }) →
   h'.get? e=some (oe.mapFields (·.setIfInBounds 1 (.ref T)))->s.heap.objs.size<=T->h'.get? T=some oT->oT.data=.fields ts->ts[3]? =some (rawInt L)->Q () { s with heap:=h' }) :
  wpAny M A (do let a ← frameOf env;let pl ← entryPlaceOf L nx;let b ← EntryCells.newEntry hd a .none (rawInt L) .none pl;setField (.ref e) 1 b) Q E s:=by
 have hne:e∉(env::outer).filterMap (·.frame):=λz=>by
  obtain⟨_,o,ho,hn⟩:=hl.mem z
  rw[he]at ho;cases ho
  exact hn vs hdt
 refine wpAny_bind (wpAny_frameOf_fun hfr hl hf λh1 hs1=> ?_)
 refine wpAny_bind (wpAny_entryPlaceOf λpl hpl=> ?_)
 unfold EntryCells.newEntry newFields
 refine wpAny_bind (wpAny_newObj_type ?_ (hpl.sizeOk5 _ _ _ _ _))
 have he1:h1.get? e=some oe:=(hs1.2.1 e hne).trans he
 refine wpAny_setField (Heap.get?_push_of_some _ he1) hdt hsz ?_
 have hTe:h1.objs.size≠e:=Nat.ne_of_gt (Heap.lt_size he1)
 have hd3:=Obj.data_mapFields hdt (·.setIfInBounds 1 (Value.ref h1.objs.size))
 have keep:∀ b o,b≠e->h1.get? b=some o->((h1.push { cls:=.type "traceback",dict:=none,data:=.fields ([hd,.ref L,.none,rawInt L,.none]++(if pl.isEmpty then List.replicate 6 Value.none else pl)).toArray }).update e (Obj.mapFields (·.setIfInBounds 1 (Value.ref h1.objs.size)))).get? b=some o:=λb o hb e1=>by
  rw[Heap.get?_update_other _ _ (Ne.symm hb)]
  exact Heap.get?_push_of_some _ e1
 refine h _ h1.objs.size _ _ (λb o e1 hb hnf=>keep b o hb ((hs1.2.1 b hnf).trans e1)) (λb o e1 hb=> ?_) (Heap.get?_update_self _ (Heap.get?_push_of_some _ he1) (Obj.isFreed_of_fields hd3)) (by rw[hs1.1];exact Nat.le_refl _)
  ((Heap.get?_update_other _ _ (Ne.symm hTe)).trans (Heap.get?_push_size _ rfl)) rfl ?_
 ·obtain⟨sl,e2⟩:=hs1.2.2 b o e1
  exact⟨sl,keep b _ hb e2⟩
 ·first | (simp;done) | (rcases hpl with rfl | ⟨_,_,_,_,_,_,_,rfl⟩<;>simp)
structure jjp(fr:List Addr)(bad:Addr->Prop)(H:Hp)(e:Addr)(cls:Value)(h h':Heap):Prop where
 ch:∃ ch:List Addr,(∀ b∈ch,¬ bad b/\H b=none/\∃ o vs,h.get? b=some o/\o.data=.fields vs)/\(∀ b o,h.get? b=some o->b∉ch->b∉fr->h'.get? b=some o) ∧
  (∀ b o,h.get? b=some o->b∉ch->∃ sl,h'.get? b=some { o with slots:=sl })
 fly:Fly bad H h' e cls
theorem jby{A2:Around}{E2:Value->Shared->Prop}{base:Heap}{env:Env}{outer:List Env}{L e:Addr}{cls:Value}{bad:Addr->Prop}{H:Hp}{Q:Unit->Shared->Prop}
  (hfr:A.frames=some (env::outer)) (hl:s.heap.FunFrames base (env::outer)) (hf:env.frame=some L) (F:Fly bad H s.heap e cls) (hb:∀ a,s.heap.objs.size<=a->¬ bad a) (hH:∀ a,s.heap.objs.size<=a->H a=none)
  (h:∀ h',jjp (frs (env::outer)) bad H e cls s.heap h'->Q () { s with heap:=h' }) :
  wpAny M A (noteFrame (.ref e) env) (λ_ s2=>wpAny M A2 (setFlight (.ref e) none) Q E2 s2) E s:=by
 obtain⟨nb,fr,oe,vs,he,hcls,hdict,hd,htb⟩:=F
 have rest:∀ (s1:Shared) (ch:List Addr) (h':Heap) (T:Addr) (oT:Obj) (ts:Array Value) (oe1:Obj),(∀ b o,s.heap.get? b=some o->s1.heap.get? b=some o\/b∈ch)->s1.heap.objs.size=s.heap.objs.size->e∈ch->(∀ b∈ch,¬ bad b/\H b=none/\∃ o vs,s.heap.get? b=some o/\o.data=.fields vs) →
   oe1.cls=cls->oe1.dict=none->oe1.data=.fields vs->1<vs.size →
   (∀ b o,s1.heap.get? b=some o->b≠e->b∉frs (env::outer)->h'.get? b=some o)->(∀ b o,s1.heap.get? b=some o->b≠e->∃ sl,h'.get? b=some { o with slots:=sl }) →
   h'.get? e=some (oe1.mapFields (·.setIfInBounds 1 (.ref T)))->s1.heap.objs.size<=T->h'.get? T=some oT->oT.data=.fields ts->ts[3]? =some (rawInt L)->wpAny M A2 (setFlight (.ref e) none) Q E2 { s with heap:=h' }:=by
  intro s1 ch h' T oT ts oe1 hk1 hsz hech hch hcls1 hdict1 hd1 hv k1 k2 e1 hT e2 hdT h3
  have hT':s.heap.objs.size<=T:=hsz ▸ hT
  have hTe:T≠e:=Ne.symm (zo9 (Heap.lt_size he) hT')
  have hde:=Obj.data_mapFields hd1 (·.setIfInBounds 1 (Value.ref T))
  unfold setFlight
  refine wpAny_bind (wpAny_field e1 hde (x:=.ref T) (by simp[hv]) ?_)
  rw[if_pos (show(Value.ref T != Value.none)=true from by simp)]
  have hs3:3<ts.size:=(Array.getElem?_eq_some_iff.mp h3).1
  refine wpAny_setField e2 hdT hs3 (h _ ?_)
  have oth:∀ b,b≠T->(h'.update T (Obj.mapFields (·.setIfInBounds 3 ((none:Option Addr).elim Value.none λf=>rawInt f)))).get? b=h'.get? b:=λb hb'=>Heap.get?_update_other _ _ (Ne.symm hb')
  have ltT:∀ b o,s.heap.get? b=some o->b≠T:=λb o eb=>zo9 (Heap.lt_size eb) hT'
  refine⟨⟨ch,hch,λb o eb hbc hbf=> ?_,λb o eb hbc=> ?_⟩,nb,fr,_,_,(oth e (Ne.symm hTe)).trans e1,(Obj.cls_mapFields _ _).trans hcls1,?_,hde,.inr ⟨T,_,_,by simp[hv],hb T hT',hH T hT',hTe,Heap.get?_update_self _ e2 (Obj.isFreed_of_fields (Obj.data_mapFields hdT _)),Obj.data_mapFields hdT _,by simp[hs3]⟩⟩
  ·rw[oth b (ltT b o eb)]
   rcases hk1 b o eb with z | z
   ·exact k1 b o z (λz'=>hbc (z' ▸ hech)) hbf
   ·exact absurd z hbc
  ·rw[oth b (ltT b o eb)]
   rcases hk1 b o eb with z | z
   ·exact k2 b o z (λz'=>hbc (z' ▸ hech))
   ·exact absurd z hbc
  ·obtain⟨c1,c2,c3,c4⟩:=oe1
   dsimp only at hd1
   subst hd1
   exact hdict1
 unfold noteFrame
 simp only[hf]
 rcases htb with h1 | ⟨T0,oT0,ts0,h1,nbT,frT,neT,eT,dT,h3⟩
 ·have hv:1<vs.size:=(Array.getElem?_eq_some_iff.mp h1).1
  refine wpAny_bind (wpAny_field he hd h1 ?_)
  rw[if_neg (by decide)]
  refine z56 hfr hl hf he hd hv λh' T oT ts k1 k2 e1 hT e2 hdT h3=> ?_
  exact rest s [e] h' T oT ts oe (λb o eb=>.inl eb) rfl (by simp) (λb hb'=>by rw[List.mem_singleton]at hb';subst hb';exact⟨nb,fr,oe,vs,he,hd⟩) hcls hdict hd hv k1 k2 e1 hT e2 hdT h3
 ·have hv:1<vs.size:=(Array.getElem?_eq_some_iff.mp h1).1
  refine wpAny_bind (wpAny_field he hd h1 ?_)
  rw[if_pos (show(Value.ref T0 != Value.none)=true from by simp)]
  refine wpAny_bind (wpAny_field eT dT h3 ?_)
  rw[if_neg (show ¬ ((Value.none == rawInt L)=true)from by simp[rawInt])]
  refine wpAny_bind (wpAny_setField eT dT (Array.getElem?_eq_some_iff.mp h3).1 ?_)
  have oth:∀ b,b≠T0->(s.heap.update T0 (Obj.mapFields (·.setIfInBounds 3 Value.none))).get? b=s.heap.get? b:=λb hb'=>Heap.get?_update_other _ _ (Ne.symm hb')
  have nf:∀ b o,s.heap.get? b=some o->(∀ vs,o.data≠.fields vs)->b≠T0:=λb o eb hn z=>by rw[z,eT]at eb;cases eb;exact hn ts0 dT
  refine z56 hfr (hl.of_keeps λb o eb hn=>⟨o,(oth b (nf b o eb hn)).trans eb,rfl⟩) hf ((oth e (Ne.symm neT)).trans he) hd hv λh' T oT ts k1 k2 e1 hT e2 hdT h3'=> ?_
  exact rest { s with heap:=s.heap.update T0 (Obj.mapFields (·.setIfInBounds 3 Value.none)) } [e,T0] h' T oT ts oe
   (λb o eb=>by
    by_cases z:b=T0
    ·exact .inr (by simp[z])
    ·exact .inl ((oth b z).trans eb))
   (Heap.size_after_update ..) (by simp)
   (λb hb'=>by
    rcases List.mem_cons.mp hb' with z | z
    ·subst z;exact⟨nb,fr,oe,vs,he,hd⟩
    ·rw[List.mem_singleton]at z;subst z;exact⟨nbT,frT,oT0,ts0,eT,dT⟩)
   hcls hdict hd hv k1 k2 e1 hT e2 hdT h3'
end
def Cx.bad(X:Cx)(pins:List (Addr × Obj)):Addr->Prop:=λa=>X.s₀.heap.get? a≠none\/∃ p∈X.pn++pins,p.1=a
structure XOk(X:Cx)(E:St->XK):Prop where
 po:PassesOwn (model X.prog X.w) X.A X.env X.xe
 ex:X.ex=[]
 calm:X.calm=true
 go:∀ (pins:List (Addr × Obj)) (σ:St) (H:Hp) (s:Shared) (e:Addr) (cls:Value),Inv X pins σ H s->Fly (X.bad pins) H s.heap e cls->E σ cls none H->X.xe (.ref e) s
section
variable{X:Cx}{pins:List (Addr × Obj)}{σ:St}{H:Hp}{s:Shared}
theorem Inv.notbad(I:Inv X pins σ H s)(hx:X.ex=[]){a:Addr}(h:s.heap.get? a=none):¬ X.bad pins a:=λz=>by
 rcases z with z | ⟨p,hp,rfl⟩
 ·cases q:X.s₀.heap.get? a with
  | none=>exact z q
  | some o =>
   obtain⟨o',e⟩:=I.base.there a o q (by rw[hx];simp)
   rw[h]at e;cases e
 ·have:=(I.pin p hp).1
  rw[h]at this;cases this
theorem jbz{h:Heap}{a:Addr}(z:h.objs.size<=a):h.get? a=none:=by
 cases q:h.get? a with
 | none=>rfl
 | some o=>exact absurd (Nat.lt_of_lt_of_le (Heap.lt_size q) z) (Nat.lt_irrefl _)
theorem Inv.noted{e:Addr}{cls:Value}{h':Heap}(I:Inv X pins σ H s)(N:jjp (frs X.stack) (X.bad pins) H e cls s.heap h'):Inv X pins σ H { s with heap:=h' }:=by
 obtain⟨⟨ch,hch,k1,k2⟩,_⟩:=N
 obtain⟨mL,⟨oL,esL,epL,hoL,dL,rL⟩,_⟩:=id I.loc
 have chne:∀ b∈ch,∀ o,s.heap.get? b=some o->∃ vs,o.data=.fields vs:=λb hb o eb=>by
  obtain⟨_,_,o',vs,e',d⟩:=hch b hb
  rw[eb]at e';cases e'
  exact⟨vs,d⟩
 have hL:X.env.locals∉ch:=λz=>by
  obtain⟨vs,d⟩:=chne _ z _ hoL
  rw[dL]at d;cases d
 refine I.stepN (g':=s.gens) (t':=s.toks) (d':=s.drawn) (ch:=ch) (λb hb=>⟨.inr ?_,λz=>hL (z ▸ hb),λx c ec z=> ?_,λp hp z=>(hch b hb).1 (.inr ⟨p,hp,z⟩)⟩)
  (λb o hbL hbf hbc eb _=>k1 b o eb hbc λz=>(List.mem_cons.mp (I.stkSub b z)).elim hbL hbf) (λb o _ _ hbc eb _=>k2 b o eb hbc) (λ_ _ _ _ n=>n) (λb o hbc eb=> ?_) (λ_ _ q=>q) (λ_ _ _ q=>q) (λb ps q=>⟨#[],by rw[q];simp⟩) (λm hm=> ?_) (λb o eb=> ?_) I.bare
 ·cases q:X.s₀.heap.get? b with
  | none=>rfl
  | some o=>exact absurd (.inl (by rw[q];simp)) (hch b hb).1
 ·obtain⟨v,oc,hoc,hd⟩:=I.cell x c ec
  obtain⟨vs,d⟩:=chne c (z ▸ hb) oc hoc
  rw[hd]at d;cases d
 ·obtain⟨sl,q⟩:=k2 b o eb hbc
  exact⟨_,q⟩
 ·obtain⟨o',es',ep',ho',r'⟩:=hm
  rw[hoL]at ho';cases ho'
  obtain⟨sl,q⟩:=k2 _ _ hoL hL
  exact⟨_,es',ep',q,r'⟩
 ·refine(I.hok b o eb).stay (λc u hc q=>k1 c u q ?_ ?_) (λ_ q=>q) λ_ _ q=>q
  ·intro z
   have fr:=(hch c z).2.1
   rcases hc with rfl | hc
   ·rw[eb]at fr;cases fr
   ·rw[hc]at fr;cases fr
  ·intro z
   have fr:=I.stkFree c z
   rcases hc with rfl | hc
   ·rw[eb]at fr;cases fr
   ·rw[hc]at fr;cases fr
def cxE(P:Program)(w:World):CXT:=λouter H s E e s'=>∃ (ea:Addr) (cls:Value) (H':Hp),e=.ref ea/\s'.os=s.os/\AllBare s'.gens/\Un (frs outer) [] H H' s.heap s'.heap/\HOk P w H' s'.heap/\Fly (λa=>s.heap.get? a≠none) H' s'.heap ea cls/\E cls none H'
theorem jit{P:Program}{w:World}{outer:List Env}{H:Hp}{s:Shared}{e:Value}{s':Shared}(h:cxE P w outer H s (λ_ _ _=>False) e s'):False:=by
 obtain⟨_,_,_,_,_,_,_,_,_,f⟩:=h
 exact f
theorem XOk.passes{E:St->XK}(x:XOk X E):znv (cxE X.prog X.w) X E:=λpins σ H s e s' I h=>by
 obtain⟨ea,cls,H',rfl,os,bare,un,hok,F,q⟩:=h
 refine x.go pins σ H' s' ea cls (I.call' (ch:=[]) os un hok bare λb z=>absurd z (by simp)) (F.mono λa z=> ?_) q
 rcases z with z | ⟨p,hp,rfl⟩
 ·cases q0:X.s₀.heap.get? a with
  | none=>exact absurd q0 z
  | some o =>
   obtain⟨o',e⟩:=I.base.there a o q0 (by rw[x.ex];simp)
   rw[e];simp
 ·rw[(I.pin p hp).1];simp
theorem zlm{P:Program}{w:World}:znv (cxE P w) X (λ_=>E0):=λ_ _ _ _ _ _ _ h=>(jit h).elim
end
theorem za8{P:Program}{w:World}{K:W.Frag}{mg:Str->Option Value}{base:Heap}{N:List Str}{qual:Str}{scope:Scope}{f:Addr}{cd:Value}{A:Around}{outer:List Env}{s:Shared}{H:Hp}{E:XK} :
  XOk (zfi (cxE P w) P w K mg base N qual scope f cd A outer s H E) (λ_=>E) where
 po:=PassesOwn.leaving
 ex:=rfl
 calm:=rfl
 go:=λpins σ H' s' e cls I F q=>by
  have hfr:(A.deeper (envOfC qual scope s.heap.objs.size f cd)).frames=some (envOfC qual scope s.heap.objs.size f cd::outer):=I.ok.frames
  show wpAny _ _ (leaving _ _) _ _ _
  unfold leaving
  refine wpAny_bind (jby hfr I.stack rfl F (λa z=>I.notbad rfl (jbz z)) (λa z=>I.hok.fresh z) λh' N=> ?_)
  have I':=I.noted N
  exact⟨e,cls,H',rfl,I'.os,I'.bare,I'.base,I'.hok,N.fly.mono λa z=>.inl z,q⟩
structure Exc(K:W.Frag)(C:Addr):Prop where
 ex:W.excIn K C [.type "ValueError",.type "Exception",.type "BaseException",.type "object"] "ValueError.__new__"=true
theorem Exc.obj{K:W.Frag}{C:Addr}{h:Heap}(x:Exc K C)(X:K.In h):∃ (tl:List Value) (N:Addr) (nm q:Str) (bs:List Value) (hdct:Bool) (sn:List Str) (sub:List Value) (ab:Bool) (col:Option Bool) (dd:Option Addr) (k0 k1 k2 k3 k5:Option Value) (mN:Str->Option Value),
  h.get? C=some (excClassObj nm q C N bs tl hdct sn sub ab col dd k0 k1 k2 k3 k5 "ValueError.__new__")/\h.Ns N mN/\mN "__init__"=none/\OwnTail h [.type "ValueError",.type "Exception",.type "BaseException",.type "object"] tl:=by
 have q:=x.ex
 unfold W.excIn at q
 split at q
 ·rename_i dd cd sl ho
  split at q
  ·rename_i C' bm k0 k1 k2 k3 n k5 hm hs
   simp only[Bool.and_eq_true,beq_iff_eq,Bool.not_eq_true']at q
   obtain⟨⟨⟨⟨⟨rfl,rfl⟩,hdel⟩,ht⟩,hok⟩,hni⟩:=q
   obtain⟨nm,bs,mro,ns,qn,hd,sn,sub,ab,col,del⟩:=cd
   dsimp only at hm hdel hok hni
   subst hm hdel
   obtain⟨l⟩:=sl
   simp only at hs
   subst hs
   exact⟨bm,ns,nm,qn,bs,hd,sn,sub,ab,col,dd,k0,k1,k2,k3,k5,_,X _ _ ho,.of_isNs (W.isNs_of_in X hok),W.nsMap_none_of_in X hok hni,W.tail_of_in X ht⟩
  ·cases q
 ·cases q
def znw(C:Addr)(E:St->XK)(t:TA):TS:=λ_ σ H=>t σ H λvs H1=>vs.length<=sizeLine/\E σ (.ref C) none H1
section
variable{X:Cx}{E:St->XK}{C:Addr}{x:Str}{np cpos pos:Pos}{e:Expr}{es:List Expr}{t:TA}
theorem zih(hx:XOk X E)(c:Exc X.K C)(hg:Gl X x)(hm:X.mg x=some (.ref C))(ha:PA X (e::es) t)(hdb:(x ==("__debug__":Str))=false:=by decide)
  (he:starEach (e::es) X.env=(false,eval e X.env)::starEach es X.env:=by rfl) (hpl:(backTo cpos (starEach es X.env)).any (·.1)=false:=by rfl) :
  PS X (.Raise (some (.Call (.Name x np) (e::es) [] cpos)) none pos) (znw C E t):=by
 intro pins s σ H D I h
 obtain⟨tl,N,nm,q,bs,hdct,sn,sub,ab,col,dd,k0,k1,k2,k3,k5,mN,hC,hN,hni,T⟩:=c.obj I.mod.kin
 have hpl2:(backTo cpos (starEach (e::es) X.env)).any (·.1)=false:=by
  rw[he]
  show(false || (backTo cpos (starEach es X.env)).any (·.1))=false
  rw[hpl];rfl
 refine wpAny_Raise_call_subT (C:=C) (nm:=nm) (q:=q) (N:=N) (bs:=bs) (bm:=tl) (hdct:=hdct) (sn:=sn) (sub:=sub) (ab:=ab) (col:=col) (dd:=dd) (k0:=k0) (k1:=k1) (k2:=k2) (k3:=k3) (k5:=k5)
  PySem.F.excBase_ValueError (mN:=mN) (T.hasType PySem.F.excBase_ValueError.hasBase) (I.ok.hd hx.calm) hpl2 hni (z2j I hg hm ⟨rfl,?_⟩ hdb)
 have hq:=ha cpos pins s σ H _ I h
 rw[he]at hq ⊢
 refine Calls.evalArgs_plain (thn hq λus s1 ⟨vs,H1,I1,r,hz,q1⟩=>⟨rfl,?_,I1.bk _ _ hC,hN.keeps I1.bk,T.keeps I1.bk,λh' ea hM=> ?_⟩)
 ·show us.length<=_
  rw[<-r.length];exact hz
 ·have I2:Inv X pins σ H1 { s1 with heap:=h' }:=I1.kept (t':=s1.toks) hM.keeps
  obtain⟨tt,h1,h2,h3⟩:=hM.there
  refine hx.go pins σ H1 _ ea (.ref C) I2 ⟨λz=>I1.notbad hx.ex hM.new z,I1.hok.nh hM.new,_,_,h1,rfl,rfl,rfl,.inl rfl⟩ q1
end
end L2
namespace L2
section
variable(P:Program)(w:World)(K:W.Frag)(mg:Str->Option Value)(base:Heap)
structure Cal(k:Nat)(x:Str)(ps:List Str)(sp:Sp):Prop where
 ex:∃ (f:Addr) (fd:FuncData),FnOk P w K mg base (cxE P w) k f fd ps sp/\mg x=some (.ref f)/\W.keepIn K (.ref f)=true/\Binds K fd ps []
structure zcw(C:Addr)(k:Nat)(m:Str)(ps:List Str)(sp:Sp):Prop where
 ex:∃ (f:Addr) (fd:FuncData),FnOk P w K mg base (cxE P w) k f fd ps sp/\jni K C m f/\Binds K fd ps []
structure jk0(C:Addr)(k:Nat)(x:Str)(ps:List Str)(sp:Sp):Prop where
 ex:∃ (f:Addr) (fd:FuncData),FnOk P w K mg base (cxE P w) k f fd ps sp/\Mk K C f/\mg x=some (.ref C)/\Binds K fd ps []
end
section
variable{X:Cx}{E:St->XK}{k:Nat}{x m:Str}{ps:List Str}{sp:Sp}{C:Addr}{p pos apos:Pos}{e o:Expr}{es:List Expr}{ta:TE}{t:TA}
theorem zcn(c:Cal X.prog X.w X.K X.mg X.base k x ps sp)(hr:Room k X.A)(hp:znv (cxE X.prog X.w) X E)(hg:Gl X x)(ha:PA X (e::es) t)(hdb:(x ==("__debug__":Str))=false:=by decide)
  (he:starEach (e::es) X.env=(false,eval e X.env)::starEach es X.env:=by rfl) (hpl:(backTo pos (starEach es X.env)).any (·.1)=false:=by rfl):PE X (.Call (.Name x p) (e::es) [] pos) (zi0 sp [] E t):=by
 obtain⟨f,fd,F,hm,hk,hb⟩:=c.ex
 exact jjc F hr hg hm hk hb .nil hp ha hdb he hpl
theorem zai{pl:Sem Bool}(he:PE X o ta)(cl:Cls X.K C)(c:zcw X.prog X.w X.K X.mg X.base C k m ps sp)(hr:Room k X.A)(hp:znv (cxE X.prog X.w) X E)(ha:PA X (e::es) t)
  (hst:starEach (e::es) X.env=(false,eval e X.env)::starEach es X.env:=by rfl) (hpl:(backTo pos (starEach es X.env)).any (·.1)=false:=by rfl)
  (ht:eval (.Call (.Attribute o m apos) (e::es) [] pos) X.env=(do
   let ov ← eval o X.env
   standAt apos.atName
   let (f,first) ← holding [ov] (getMethod ov m pl)
   callWith pos f first (backTo pos (starEach (e::es) X.env)) (backToKw pos (keywordEach [] X.env))):=by rfl):PE X (.Call (.Attribute o m apos) (e::es) [] pos) (za0 C m sp [] E ta t):=by
 obtain⟨f,fd,F,hm,hb⟩:=c.ex
 exact jjd he cl hm F hr hb .nil hp ha hst hpl ht
theorem zbu{pl:Sem Bool}(he:PE X o ta)(cl:Cls X.K C)(c:zcw X.prog X.w X.K X.mg X.base C k m ps sp)(hr:Room k X.A)(hp:znv (cxE X.prog X.w) X E)
  (ht:eval (.Call (.Attribute o m apos) [] [] pos) X.env=(do
   let ov ← eval o X.env
   standAt apos.atName
   let (f,first) ← holding [ov] (getMethod ov m pl)
   callWith pos f first (backTo pos (starEach [] X.env)) (backToKw pos (keywordEach [] X.env))):=by rfl):PE X (.Call (.Attribute o m apos) [] [] pos) (za0 C m sp [] E ta zaw):=by
 obtain⟨f,fd,F,hm,hb⟩:=c.ex
 exact jgy he cl hm F hr hb .nil hp ht
theorem zvf(c:jk0 X.prog X.w X.K X.mg X.base C k x ps sp)(hr:Room (k+1) X.A)(hp:znv (cxE X.prog X.w) X E)(hg:Gl X x)(ha:PA X (e::es) t)(hdb:(x ==("__debug__":Str))=false:=by decide)
  (he:starEach (e::es) X.env=(false,eval e X.env)::starEach es X.env:=by rfl) (hpl:(backTo pos (starEach es X.env)).any (·.1)=false:=by rfl):PE X (.Call (.Name x p) (e::es) [] pos) (z8e C sp [] E t):=by
 obtain⟨f,fd,F,M,hm,hb⟩:=c.ex
 exact jje M F hr hg hm hb .nil hp ha hdb he hpl
end
theorem Fun.okE{P:Program}{w:World}{K:W.Frag}{mg:Str->Option Value}{base:Heap}{x qual:Str}{st:Stmt}{f:Addr}{fd:FuncData}{N ps:List Str}{k:Nat}{sp:Sp}(F:Fun K x qual st f fd)(S:zaq N ps (zab st))(len:∀ vs H Q E,sp vs H Q E->vs.length=ps.length)
  (hbody:∀ (cdv:Value) (A:Around) (outer:List Env) (s:Shared) (H:Hp) (vs:List V) (Q:VK) (E:XK),Room k (A.deeper (envOfC qual (zab st) s.heap.objs.size f cdv))->sp vs H Q E →
   ∃ t,PSs (zfi (cxE P w) P w K mg base N qual (zab st) f cdv A outer s H E) (zam st) t/\t { nx:=λ_ H'=>Q .non H',rt:=Q } (zbn N vs) H):FnOk P w K mg base (cxE P w) (k+1) f fd ps sp:=by
 obtain⟨oc,od,kV,doc,pm,an,cdv,ct,osl,rfl,l,c⟩:=F.ex
 exact jn3 l c S len λA outer s H vs Q E hr h=>hbody cdv A outer s H vs Q E hr h
def GV(mg:Str->Option Value)(x:Str)(v:V):Prop:=∃ u,mg x=some u/\RelV v u
theorem z2s{X:Cx}{x:Str}{v:V}{pos:Pos}(g:GV X.mg x v)(hg:Gl X x)(hd:(x ==("__debug__":Str))=false:=by decide):PE X (.Name x pos) (tC v):=by
 obtain⟨u,hm,r⟩:=g
 exact ji5 hg hm r hd
theorem z57{α :Type}(p: α ->Bool):∀ (l:List α) (i:Nat),(∀ x,l[i]? =some x->p x=false)->(l.eraseIdx i).find? p=l.find? p
 | [],_,_=>rfl
 | x::r,0,h=>by
  have:p x=false:=h x rfl
  simp[List.eraseIdx,List.find?,this]
 | x::r,i+1,h=>by
  rw[List.eraseIdx_cons_succ]
  simp only[List.find?_cons]
  rw[z57 p r i λy hy=>h y (by simpa using hy)]
theorem jhc{v:Value}{x y:Str}(h:v.isStr x=true)(hxy:y≠x):v.isStr y=false:=by
 cases v with
 | str z t =>
  have e:z=x:=by simpa [Value.isStr]using h
  subst e
  simp only[Value.isStr]
  exact beq_eq_false_iff_ne.mpr (Ne.symm hxy)
 | _=>simp[Value.isStr]at h
theorem jlt{M:Model}{A:Around}{E:Value->Shared->Prop}{s:Shared}{a:Addr}{m:Str->Option Value}{name:Str}{Q:Bool->Shared->Prop}(hn:s.heap.Ns a m)
  (hQ:∀ h' m',h'.Ns a m'->(∀ y,y≠name->m' y=m y)->Heap.SameBut a s.heap h'->Q (m name).isSome { s with heap:=h' }):wpAny M A (nsDel a name) Q E s:=by
 obtain⟨o,es,ep,ho,hd,hk,hm⟩:=id hn
 have hno:es.any (·.refKey)=false:=by
  rw[Array.any_eq_false'];intro e' he';obtain⟨n',t',h'⟩:=hk e' he';simp[DictEntry.refKey,h']
 have hiff:(m name).isSome=es.any (·.key.isStr name):=by
  rw[<-hm name]
  simp only[nsFind,findBy,Option.isSome_map]
  obtain⟨l⟩:=es
  rw[Bool.eq_iff_iff]
  simp[List.find?_isSome]
 have hhas:nsHas name o=pure (es.any (·.key.isStr name)):=by
  rw[nsHas_eq];unfold nsHasByArray;rw[hd]
  show(if(es.any λx=>x.key.isStr name)=true then _ else _)=_
  generalize (es.any λx=>x.key.isStr name)=b'
  cases b'<;>simp[hno]
 unfold nsDel
 refine wpAny_bind (wpAny_loadPart ho ?_)
 rw[hhas]
 refine wpAny_bind (wpAny_pure ?_)
 rw[<-hiff]
 cases hmn:(m name).isSome
 ·have z:=hQ s.heap m hn (λ_ _=>rfl) (.refl ..)
  rw[hmn]at z
  exact wpAny_pure z
 ·refine wpAny_bind (wpAny_updatePart ho (wpAny_pure ?_))
  have key:∃ m',(s.heap.update a (Obj.dropName name)).Ns a m'/\∀ y,y≠name->m' y=m y:=by
   obtain⟨cl,d,dt,sl⟩:=o
   obtain rfl:dt=.dict es ep:=hd
   cases hi:es.findIdx? (·.key.isStr name)with
   | some i =>
    refine⟨_,⟨_,_,ep+1,Heap.get?_update_self _ ho (by simp only[Obj.dropName_eq,Obj.dropNameByArray,hi]<;>rfl),(by simp only[Obj.dropName_eq,Obj.dropNameByArray,hi]<;>rfl),hk.erase i,λ_=>rfl⟩,λy hy=> ?_⟩
    rw[<-hm y]
    unfold nsFind findBy
    obtain⟨l⟩:=es
    congr 1
    have hi':l.findIdx? (·.key.isStr name)=some i:=by simpa using hi
    obtain⟨hlt,hp,_⟩:=List.findIdx?_eq_some_iff_getElem.mp hi'
    show Array.find? _ (Array.eraseIdxIfInBounds ⟨l⟩ i)=_
    rw[<-Array.find?_toList,<-Array.find?_toList]
    have:(Array.eraseIdxIfInBounds ⟨l⟩ i).toList=l.eraseIdx i:=by
     rw[Array.eraseIdxIfInBounds_eq]
     split
     ·simp
     ·rename_i hz;exact absurd hlt (by simpa using hz)
    rw[this]
    refine z57 _ l i λx hx=> ?_
    rw[List.getElem?_eq_getElem hlt]at hx
    cases hx
    exact jhc hp hy
   | none=>exact⟨m,⟨_,_,ep,Heap.get?_update_self _ ho (by simp only[Obj.dropName_eq,Obj.dropNameByArray,hi]<;>rfl),(by simp only[Obj.dropName_eq,Obj.dropNameByArray,hi]<;>rfl),hk,hm⟩,λ_ _=>rfl⟩
  obtain⟨m',hm',hy⟩:=key
  have z:=hQ _ m' hm' hy (Heap.SameBut.update ..)
  rw[hmn]at z
  exact z
theorem zvg{X:Cx}{pins:List (Addr × Obj)}{σ:St}{H:Hp}{s:Shared}{A:Around}{E:Value->Shared->Prop}{i:Nat}{n:Str}{pos:Pos}{Q:Unit->Shared->Prop}(I:Inv X pins σ H s)(hN:X.N.Nodup)(hi:X.N[i]? =some n)(hl:X.env.scope.names.lookup n=some .local)
  (h:∀ s',Inv X pins (σ.set i none) H s'->Q () s'):wpAny (model X.prog X.w) A (do bindName X.env n .none;unbindBehindTheSuite X.env n pos) Q E s:=by
 have hp:(X.env.scope.kind == .class || (X.env.scope.kind == .module && X.env.locals != X.env.globals))=false:=by rw[I.ok.kind];rfl
 have hk:X.env.kindOf n=some .local:=hl
 have hiσ:i<σ.length:=by rw[I.len];exact(List.getElem?_eq_some_iff.mp hi).1
 refine wpAny_bind (wpAny_bindName (z19 I hN hi (.inl hl) (show RelV .non Value.none from rfl) (λs1 I1=> ?_) (.inr hl)))
 unfold unbindBehindTheSuite
 refine wpAny_onRaise ?_
 unfold unbindName
 refine wpAny_bind (wpAny_point (wpAny_bind ?_))
 unfold deleteName
 simp only[hk,hp]
 rw[if_neg (by decide)]
 obtain⟨m,hn,hloc⟩:=id I1.loc
 have hmn:∃ u,m n=some u:=by
  obtain⟨u,_,l⟩:=hloc i n .non hi (by rw[List.getElem?_set_self hiσ]) (.inl hl)
  rcases l with⟨_,e⟩ | ⟨z,_⟩
  ·exact⟨u,e⟩
  ·rw[hk]at z;rcases z with z | z<;>cases z
 refine wpAny_bind (jlt hn λh' m' hn' hy hs=> ?_)
 obtain⟨u,hu⟩:=hmn
 rw[hu]
 simp only[Option.isSome_some,Bool.not_true,Bool.false_eq_true,if_false]
 refine wpAny_pure (wpAny_point (h _ ?_))
 have nL:∀ b o,X.s₀.heap.get? b=some o->b≠X.env.locals:=λb o e=>zo9 (Heap.lt_size e) I1.ok.above
 refine⟨I1.ok,I1.os,I1.bare,⟨λb o e n' hb hx=>(hs.2 b (nL b o e)).trans (I1.base.keep b o e n' hb hx),λb o e n' hb hx=> ?_,I1.base.free,λb o e hx=> ?_,I1.base.tups,I1.base.frzs,I1.base.tbls⟩,⟨m',hn',λj y v e1 e2 e3=> ?_⟩,λx c e=> ?_,I1.free,I1.freeC,λp hp'=> ?_,λb o e=> ?_,?_⟩
 ·obtain⟨sl,q⟩:=I1.base.slot b o e n' hb hx
  exact⟨sl,(hs.2 b (nL b o e)).trans q⟩
 ·obtain⟨o',q⟩:=I1.base.there b o e hx
  exact⟨o',(hs.2 b (nL b o e)).trans q⟩
 ·have hj:j≠i:=λz=>by
   subst z
   rw[List.getElem?_set_self hiσ]at e2
   cases e2
  rw[List.getElem?_set_ne (Ne.symm hj)]at e2
  obtain⟨u',r',l⟩:=hloc j y v e1 (by rw[List.getElem?_set_ne (Ne.symm hj)];exact e2) e3
  refine⟨u',r',?_⟩
  rcases l with⟨z,e⟩ | ⟨z,c,e,q⟩
  ·exact .inl ⟨z,by rw[hy y λz=>hj (z6h hN e1 (z ▸ hi))];exact e⟩
  ·exact .inr ⟨z,c,e,q.sameBut hs (I1.cne y c e)⟩
 ·obtain⟨v,q⟩:=I1.cell x c e
  exact⟨v,q.sameBut hs (I1.cne x c e)⟩
 ·obtain⟨q1,q2,q3,q4⟩:=I1.pin p hp'
  exact⟨(hs.2 _ q3).trans q1,q2,q3,q4⟩
 ·refine(I1.hok b o e).stay (λc u' hc q=>(hs.2 c ?_).trans q) (λ_ q=>q) λ_ _ q=>q
  intro z
  have fr:=I1.free
  rw[<-z]at fr
  rcases hc with rfl | hc
  ·rw[e]at fr;cases fr
  ·rw[hc]at fr;cases fr
 ·rw[List.length_set];exact I.len
abbrev Cx.tri(X:Cx)(pn:List (Addr × Obj))(xe:Value->Shared->Prop):Cx:={ X with pn:=pn,xe:=xe }
abbrev Cx.hand(X:Cx)(e:Addr):Cx:={ X with A:=X.A.mark (some (.ref e)),calm:=false,xe:=λ_ _=>False }
section
variable{X:Cx}{pins:List (Addr × Obj)}{σ:St}{H:Hp}{s:Shared}
theorem Cx.Ok.tri{pn:List (Addr × Obj)}{xe:Value->Shared->Prop}(ok:X.Ok):(X.tri pn xe).Ok :=
 ⟨ok.mod,ok.kind,ok.glob,ok.blt,ok.above,ok.inj,ok.has,ok.cab,ok.hd,ok.frames,ok.stk,ok.exf,ok.bs,ok.bsz,ok.noex,ok.exfs,ok.funs,ok.frf⟩
theorem Inv.tri{xe:Value->Shared->Prop}(I:Inv X pins σ H s):Inv (X.tri (X.pn++pins) xe) [] σ H s :=
 ⟨I.ok.tri,I.os,I.bare,I.base,I.loc,I.cell,I.free,I.freeC,λp hp=>I.pin p (by simpa using hp),I.hok,I.len⟩
theorem Cx.Ok.untri{pn:List (Addr × Obj)}{xe:Value->Shared->Prop}(ok:(X.tri pn xe).Ok):X.Ok :=
 ⟨ok.mod,ok.kind,ok.glob,ok.blt,ok.above,ok.inj,ok.has,ok.cab,ok.hd,ok.frames,ok.stk,ok.exf,ok.bs,ok.bsz,ok.noex,ok.exfs,ok.funs,ok.frf⟩
theorem Inv.untri{pl:List (Addr × Obj)}{xe:Value->Shared->Prop}(I:Inv (X.tri (X.pn++pins) xe) pl σ H s):Inv X pins σ H s :=
 ⟨I.ok.untri,I.os,I.bare,I.base,I.loc,I.cell,I.free,I.freeC,λp hp=>I.pin p (List.mem_append_left _ hp),I.hok,I.len⟩
theorem Cx.Ok.hand{e:Addr}(ok:X.Ok):(X.hand e).Ok :=
 ⟨ok.mod,ok.kind,ok.glob,ok.blt,ok.above,ok.inj,ok.has,ok.cab,(λz=>nomatch z),ok.frames,ok.stk,ok.exf,ok.bs,ok.bsz,ok.noex,ok.exfs,ok.funs,ok.frf⟩
theorem Inv.hand{e:Addr}(I:Inv X pins σ H s):Inv (X.hand e) pins σ H s:=⟨I.ok.hand,I.os,I.bare,I.base,I.loc,I.cell,I.free,I.freeC,I.pin,I.hok,I.len⟩
theorem Inv.unhand{e:Addr}(ok:X.Ok)(I:Inv (X.hand e) pins σ H s):Inv X pins σ H s:=⟨ok,I.os,I.bare,I.base,I.loc,I.cell,I.free,I.freeC,I.pin,I.hok,I.len⟩
end
def z4l(e:Addr)(cls:Value):Heap->Prop:=λh=>∃ oe vs,h.get? e=some oe/\oe.cls=cls/\oe.dict=none/\oe.data=.fields vs
abbrev TH:=Value->Ends->St->Hp->Prop
def jc2:TH:=λ_ _ _ _=>False
def zsa(p:Value->Option Bool)(ts:TS)(rest:TH):TH:=λcls D σ H=>(p cls=some true/\ts D σ H)\/(p cls=some false/\rest cls D σ H)
def Ends.drop(D:Ends)(i:Nat):Ends:={ nx:=λσ H=>D.nx (σ.set i none) H,rt:=D.rt,bk:=λσ H=>D.bk (σ.set i none) H,ct:=λσ H=>D.ct (σ.set i none) H }
def z6s(p:Value->Option Bool)(i:Nat)(ts:TS)(rest:TH):TH:=λcls D σ H =>
 (p cls=some true/\∀ e,H e=none->ts (D.drop i) (σ.set i (some (.ref e))) (upd H e (.ext (z4l e cls))))\/(p cls=some false/\rest cls D σ H)
def PH(X:Cx)(hs:List ExceptHandler)(th:TH):Prop :=
 ∀ (pins:List (Addr × Obj)) (s:Shared) (σ:St) (H:Hp) (D:Ends) (e:Addr) (cls:Value),X.ex=[]->Inv X pins σ H s->Fly (X.bad pins) H s.heap e cls->th cls D σ H →
  wpAny (model X.prog X.w) X.A (handleBy (.ref e) X.env hs) (SP X pins D) X.xe s
def PX(X:Cx)(t:Expr)(p:Value->Option Bool):Prop :=
 ∀ (pins:List (Addr × Obj)) (s:Shared) (σ:St) (H:Hp) (e:Addr) (cls:Value) (b:Bool) (Q:Bool->Shared->Prop) (E:Value->Shared->Prop),Inv X pins σ H s->Fly (X.bad pins) H s.heap e cls->p cls=some b →
  (∀ s',Inv X pins σ H s'->Fly (X.bad pins) H s'.heap e cls->Q b s')->wpAny (model X.prog X.w) (X.A.mark (some (.ref e))) (eval t X.env) (λc s1=>wpAny (model X.prog X.w) (X.A.mark (some (.ref e))) (excMatches (.ref e) c) Q E s1) E s
def jlu(tb:(St->XK)->TS)(th:TH):TS:=λD σ H=>tb (λσ' cls _ H'=>th cls D σ' H') D σ H
section
variable{X:Cx}{hs:List ExceptHandler}{h₀:ExceptHandler}{th:TH}{body:List Stmt}{tb:(St->XK)->TS}{pos:Pos}
theorem jep:PH X [] jc2:=λ_ _ _ _ _ _ _ _ _ _ h=>h.elim
theorem jlv{bad:Addr->Prop}{H:Hp}{h:Heap}{e:Addr}{cls:Value}{M:Model}(F:Fly bad H h e cls):W.Looks M h (typeOf (.ref e)) cls:=by
 obtain⟨_,_,oe,vs,h1,h2,_⟩:=F
 subst h2
 exact(W.Looks.ld h1).andThen .now
theorem zx3{x:Str}{np:Pos}{C:Value}(hg:Gl X x)(hm:X.mg x=some C)(hd:(x ==("__debug__":Str))=false:=by decide):PX X (.Name x np) (λcls=>W.exmOne X.K cls C):=by
 intro pins s σ H e cls b Q E I F hp h
 have I2:Inv (X.hand e) pins σ H s:=I.hand
 refine z2j (X:=X.hand e) I2 hg hm ?_ hd
 exact W.exm_one I.kIn (jlv F) hp _ _ _ s (λ_ _ z=>z) (h s I F)
theorem jb0{M:Model}{A:Around}{E:Value->Shared->Prop}{s:Shared}{bad:Addr->Prop}{H:Hp}{fr:List Addr}{e:Addr}{cls:Value}{Q:Unit->Shared->Prop}(F:Fly bad H s.heap e cls)
  (h:∀ h',jjp fr bad H e cls s.heap h'->Q () { s with heap:=h' }):wpAny M A (setFlight (.ref e) none) Q E s:=by
 have F0:=F
 obtain⟨nb,frr,oe,vs,he,hcls,hdict,hd,htb⟩:=F
 unfold setFlight
 rcases htb with h1 | ⟨T,oT,ts,h1,nbT,frT,neT,eT,dT,h3⟩
 ·refine wpAny_bind (wpAny_field he hd h1 ?_)
  rw[if_neg (by decide)]
  exact wpAny_pure (h s.heap ⟨⟨[],(λb hb=>nomatch hb),λb o eb _ _=>eb,λb o eb _=>⟨o.slots,eb⟩⟩,F0⟩)
 ·refine wpAny_bind (wpAny_field he hd h1 ?_)
  rw[if_pos (show(Value.ref T != Value.none)=true from by simp)]
  have hs3:3<ts.size:=(Array.getElem?_eq_some_iff.mp h3).1
  refine wpAny_setField eT dT hs3 (h _ ?_)
  have oth:∀ b,b≠T->(s.heap.update T (Obj.mapFields (·.setIfInBounds 3 ((none:Option Addr).elim Value.none λf=>rawInt f)))).get? b=s.heap.get? b:=λb hb'=>Heap.get?_update_other _ _ (Ne.symm hb')
  refine⟨⟨[T],λb hb=> ?_,λb o eb hb _=>(oth b λz=>hb (by simp[z])).trans eb,λb o eb hb=>⟨o.slots,(oth b λz=>hb (by simp[z])).trans eb⟩⟩,nb,frr,oe,vs,(oth e (Ne.symm neT)).trans he,hcls,hdict,hd,.inr ⟨T,_,_,h1,nbT,frT,neT,Heap.get?_update_self _ eT (Obj.isFreed_of_fields (Obj.data_mapFields dT _)),Obj.data_mapFields dT _,by simp[hs3]⟩⟩
  rw[List.mem_singleton]at hb
  subst hb
  exact⟨nbT,frT,oT,ts,eT,dT⟩
theorem SP.unhand{pins:List (Addr × Obj)}{D:Ends}{e:Addr}{f:Flow}{s:Shared}(ok:X.Ok)(h:SP (X.hand e) pins D f s):SP X pins D f s:=by
 cases f with
 | next=>obtain⟨σ1,H1,I1,q⟩:=h;exact⟨σ1,H1,I1.unhand ok,q⟩
 | brk=>obtain⟨σ1,H1,I1,q⟩:=h;exact⟨σ1,H1,I1.unhand ok,q⟩
 | cont=>obtain⟨σ1,H1,I1,q⟩:=h;exact⟨σ1,H1,I1.unhand ok,q⟩
 | ret u=>obtain⟨v,σ1,H1,I1,r,q⟩:=h;exact⟨v,σ1,H1,I1.unhand ok,r,q⟩
theorem z2t{t:Expr}{b₀:Stmt}{suite:List Stmt}{hp:Pos}{p:Value->Option Bool}{ts:TS}{rest:List ExceptHandler}{tr:TH}(ht:PX X t p)(hsu:∀ e,PSs (X.hand e) (b₀::suite) ts)(hr:PH X rest tr) :
  PH X (.ExceptHandler (some t) none (b₀::suite) hp::rest) (zsa p ts tr):=by
 intro pins s σ H D e cls hx I F h
 have hmain:∃ b,p cls=some b/\(b=true->ts D σ H)/\(b=false->tr cls D σ H):=by
  rcases h with⟨h1,h2⟩ | ⟨h1,h2⟩
  ·exact⟨true,h1,λ_=>h2,λz=>nomatch z⟩
  ·exact⟨false,h1,(λz=>nomatch z),λ_=>h2⟩
 obtain⟨b,hp',hT,hF⟩:=hmain
 refine wpAny_handleBy_cons (codeAny_handlers_test (ht pins s σ H e cls b _ _ I F hp' λs' I' F'=> ?_)) (by intro z;cases z)
 cases b with
 | false=>exact hr pins s' σ H D e cls hx I' F' (hF rfl)
 | true =>
  refine codeAny_handlers_suite (jb0 (fr:=frs X.stack) F' λh' N=> ?_)
  have I2:Inv (X.hand e) pins σ H { s' with heap:=h' }:=(I'.noted N).hand
  refine wpAny_mono (hsu e pins _ σ H D I2 (hT rfl)) (λf s2 h2=>h2.unhand I.ok) λ_ _ z=>z.elim
theorem jeq{t:Expr}{n:Str}{i:Nat}{b₀:Stmt}{suite:List Stmt}{hp:Pos}{p:Value->Option Bool}{ts:TS}{rest:List ExceptHandler}{tr:TH}(hN:X.N.Nodup)(hi:X.N[i]? =some n)(hl:X.env.scope.names.lookup n=some .local)(ht:PX X t p)
  (hsu:∀ e,PSs (X.hand e) (b₀::suite) ts) (hr:PH X rest tr):PH X (.ExceptHandler (some t) (some n) (b₀::suite) hp::rest) (z6s p i ts tr):=by
 intro pins s σ H D e cls hx I F h
 have hmain:∃ b,p cls=some b/\(b=true->∀ e,H e=none->ts (D.drop i) (σ.set i (some (.ref e))) (upd H e (.ext (z4l e cls))))/\(b=false->tr cls D σ H):=by
  rcases h with⟨h1,h2⟩ | ⟨h1,h2⟩
  ·exact⟨true,h1,λ_=>h2,λz=>nomatch z⟩
  ·exact⟨false,h1,(λz=>nomatch z),λ_=>h2⟩
 obtain⟨b,hp',hT,hF⟩:=hmain
 refine wpAny_handleBy_cons (codeAny_handlers_test (ht pins s σ H e cls b _ _ I F hp' λs' I' F'=> ?_)) (by intro z;cases z)
 cases b with
 | false=>exact hr pins s' σ H D e cls hx I' F' (hF rfl)
 | true =>
  refine codeAny_handlers_suite_as (jb0 (fr:=frs X.stack) F' λh' N=> ?_)
  have I2:=I'.noted N
  obtain⟨nb,fr,oe,vs,he,hcls,hdict,hd,_⟩:=N.fly
  have I3:Inv X pins σ (upd H e (.ext (z4l e cls))) { s' with heap:=h' }:=by
   have hs0:X.s₀.heap.get? e=none:=by
    cases q:X.s₀.heap.get? e with
    | none=>rfl
    | some o=>exact absurd (.inl (by rw[q];simp)) nb
   have ltH:∀ b o,H b=some o->b≠e:=λb o eb z=>by rw[z,fr]at eb;cases eb
   refine⟨I2.ok,I2.os,I2.bare,⟨I2.base.keep,I2.base.slot,λb o eb n' hx'=> ?_,I2.base.there,λb xs eb=> ?_,λb o u eb=> ?_,λb ps eb=> ?_⟩,I2.loc,I2.cell,?_,λx c ec=> ?_,λp hp=> ?_,I2.hok.track fr ?_,I2.len⟩
   ·rw[zal (λz=>by rw[z,hs0]at eb;cases eb)];exact I2.base.free b o eb n' hx'
   ·rw[zal (ltH _ _ (I2.base.tups b xs eb))];exact I2.base.tups b xs eb
   ·rw[zal (ltH _ _ (I2.base.frzs b o u eb))];exact I2.base.frzs b o u eb
   ·obtain⟨m,q⟩:=I2.base.tbls b ps eb
    exact⟨m,by rw[zal (ltH _ _ q)];exact q⟩
   ·obtain⟨m,⟨oL,es,ep,hoL,dL,_⟩,_⟩:=I2.loc
    rw[zal (λz=>by rw[z]at hoL;rw[show h'.get? e=some oe from he]at hoL;cases hoL;rw[hd]at dL;cases dL)]
    exact I2.free
   ·obtain⟨v,oc,hoc,hdc⟩:=I2.cell x c ec
    rw[zal (λz=>by rw[z]at hoc;rw[show h'.get? e=some oe from he]at hoc;cases hoc;rw[hd]at hdc;cases hdc)]
    exact I2.freeC x c ec
   ·obtain⟨q1,q2,q3⟩:=I2.pin p hp
    refine⟨q1,?_,q3⟩
    rw[zal (λz=>nb (.inr ⟨p,hp,z⟩))];exact q2
   ·refine⟨⟨oe,vs,he,hcls,hdict,hd⟩,⟨oe,he⟩,λh1 h2 hq k=> ?_⟩
    obtain⟨o1,v1,z1,z2⟩:=hq
    exact⟨o1,v1,k _ z1,z2⟩
  refine z19 I3 hN hi (.inl hl) (show RelV (.ref e) (.ref e)from rfl) (λs4 I4=> ?_) (.inr hl)
  refine wpAny_mono (hsu e pins s4 _ _ (D.drop i) I4.hand (hT rfl e fr)) (λf s5 h5=> ?_) λ_ _ z=>z.elim
  have h6:=h5.unhand I.ok
  show wpAny _ _ (do bindName X.env n .none;unbindBehindTheSuite X.env n hp) _ _ _
  cases f with
  | next =>
   obtain⟨σ1,H1,I1,q⟩:=h6
   exact zvg I1 hN hi hl λs7 I7=>⟨_,H1,I7,q⟩
  | brk =>
   obtain⟨σ1,H1,I1,q⟩:=h6
   exact zvg I1 hN hi hl λs7 I7=>⟨_,H1,I7,q⟩
  | cont =>
   obtain⟨σ1,H1,I1,q⟩:=h6
   exact zvg I1 hN hi hl λs7 I7=>⟨_,H1,I7,q⟩
  | ret u =>
   obtain⟨v,σ1,H1,I1,r,q⟩:=h6
   exact zvg I1 hN hi hl λs7 I7=>⟨v,_,H1,I7,r,q⟩
theorem jer(hx:X.ex=[])(hcalm:X.calm=true)(hst:X.stack=X.env::X.outer)(hfr:X.env.frame=some X.env.locals)(hb:∀ (E:St->XK) (pn:List (Addr × Obj)) (xe:Value->Shared->Prop),XOk (X.tri pn xe) E->PSs (X.tri pn xe) body (tb E))(hh:PH X (h₀::hs) th) :
  PS X (.Try body (h₀::hs) [] [] pos) (jlu tb th):=by
 intro pins s σ H D I h
 refine wpAny_Try_except ?_
 let xe:Value->Shared->Prop:=λe s₁=>wpAny (model X.prog X.w) X.A (noteFrame e X.env) (λ_ s₂=>wpAny (model X.prog X.w) X.A (setFlight e none) (λ_ s₃=>wpAny (model X.prog X.w) X.A (handleBy e X.env (h₀::hs)) (SP X pins D) X.xe s₃) X.xe s₂) X.xe s₁
 have xok:XOk (X.tri (X.pn++pins) xe) (λσ' cls _ H'=>th cls D σ' H'):=by
  refine⟨PassesOwn.looking,hx,hcalm,λpl σ' H' s' e cls I' F' q=> ?_⟩
  have Iu:=I'.untri
  refine jby (hst ▸ Iu.ok.frames) (hst ▸ Iu.stack) hfr F' (λa z=>I'.notbad hx (jbz z)) (λa z=>I'.hok.fresh z) λh' N=> ?_
  rw[<-hst]at N
  have I2:Inv (X.tri (X.pn++pins) xe) pl σ' H' { s' with heap:=h' }:=I'.noted N
  exact hh pins _ σ' H' D e cls hx I2.untri (N.fly.mono λa z=>by
   rcases z with z | ⟨p,hp,z⟩
   ·exact .inl z
   ·exact .inr ⟨p,List.mem_append_left _ hp,z⟩) q
 refine wpAny_mono (hb _ _ xe xok [] s σ H D I.tri h) (λf s1 hs1=> ?_) λ_ _ z=>z
 cases f with
 | next =>
  obtain⟨σ1,H1,I1,q⟩:=hs1
  exact wpAny_execs_nil ⟨σ1,H1,I1.untri,q⟩
 | brk=>obtain⟨σ1,H1,I1,q⟩:=hs1;exact⟨σ1,H1,I1.untri,q⟩
 | cont=>obtain⟨σ1,H1,I1,q⟩:=hs1;exact⟨σ1,H1,I1.untri,q⟩
 | ret u=>obtain⟨v,σ1,H1,I1,r,q⟩:=hs1;exact⟨v,σ1,H1,I1.untri,r,q⟩
end
end L2
namespace L2
mutual
inductive Rep(K:W.Frag)(H:Hp):V->PyData->Prop
 | non:Rep K H .non .none
 | bl (b:Bool):Rep K H (.bl b) (.bool b)
 | int (i:Int):Rep K H (.int i) (.int i)
 | str (x:Str):Rep K H (.str x) (.str x)
 | lst {a:Addr} {xs:List V} {ds:List PyData}:SqL K H a xs->RepAll K H xs ds->Rep K H (.ref a) (.list ds)
 | tup {a:Addr} {xs:List V} {ds:List PyData}:SqT K H a xs->RepAll K H xs ds->Rep K H (.ref a) (.tuple ds)
inductive RepAll(K:W.Frag)(H:Hp):List V->List PyData->Prop
 | nil:RepAll K H [] []
 | cons {v:V} {d:PyData} {vs:List V} {ds:List PyData}:Rep K H v d->RepAll K H vs ds->RepAll K H (v::vs) (d::ds)
end
section
variable{X:Cx}{pins:List (Addr × Obj)}{σ:St}{H:Hp}{s:Shared}
mutual
theorem Rep.reads(I:Inv X pins σ H s):∀ {v:V} {d:PyData} {u:Value},Rep X.K H v d->RelV v u->∃ as,Reads s.heap u d as
 | _,_,_,.non,r=>by cases (show _=Value.none from r);exact⟨_,.none⟩
 | _,_,_,.bl b,r=>by cases (show _=Value.bool b from r);exact⟨_,.bool b⟩
 | _,_,_,.int i,r=>by obtain⟨t,e⟩:=(show ∃ t,_=Value.int i t from r);cases e;exact⟨_,.int i t⟩
 | _,_,_,.str x,r=>by obtain⟨t,e⟩:=(show ∃ t,_=Value.str x t from r);cases e;exact⟨_,.str x t⟩
 | _,_,_,.lst (a:=a) h hr,r=>by
  cases (show _=Value.ref a from r)
  obtain⟨its,rv,p,_⟩:=I.list h
  obtain⟨as,q⟩:=RepAll.reads I hr rv
  obtain⟨o,e1,e2,n,e3⟩:=p.isList
  exact⟨_,.list e1 e2 e3 q⟩
 | _,_,_,.tup (a:=a) h hr,r=>by
  cases (show _=Value.ref a from r)
  obtain⟨its,rv,p,_⟩:=I.tuple h
  obtain⟨as,q⟩:=RepAll.reads I hr rv
  obtain⟨o,e1,e2,n,e3⟩:=p
  exact⟨_,.tuple e1 e2 e3 q⟩
theorem RepAll.reads(I:Inv X pins σ H s):∀ {vs:List V} {ds:List PyData} {us:List Value},RepAll X.K H vs ds->Vals vs us->∃ as,ReadsAll s.heap us ds as
 | _,_,_,.nil,.nil=>⟨_,.nil⟩
 | _,_,_,.cons h hr,.cons r rr=>by
  obtain⟨as,q⟩:=Rep.reads I h r
  obtain⟨bs,q2⟩:=RepAll.reads I hr rr
  exact⟨_,.cons q q2⟩
end
end
abbrev shp(d:PyData):Prop:=PySem.SeqAt.shaped d=true
def zsb(K:W.Frag):R2:=λx y H Q=>if jgt x y=true then Q (.bl (decide (x=y))) H else ∃ d e,Rep K H x d/\Rep K H y e/\shp d/\shp e/\Q (.bl (PyData.eqv d e)) H
def jhd(K:W.Frag):R2:=λx y H Q=>if jgt x y=true then Q (.bl (!decide (x=y))) H else ∃ d e,Rep K H x d/\Rep K H y e/\shp d/\shp e/\Q (.bl (!PyData.eqv d e)) H
section
variable{X:Cx}
theorem zfk(hu:X.A.units+64<cLine):OpR X (compareOp .Eq) (zsb X.K):=by
 intro pins s σ H x y v u Q I rx ry h
 unfold zsb at h
 split at h
 ·rename_i hs
  exact jnx pins s σ H x y v u Q I rx ry ⟨hs,h⟩
 ·obtain⟨d,e,rd,re,sd,se,q⟩:=h
  obtain⟨as,ra⟩:=rd.reads I rx
  obtain⟨bs,rb⟩:=re.reads I ry
  exact eq_dataH ra rb sd se hu ⟨.bl _,H,I,rfl,q⟩
theorem jes(hu:X.A.units+64<cLine):OpR X (compareOp .NotEq) (jhd X.K):=by
 intro pins s σ H x y v u Q I rx ry h
 unfold jhd at h
 split at h
 ·rename_i hs
  exact jny pins s σ H x y v u Q I rx ry ⟨hs,h⟩
 ·obtain⟨d,e,rd,re,sd,se,q⟩:=h
  obtain⟨as,ra⟩:=rd.reads I rx
  obtain⟨bs,rb⟩:=re.reads I ry
  exact ne_dataH ra rb sd se hu ⟨.bl _,H,I,rfl,q⟩
def jet(K:W.Frag):R2:=λx y H Q=>∃ a b ys,x=.ref a/\y=.ref b/\SqT K H a []/\SqT K H b ys/\Q (.ref b) H
theorem jhe:OpR X (binaryOp .Add) (jet X.K):=by
 intro pins s σ H x y v u Q I rx ry h
 obtain⟨a,b,ys,rfl,rfl,ha,hb,q⟩:=h
 cases rx
 cases ry
 obtain⟨its,r1,⟨⟨c1,c2,c3,c4⟩,e1,e2,n1,e3⟩,_⟩:=I.tuple ha
 obtain⟨its2,r2,⟨⟨d1,d2,d3,d4⟩,f1,f2,n2,f3⟩,_⟩:=I.tuple hb
 obtain rfl:c1=_:=e2
 obtain rfl:c3=_:=e3
 obtain rfl:d1=_:=f2
 obtain rfl:d3=_:=f3
 cases r1
 exact concat_meets ⟨_,e1,rfl⟩ ⟨_,f1,rfl⟩ noFill_tuple_add seq_tuple_add PySem.F.slot_tuple_add PySem.F.entry_tuple_add (PySem.F.args_tuple_add_2 _ _) (tuple_addW0 a b #[] its2.toArray n1 n2 c2 d2 c4 d4 rfl) ⟨e1,f1,.ref b,H,I,rfl,q⟩
def zcy(K:W.Frag):R2:=λx y H Q=>match x,y with
 | .int i,.int j=>Q (.int (i+j)) H
 | .str i,.str j=>i.length+j.length<=sizeLine/\Q (.str (i++j)) H
 | .ref _,.ref _=>jn5 x y H Q\/jjf K x y H Q\/jet K x y H Q
 | _,_=>False
theorem zbc:OpR X (binaryOp .Add) (zcy X.K):=by
 intro pins s σ H x y v u Q I rx ry h
 cases x<;>cases y<;>simp only[zcy]at h
 ·exact jld pins s σ H _ _ v u Q I rx ry ⟨_,_,rfl,rfl,h⟩
 ·exact jcu pins s σ H _ _ v u Q I rx ry ⟨_,_,rfl,rfl,h⟩
 ·rcases h with h | h
  ·exact jlo pins s σ H _ _ v u Q I rx ry h
  rcases h with h | h
  ·exact jjg pins s σ H _ _ v u Q I rx ry h
  ·exact jhe pins s σ H _ _ v u Q I rx ry h
def jdu:R2:=λx y H Q=>match x,y with
 | .int i,.int j=>Q (.bl (decide (i<j))) H
 | .str i,.str j=>Q (.bl (decide (i.cps.toList<j.cps.toList))) H
 | _,_=>False
def z8q:R2:=λx y H Q=>match x,y with
 | .int i,.int j=>Q (.bl (decide (i<=j))) H
 | .str i,.str j=>Q (.bl (!decide (j.cps.toList<i.cps.toList))) H
 | _,_=>False
end
end L2
namespace L2
theorem z0n:fillsNumberSlot (.type "tuple") "mul"=pure false :=
 PySem.fillsNumberSlot_seq (id:="tuple.__mul__") (r:=some (.builtin "tuple.__rmul__")) F.slot_tuple_mul.lookup (by decide +kernel) F.slot_tuple_rmul.lookup (by decide +kernel)
theorem z8r:seqRepeat? (.type "tuple")=pure (some (.builtin "tuple.__mul__")):=by
 unfold seqRepeat?
 rw[PySem.seqSlot_of (T:="tuple") (name:="__mul__") (id:="tuple.__mul__") F.slot_tuple_mul.lookup (by decide +kernel),PySem.seqSlot_of (T:="tuple") (name:="__rmul__") (id:="tuple.__rmul__") F.slot_tuple_rmul.lookup (by decide +kernel)]
 rfl
theorem z4m(a:Int)(t:Tok)(l:Addr)(items:Array Value)(dd:Option Addr)(n:Nat)(sl:Array (Option Value)) :
  Meets (Builtin.«int.__rmul__» ⟨[.int a t,.ref l],[]⟩) (λ_ R s=>s.heap.get? l=some ⟨.type "tuple",dd,.seq items n,sl⟩/\R (.ok (.ret Value.notImplemented)) s) :=
 .of_wp λprog w A R s h=>by obtain⟨hp,g,d,tk,os⟩:=s;obtain⟨hl,h⟩:=h;wp_walk;exact⟨_,rfl,h⟩
theorem z6t(l:Addr)(items:Array Value)(dd:Option Addr)(n:Nat)(sl:Array (Option Value))(x:Int)(u:Tok)(h1:1<x)(h2:x<2 ^ 63)(hne:items.isEmpty=false)(hz:items.size * x.toNat<=sizeLine) :
  Meets (Builtin.«tuple.__mul__» ⟨[.ref l,.int x u],[]⟩) (λ_ R s=>s.heap.get? l=some ⟨.type "tuple",dd,.seq items n,sl⟩ ∧
   R (.ok (.ret (Value.ref s.heap.objs.size))) { s with heap:=s.heap.push { cls:=Value.type "tuple",data:=Data.seq (List.foldl (λx1 x2=>x1++x2) #[] (List.replicate x.toNat items)) } }) :=
 .of_wp λprog w A R s h=>by
  obtain⟨hp,g,d,tk,os⟩:=s;obtain⟨hl,h⟩:=h
  have hsl:(sizeLine:Nat)<=(2 ^ 63 - 1) / 8:=by decide
  have hlen:(List.foldl (λx1 x2=>x1++x2) #[] (List.replicate x.toNat items)).size<=sizeLine:=by
   have:=zve items.toList x.toNat []
   simp only[List.nil_append,Array.toArray_toList]at this
   rw[this]
   simp only[List.size_toArray,List.length_flatten,List.map_replicate,List.sum_replicate_nat,Array.length_toList]
   rw[Nat.mul_comm];exact hz
  have hx:∃ N:Nat,(items.size:Int) * x=(N:Int)/\N<=sizeLine:=⟨items.size * x.toNat,by rw[Int.natCast_mul,Int.toNat_of_nonneg (by omega)],hz⟩
  obtain⟨N,hx,hN⟩:=hx
  unfold Builtin.«tuple.__mul__»
  wp_walk
  refine wpAny_ite_false (by simp;omega) ?_
  wp_walk
  refine wpAny_ite_false (by simp only[hne,Bool.false_or];simp;omega) ?_
  refine wpAny_ite_false (by simp only[hne,Bool.or_false];simp;omega) ?_
  refine wpAny_ite_false (by rw[hx];exact decide_eq_false (by omega)) ?_
  refine wpAny_ite_false (by rw[hx];unfold Builtin.Tuple.tupleTooMany;simp;omega) ?_
  wp_walk
  exact⟨_,rfl,h⟩
theorem z6u(l:Addr)(items:Array Value)(dd:Option Addr)(n:Nat)(sl:Array (Option Value))(u:Tok) :
  Meets (Builtin.«tuple.__mul__» ⟨[.ref l,.int 1 u],[]⟩) (λ_ R s=>s.heap.get? l=some ⟨.type "tuple",dd,.seq items n,sl⟩/\R (.ok (.ret (Value.ref l))) s) :=
 .of_wp λprog w A R s h=>by
  obtain⟨hp,g,d,tk,os⟩:=s;obtain⟨hl,h⟩:=h
  unfold Builtin.«tuple.__mul__»
  wp_walk
  exact⟨_,rfl,h⟩
def jjq(K:W.Frag):R2:=λx y H Q=>∃ a k xs,x=.ref a/\y=.int k/\SqT K H a xs/\xs≠[]/\1<=k/\k<2 ^ 63/\xs.length * k.toNat<=sizeLine ∧
 (k=1->Q (.ref a) H)/\(k≠1->∀ p,H p=none->Q (.ref p) (upd H p (.tup (List.replicate k.toNat xs).flatten)))
section
variable{X:Cx}
theorem Inv.tnew{pins:List (Addr × Obj)}{σ:St}{H:Hp}{s:Shared}{ys:List V}{its:List Value}(I:Inv X pins σ H s)(hv:Vals ys its)(hz:ys.length<=sizeLine) :
  Inv X pins σ (upd H s.heap.objs.size (.tup ys)) { s with heap:=s.heap.push { cls:=.type "tuple",data:=.seq its.toArray } } :=
 I.laid (t':=s.toks) (λ_ _ q=>Heap.get?_push_of_some _ q) (Nat.le_refl _) ⟨hz,its,hv,_,Heap.get?_push_size _ rfl,rfl,0,rfl⟩
theorem jjr:OpR X (binaryOp .Mult) (jjq X.K):=by
 intro pins s σ H x y v u Q I rx ry h
 obtain⟨a,k,xs,rfl,rfl,hx,hne,h1,h2,hz,q1,q2⟩:=h
 cases rx
 obtain⟨t,rfl⟩:=ry
 obtain⟨its,r,⟨⟨c1,c2,c3,c4⟩,e1,e2,n,e3⟩,_⟩:=I.tuple hx
 obtain rfl:c1=_:=e2
 obtain rfl:c3=_:=e3
 have hl:=r.length
 have he:its.toArray.isEmpty=false:=by
  cases its with
  | nil=>exact absurd (List.length_eq_zero_iff.mp hl) hne
  | cons b t=>rfl
 refine wpAny_binaryOp_repeat_ref (T:="tuple") (U:="int") (by decide) ⟨_,e1,rfl⟩ (λs'=>typeIs_int s' k t) z0n F.fills_int_mul F.slot_int_rmul z8r F.slot_int_index.lookup
  (call_meets F.slot_int_rmul (typeIs_int s k t) F.entry_int_rmul (F.args_int_rmul_2 _ _) (z4m k t a its.toArray c2 n c4) ⟨e1,rfl,⟨_,e1,rfl⟩,?_⟩)
 by_cases hk:k=1
 ·subst hk
  exact call_meets F.slot_tuple_mul ⟨_,e1,rfl⟩ F.entry_tuple_mul (F.args_tuple_mul_2 _ _) (z6u a its.toArray c2 n c4 t) ⟨e1,.ref a,H,I,rfl,q1 rfl⟩
 ·refine call_meets F.slot_tuple_mul ⟨_,e1,rfl⟩ F.entry_tuple_mul (F.args_tuple_mul_2 _ _) (z6t a its.toArray c2 n c4 k t (by omega) h2 he (by rw[List.size_toArray,<-hl];exact hz)) ⟨e1,?_⟩
  have f0:=zve its k.toNat []
  rw[List.nil_append]at f0
  rw[f0]
  exact⟨.ref _,_,I.tnew (r.rep k.toNat) (by rw[jee,Nat.mul_comm];exact hz),rfl,q2 hk _ I.fresh⟩
abbrev jc3:R2:=rI0 λi j=>.int (i - j)
abbrev ze2:R2:=rI (λ_ j=>0<j) λi j=>.int (i % j)
abbrev zgd:R2:=rI jos λi j=>.int (i / j)
abbrev jeu:R2:=rI jnh λi j=>.int (i ^ j.toNat)
abbrev jev:V->Hp->VK->Prop:=rU λi=>.int (-i)
abbrev jlw:TIp:=ipI λi j=>i+j
def jk1(z:Str)(k:Int):Str:=if k<1 then Str.empty else if(k == 1 || z.length == 0)=true then z else⟨(List.replicate k.toNat z.cps).foldl (· ++·) #[]⟩
theorem jjs(z:Str)(k:Nat):(Str.mk ((List.replicate k z.cps).foldl (· ++·) #[])).length=k * z.length:=by
 have e:∀ (m:Nat) (acc:Array Nat),((List.replicate m z.cps).foldl (· ++·) acc).size=acc.size+m * z.cps.size:=λm=>by
  induction m with
  | zero=>intro acc;simp
  | succ m ih=>intro acc;rw[List.replicate_succ,List.foldl_cons,ih,Array.size_append,Nat.succ_mul];omega
 have:=e k #[]
 simpa [Str.length]using this
def joa:R2:=λx y H Q=>∃ z k,x=.str z/\y=.int k/\0<=k/\k<=1000/\z.length<=1000/\Q (.str (jk1 z k)) H
theorem jjt:OpR X (binaryOp .Mult) joa:=by
 intro pins s σ H x y v u Q I rx ry h
 obtain⟨z,k,rfl,rfl,h1,h2,h3,q⟩:=h
 obtain⟨t,rfl⟩:=rx
 obtain⟨t',rfl⟩:=ry
 refine PySem.P.mul_str (by simp;omega) (λa _=> ?_) (λa _=> ?_) ?_
 ·have:(1000:Int)<=(2 ^ 63 - 1) / k:=(Int.le_ediv_iff_mul_le (by omega)).mpr (by omega)
  omega
 ·have h4:z.length * k.toNat<=1000 * 1000:=Nat.mul_le_mul h3 (by omega)
  have h5:(1000 * 1000:Nat)<=sizeLine:=by decide
  unfold Builtin.Str.tooLong
  exact decide_eq_false (by omega)
 ·unfold jk1 at q
  split
  ·rename_i c
   rw[if_pos c]at q
   exact⟨by show(0:Nat)<=sizeLine;omega,.str _,H,I.tok _,⟨_,rfl⟩,q⟩
  ·rename_i c
   rw[if_neg c]at q
   split
   ·rename_i d
    rw[if_pos d]at q
    exact⟨.str _,H,I,⟨_,rfl⟩,q⟩
   ·rename_i d
    rw[if_neg d]at q
    exact⟨by rw[jjs];have:=Nat.mul_le_mul (show k.toNat<=1000 by omega) h3;show _<=2 ^ 24;omega,.str _,H,I.tok _,⟨_,rfl⟩,q⟩
def zvh(K:W.Frag):R2:=λx y H Q=>match x,y with
 | .int i,.int j=>CMul i j/\Q (.int (i * j)) H
 | .str z,.int k=>0<=k/\k<=1000/\z.length<=1000/\Q (.str (jk1 z k)) H
 | .ref _,.int _=>jn6 x y H Q\/jjq K x y H Q
 | _,_=>False
theorem zmz:OpR X (binaryOp .Mult) (zvh X.K):=by
 intro pins s σ H x y v u Q I rx ry h
 cases x<;>cases y<;>simp only[zvh]at h
 ·exact jle pins s σ H _ _ v u Q I rx ry ⟨_,_,rfl,rfl,h⟩
 ·exact jjt pins s σ H _ _ v u Q I rx ry ⟨_,_,rfl,rfl,h⟩
 ·rcases h with h | h
  ·exact jlp pins s σ H _ _ v u Q I rx ry h
  ·exact jjr pins s σ H _ _ v u Q I rx ry h
def jnl:R2:=λx y H Q=>match x,y with
 | .int i,.int j=>Q (.bl (decide (j<i))) H
 | _,_=>False
def jpc:R2:=λx y H Q=>match x,y with
 | .int i,.int j=>Q (.bl (decide (j<=i))) H
 | _,_=>False
theorem z0d:OpR X (compareOp .Lt) jdu:=by
 intro pins s σ H x y v u Q I rx ry h
 cases x<;>cases y<;>simp only[jdu]at h
 ·exact jnz pins s σ H _ _ v u Q I rx ry ⟨_,_,rfl,rfl,h⟩
 ·obtain⟨t,rfl⟩:=rx
  obtain⟨t',rfl⟩:=ry
  exact PySem.P.lt_str ⟨.bl _,H,I,rfl,h⟩
theorem zma:OpR X (compareOp .LtE) z8q:=by
 intro pins s σ H x y v u Q I rx ry h
 cases x<;>cases y<;>simp only[z8q]at h
 ·exact jn0 pins s σ H _ _ v u Q I rx ry ⟨_,_,rfl,rfl,h⟩
 ·obtain⟨t,rfl⟩:=rx
  obtain⟨t',rfl⟩:=ry
  exact PySem.P.le_str ⟨.bl _,H,I,rfl,h⟩
theorem jlx:OpR X (compareOp .Gt) jnl:=by
 intro pins s σ H x y v u Q I rx ry h
 cases x<;>cases y<;>simp only[jnl]at h
 exact jn1 pins s σ H _ _ v u Q I rx ry ⟨_,_,rfl,rfl,h⟩
abbrev jk2:R2:=λx y H Q=>y=.non/\Q (.bl (decide (x=.non))) H
abbrev jew:R2:=λx y H Q=>y=.non/\Q (.bl (!decide (x=.non))) H
variable{a:Expr}{ta:TE}{tA:TT}{pos:Pos}
abbrev jk3(K:W.Frag)(ta:TE):TT:=λσ H Q=>ta σ H λx H'=>∃ k,jim K x H' k/\Q k H'
def zht(K:W.Frag):R2:=rIx K
theorem zbs:IxR X (zht X.K):=jlk
def jpd:V->Option Int->Option Int->Hp->VK->Prop:=λx lo hi H Q=>∃ z,x=.str z/\z.length<=sizeLine/\Q (.str (Txt.slice z lo hi)) H
theorem jex{v:Value}{lo:Option Int}(p:IsPart v lo):∃ l:Option (Int × Tok),v=partValue l/\l.map (·.1)=lo:=by
 cases p with
 | none=>exact⟨none,rfl,rfl⟩
 | int i t=>exact⟨some (i,t),rfl,rfl⟩
theorem jly:SlR X jpd:=by
 intro pins s σ H x v vl vu lo hi sl Q I rx hs pl pu h
 obtain⟨z,rfl,hz,q⟩:=h
 obtain⟨t,rfl⟩:=rx
 obtain⟨l,rfl,rfl⟩:=jex pl
 obtain⟨u,rfl,rfl⟩:=jex pu
 refine⟨"str",_,PySem.F.slot_str_getitem.lookup,typeIs_str _ _ _,?_⟩
 exact wpAny_getItem_str_slice (l:=l) (u:=u) (st:=none) hs rfl (post_val_or_str ⟨Nat.le_trans (Txt.slice_le z _ _) hz,λt' k=>⟨.str _,H,I.tok k,⟨t',rfl⟩,q⟩⟩)
def jb1(K:W.Frag):V->Option Int->Option Int->Hp->VK->Prop:=λx lo hi H Q=>match x with
 | .str z=>z.length<=sizeLine/\Q (.str (Txt.slice z lo hi)) H
 | _=>joz K x lo hi H Q\/jov K x lo hi H Q
theorem zpa:SlR X (jb1 X.K):=by
 intro pins s σ H x v vl vu lo hi sl Q I rx hs pl pu h
 cases x<;>first
  | exact jly pins s σ H _ v vl vu lo hi sl Q I rx hs pl pu ⟨_,rfl,h⟩
  | exact(SlR.or jjj jlh) pins s σ H _ v vl vu lo hi sl Q I rx hs pl pu h
abbrev jju:V->V->V->Hp->(Hp->Prop)->Prop:=jll
theorem jey:jnu X jju:=jg2
def jb2(K:W.Frag)(tl:TE):TI:=λσ H R=>tl σ H λx H1=>∃ a,x=.ref a/\(((∃ xs,SqL K H1 a xs)/\R (Itl K a) H1)\/((∃ xs,SqT K H1 a xs)/\R (Itt K a) H1))
def zcc(K:W.Frag):List V->Hp->VK->Prop:=λxs H Q=>∃ x n,xs=[x]/\jn2 K x H n/\Q (.int n) H
theorem zfh:zrl X (.builtin "len") (zcc X.K):=jgv
def zft(K:W.Frag):List V->Hp->VK->Prop:=λxs H Q=>∃ p ys,xs=[.ref p]/\(SqL K H p ys\/SqT K H p ys)/\∀ l,H l=none->Q (.ref l) (upd H l (.lst ys))
theorem zrg:zrl X (.type "list") (zft X.K):=z8k
def zge(K:W.Frag):List V->Hp->VK->Prop:=λxs H Q=>∃ p ys,xs=[.ref p]/\((SqL K H p ys/\∀ l,H l=none->Q (.ref l) (upd H l (.tup ys)))\/(SqT K H p ys/\Q (.ref p) H))
theorem zto:zrl X (.type "tuple") (zge X.K):=z6o
abbrev zh7:=jed
abbrev jc4:=jiq
end
end L2
namespace L2
section
variable{X:Cx}{tg a:Expr}{ta:TE}{pos:Pos}
theorem zpb{l:Expr}{tl:TE}(hl:PE X l tl):PI X tg l (jb2 X.K tl):=by
 intro pins s σ H R I h
 refine thn (hl pins s σ H _ I h) λv s1 ⟨x,H1,I1,r1,q1⟩=> ?_
 obtain⟨a,e,q1⟩:=q1
 subst e
 cases r1
 have fp1:∀ b∈[s1.heap.objs.size],FpOk X pins H1 b:=λb hb=>by
  have e:b=s1.heap.objs.size:=by simpa using hb
  subst e
  exact I1.fpOk (Nat.le_refl _) (I1.hok.fresh (Nat.le_refl _))
 rcases q1 with⟨⟨xs,hq⟩,q⟩ | ⟨⟨xs,hq⟩,q⟩
 ·obtain⟨its,rv,p,hz⟩:=I1.list hq
  refine wpAny_pyIter_list p.isList ?_
  exact⟨s1.heap.objs.size,[s1.heap.objs.size],_,_,H1,rfl,I1.kept (t':=s1.toks) λb o e=>Heap.get?_push_of_some _ e,jdz a _,⟨_,Heap.get?_push_size _ rfl,rfl,rfl⟩,fp1,q⟩
 ·obtain⟨its,rv,p,hz⟩:=I1.tuple hq
  refine wpAny_pyIter_tuple (show s1.heap.IsTuple a its.toArray from p) ?_
  exact⟨s1.heap.objs.size,[s1.heap.objs.size],_,_,H1,rfl,I1.kept (t':=s1.toks) λb o e=>Heap.get?_push_of_some _ e,jcr a _,⟨_,Heap.get?_push_size _ rfl,rfl,rfl⟩,fp1,q⟩
def jjv(K:W.Frag)(ta:TE):TE:=λσ H Q=>ta σ H λx H1=>∃ k,jim K x H1 k/\Q (.bl (!k)) H1
theorem jjw(ha:PE X a ta):PE X (.UnaryOp .Not a pos) (jjv X.K ta):=by
 intro pins s σ H Q I h
 refine UnaryOp_ (thn (ha pins s σ H _ I h) λv s1 ⟨x,H1,I1,r1,k,t1,q1⟩=> ?_)
 exact not_of (thn (jin pins s1 σ H1 x v (λc H2=>c=k/\H2=H1) I1 r1 ⟨k,t1,rfl,rfl⟩) λc s2 ⟨H2,I2,e1,e2⟩=>by
  subst e1;subst e2;exact⟨.bl (!c),_,I2,rfl,q1⟩)
end
def jo1(scope outer:Scope)(N cn:List Str)(cap:List Nat):Bool :=
 scope.kind == .function && scope.names.all (λy=>y.2 != .cell) && scope.names.all (λy=>y.2 != .local || scope.names.lookup y.1 == some .local) &&
 scope.names.all (λy=>y.2 != .free || outer.names.lookup y.1 == some .cell || outer.names.lookup y.1 == some .free) && cn.all (λx=>scope.names.lookup x == some .free) && (cap.map (λi=>N[i]?) == cn.map some)
theorem zky{X:Cx}{scope outer:Scope}{N tn cn:List Str}{cap:List Nat}(h1:X.env.scope=outer)(h2:X.N=N)(h:jo1 scope outer N cn cap=true):z2r X scope tn cn cap:=by
 unfold jo1 at h
 simp only[Bool.and_eq_true,List.all_eq_true,Bool.or_eq_true,bne_iff_ne,beq_iff_eq]at h
 obtain⟨⟨⟨⟨⟨k1,k2⟩,k3⟩,k4⟩,k5⟩,k6⟩:=h
 refine⟨k1,k2,λy hy hl=>(k3 y hy).resolve_left λz=>z hl,λy hy hf=> ?_,k5,by rw[h2];exact k6⟩
 have z:=k4 y hy
 show X.env.scope.names.lookup y.1=_\/X.env.scope.names.lookup y.1=_
 rw[h1]
 rcases z with(z | z) | z
 ·exact absurd hf z
 ·exact .inl z
 ·exact .inr z
structure jlz(K:W.Frag)(C:Addr):Prop where
 ga:W.findIn K (.ref C) "__getattribute__"=some (some (.builtin "BaseException.__getattribute__"))
 gt:W.findIn K (.ref C) "__getattr__"=some none
 be:W.mroIn K C (.type "BaseException")=some true
 cl:W.isClsIn K C=true
 ha:W.findIn K (.ref C) "__class__"=some (some (.builtin "object.__class__"))
 hn:W.specialIn K (.builtin "object.__class__") "__get__"=some (some (.builtin "getset_descriptor.__get__"))
 tk:W.takesIn K (.builtin "object.__class__")=some true
 mr:W.mroIn K C (.type "object")=some true
theorem z6v{K:W.Frag}{C:Addr}{od:Option Obj}{name:Str}{a g:Value}(hc:(W.clsIn K C).isSome=true)(ha:W.findIn K (.ref C) name=some (some a))(hg:W.specialIn K a "__get__"=some (some g))(ht:W.takesIn K a=some true) :
  W.findObj K C od name=some (.bind g a):=by
 obtain⟨cd,hc⟩:=Option.isSome_iff_exists.mp hc
 unfold W.findObj
 rw[hc,Option.bind_some,ha,Option.bind_some]
 simp[hg,ht]
theorem jez{K:W.Frag}{M:Model}{A:Around}{E:Value->Shared->Prop}{Q:Unit->Shared->Prop}{s:Shared}{x D:Addr}{ox:Obj}{nm:Value}(c:jlz K D)(X:K.In s.heap)(I:W.InstAt s.heap x ox D none)(k:Q () s) :
  wpAny M A (checkBuiltinCall "BaseException.__getattribute__" ⟨[.ref x,nm],[]⟩) Q E s:=by
 have e1:builtinKind "BaseException.__getattribute__"=some .slot:=by decide +kernel
 have e2:splitId "BaseException.__getattribute__"=some ("BaseException","__getattribute__"):=by decide +kernel
 have L:W.Looks M s.heap (isInstance (.ref x) (.type "BaseException")) true:=(I.type (M:=M)).andThen (W.looks_mroIn (M:=M) X c.be)
 have ar:=PySem.F.args_bexc_ga (.ref x) nm
 obtain⟨hh,g,d,t,os⟩:=s
 simp only[checkBuiltinCall,e1,e2]
 refine wpAny_bind (L.at ?_)
 simp only[Bool.not_true,Bool.false_eq_true,if_false]
 cases hs:Manifest.signature? "BaseException.__getattribute__" with
 | none=>exact wpAny_pure k
 | some sig =>
  simp only[argsOk,hs]at ar
  have z:Bind.checkArgs "BaseException.__getattribute__" sig ⟨[.ref x,nm],[]⟩=pure ():=ar
  show wpAny M A (Bind.checkArgs "BaseException.__getattribute__" sig ⟨[.ref x,nm],[]⟩) Q E _
  rw[z];exact wpAny_pure k
theorem je0{K:W.Frag}{prog:Program}{w:World}{A:Around}{E:Value->Shared->Prop}{Q:Option Value->Shared->Prop}{s:Shared}{x D:Addr}{ox:Obj}(c:jlz K D)(X:K.In s.heap)(I:W.InstAt s.heap x ox D none)
  (k:Q (some (.ref D)) { s with toks:=s.toks+1 }):wpAny (model prog w) A (getAttr? (.ref x) "__class__") Q E s:=by
 obtain⟨hh,g,d,t,os⟩:=s
 have L0:=I.type (M:=model prog w)
 have L1:=W.looks_findIn (M:=model prog w) X c.ga
 have L2:=W.looks_findIn (M:=model prog w) X c.gt
 have L3:=W.looks_find (M:=model prog w) X I (z6v (name:="__class__") c.cl c.ha c.hn c.tk)
 unfold getAttr? getAttrBy? getAttrBy
 refine wpAny_bind (wpAny_mkText (wpAny_bind (wpAny_attempt (wpAny_holding (wpAny_bind (L0.at (wpAny_bind (L1.at ?_))))))))
 show wpAny _ _ (getAttrByItsOwn _ _ _ _ _ _) _ _ _
 unfold getAttrByItsOwn
 refine wpAny_bind (L2.at (wpAny_bind (wpAny_attempt (wpAny_holding ?_))))
 show wpAny _ _ (boundAndCalled _ _ _) _ _ _
 unfold boundAndCalled
 rw[PySem.F.attr_ValueError.ga.bind (.ref x)]
 refine wpAny_bind (wpAny_pure (wpAny_call (codeAny_call_builtin PySem.F.attr_ValueError.ga.plain PySem.F.entry_bexc_ga (jez c X I ?_))))
 refine wpAny_bind (wpAny_pure (wpAny_bind (wpAny_pure (wpAny_bind (L0.at (wpAny_bind (L3.at ?_)))))))
 show wpAny _ _ (holding [_] (call _ _) >>= ret) _ _ _
 refine wpAny_bind (wpAny_holding (wpAny_call (W.class_get (ox:=ox) (od:=none) X I c.mr (wpAny_pure ?_))))
 exact W.handed_on rfl (wpAny_pure k)
theorem jhf{K:W.Frag}{x D:Addr}(c:jlz K D):W.KitX K (.ref x) (.ref D) (z4l x (.ref D)):=by
 have inst:∀ {h:Heap},z4l x (.ref D) h->∃ ox,W.InstAt h x ox D none:=λ{h} ⟨oe,vs,e1,e2,e3,e4⟩=>by
  refine⟨oe,e1,e2,?_,?_⟩
  ·unfold W.notCls;rw[e4]
  ·rw[e3];trivial
 have cls:∃ cd,W.clsIn K D=some cd:=Option.isSome_iff_exists.mp c.cl
 refine⟨λM h _ p=>(inst p).elim λ_ I=>I.type,λM h X p=> ?_,λh tp dd its n sl X htp=> ?_,λ{prog w A E Q s} X p k=> ?_⟩
 ·obtain⟨cd,hc⟩:=cls
  unfold W.clsIn at hc
  split at hc
  ·rename_i c' d' cd' sl' ho
   intro A' Q' E' s' k q
   unfold isType loadHead
   exact wpAny_bind (wpAny_loadPart (k _ _ (X _ _ ho)) (wpAny_pure q))
  ·cases hc
 ·obtain⟨cd,hc⟩:=cls
  refine Bool.eq_false_iff.mpr λq=> ?_
  have e:D=tp:=Value.ref.inj (beq_iff_eq.mp q)
  subst e
  unfold W.clsIn at hc
  split at hc
  ·rename_i c' d' cd' sl' ho
   have z:=(X _ _ ho).symm.trans htp
   cases z
  ·cases hc
 ·obtain⟨ox,I⟩:=inst p
  exact je0 c X I k
def TyX(K:W.Frag)(H:Hp)(x:V)(t:Value):Prop:=jdt K H x t\/∃ a C,x=.ref a/\t=.ref C/\H a=some (.ext (z4l a (.ref C)))/\jlz K C
inductive ClsV:V->Value->Prop
 | own (C:Addr):ClsV (.ref C) (.ref C)
 | ty (n:String):ClsV (.ty n) (.type n)
theorem ClsV.rel{y:V}{c u:Value}(h:ClsV y c)(r:RelV y u):u=c:=by
 cases h<;>exact r
theorem z8s:∀ {ys:List V} {cs us:List Value},Paired ClsV ys cs->Vals ys us->us=cs
 | _,_,_,.nil,.nil=>rfl
 | _,_,_,.cons h t,.cons r rr=>by rw[h.rel r,z8s t rr]
def zd7(K:W.Frag):List V->Hp->VK->Prop:=λxs H Q=>∃ x y t b,xs=[x,y]/\TyX K H x t ∧
 ((∃ c,ClsV y c/\W.kitOne K t c=some b)\/∃ p ys cs,y=.ref p/\SqT K H p ys/\Paired ClsV ys cs/\W.kitAny K t cs=some b)/\Q (.bl b) H
section
variable{X:Cx}
theorem TyX.kit{pins:List (Addr × Obj)}{σ:St}{H:Hp}{s:Shared}{x:V}{t u:Value}(I:Inv X pins σ H s)(h:TyX X.K H x t)(r:RelV x u):∃ φ :Heap->Prop,W.KitX X.K u t φ /\ φ s.heap/\u≠.builtin "__main__.__loader__#opaque":=by
 rcases h with h | ⟨a,C,rfl,rfl,e,c⟩
 ·cases h with
  | non=>cases (show u=Value.none from r);exact⟨_,W.kitx_none,trivial,λz=>nomatch z⟩
  | bl y=>cases (show u=Value.bool y from r);exact⟨_,W.kitx_bool,trivial,λz=>nomatch z⟩
  | int i=>obtain⟨t,q⟩:=(show ∃ t,u=Value.int i t from r);cases q;exact⟨_,W.kitx_int,trivial,λz=>nomatch z⟩
  | str y=>obtain⟨t,q⟩:=(show ∃ t,u=Value.str y t from r);cases q;exact⟨_,W.kitx_str,trivial,λz=>nomatch z⟩
  | flt y=>obtain⟨t,q⟩:=(show ∃ t,u=Value.float y t from r);cases q;exact⟨_,W.kitx_float,trivial,λz=>nomatch z⟩
  | @lst a xs ea =>
   cases (show u=Value.ref a from r)
   obtain⟨_,_,n,_,h1⟩:=(show ObjOk X.prog X.w H s.heap a (.lst xs)from I.hok a _ ea)
   exact⟨_,W.kitx_list,⟨_,h1,rfl⟩,λz=>nomatch z⟩
  | @frz a ob xs ea =>
   cases (show u=Value.ref a from r)
   obtain⟨_,_,_,n,_,h1⟩:=(show ObjOk X.prog X.w H s.heap a (.frz ob (.lst xs))from I.hok a _ ea)
   exact⟨_,W.kitx_list,⟨_,h1,rfl⟩,λz=>nomatch z⟩
  | @tup a xs ea =>
   cases (show u=Value.ref a from r)
   obtain⟨_,_,_,p⟩:=(show ObjOk X.prog X.w H s.heap a (.tup xs)from I.hok a _ ea)
   obtain⟨o,h1,h2,_⟩:=p
   exact⟨_,W.kitx_tuple,⟨o,h1,h2⟩,λz=>nomatch z⟩
  | @dK a kvs ea =>
   cases (show u=Value.ref a from r)
   obtain⟨_,_,vs,_,p⟩:=(show ObjOk X.prog X.w H s.heap a (.dK kvs)from I.hok a _ ea)
   obtain⟨o,es,ep,h1,h2,_⟩:=p
   exact⟨_,W.kitx_dict,⟨o,h1,h2.1⟩,λz=>nomatch z⟩
  | @dT a kvs ea =>
   cases (show u=Value.ref a from r)
   obtain⟨_,_,xs,_,o,es,ep,h1,h2,_⟩:=(show ObjOk X.prog X.w H s.heap a (.dT kvs)from I.hok a _ ea)
   exact⟨_,W.kitx_dict,⟨o,h1,h2.1⟩,λz=>nomatch z⟩
  | @ins a C dx fs ea cl ha hn htk hm =>
   cases (show u=Value.ref a from r)
   obtain⟨mA,O,_⟩:=z6j I.hok ea
   obtain⟨od,J,_⟩:=O.look
   exact⟨_,W.kitx_own (cl.get _) cl.hd ha hn htk hm,J,λz=>nomatch z⟩
 ·cases (show u=Value.ref a from r)
  have p:z4l a (.ref C) s.heap:=(show ObjOk X.prog X.w H s.heap a (.ext (z4l a (.ref C)))from I.hok a _ e).1
  exact⟨_,jhf c,p,λz=>nomatch z⟩
theorem zke:zrl X (.builtin "isinstance") (zd7 X.K):=by
 intro pins s σ H xs us Q I r h
 obtain⟨x,y,t,b,rfl,ty,hc,q⟩:=h
 obtain⟨u,v,rfl,rx,ry⟩:=Vals.two r
 obtain⟨φ,Z,p,ne⟩:=ty.kit I rx
 rcases hc with⟨c,hy,e⟩ | ⟨pt,ys,cs,rfl,hs,hcs,e⟩
 ·have:=hy.rel ry
  subst this
  exact W.kia_one Z I.kIn p e ne λtk=>⟨.bl b,H,I.tok tk,rfl,q⟩
 ·cases (show v=Value.ref pt from ry)
  obtain⟨its,rv,⟨⟨c1,c2,c3,c4⟩,e1,e2,n,e3⟩,_⟩:=I.tuple hs
  obtain rfl:c1=_:=e2
  obtain rfl:c3=_:=e3
  have:=z8s hcs rv
  subst this
  exact W.kia_tup Z I.kIn p e1 e ne λtk=>⟨.bl b,H,I.tok tk,rfl,q⟩
end
end L2
namespace L2
def zx4(J:It)(g:TG)(tt:TT)(te:TE)(k:Nat)(cap:List Nat)(σ:St)(H1:Hp)(Q:VK):Prop :=
 ∃ W:Nat->Nat->St->List V->Hp->Prop,(∃ m,W 0 m (z6r k cap σ) [] H1)/\∀ i m σ' ys H,W i m σ' ys H →
  (J.stop i H/\∀ p,H p=none->Q (.ref p) (upd H p (.lst ys))) ∨
  (J.go i H/\ys.length<sizeLine/\∀ x H',J.yld i H x H'->g x σ' H' λσ2 H2=>tt σ2 H2 λb H3 =>
   if b=true then ∃ N:VK,(∀ y H4,N y H4->∃ m',m'<m/\W (i+1) m' σ2 (ys++[y]) H4)/\te σ2 H3 N else ∃ m',m'<m/\W (i+1) m' σ2 ys H3)
def z6w(J:It)(g:TG)(tb:TS)(D:Ends)(σ:St)(H1:Hp):Prop :=
 ∃ W:Nat->Nat->St->Hp->Prop,(∃ m,W 0 m σ H1)/\∀ i m σ H,W i m σ H →
  (J.stop i H/\D.nx σ H)\/(J.go i H/\∃ N:St->Hp->Prop,(∀ σ' H',N σ' H'->∃ m',m'<m/\W (i+1) m' σ' H')/\∀ x H',J.yld i H x H'->g x σ H' λσ2 H2=>tb { D with nx:=N,ct:=N,bk:=D.nx } σ2 H2)
section
variable{K:W.Frag}{ta tb tc to ti tv tl:TE}{tt tA tB' tu:TT}{s1 s2:TS}{r r':R2}{σ:St}{H:Hp}{Q:VK}{D:Ends}{QB:Bool->Hp->Prop}{as:TA}{g:TG}{gs:TGs}{te:TE}{k i:Nat}{cap:List Nat}{f m:Str}{C:Addr}{sp:Sp}{dvs:List V}{E:St->XK}{v:V}{vs:List V}{QA:List V->Hp->Prop}{QG:St->Hp->Prop}{QO:Option Int->Hp->Prop}
theorem je1:zby s1 s2 D σ H=(s1 { D with nx:=s2 D } σ H):=rfl
theorem jhg:zha D σ H=(D.nx σ H):=rfl
theorem je2:jlb D σ H=(D.bk σ H):=rfl
theorem jhh:ji7 D σ H=(D.ct σ H):=rfl
theorem je3:zd5 ta g D σ H=(ta σ H λx H1=>g x σ H1 D.nx):=rfl
theorem jhi:zfr ta D σ H=(ta σ H λ_ H1=>D.nx σ H1):=rfl
theorem jjx:zgc ta D σ H=(ta σ H D.rt):=rfl
theorem jhj:jnt D σ H=(D.rt .non H):=rfl
theorem jjy:zkr tt s1 s2 D σ H=(tt σ H λb H1=>if b=true then s1 D σ H1 else s2 D σ H1):=rfl
theorem jl0:tC v σ H Q=(Q v H):=rfl
theorem jiu:tOp r ta tb σ H Q=(ta σ H λx H1=>tb σ H1 λy H2=>r x y H2 Q):=rfl
theorem jhk:zek ta σ H QB=(ta σ H λx H'=>∃ k,x=.bl k/\QB k H'):=rfl
theorem je4:znu r r' ta tb tc σ H Q=(ta σ H λx H1=>tb σ H1 λy H2=>r x y H2 λz H3=>∃ k,z=.bl k/\(if k=true then tc σ H3 λw' H4=>r' y w' H4 Q else Q (.bl false) H3)):=rfl
theorem jjz:jds tt σ H QB=(tt σ H λc H1=>QB (!c) H1):=rfl
theorem jj0:jkz tt tu σ H QB=(tt σ H λc H1=>if c=true then tu σ H1 QB else QB false H1):=rfl
theorem jl1:tOr tt tu σ H QB=(tt σ H λc H1=>if c=true then QB true H1 else tu σ H1 QB):=rfl
theorem jhl:jag ta tb σ H Q=(ta σ H λx H1=>∃ c,x=.bl c/\if c=true then tb σ H1 Q else Q (.bl false) H1):=rfl
theorem jj1:jo7 ta tb σ H Q=(ta σ H λx H1=>∃ c,x=.bl c/\if c=true then Q (.bl true) H1 else tb σ H1 Q):=rfl
theorem jhm:jjv K ta σ H Q=(ta σ H λx H1=>∃ k,jim K x H1 k/\Q (.bl (!k)) H1):=rfl
theorem jj2:jk3 K ta σ H QB=(ta σ H λx H'=>∃ k,jim K x H' k/\QB k H'):=rfl
theorem jl2:tIf tt ta tb σ H Q=(tt σ H λc H1=>if c=true then ta σ H1 Q else tb σ H1 Q):=rfl
theorem je5:zaw σ H QA=(QA [] H):=rfl
theorem jb3:zac ta as σ H QA=(ta σ H λx H1=>as σ H1 λxs H2=>QA (x::xs) H2):=rfl
theorem jj3:z6k as σ H Q=(as σ H λxs H1=>xs.length<=sizeLine/\∀ p,H1 p=none->Q (.ref p) (upd H1 p (.tup xs))):=rfl
theorem jj4:zll as σ H Q=(as σ H λxs H1=>xs.length<=sizeLine/\∀ p,H1 p=none->Q (.ref p) (upd H1 p (.lst xs))):=rfl
theorem jhn:zi0 sp dvs E as σ H Q=(as σ H λvs H1=>sp (vs++dvs) H1 Q (E σ)):=rfl
theorem jho:za0 C m sp dvs E ta as σ H Q=(ta σ H λx H1=>∃ a dx fs,x=.ref a/\H1 a=some (.ins C dx fs)/\fs.lookup m=none/\as σ H1 λvs H2=>sp (x::(vs++dvs)) H2 Q (E σ)):=rfl
theorem jhp:z8e C sp dvs E as σ H Q=(as σ H λvs H1=>∀ x dx,H1 x=none->H1 dx=none->dx≠x->sp (.ref x::(vs++dvs)) (upd (upd H1 dx (.own x)) x (.ins C dx [])) (λv H2=>v=.non/\Q (.ref x) H2) (E σ)):=rfl
theorem jj5:zdx K ta f σ H Q=(ta σ H λx H1=>∃ a C dx fs v,x=.ref a/\H1 a=some (.ins C dx fs)/\Cls K C/\NoAttr K C f/\fs.lookup f=some v/\Q v H1):=rfl
theorem jj6:z53 K ta tv f D σ H=(tv σ H λy H1=>ta σ H1 λx H2=>∃ a C dx fs,x=.ref a/\H2 a=some (.ins C dx fs)/\Cls K C/\NoAttr K C f/\fs.length<1000/\D.nx σ (upd H2 a (.ins C dx (zfs f y fs)))):=rfl
theorem jl3{ru:V->Hp->VK->Prop}:tUn ru ta σ H Q=ta σ H λx H1=>ru x H1 Q:=rfl
theorem jiv{rc:List V->Hp->VK->Prop}:tCB rc as σ H Q=as σ H λvs H1=>rc vs H1 Q:=rfl
theorem je6:znw C E as D σ H=(as σ H λvs H1=>vs.length<=sizeLine/\E σ (.ref C) none H1):=rfl
theorem jj7{sb:(St->XK)->TS}{th:TH}:jlu sb th D σ H=sb (λσ' cls _ H'=>th cls D σ' H') D σ H:=rfl
theorem jb4:zaz i v σ H QG=(QG (σ.set i (some v)) H):=rfl
theorem jj8{rs:jnd}:jng to ti rs v σ H QG=to σ H λo H1=>ti σ H1 λi H2=>rs o i v H2 λH3=>QG σ H3:=rfl
theorem jj9:jnf K k gs v σ H QG=(∃ a xs,v=.ref a/\SqT K H a xs/\xs.length=k/\gs xs σ H QG):=rfl
theorem jka:jne vs σ H QG=((vs=[]/\QG σ H)):=rfl
theorem jhq:jcq g gs vs σ H QG=(∃ v r,vs=v::r/\g v σ H λσ' H'=>gs r σ' H' QG):=rfl
theorem jl4{rs:V->Option Int->Option Int->Hp->VK->Prop}{ol oh:TO}:tSl rs ta ol oh σ H Q=ta σ H λx H1=>ol σ H1 λl H2=>oh σ H2 λu H3=>rs x l u H3 Q:=rfl
theorem jc5:zh6 σ H QO=(QO none H):=rfl
theorem jhr:zxz ta σ H QO=(ta σ H λx H1=>∃ i,x=.int i/\QO (some i) H1):=rfl
theorem jl5{T:String}{rm:V->List V->Hp->VK->Prop}:tBM K T rm ta as σ H Q=ta σ H λx H1=>tyV K T x H1/\as σ H1 λxs H2=>rm x xs H2 Q:=rfl
theorem jkb{T:String}{rm:V->List V->Hp->VK->Prop}:jn4 K T rm ta σ H Q=ta σ H λx H1=>tyV K T x H1/\rm x [] H1 Q:=rfl
theorem jkc{tip:TIp}:jo9 i ta tip D σ H=∃ x,σ[i]? =some (some x)/\ta σ H λy H1=>tip x y H1 λz H2=>D.nx (σ.set i (some z)) H2:=rfl
theorem jhs:zju σ H QB=(QB true H):=rfl
theorem z6x:zl9 (z0k as) g tt te k cap σ H Q=(as σ H λvs H1=>∃ j:Int,vs=[.int j]/\ -(2 ^ 62)<=j/\j<2 ^ 62/\zx4 (Itr 0 j.toNat) g tt te k cap σ H1 Q):=rfl
theorem z6y:zl9 (jlc as) g tt te k cap σ H Q=(as σ H λvs H1=>∃ i j:Int,vs=[.int i,.int j]/\(-(2 ^ 62)<=i/\i<2 ^ 62/\ -(2 ^ 62)<=j/\j<2 ^ 62)/\zx4 (Itr i (j - i).toNat) g tt te k cap σ H1 Q):=rfl
theorem z8t:zl9 (jb2 K tl) g tt te k cap σ H Q=(tl σ H λx H1=>∃ a,x=.ref a/\(((∃ xs,SqL K H1 a xs)/\zx4 (Itl K a) g tt te k cap σ H1 Q)\/((∃ xs,SqT K H1 a xs)/\zx4 (Itt K a) g tt te k cap σ H1 Q))):=rfl
theorem z8u:jad (z0k as) g s1 D σ H=(as σ H λvs H1=>∃ j:Int,vs=[.int j]/\ -(2 ^ 62)<=j/\j<2 ^ 62/\z6w (Itr 0 j.toNat) g s1 D σ H1):=rfl
theorem z8v:jad (jlc as) g s1 D σ H=(as σ H λvs H1=>∃ i j:Int,vs=[.int i,.int j]/\(-(2 ^ 62)<=i/\i<2 ^ 62/\ -(2 ^ 62)<=j/\j<2 ^ 62)/\z6w (Itr i (j - i).toNat) g s1 D σ H1):=rfl
theorem jap:jad (jb2 K tl) g s1 D σ H=(tl σ H λx H1=>∃ a,x=.ref a/\(((∃ xs,SqL K H1 a xs)/\z6w (Itl K a) g s1 D σ H1)\/((∃ xs,SqT K H1 a xs)/\z6w (Itt K a) g s1 D σ H1))):=rfl
theorem jc6{rd:V->V->Hp->VK->Prop}:jaj K ta tv rd f D σ H=(ta σ H λx H1=>∃ a C dx fs v,x=.ref a/\H1 a=some (.ins C dx fs)/\Cls K C/\NoAttr K C f/\fs.lookup f=some v/\tv σ H1 λy H2=>rd v y H2 λz H3=>∃ dx' fs',H3 a=some (.ins C dx' fs')/\fs'.length<1000/\D.nx σ (upd H3 a (.ins C dx' (zfs f z fs')))):=rfl
end
end L2
namespace L2
section
variable{K:W.Frag}{σ:St}{H:Hp}{Q:VK}{P:Bool->Prop}{PI':Int->Prop}{PV:V->Prop}{QB:Bool->Hp->Prop}{v:V}{x:Option V}{i j:Int}{n:Nat}{b b':Bool}{s s':Str}{p q:Addr}{f:Int->Int->V}{C:Int->Int->Prop}
def tVr(i:Nat):TE:=λσ H Q=>match σ[i]? with
 | some (some v)=>Q v H
 | _=>False
theorem jl6:tVr 0 (some v::σ) H Q=Q v H:=rfl
theorem jl7:tVr (n+1) (x::σ) H Q=tVr n σ H Q:=rfl
theorem jl8(i:Nat):tVr i=jns i:=by
 funext σ H Q
 unfold tVr jns
 cases σ[i]? with
 | none=>simp
 | some o=>cases o<;>simp
theorem job{P:Bool->Prop}:(∃ k,V.bl b=V.bl k/\P k)=P b:=by simp
theorem jiw{P:Int->Prop}:(∃ k,V.int i=V.int k/\P k)=P i:=by simp
theorem jl9{P:Addr->Prop}:(∃ k,V.ref p=V.ref k/\P k)=P p:=by simp
theorem je7{P:Bool->Prop}:(∃ k,jim K (.bl b) H k/\P k)=P b:=by simp[jim]
theorem je8:zcy K (.int i) (.int j) H Q=Q (.int (i+j)) H:=rfl
theorem jkd:zcy K (.str s) (.str s') H Q=(s.length+s'.length<=sizeLine/\Q (.str (s++s')) H):=rfl
theorem je9:zcy K (.ref p) (.ref q) H Q=(jn5 (.ref p) (.ref q) H Q\/jjf K (.ref p) (.ref q) H Q\/jet K (.ref p) (.ref q) H Q):=rfl
theorem jma{x y:Str}:z8q (.str x) (.str y) H Q=Q (.bl (!decide (y.cps.toList<x.cps.toList))) H:=rfl
theorem jmb{x y:Str}:jdu (.str x) (.str y) H Q=Q (.bl (decide (x.cps.toList<y.cps.toList))) H:=rfl
theorem jmc{x:Str}{lo hi:Option Int}:jb1 K (.str x) lo hi H Q=(x.length<=sizeLine/\Q (.str (Txt.slice x lo hi)) H):=rfl
theorem jke:zvh K (.int i) (.int j) H Q=(CMul i j/\Q (.int (i * j)) H):=rfl
theorem jkf{z:Str}{j:Int}:zvh K (.str z) (.int j) H Q=(0<=j/\j<=1000/\z.length<=1000/\Q (.str (jk1 z j)) H):=rfl
theorem jkg:zvh K (.ref p) (.int j) H Q=(jn6 (.ref p) (.int j) H Q\/jjq K (.ref p) (.int j) H Q):=rfl
theorem joc:rI0 f (.int i) (.int j) H Q=Q (f i j) H:=by simp[rI0]
theorem jod:rI C f (.int i) (.int j) H Q=(C i j/\Q (f i j) H):=by simp[rI]
theorem jpe{g:Int->V}:rU g (.int i) H Q=Q (g i) H:=by simp[rU]
theorem jmd:jdu (.int i) (.int j) H Q=Q (.bl (decide (i<j))) H:=rfl
theorem jme:z8q (.int i) (.int j) H Q=Q (.bl (decide (i<=j))) H:=rfl
theorem jmf:jnl (.int i) (.int j) H Q=Q (.bl (decide (j<i))) H:=rfl
theorem jmg:jpc (.int i) (.int j) H Q=Q (.bl (decide (j<=i))) H:=rfl
theorem jmh:zsb K (.int i) (.int j) H Q=Q (.bl (decide (i=j))) H:=by simp[zsb,jgt]
theorem jmi:zsb K (.str s) (.str s') H Q=Q (.bl (decide (s=s'))) H:=by simp[zsb,jgt]
theorem jmj:jhd K (.int i) (.int j) H Q=Q (.bl (!decide (i=j))) H:=by simp[jhd,jgt]
theorem jkh:jk2 v .non H Q=Q (.bl (decide (v=.non))) H:=by simp[jk2]
theorem jht:jew v .non H Q=Q (.bl (!decide (v=.non))) H:=by simp[jew]
theorem jmk:jnj (.int i) (.int j) H Q=Q (.int (i+j)) H:=by simp[jnj]
theorem jml:zcc K [v] H Q=∃ n:Nat,jn2 K v H n/\Q (.int n) H:=by simp[zcc]
theorem jix:zft K [.ref p] H Q=∃ ys,(SqL K H p ys\/SqT K H p ys)/\∀ l,H l=none->Q (.ref l) (upd H l (.lst ys)):=by simp[zft]
theorem jki:zge K [.ref p] H Q=∃ ys,((SqL K H p ys/\∀ l,H l=none->Q (.ref l) (upd H l (.tup ys)))\/(SqT K H p ys/\Q (.ref p) H)):=by simp[zge]
end
theorem pvr{X:Cx}(i:Nat){x:Str}{pos:Pos}(hN:X.N[i]? =some x:=by rfl)(hv:Vis X.env.scope x:=by first | exact Or.inl rfl | exact Or.inr (Or.inl rfl) | exact Or.inr (Or.inr rfl))(hd:(x ==("__debug__":Str))=false:=by decide)
  (hcd:(x ==("__classdict__":Str))=false:=by decide):PE X (.Name x pos) (tVr i):=by
 rw[jl8]
 exact jk9 hN hv hd hcd
end L2
namespace L2
abbrev zfj(Q:VK):Ends:={ nx:=λ_ H'=>Q .non H',rt:=Q }
abbrev z4n(cap:List Nat)(σ:St):St:=cap.map λi=>(σ[i]?).join
section
variable{K:W.Frag}{te:TE}{cap:List Nat}{σ:St}{H:Hp}{Q:VK}
theorem zmb{lo:Int}{n:Nat}(hn:n<=sizeLine)(Pv:Nat->List V->Hp->Prop)(h0:Pv 0 [] H)(hs:∀ i ys H,i<n->ys.length=i->Pv i ys H->te (some (.int (lo+i))::z4n cap σ) H λy H2=>Pv (i+1) (ys++[y]) H2)
  (hd:∀ ys H,ys.length=n->Pv n ys H->∀ p,H p=none->Q (.ref p) (upd H p (.lst ys))) :
  zx4 (Itr lo n) (zaz 0) zju te 1 cap σ H Q:=by
 refine⟨λi m σ' ys H=>m=n - i/\i<=n/\ys.length=i/\(∃ x0,σ'=x0::z4n cap σ)/\Pv i ys H,⟨n,by simp,Nat.zero_le _,rfl,⟨none,rfl⟩,h0⟩,?_⟩
 rintro i m σ' ys H ⟨rfl,hi,hl,⟨x0,rfl⟩,p⟩
 by_cases hlt:i<n
 ·refine .inr ⟨hlt,by omega,λx H' y=> ?_⟩
  obtain⟨e,y⟩:=y
  subst e y
  simp only[zaz,zju,if_true]
  refine⟨_,λy H4 q=>⟨n - (i+1),by omega,rfl,hlt,?_,⟨_,rfl⟩,q⟩,hs i ys _ hlt hl p⟩
  rw[List.length_append,List.length_singleton,hl]
 ·have e:i=n:=by omega
  subst e
  exact .inl ⟨Nat.le_refl _,hd ys H hl p⟩
theorem jfa{b:Addr}{xs:List V}(hn:xs.length<=sizeLine)(Pv:Nat->List V->Hp->Prop)(h0:Pv 0 [] H)(hq:∀ i ys H,i<=xs.length->Pv i ys H->SqL K H b xs)
  (hs:∀ i x ys H,xs[i]? =some x->ys.length=i->Pv i ys H->te (some x::z4n cap σ) H λy H2=>Pv (i+1) (ys++[y]) H2)
  (hd:∀ ys H,ys.length=xs.length->Pv xs.length ys H->∀ p,H p=none->Q (.ref p) (upd H p (.lst ys))) :
  zx4 (Itl K b) (zaz 0) zju te 1 cap σ H Q:=by
 refine⟨λi m σ' ys H=>m=xs.length - i/\i<=xs.length/\ys.length=i/\(∃ x0,σ'=x0::z4n cap σ)/\Pv i ys H,⟨xs.length,by simp,Nat.zero_le _,rfl,⟨none,rfl⟩,h0⟩,?_⟩
 rintro i m σ' ys H ⟨rfl,hi,hl,⟨x0,rfl⟩,p⟩
 have q:=hq i ys H hi p
 by_cases hlt:i<xs.length
 ·refine .inr ⟨⟨xs,xs[i],q,by simp[hlt]⟩,by omega,λx H' y=> ?_⟩
  obtain⟨e,y⟩:=y
  subst e
  have hx:=y xs q
  simp only[zaz,zju,if_true]
  refine⟨_,λy H4 q=>⟨xs.length - (i+1),by omega,rfl,hlt,?_,⟨_,rfl⟩,q⟩,hs i x ys _ hx hl p⟩
  rw[List.length_append,List.length_singleton,hl]
 ·have e:i=xs.length:=by omega
  subst e
  exact .inl ⟨⟨xs,q,Nat.le_refl _⟩,hd ys H hl p⟩
theorem z2u{b:Addr}{xs:List V}{g:TG}{tb:TS}{D:Ends}(Pv:Nat->St->Hp->Prop)(h0:Pv 0 σ H)(hl:∀ i σ H,i<=xs.length->Pv i σ H->SqL K H b xs)
  (hs:∀ i x σ H,xs[i]? =some x->Pv i σ H->g x σ H λσ2 H2=>tb { D with nx:=Pv (i+1),ct:=Pv (i+1),bk:=D.nx } σ2 H2) (hd:∀ σ H,Pv xs.length σ H->D.nx σ H):z6w (Itl K b) g tb D σ H:=jgr Pv h0 hl hs hd
theorem jc7{lo:Int}{n:Nat}{g:TG}{tb:TS}{D:Ends}(Pv:Nat->St->Hp->Prop)(h0:Pv 0 σ H)
  (hs:∀ i σ H,i<n->Pv i σ H->g (.int (lo+i)) σ H λσ2 H2=>tb { D with nx:=Pv (i+1),ct:=Pv (i+1),bk:=D.nx } σ2 H2) (hd:∀ σ H,Pv n σ H->D.nx σ H):z6w (Itr lo n) g tb D σ H:=jd1 Pv h0 hs hd
end
theorem zrh{K:W.Frag}{H:Hp}{x y:V}{t c:Value}{b:Bool}{Q:VK}(ty:TyX K H x t)(cv:ClsV y c)(k:W.kitOne K t c=some b)(q:Q (.bl b) H):zd7 K [x,y] H Q:=⟨x,y,t,b,rfl,ty,.inl ⟨c,cv,k⟩,q⟩
theorem jc8{K:W.Frag}{H:Hp}{x:V}{p:Addr}{ys:List V}{cs:List Value}{t:Value}{b:Bool}{Q:VK}(ty:TyX K H x t)(hs:SqT K H p ys)(hc:Paired ClsV ys cs)(k:W.kitAny K t cs=some b)(q:Q (.bl b) H):zd7 K [x,.ref p] H Q:=⟨x,.ref p,t,b,rfl,ty,.inr ⟨p,ys,cs,rfl,hs,hc,k⟩,q⟩
theorem zah{H:Hp}{p:Addr}{o:HO}(h:H p=none):Same H (upd H p o):=λb u e=>by rw[zal (zay e h)];exact e
theorem zmc{α β :Type}{F: α -> β ->Prop}:∀ {l:List α} {m:List β} {i:Nat} {y: β},Paired F l m->m[i]? =some y->∃ x,l[i]? =some x/\F x y
 | _,_,_,_,.nil,e=>by simp at e
 | _,_,0,_,.cons r _,e=>by simp at e;subst e;exact⟨_,rfl,r⟩
 | _,_,i+1,y,.cons _ t,e=>by
  obtain⟨u,h1,h2⟩:=zmc (i:=i) (y:=y) t (by simpa using e)
  exact⟨u,by simpa using h1,h2⟩
theorem ztp{K:W.Frag}{H:Hp}{p:Addr}{xs:List V}{i:Int}{n:Nat}{v:V}{Q:VK}(h:SqL K H p xs)(hi:i=n)(hx:xs[n]? =some v)(q:Q v H):zht K (.ref p) (.int i) H Q :=
 .inl ⟨p,xs,i,v,rfl,rfl,h,hi ▸ z6l hx,q⟩
theorem zd4(n:Nat)(h:n<=100000):n<=sizeLine:=Nat.le_trans h (by decide)
theorem jmm{α :Type}(x: α):∀ w:Nat,(List.replicate w [x]).flatten=List.replicate w x
 | 0=>rfl
 | w+1=>by rw[List.replicate_succ,List.flatten_cons,jmm x w];rfl
theorem zc3{f:Str}{v:V}{fs:List (Str × V)}{n:Nat}(h:fs.length+1<n):(zfs f v fs).length<n:=Nat.lt_of_le_of_lt (zka f v fs) h
theorem jb5{d:PyData}(h:shp d):PyData.eqv d d=true:=PySem.SeqAt.eqv_refl d (PySem.SeqAt.canLay_of_shaped h)
end L2
namespace L2
def ItK(k:Bool)(h:Heap)(j a:Addr)(i:Nat):Prop:=if k then h.IsListIter j a i else h.IsTupleIter j a i
def jo2(k:Bool)(h:Heap)(a:Addr)(xs:Array Value):Prop:=if k then h.IsList a xs else h.IsTuple a xs
theorem ItK.up{k:Bool}{h h':Heap}{j a:Addr}{i:Nat}(x:ItK k h j a i)(q:∀ o,h.get? j=some o->h'.get? j=some o):ItK k h' j a i:=by
 cases k<;>exact(let ⟨o,e,r⟩:=x;⟨o,q o e,r⟩)
theorem ItK.ob{k:Bool}{h:Heap}{j a:Addr}{i:Nat}(x:ItK k h j a i):∃ o,h.get? j=some o/\o.data=.fields #[.ref a,.int i 0]:=by
 cases k<;>exact(let ⟨o,e,_,r⟩:=x;⟨o,e,r⟩)
section
variable{P:Program}{w:World}{A:Around}{E:Value->Shared->Prop}{s:Shared}
theorem jkj{j t:Addr}{i:Nat}{its:Array Value}{Q:Value->Shared->Prop}(z:A.handled=none)(c:s.heap.IsTupleIter j t i)(d:s.heap.IsTuple t its)(e:its[i]? =none)
  (q:∀ h' x,Heap.ExtBut j s.heap h'->(∃ o,h'.get? x=some o/\o.cls=.type "StopIteration")->E (.ref x) { s with heap:=h' }):wpAny (model P w) A (Builtin.SmallTypes.nextOf (.ref j)) Q E s:=by
 obtain⟨oj,e1,e2,e3⟩:=id c
 obtain⟨ot,f1,_,n,f2⟩:=d
 unfold Builtin.SmallTypes.nextOf
 refine wpAny_bind (wpAny_callSpecial?_slot (name:=Str.ofString "__next__") c.typeIs F.slot_tuple_iterator_next (wpAny_call_entry F.slot_tuple_iterator_next c.typeIs F.entry_tuple_iterator_next ?_ (F.args_tuple_iterator_next_1 _)))
 show wpAny (model P w) _ (field (.ref j) 0 >>= _) _ _ s
 refine wpAny_bind (wpAny_field e1 e3 (x:=.ref t) rfl ?_)
 show wpAny (model P w) _ (field (.ref j) 1 >>= _) _ _ s
 refine wpAny_bind (wpAny_field e1 e3 (x:=.int i 0) rfl ?_)
 show wpAny (model P w) _ (seqItems? (.ref t) >>= _) _ _ s
 refine wpAny_bind (wpAny_seqItems f1 f2 ?_)
 simp only[Int.toNat_natCast,e]
 refine wpAny_bind (wpAny_rule (wpAny_bind (wpAny_setField e1 e3 (by simp) ?_)))
 show wpAny (model P w) _ (newExc (.type "StopIteration") [] >>= _) _ _ _
 refine wpAny_bind ?_
 simp only[newExc,newTuple]
 refine wpAny_bind (wpAny_newObj_type (wpAny_bind (m:=firstArgMember _ _) (wpAny_of_eq (a:=Value.none) (by first | rfl | (simp only[firstArgMember];rfl)) (wpAny_newObj_type ?_ (by size_fits)))) (by size_fits))
 simp only[raiseNew]
 refine wpAny_bind (wpAny_handled ?_)
 rw[show A.in1.handled=none from z]
 exact wpAny_bind (wpAny_pure (wpAny_throw (q _ _ (((Heap.SameBut.update ..).extBut.push _).push _) ⟨_,Heap.get?_push_size _ rfl,rfl⟩)))
theorem joe{k:Bool}{j t:Addr}{i:Nat}{its:Array Value}{Q:Value->Shared->Prop}(z:A.handled=none)(c:ItK k s.heap j t i)(d:jo2 k s.heap t its)(e:its[i]? =none)
  (q:∀ h' x,Heap.ExtBut j s.heap h'->(∃ o,h'.get? x=some o/\o.cls=.type "StopIteration")->E (.ref x) { s with heap:=h' }):wpAny (model P w) A (Builtin.SmallTypes.nextOf (.ref j)) Q E s:=by
 cases k
 ·exact jkj z c d e q
 ·exact wpAny_nextOf_list_end z c d e q
end
section
variable{P:Program}{w:World}{A:Around}{E:Value->Shared->Prop}{s:Shared}
end
theorem Inv.turnedS{X:Cx}{pins:List (Addr × Obj)}{σ:St}{H:Hp}{s:Shared}{h':Heap}{t':Nat}{fp:List Addr}(I:Inv X pins σ H s)(k:∀ b o,b∉fp->s.heap.get? b=some o->h'.get? b=some o)(hf:∀ b∈fp,FpOk X pins H b):Inv X pins σ H { s with heap:=h',toks:=t' }:=by
 have nit:∀ b u,H b=some u->b∉fp:=λb u e z=>by rw[(hf b z).1]at e;cases e
 refine I.step (g':=s.gens) (d':=s.drawn) (ch:=fp) (λb hb=> ?_) (λb o _ _ hc e _=>k b o hc e) (λb o _ _ hc e _=>⟨o.slots,k b o hc e⟩) (λ_ _ _ _ n=>n)
  (λb o hc e=>⟨o,k b o hc e⟩) (λ_ _ e=>e) (λ_ _ _ e=>e) (λb ps e=>⟨#[],by rw[e];simp⟩) (λm hm=> ?_) (λb u e=> ?_) I.bare
 ·obtain⟨_,f1,_,f3,f4,f5⟩:=hf b hb
  exact⟨f3,f1,f4,f5⟩
 ·obtain⟨o,es,ep,ho,r⟩:=hm
  exact⟨o,es,ep,k _ o (λz=>(hf _ z).2.1 rfl) ho,r⟩
 ·refine(I.hok b u e).stay (λc v hc q=>k c v ?_ q) (λ_ q=>q) λ_ _ q=>q
  rcases hc with z | z
  ·rw[z];exact nit b u e
  ·exact nit c _ z
def SqB(K:W.Frag)(k:Bool)(H:Hp)(a:Addr)(xs:List V):Prop:=if k then SqL K H a xs else SqT K H a xs
theorem Inv.seqK{X:Cx}{pins:List (Addr × Obj)}{σ:St}{H:Hp}{s:Shared}{k:Bool}{a:Addr}{xs:List V}(I:Inv X pins σ H s)(q:SqB X.K k H a xs):∃ its,Vals xs its/\jo2 k s.heap a its.toArray:=by
 cases k
 ·obtain⟨its,rv,p,_⟩:=I.tuple q
  exact⟨its,rv,p⟩
 ·obtain⟨its,rv,p,_⟩:=I.list q
  exact⟨its,rv,p.isList⟩
theorem Inv.seqK_inj{X:Cx}{pins:List (Addr × Obj)}{σ:St}{H:Hp}{s:Shared}{k:Bool}{a:Addr}{xs ys:List V}(I:Inv X pins σ H s)(p:SqB X.K k H a xs)(q:SqB X.K k H a ys):xs=ys:=by
 cases k
 ·exact I.tuple_inj p q
 ·exact I.list_inj p q
structure jpk(z T U j j':Addr):Prop where
 a1:T≠z
 a2:U≠z
 a3:j≠z
 a4:j'≠z
 a5:T≠U
 a6:T≠j
 a7:T≠j'
 a8:U≠j
 a9:U≠j'
 a10:j≠j'
theorem FpOk.upd{X:Cx}{pins:List (Addr × Obj)}{H:Hp}{a b:Addr}{o:HO}(f:FpOk X pins H b)(n:b≠a):FpOk X pins (upd H a o) b:=⟨(zal n).trans f.1,f.2⟩
section
variable{X:Cx}{tg:Expr}
end
end L2
namespace L2
def Itx(z:Str):It:=⟨λi _=>i<z.cps.size,λi H x H'=>H'=H/\∃ c,z.cps[i]? =some c/\x=.str ⟨#[c]⟩,λi _=>z.cps.size<=i⟩
theorem jb6{P:Program}{w:World}{K:PySem.W.Frag}{tg:Expr}{it:Addr}{z:Str}{t:Tok}{nm:String}(hn:["enumerate","zip","dict_itemiterator","dict_reverseitemiterator","odict_iterator","itertools.zip_longest","itertools.pairwise"].contains nm=false)
  (W:∀ A:Around,A.handled=none->Walks P w A it [it] [it] z.cps.size (SignAt z) (λi h=>h.IsStrIter it nm z t i)) (sf:∀ (A:Around) (i:Nat) (s:Shared) (Q:Value->Shared->Prop) (E:Value->Shared->Prop),s.heap.IsStrIter it nm z t i->Q (.ref it) s->wpAny (model P w) A (pyIter (.ref it)) Q E s) :
  ji8 P w K tg (Itx z) [it] it (λi h=>i<=z.cps.size/\h.IsStrIter it nm z t i) where
 mem:=by simp
 obj:=λi h ⟨_,o,e,c,d⟩ b hb=>by
  have e':b=it:=by simpa using hb
  subst e'
  exact⟨o,e,λv q=>by rw[d]at q;cases q⟩
 keep:=λi h h' ⟨l,o,e,r⟩ k=>⟨l,o,k it (by simp) o e,r⟩
 item:=by
  intro X hP hw hK hc i pins s σ H E I hf ⟨_,st⟩ hg
  subst hP hw hK
  obtain⟨f0,f1,f2,f3,f4,f5⟩:=hf it (by simp)
  refine(W _ (I.ok.hd hc)).item i s _ _ hg st λv h' tk hv st' kk=> ?_
  obtain⟨c,u,hx,rfl⟩:=hv
  have I1:Inv X pins σ H { s with heap:=h',toks:=tk }:=I.turned (λb o hb e=>kk b o (by simpa using hb) e) f0 f1 f3 f4 f5
  obtain⟨o,e,c1,d⟩:=id st'
  exact⟨_,rfl,jgp (s:={ s with heap:=h',toks:=tk }) e c1 d hn ⟨.str ⟨#[c]⟩,H,I1,⟨u,rfl⟩,⟨rfl,c,hx,rfl⟩,⟨hg,st'⟩,λb hb=>(hf b hb).1⟩⟩
 done:=by
  intro X hP hw hK hc i pins s σ H E I hf ⟨l,st⟩ hg
  subst hP hw hK
  obtain⟨f0,f1,f2,f3,f4,f5⟩:=hf it (by simp)
  have e:i=z.cps.size:=Nat.le_antisymm l hg
  subst e
  exact(W _ (I.ok.hd hc)).done s _ _ st λh' tk kk=>⟨rfl,I.turned (λb o hb e=>kk b o (by simpa using hb) e) f0 f1 f3 f4 f5⟩
 self:=λA i s Q E st h=>sf A i s Q E st.2 h
theorem z8w:∀ bs:List Bool,(List.range bs.length).all (λi=>bs.getD i false)=bs.all id
 | []=>rfl
 | b::t=>by
  have ih:=z8w t
  rw[List.length_cons,List.range_succ_eq_map,List.all_cons,List.all_map,List.all_cons,<-ih]
  rfl
def jnm(tl:TE):TI:=λσ H R=>tl σ H λx H1=>∃ z,x=.str z/\R (Itx z) H1
section
variable{X:Cx}{tg:Expr}
theorem jiy{l:Expr}{tl:TE}(hl:PE X l tl):PI X tg l (jnm tl):=by
 intro pins s σ H R I h
 refine thn (hl pins s σ H _ I h) λv s1 ⟨x,H1,I1,r1,q1⟩=> ?_
 obtain⟨z,rfl,q⟩:=q1
 obtain⟨t,rfl⟩:=r1
 have fp1:∀ b∈[s1.heap.objs.size],FpOk X pins H1 b:=λb hb=>by
  have e:b=s1.heap.objs.size:=by simpa using hb
  subst e
  exact I1.fpOk (Nat.le_refl _) (I1.hok.fresh (Nat.le_refl _))
 cases ha:z.cps.all (· <128)
 ·refine wpAny_pyIter_wide ha ⟨s1.heap.objs.size,[s1.heap.objs.size],_,_,H1,rfl,I1.kept (t':=s1.toks) λb o e=>Heap.get?_push_of_some _ e,jb6 (nm:="str_iterator") (t:=t) (by decide) (λA hA=>Walks.strWide hA _ z t) (λA i s Q E st h=>wpAny_pyIter_striter_wide st h),⟨Nat.zero_le _,_,Heap.get?_push_size _ rfl,rfl,rfl⟩,fp1,q⟩
 ·refine wpAny_pyIter_ascii ha ⟨s1.heap.objs.size,[s1.heap.objs.size],_,_,H1,rfl,I1.kept (t':=s1.toks) λb o e=>Heap.get?_push_of_some _ e,jb6 (nm:="str_ascii_iterator") (t:=t) (by decide) (λA hA=>Walks.strAscii hA _ z t) (λA i s Q E st h=>wpAny_pyIter_striter_ascii st h),⟨Nat.zero_le _,_,Heap.get?_push_size _ rfl,rfl,rfl⟩,fp1,q⟩
def zm0(K:W.Frag):List V->Hp->VK->Prop:=λxs H Q=>∃ x,xs=[.str x]/\x.length=1/\Q (.int (x.cps.getD 0 0:Nat)) H
theorem jfb:zrl X (.builtin "ord") (zm0 X.K):=jgu
def zkf(K:W.Frag):List V->Hp->VK->Prop:=λxs H Q=>∃ (p:Addr) (bs:List Bool),xs=[.ref p]/\SqL K H p (bs.map V.bl)/\Q (.bl (bs.all id)) H
theorem z2v(hc:X.calm=true):zrl X (.builtin "all") (zkf X.K):=by
 intro pins s σ H xs us Q I r h
 obtain⟨p,bs,rfl,hp,q⟩:=h
 obtain⟨u,rfl,ru⟩:=z4k r
 cases ru
 obtain⟨its,rv,pl,hz⟩:=I.list hp
 have hl:=rv.length
 refine call_all_walk (wpAny_pyIter_list pl.isList ?_)
 have hne:p≠s.heap.objs.size:=by
  obtain⟨o,e,_⟩:=pl.isList
  exact Nat.ne_of_lt (Heap.lt_size e)
 refine⟨s.heap.objs.size,_,_,_,_,_,λi=>bs.getD i false,rfl,Walks.list (show X.A.in1.handled=none from I.ok.hd hc) s.heap.objs.size p hne its.toArray,⟨⟨_,Heap.get?_push_size _ rfl,rfl,rfl⟩,pl.isList.push _⟩,?_,?_⟩
 ·intro i v s' Q' E' hv hq
  have hv:its[i]? =some v:=by simpa using hv
  have hi:=(List.getElem?_eq_some_iff.mp hv).1
  rw[List.length_map]at hl
  obtain⟨b,hb⟩:∃ b,bs[i]? =some b:=⟨_,List.getElem?_eq_getElem (by omega)⟩
  obtain⟨u,hu,ru⟩:=rv.get (i:=i) (x:=V.bl b) (by rw[List.getElem?_map,hb];rfl)
  rw[hv]at hu
  cases hu
  cases (show v=Value.bool b from ru)
  have e:bs.getD i false=b:=by rw[List.getD_eq_getElem?_getD,hb];rfl
  have hq:Q' (bs.getD i false) s':=hq
  rw[e]at hq
  exact wpAny_pure hq
 ·intro h' tk kk
  have e:(List.range its.toArray.size).all (λi=>bs.getD i false)=bs.all id:=by
   rw[List.length_map]at hl
   rw[List.size_toArray,<-hl]
   exact z8w bs
  rw[e]
  exact⟨.bl _,H,I.kept (t':=tk) λb o eb=>kk b o (by simpa using Nat.ne_of_lt (Heap.lt_size eb)) (Heap.get?_push_of_some _ eb),rfl,q⟩
end
theorem jof{K:W.Frag}{x:Str}{H:Hp}{Q:VK}:zm0 K [.str x] H Q=(x.length=1/\Q (.int (x.cps.getD 0 0:Nat)) H):=by simp[zm0]
section
variable{P:Program}{w:World}{A:Around}{E:Value->Shared->Prop}{s:Shared}
end
section
variable{X:Cx}
def ups(k:Nat):List V:=(List.range k).map λ(i:Nat)=>V.int (i:Int)
end
theorem z8x{tl:TE}{g:TG}{tt:TT}{te:TE}{k:Nat}{cap:List Nat}{σ:St}{H:Hp}{Q:VK}:zl9 (jnm tl) g tt te k cap σ H Q=(tl σ H λx H1=>∃ z,x=.str z/\zx4 (Itx z) g tt te k cap σ H1 Q):=rfl
theorem jhu{te:TE}{cap:List Nat}{σ:St}{H:Hp}{Q:VK}{z:Str}(hn:z.cps.size<=sizeLine)(Pv:Nat->List V->Hp->Prop)(h0:Pv 0 [] H)(hs:∀ i c ys H,z.cps[i]? =some c->ys.length=i->Pv i ys H->te (some (.str ⟨#[c]⟩)::z4n cap σ) H λy H2=>Pv (i+1) (ys++[y]) H2)
  (hd:∀ ys H,ys.length=z.cps.size->Pv z.cps.size ys H->∀ p,H p=none->Q (.ref p) (upd H p (.lst ys))):zx4 (Itx z) (zaz 0) zju te 1 cap σ H Q:=by
 refine⟨λi m σ' ys H=>m=z.cps.size - i/\i<=z.cps.size/\ys.length=i/\(∃ x0,σ'=x0::z4n cap σ)/\Pv i ys H,⟨z.cps.size,by simp,Nat.zero_le _,rfl,⟨none,rfl⟩,h0⟩,?_⟩
 rintro i m σ' ys H ⟨rfl,hi,hl,⟨x0,rfl⟩,p⟩
 by_cases hlt:i<z.cps.size
 ·refine .inr ⟨hlt,by omega,λx H' y=> ?_⟩
  obtain⟨e,c,hc,y⟩:=y
  subst e y
  simp only[zaz,zju,if_true]
  refine⟨_,λy H4 q=>⟨z.cps.size - (i+1),by omega,rfl,hlt,?_,⟨_,rfl⟩,q⟩,hs i c ys _ hc hl p⟩
  rw[List.length_append,List.length_singleton,hl]
 ·have e:i=z.cps.size:=by omega
  subst e
  exact .inl ⟨Nat.le_refl _,hd ys H hl p⟩
end L2
namespace L2
open PySem
abbrev zsc(l:List Nat):Prop:=l.Pairwise (· <·)
theorem zpc{l:List Nat}(R:zsc l){i k a b:Nat}(h:i<k)(ha:l[i]? =some a)(hb:l[k]? =some b):a<b:=by
 obtain⟨h1,rfl⟩:=List.getElem?_eq_some_iff.mp ha
 obtain⟨h2,rfl⟩:=List.getElem?_eq_some_iff.mp hb
 exact List.pairwise_iff_getElem.mp R i k h1 h2 h
structure Below(xs:Array Nat)(j r:Nat):Prop where
 le:r<=xs.size
 lo:∀ i v,i<r->xs.toList[i]? =some v->v<j
 hi:∀ i v,r<=i->xs.toList[i]? =some v->j<=v
theorem z6z{xs:Array Nat}{j:Nat}(R:zsc xs.toList):∀ (fuel lo hi:Nat),lo<=hi->hi<=xs.size->hi - lo<=fuel->(∀ i v,i<lo->xs.toList[i]? =some v->v<j)->(∀ i v,hi<=i->xs.toList[i]? =some v->j<=v) →
  Below xs j (SetTable.below.go xs j fuel lo hi)
 | 0,lo,hi,h1,h2,h3,a,b=>by
  have e:lo=hi:=by omega
  subst e
  exact⟨h2,a,b⟩
 | fuel+1,lo,hi,h1,h2,h3,a,b=>by
  unfold SetTable.below.go
  by_cases hlt:lo<hi
  ·rw[if_pos hlt]
   have hm:(lo+hi) / 2<xs.size:=by omega
   have em:xs.toList[(lo+hi) / 2]? =some (xs[(lo+hi) / 2]):=by simp[hm]
   have ed:xs.getD ((lo+hi) / 2) j=xs[(lo+hi) / 2]:=by simp[hm]
   simp only[ed]
   split
   ·rename_i hv
    refine z6z R fuel _ _ (by omega) h2 (by omega) (λi v hi' e=> ?_) b
    by_cases q:i=(lo+hi) / 2
    ·subst q;rw[em]at e;cases e;exact hv
    ·exact Nat.lt_trans (zpc R (show i<(lo+hi) / 2 by omega) e em) hv
   ·rename_i hv
    refine z6z R fuel _ _ (by omega) (by omega) (by omega) a λi v hi' e=> ?_
    by_cases q:i=(lo+hi) / 2
    ·subst q;rw[em]at e;cases e;omega
    ·have:=zpc R (show(lo+hi) / 2<i by omega) em e
     omega
  ·rw[if_neg hlt]
   have e:lo=hi:=by omega
   subst e
   exact⟨h2,a,b⟩
theorem z60{xs:Array Nat}{j:Nat}(R:zsc xs.toList):Below xs j (SetTable.below xs j) :=
 z6z R _ _ _ (Nat.zero_le _) (Nat.le_refl _) (by omega) (λ_ _ h=>absurd h (Nat.not_lt_zero _)) λi v h e=>by
  rw[List.getElem?_eq_none (by simpa using h)]at e;cases e
theorem Below.uniq{xs:Array Nat}{j r r':Nat}(a:Below xs j r)(b:Below xs j r'):r=r':=by
 rcases Nat.lt_trichotomy r r' with h | h | h
 ·have hs:r<xs.size:=Nat.lt_of_lt_of_le h b.le
  have e:xs.toList[r]? =some (xs[r]):=by simp[hs]
  have:=b.lo _ _ h e
  have:=a.hi _ _ (Nat.le_refl _) e
  omega
 ·exact h
 ·have hs:r'<xs.size:=Nat.lt_of_lt_of_le h a.le
  have e:xs.toList[r']? =some (xs[r']):=by simp[hs]
  have:=a.lo _ _ h e
  have:=b.hi _ _ (Nat.le_refl _) e
  omega
def NotIn(t:SetTable)(j:Nat):Prop:=t.place[SetTable.below t.place j]? ≠some j
theorem jaq{t:SetTable}{j:Nat}(h:t.slot j=.empty):NotIn t j:=λe=>by
 unfold SetTable.slot at h
 simp only[e,beq_self_eq_true,if_true]at h
 cases h
theorem jar{t:SetTable}{j:Nat}(h:t.slot j=.dummy):NotIn t j:=λe=>by
 unfold SetTable.slot at h
 simp only[e,beq_self_eq_true,if_true]at h
 cases h
theorem zvi(t:SetTable)(p:SetTable.Probe):(t.advance p).dummy=p.dummy:=by
 unfold SetTable.advance
 split<;>rfl
theorem z61{t:SetTable}{f:Nat->Int}{h:Int}:∀ (fuel:Nat) (p:SetTable.Probe) (j:Nat) (d:Option Nat),SetTable.probe.go t f h fuel p=some (.empty j d)->(∀ x,p.dummy=some x->NotIn t x)->NotIn t (d.getD j)
 | 0,p,j,d,e,_=>by cases e
 | fuel+1,p,j,d,e,hd=>by
  unfold SetTable.probe.go at e
  split at e
  ·rename_i hs
   cases e
   cases q:p.dummy with
   | none=>exact jaq hs
   | some x=>exact hd x q
  ·rename_i hs
   refine z61 fuel _ j d e λx hx=> ?_
   rw[zvi]at hx
   cases hx
   exact jar hs
  ·rename_i i hs
   split at e
   ·cases e
   ·exact z61 fuel _ j d e λx hx=>by rw[zvi]at hx;exact hd x hx
theorem z4o{t:SetTable}{h:Int}{s:Nat}{b:Bool}(e:t.freeSlot h=some (s,b)):NotIn t s:=by
 unfold SetTable.freeSlot at e
 split at e
 ·rename_i j d hp
  cases e
  refine z61 _ _ _ _ hp λx hx=> ?_
  cases hx
 ·cases e
theorem z8y(n:Nat):zsc (Array.range n).toList:=by
 rw[Array.toList_range]
 exact List.pairwise_lt_range
theorem jc9{t:SetTable}{j:Nat}(R:zsc t.place.toList)(h:NotIn t j):zsc (t.put j).1.place.toList:=by
 have b:=z60 (j:=j) R
 show zsc (SetTable.insertAt t.place (SetTable.below t.place j) j).toList
 rw[SetTable.toList_insertAt]
 have hlo:∀ v∈t.place.toList.take (SetTable.below t.place j),v<j:=λv hv=>by
  obtain⟨i,hi,e⟩:=List.getElem_of_mem hv
  have hi':i<SetTable.below t.place j:=by rw[List.length_take]at hi;omega
  refine b.lo i v hi' ?_
  rw[<-e];simp only[List.getElem_take];exact List.getElem?_eq_getElem _
 have hhi:∀ v∈t.place.toList.drop (SetTable.below t.place j),j<v:=λv hv=>by
  obtain⟨i,hi,e⟩:=List.getElem_of_mem hv
  have e2:t.place.toList[SetTable.below t.place j+i]? =some v:=by
   rw[<-List.getElem?_drop,List.getElem?_eq_getElem hi,e]
  have:=b.hi _ _ (Nat.le_add_right _ _) e2
  by_cases q:j=v
  ·subst q
   have z:i=0:=by
    by_cases z:i=0
    ·exact z
    ·have hl:SetTable.below t.place j<t.place.toList.length:=by
      rw[List.length_drop]at hi;omega
     have e3:=List.getElem?_eq_getElem hl
     have:=zpc R (show SetTable.below t.place j<SetTable.below t.place j+i by omega) e3 e2
     have:=b.hi _ _ (Nat.le_refl _) e3
     omega
   subst z
   rw[Nat.add_zero,Array.getElem?_toList]at e2
   exact absurd e2 h
  ·omega
 refine List.pairwise_append.mpr ⟨R.sublist (List.take_sublist ..),List.pairwise_cons.mpr ⟨hhi,R.sublist (List.drop_sublist ..)⟩,λx hx y hy=> ?_⟩
 rcases List.mem_cons.mp hy with rfl | hy
 ·exact hlo x hx
 ·exact Nat.lt_trans (hlo x hx) (hhi y hy)
structure Led(led:Bool)(t:SetTable):Prop where
 rise:zsc t.place.toList
 led:t.led=led
theorem Led.standIn{led:Bool}{t:SetTable}(h:t.led=led)(n:Nat):Led led (t.standIn n):=⟨z8y n,h⟩
theorem Led.or{led:Bool}{t:SetTable}(h:Led led t)(n:Nat):Led led (t.orStandIn n):=by
 unfold SetTable.orStandIn
 split
 ·exact h
 ·exact .standIn h.led n
theorem Led.layNew{led:Bool}{t:SetTable}(L:Led led t)(es:Array (Int × Value))(h:Int)(x:Value):Led led (layNew t es h x).2.1:=by
 unfold PySem.layNew
 split
 ·rename_i slot b e
  exact Led.or ⟨jc9 L.rise (z4o e),L.led⟩ _
 ·exact .standIn L.led _
theorem jas(owner:Array (Option Nat))(m:Nat):zsc (((List.range m).filterMap λj=>(owner.getD j none).map (j,·)).map (·.1)):=by
 rw[List.map_filterMap]
 refine(List.pairwise_lt_range (n:=m)).filterMap _ λa b hab x hx y hy=> ?_
 simp only[Option.mem_def,Option.map_map,Option.map_eq_some_iff,Function.comp_apply]at hx hy
 obtain⟨_,_,rfl⟩:=hx
 obtain⟨_,_,rfl⟩:=hy
 exact hab
theorem Led.relayAll{led:Bool}{t:SetTable}(h:t.led=led)(L:Led led t)(es:Array (Int × Value))(wanted:Nat):Led led (relayAll t es wanted).2.1:=by
 unfold PySem.relayAll
 split
 ·rename_i t' order e
  dsimp only
  split
  ·unfold SetTable.relaid SetTable.laid at e
   simp only[Option.bind_eq_bind,Option.bind_eq_some_iff,Option.pure_def,Option.some.injEq,Prod.mk.injEq]at e
   obtain⟨owner,_,rfl,_⟩:=e
   exact⟨by simpa using jas owner _,h⟩
  ·exact .standIn h _
 ·exact .standIn h _
theorem Led.plainOff{led:Bool}{t:SetTable}(L:Led led t):Led led { t with plain:=false }:=⟨L.rise,L.led⟩
theorem Led.fresh(led:Bool):Led led (.fresh 0 0 led):=⟨List.Pairwise.nil,rfl⟩
def z58(xs:Array Nat):Nat->Nat
 | 0=>0
 | i+1=>xs.getD i 0+1
theorem z8z{xs:Array Nat}(R:zsc xs.toList):∀ {i:Nat},i<=xs.size->SetTable.below xs (z58 xs i)=i
 | 0,_=>(z60 R).uniq ⟨Nat.zero_le _,λ_ _ h=>absurd h (Nat.not_lt_zero _),λ_ _ _ _=>Nat.zero_le _⟩
 | i+1,hi=>(z60 R).uniq ⟨hi,λk v hk e=>by
   have hi':i<xs.size:=by omega
   have ei:xs.toList[i]? =some xs[i]:=by simp[hi']
   have ed:xs.getD i 0=xs[i]:=by simp[hi']
   show v<xs.getD i 0+1
   rw[ed]
   by_cases q:k=i
   ·subst q;rw[ei]at e;cases e;omega
   ·have:=zpc R (show k<i by omega) e ei
    omega,λk v hk e=>by
   have hi':i<xs.size:=by omega
   have ei:xs.toList[i]? =some xs[i]:=by simp[hi']
   have ed:xs.getD i 0=xs[i]:=by simp[hi']
   show xs.getD i 0+1<=v
   rw[ed]
   exact zpc R (show i<k by omega) ei e⟩
theorem jfc{α :Type}(next:Nat->Nat):∀ (fuel k:Nat) (left:List α) (out:Array α),left.length=fuel->List.Perm (pickOrder.go next fuel k left out).toList (out.toList++left)
 | 0,k,left,out,h=>by
  rw[List.length_eq_zero_iff.mp h]
  unfold pickOrder.go
  simp
 | fuel+1,k,left,out,h=>by
  unfold pickOrder.go
  have hl:next k % left.length<left.length:=Nat.mod_lt _ (by omega)
  rw[List.getElem?_eq_getElem hl]
  dsimp only
  refine(jfc next fuel (k+1) _ _ (by rw[List.length_eraseIdx_of_lt hl];omega)).trans ?_
  rw[Array.toList_push,List.append_assoc]
  refine List.Perm.append_left _ ?_
  rw[List.eraseIdx_eq_take_drop_succ]
  show List.Perm (left[next k % left.length]::(left.take (next k % left.length)++left.drop (next k % left.length+1))) left
  refine List.perm_middle.symm.trans ?_
  rw[<-List.drop_eq_getElem_cons hl,List.take_append_drop]
theorem jfd{α :Type}(next:Nat->Nat)(xs:Array α):List.Perm (pickOrder next xs).toList xs.toList:=by
 have:=jfc next xs.size 0 xs.toList #[] (by simp)
 simpa [pickOrder]using this
end L2
namespace L2
open PySem PyProof.Rows
def jat(w:World):Bool:= !w.params.followText "set-order"
def iv:Value->Int
 | .int n _=>n
 | _=>0
def IntSet(P:Program)(w:World)(h:Heap)(a:Addr)(ms:List Int):Prop :=
 ∃ (o:Obj) (es:Array (Int × Value)) (ep:Nat) (t:SetTable),h.get? a=some o/\o.ExactSet/\o.data=.set es ep t/\ElemsOf (intKind P w) es.toList ∧
  List.Perm (es.toList.map λe=>iv e.2) ms/\es.size<scanBound/\t.fits es.size=true/\Led (jat w) t
section
variable{P:Program}{w:World}{A:Around}{E:Value->Shared->Prop}{s:Shared}
theorem z62{es:List (Int × Value)}(h:ElemsOf (intKind P w) es){e:Int × Value}(he:e∈es):∃ t,e.2=.int (iv e.2) t:=by
 obtain⟨⟨k,hk,_⟩,_⟩:=h e he
 obtain⟨t,z⟩:=Value.isInt_shape hk
 exact⟨t,by rw[z];rfl⟩
theorem jfe{es:List (Int × Value)}(h:ElemsOf (intKind P w) es){e:Int × Value}(he:e∈es){k:Int}:(intKind P w).is k e.2=true↔iv e.2=k:=by
 obtain⟨t,z⟩:=z62 h he
 rw[z]
 refine⟨λq=> ?_,λq=> ?_⟩
 ·have q':Value.isInt k (.int (iv e.2) t)=true:=q
  obtain⟨t',z'⟩:=Value.isInt_shape q'
  cases z';rfl
 ·rw[<-q];exact intKind_is ..
theorem z80{es:List (Int × Value)}{ms:List Int}(h:ElemsOf (intKind P w) es)(p:List.Perm (es.map λe=>iv e.2) ms)(k:Int):k∈ms↔∃ e∈es,(intKind P w).is k e.2=true:=by
 rw[<-p.mem_iff,List.mem_map]
 exact⟨λ⟨e,he,q⟩=>⟨e,he,(jfe h he).mpr q⟩,λ⟨e,he,q⟩=>⟨e,he,(jfe h he).mp q⟩⟩
theorem jff{h:Heap}{a:Addr}{o:Obj}{es es':Array (Int × Value)}{ep:Nat}{t t':SetTable}{ms:List Int}(ho:h.get? a=some o)(hex:o.ExactSet)(hd:o.data=.set es ep t)
  (hel:ElemsOf (intKind P w) es'.toList) (hp:List.Perm (es'.toList.map λe=>iv e.2) ms) (hb:es'.size<scanBound) (hf:t'.fits es'.size=true) (L:Led (jat w) t') :
  (h.update a (Obj.putSet es' t')).get? a=some { o with data:=.set es' (ep+1) t' }/\IntSet P w (h.update a (Obj.putSet es' t')) a ms:=by
 have g:=(SetOf_store (knd:=intKind P w) (S':=λk=>es'.toList.any λe=>(intKind P w).is k e.2) ho hex hd hel (λk=>by rw[List.any_eq_true]) hb hf).1
 exact⟨g,_,es',ep+1,t',g,hex,rfl,hel,hp,hb,hf,L⟩
theorem jb7{g:Bool->Sem Unit}(hg:∀ (b:Bool) (s1:Shared) (R:Unit->Shared->Prop),R () s1->wpAny (model P w) A (g b) R E s1){a:Addr}{o:Obj}{es e1:Array (Int × Value)}{ep:Nat}{t t1:SetTable}{ms:List Int}{wd:Bool}
  (ho:s.heap.get? a=some o) (hex:o.ExactSet) (hd:o.data=.set es ep t) (hel:ElemsOf (intKind P w) e1.toList) (hp:List.Perm (e1.toList.map λe=>iv e.2) ms) (hb:e1.size<scanBound) (hf:t1.fits e1.size=true) (L:Led (jat w) t1)
  {R:Option Bool->Shared->Prop} (h:∀ h',Heap.SameBut a s.heap h'->IntSet P w h' a ms->R (some true) { s with heap:=h' }) :
  wpAny (model P w) A (do
   storeSet a e1 t1
   if(!wd && t1.tooFull)=true then do
    g (relayAll t1 e1 (SetTable.grown e1.size)).2.2
    storeSet a (relayAll t1 e1 (SetTable.grown e1.size)).1 (relayAll t1 e1 (SetTable.grown e1.size)).2.1
    pure (some true)
   else pure (some true)) R E s:=by
 refine wpAny_bind (wpAny_storeSet_of ho hd ?_ (fits_of_scanBound hb))
 obtain⟨g1,S1⟩:=jff ho hex hd hel hp hb hf L
 have sb1:=Heap.SameBut.update s.heap a (Obj.putSet e1 t1)
 split
 ·have p2:=relayAll_perm t1 e1 (SetTable.grown e1.size)
  have f2:=relayAll_fits t1 e1 (SetTable.grown e1.size)
  have L2:=Led.relayAll L.led L e1 (SetTable.grown e1.size)
  revert p2 f2 L2
  generalize relayAll t1 e1 (SetTable.grown e1.size)=r
  obtain⟨e2,t2,gv⟩:=r
  intro p2 f2 L2
  dsimp only at p2 f2 L2 ⊢
  have z2:e2.size=e1.size:=by rw[<-Array.length_toList,p2.length_eq,Array.length_toList]
  have b2:e2.size<scanBound:=z2 ▸ hb
  refine wpAny_bind (hg _ _ _ ?_)
  refine wpAny_bind (wpAny_storeSet_of g1 rfl ?_ (fits_of_scanBound b2))
  obtain⟨_,S2⟩:=jff (P:=P) (w:=w) g1 hex rfl (hel.perm p2) ((p2.map _).trans hp) b2 f2 L2
  exact wpAny_pure (h _ (sb1.trans (Heap.SameBut.update ..)) S2)
 ·exact wpAny_pure (h _ sb1 S1)
theorem z81{ms:List Int}{k:Int}(h:k∈ms):step_dedup ms k=ms:=by
 unfold step_dedup
 have e:(ms.any λx=>x == k)=true:=List.any_eq_true.mpr ⟨k,h,beq_self_eq_true k⟩
 rw[if_pos e]
theorem z82{ms:List Int}{k:Int}(h:¬ k∈ms):step_dedup ms k=ms++[k]:=by
 unfold step_dedup
 rw[if_neg λz=> ?_]
 obtain⟨x,hx,q⟩:=List.any_eq_true.mp z
 rw[beq_iff_eq]at q
 exact h (q ▸ hx)
theorem jmn{a:Addr}{ms:List Int}{k:Int}{tk:Tok}{Q:Bool->Shared->Prop}(hS:IntSet P w s.heap a ms)(hr:ms.length+1<scanBound)
    (h:∀ (b:Bool) h',Heap.SameBut a s.heap h'->IntSet P w h' a (step_dedup ms k)->Q b { s with heap:=h' }):wpAny (model P w) A (setAddHashed a (.int k tk) ((intKind P w).hash k)) Q E s:=by
  have hk:(intKind P w).is k (.int k tk)=true:=intKind_is ..
  have hsc:(Value.int k tk).scannable=true:=rfl
  generalize Value.int k tk=x at hk hsc
  obtain⟨o,es,ep,t,ho,hex,hd,hel,hp,hb,hf,L⟩:=hS
  have hlen:es.size=ms.length:=by rw[<-hp.length_eq,List.length_map,Array.length_toList]
  have hivx:iv x=k:=by obtain⟨_,z⟩:=Value.isInt_shape hk;rw[z];rfl
  unfold setAddHashed setAddHashedIn
  refine wpAny_holding (wpAny_bind (wpAny_setState_of ho hd hf ?_))
  dsimp only
  rw[byScan_of hsc hb hel,if_pos rfl]
  unfold setAddByScan
  refine wpAny_bind (wpAny_bind (wpAny_rule (wpAny_bind (wpAny_setScan_of hk ho hd hf hel ?_))))
  cases hx:es.toList.findIdx? (λe=>(intKind P w).is k e.2)with
  | some j =>
    dsimp only
    obtain⟨hj,pj,_⟩:=List.findIdx?_eq_some_iff_getElem.mp hx
    have hm:k∈ms:=(z80 hel hp k).mpr ⟨_,List.getElem_mem hj,pj⟩
    refine wpAny_pure (wpAny_pure ?_)
    have:=h false s.heap (Heap.SameBut.refl a s.heap) ⟨o,es,ep,t,ho,hex,hd,hel,by rw[z81 hm];exact hp,hb,hf,L⟩
    exact this
  | none =>
    dsimp only
    have hm:¬ k∈ms:=λz=>by
      obtain⟨e,he,q⟩:=(z80 hel hp k).mp z
      have:=List.findIdx?_eq_none_iff.mp hx e he
      rw[q]at this;cases this
    have p1:=layNew_perm t es ((intKind P w).hash k) x
    have f1:=layNew_fits t es ((intKind P w).hash k) x
    have L1:=L.layNew es ((intKind P w).hash k) x
    revert p1 f1 L1
    generalize layNew t es ((intKind P w).hash k) x=r
    obtain⟨e1,t1,wd,gv⟩:=r
    intro p1 f1 L1
    dsimp only at p1 f1 L1 ⊢
    rw[Array.toList_push]at p1
    have hel1:ElemsOf (intKind P w) e1.toList:=(hel.push hk hsc).perm p1
    have hp1:List.Perm (e1.toList.map λe=>iv e.2) (step_dedup ms k):=by
      rw[z82 hm]
      refine(p1.map _).trans ?_
      rw[List.map_append,List.map_cons,List.map_nil,hivx]
      exact List.Perm.append_right _ hp
    have hb1:e1.size<scanBound:=by
      rw[<-Array.length_toList,p1.length_eq,List.length_append,Array.length_toList,hlen]
      exact hr
    have gw:∀ (b:Bool) (s1:Shared) (R:Unit->Shared->Prop),R () s1 →
        wpAny (model P w) A (match b with
          | true=>rule "set.scan.the-table-gave-way"
          | false=>pure ()) R E s1:=λb s1 R q=>by
      cases b
      ·exact wpAny_pure q
      ·exact wpAny_rule q
    refine wpAny_bind (gw _ _ _ ?_)
    split
    · refine wpAny_bind ?_
      rw[hashByValue_scannable 8 hsc]
      refine wpAny_pure (jb7 ?_ ho hex hd hel1 hp1 hb1 ?_ ?_ λh' sb S'=> ?_)
      · intro b s1 R q
        cases b
        ·exact wpAny_pure q
        ·exact wpAny_rule q
      · split
        ·exact f1
        ·exact SetTable.fits_plain_off f1
      · split
        ·exact L1
        ·exact L1.plainOff
      ·dsimp only;exact wpAny_pure (h _ h' sb S')
    · refine wpAny_bind (wpAny_pure ?_)
      rw[if_pos rfl]
      refine jb7 ?_ ho hex hd hel1 hp1 hb1 f1 L1 λh' sb S'=> ?_
      · intro b s1 R q
        cases b
        ·exact wpAny_pure q
        ·exact wpAny_rule q
      ·dsimp only;exact wpAny_pure (h _ h' sb S')
theorem IntSet.at{h h':Heap}{a:Addr}{ms:List Int}(x:IntSet P w h a ms)(k:∀ o,h.get? a=some o->h'.get? a=some o):IntSet P w h' a ms:=by
 obtain⟨o,es,ep,t,ho,r⟩:=x
 exact⟨o,es,ep,t,k _ ho,r⟩
end
section
variable{P:Program}{w:World}{A:Around}{R:Result->Shared->Prop}{I:Addr}{fp wr:List Addr}{G:Array GenState->Array GenState->Prop}{n:Nat}{T:Nat->Value->Prop}{St:Nat->Shared->Prop}
theorem jfg(W:WalksS P w A.in1 I fp wr G n T St)(a:Addr)(ha:a∉fp)(val:Nat->Int)(hv:∀ i v,T i v->∃ t,v=.int (val i) t)(hb:n+1<scanBound):∀ (k i:Nat) (s:Shared),n - i=k->i<=n->St i s →
  IntSet P w s.heap a (firstMet val i)->(∀ s',Moved (a::wr) G s s'->IntSet P w s'.heap a (firstMet val n)->R (.ok (.ret .none)) s') →
  codeAny (model P w) A (.builtin "set.update.loop" ⟨[.ref a,.ref I],[]⟩) R s:=by
 have haw:a∉wr:=λz=>ha (W.sub _ z)
 have up:∀ b∈wr,b∈a::wr:=λb q=>List.mem_cons_of_mem _ q
 intro k
 induction k with
 | zero =>
  intro i s e1 e2 st S q
  obtain rfl:i=n:=by omega
  refine codeAny_builtin PyProof.Rows.F.entry_set_update_loop ?_
  rw[Around.under_plainId PyProof.Rows.F.plain_set_update_loop _]
  show wpAny _ A.in1 (pyNext (.ref I) >>= _) _ _ s
  refine wpAny_bind (W.done s _ _ st λs' m=> ?_)
  show wpAny _ A.in1 (ret Value.none) _ _ s'
  exact wpAny_pure (q s' (m.mono up) (S.at λo e=>m.heap a o haw e))
 | succ k ih =>
  intro i s e1 e2 st S q
  have hi:i<n:=by omega
  refine codeAny_builtin PyProof.Rows.F.entry_set_update_loop ?_
  rw[Around.under_plainId PyProof.Rows.F.plain_set_update_loop _]
  show wpAny _ A.in1 (pyNext (.ref I) >>= _) _ _ s
  refine wpAny_bind (W.item i s _ _ hi st λv s1 tv st1 m=> ?_)
  obtain⟨t,rfl⟩:=hv i v tv
  have S1:=S.at λo e=>m.heap a o haw e
  show wpAny _ A.in1 (holding [Value.int (val i) t] (setAdd a (.int (val i) t)) >>= _) _ _ s1
  refine wpAny_bind (wpAny_holding ?_)
  unfold setAdd
  refine wpAny_holding (wpAny_bind ((intKind P w).pyHash (k:=val i) (intKind_is ..) ?_))
  refine jmn (s:={ s1 with toks:=s1.toks+1 }) S1 (by have:=firstMet_length_le val i;omega) λb h' sb S2=> ?_
  rw[<-firstMet_succ]at S2
  refine wpAny_pure ⟨plainId_quiet PyProof.Rows.F.plain_set_update_loop _,ih (i+1) _ (by omega) hi (W.frame _ s1 _ _ st1 (Nat.le_succ _) λb hb o e=> ?_) S2 λs2 m2 S3=> ?_⟩
  ·rw[sb.2 b λz:b=a=>ha (z ▸ hb)];exact e
  ·refine q s2 (Moved.trans W.gtrans ((m.mono up).then_heap (Nat.le_succ _) λb o hb e=> ?_) m2) S3
   rw[sb.2 b λz:b=a=>hb (z ▸ List.mem_cons_self)];exact e
end
section
variable{P:Program}{w:World}{A:Around}{E:Value->Shared->Prop}{s:Shared}
theorem jkk{x:Value}{Q:Value->Shared->Prop}(h:Q (.ref s.heap.objs.size) { s with heap:=s.heap.push { cls:=.type "set",dict:=none,data:=.set #[] 0 (.fresh 0 0 (jat w)) } }) :
  codeAny (model P w) A (.call (.builtin "set.__new__") ⟨[.type "set",x],[]⟩) (wants Q E) s:=by
 refine codeAny_of_tree ?_
 show wpAny _ A.in1 (checkBuiltinCall "set.__new__" ⟨[.type "set",x],[]⟩ >>= λ_=>again (.builtin "set.__new__" ⟨[.type "set",x],[]⟩)) _ _ s
 refine wpAny_bind (wpAny_of_eq (PySem.F.newCall_set_1 x) (wpAny_pure ⟨plainId_quiet PySem.F.plain_set_new _,codeAny_builtin PySem.F.entry_set_new ?_⟩))
 rw[Around.under_plainId PySem.F.plain_set_new _]
 unfold Builtin.«set.__new__» Builtin.Frozenset.newClass
 have e:=sub_set_self
 obtain⟨hp,g,d,tk,os⟩:=s
 dsimp only
 wp_walk
 refine wpAny_askSetting (wpAny_pure ?_)
 dsimp only
 simp only[newObj]
 exact wpAny_bind (wpAny_alloc (wpAny_pure (wpAny_pure h)))
end
end L2
namespace L2
open PySem PyProof.Rows
abbrev z2w(f:Value)(i:Nat)(a:Addr)(n ep:Nat):Obj:={ cls:=.type "set_iterator",dict:=none,data:=.fields #[f,rawInt i,.ref a,rawInt n,rawInt ep],slots:= #[] }
theorem zco:Slot "set_iterator" "__next__" "set_iterator.__next__" :=
 .of (owner:="set_iterator") (n:="__next__") (by rw[typeLookup_type,builtinLookup_eq_fast];kernel_rfl) (by decide +kernel) (by decide +kernel) (by decide +kernel)
  (by first | exact .inl (by decide +kernel) | exact .inr (by decide +kernel))
  (by rw[isSubtype_type];kernel_rfl)
theorem zii:entryFor table "set_iterator.__next__"=some Builtin.«set_iterator.__next__» :=entryFor_of_fast (by kernel_rfl)
theorem zjv(a:Value):argsOk "set_iterator.__next__" ⟨[a],[]⟩:=by
 unfold argsOk
 kernel_rfl
theorem zvj:Slot "set_iterator" "__iter__" "set_iterator.__iter__" :=
 .of (owner:="set_iterator") (n:="__iter__") (by rw[typeLookup_type,builtinLookup_eq_fast];kernel_rfl) (by decide +kernel) (by decide +kernel) (by decide +kernel)
  (by first | exact .inl (by decide +kernel) | exact .inr (by decide +kernel))
  (by rw[isSubtype_type];kernel_rfl)
section
variable{P:Program}{w:World}{A:Around}{E:Value->Shared->Prop}{s:Shared}
theorem jfh{it a:Addr}{sl i n ep nx:Nat}{x:Value}{o:Obj}{es:Array (Int × Value)}{ep':Nat}{t:SetTable}{Q:Option Value->Shared->Prop}(hit:s.heap.get? it=some (z2w (rawInt sl) i a n ep))
  (ho:s.heap.get? a=some o) (hd:o.data=.set es ep' t) (hf:t.fits es.size=true) (hn:es.size=n)
  (hs:∀ (A':Around) (E':Value->Shared->Prop) (Q':Option (Value × Nat)->Shared->Prop),Q' (some (x,nx)) s->wpAny (model P w) A' (setNext a sl i ep) Q' E' s)
  (q:∀ h',h'.get? it=some (z2w (rawInt nx) (i+1) a n ep)->Heap.SameBut it s.heap h'->Q (some x) { s with heap:=h' }):wpAny (model P w) A (pyNext (.ref it)) Q E s:=by
 have T:s.TypeIs (.ref it) "set_iterator":=⟨_,hit,rfl⟩
 unfold pyNext
 refine wpAny_bind (wpAny_attempt (wpAny_callSpecial?_slot (name:=Str.ofString "__next__") T zco (wpAny_call_entry zco T zii ?_ (zjv _))))
 unfold Builtin.«set_iterator.__next__»
 refine wpAny_bind (wpAny_pure ?_)
 refine wpAny_bind (wpAny_fieldsOf hit rfl ?_)
 show wpAny _ _ (setEntries a >>= _) _ _ s
 refine wpAny_bind (wpAny_setEntries_of ho hd hf ?_)
 rw[if_neg (by rw[hn];simp)]
 show wpAny _ _ (setNext a (sl:Int).toNat (i:Int).toNat (ep:Int).toNat >>= _) _ _ s
 rw[Int.toNat_natCast,Int.toNat_natCast,Int.toNat_natCast]
 refine wpAny_bind (hs _ _ _ ?_)
 dsimp only
 refine wpAny_bind (wpAny_setField_rec hit (by simp) λh1 g1 b1=> ?_)
 refine wpAny_bind (wpAny_setField_rec g1 (by simp) λh2 g2 b2=> ?_)
 exact wpAny_pure ⟨_,rfl,wpAny_pure (q h2 g2 (b1.trans b2))⟩
theorem jfi{it:Addr}{h1:Heap}{Q:Except Value (Option Value)->Shared->Prop}(hh:A.handled=none)(hx:Heap.ExtBut it s.heap h1)
  (q:∀ h' e,Heap.ExtBut it s.heap h'->({ s with heap:=h' }:Shared).TypeIs e "StopIteration"->Q (.error e) { s with heap:=h' }) :
  wpAny (model P w) A (newExc (.type "StopIteration") [] >>= raiseNew (α :=Fin)) (λ_ _=>False) (λe=>Q (.error e)) { s with heap:=h1 }:=by
 refine wpAny_bind ?_
 simp only[newExc,newTuple]
 refine wpAny_bind (wpAny_newObj_type ?_ (by size_fits))
 refine wpAny_bind (m:=firstArgMember _ _) (wpAny_of_eq (a:=Value.none) (by first | rfl | (simp only[firstArgMember];rfl)) ?_)
 refine wpAny_newObj_type ?_ (by size_fits)
 simp only[raiseNew]
 refine wpAny_bind (wpAny_handled ?_)
 rw[hh]
 refine wpAny_bind (wpAny_pure (wpAny_throw ?_))
 exact q _ _ ((hx.push _).push _) ⟨_,Heap.get?_push_size _ rfl,rfl⟩
theorem jfj{it a:Addr}{sl i n ep:Nat}{o:Obj}{es:Array (Int × Value)}{ep':Nat}{t:SetTable}{Q:Option Value->Shared->Prop}(hh:A.handled=none)(hit:s.heap.get? it=some (z2w (rawInt sl) i a n ep))
  (ho:s.heap.get? a=some o) (hd:o.data=.set es ep' t) (hf:t.fits es.size=true) (hn:es.size=n)
  (hs:∀ (A':Around) (E':Value->Shared->Prop) (Q':Option (Value × Nat)->Shared->Prop),Q' none s->wpAny (model P w) A' (setNext a sl i ep) Q' E' s)
  (q:∀ h',Heap.ExtBut it s.heap h'->Q none { s with heap:=h' }):wpAny (model P w) A (pyNext (.ref it)) Q E s:=by
 have T:s.TypeIs (.ref it) "set_iterator":=⟨_,hit,rfl⟩
 unfold pyNext
 refine wpAny_bind (wpAny_attempt (wpAny_callSpecial?_slot (name:=Str.ofString "__next__") T zco (wpAny_call_entry zco T zii ?_ (zjv _))))
 unfold Builtin.«set_iterator.__next__»
 refine wpAny_bind (wpAny_pure ?_)
 refine wpAny_bind (wpAny_fieldsOf hit rfl ?_)
 show wpAny _ _ (setEntries a >>= _) _ _ s
 refine wpAny_bind (wpAny_setEntries_of ho hd hf ?_)
 rw[if_neg (by rw[hn];simp)]
 show wpAny _ _ (setNext a (sl:Int).toNat (i:Int).toNat (ep:Int).toNat >>= _) _ _ s
 rw[Int.toNat_natCast,Int.toNat_natCast,Int.toNat_natCast]
 refine wpAny_bind (hs _ _ _ ?_)
 dsimp only
 refine wpAny_bind (wpAny_setField_rec hit (by simp) λh1 g1 b1=> ?_)
 refine wpAny_mono (jfi (s:=s) (it:=it) (A:=A.in1) (Q:=λr s'=>match r with
  | .error e=>wpAny (model P w) A (isInstance e (.type "StopIteration") >>= λb=>if b=true then pure none else throw e) Q E s'
  | _=>False) (by simpa using hh) b1.extBut λh' e hx te=> ?_) (λ_ _ z=>z.elim) (λe s' z=>z)
 refine wpAny_bind (wpAny_isInstance (T:="StopIteration") (b:=true) te isSubtype_stop ?_)
 exact wpAny_pure (q _ hx)
theorem jda{it a tp:Addr}{i n ep pl:Nat}{ot:Obj}{ps:Array Value}{k:Nat}{x:Int × Value}{o:Obj}{es:Array (Int × Value)}{t:SetTable}{Q:Option Value->Shared->Prop}(hit:s.heap.get? it=some (z2w (.ref tp) i a n ep))
  (ho:s.heap.get? a=some o) (hd:o.data=.set es ep t) (hf:t.fits es.size=true) (hn:es.size=n) (ht:s.heap.get? tp=some ot) (hdt:ot.data=.seq ps k) (hp:ps[i]? =some (rawInt pl)) (hx:es[pl]? =some x)
  (q:∀ h',h'.get? it=some (z2w (.ref tp) (i+1) a n ep)->Heap.SameBut it s.heap h'->Q (some x.2) { s with heap:=h' }):wpAny (model P w) A (pyNext (.ref it)) Q E s:=by
 have T:s.TypeIs (.ref it) "set_iterator":=⟨_,hit,rfl⟩
 unfold pyNext
 refine wpAny_bind (wpAny_attempt (wpAny_callSpecial?_slot (name:=Str.ofString "__next__") T zco (wpAny_call_entry zco T zii ?_ (zjv _))))
 unfold Builtin.«set_iterator.__next__»
 refine wpAny_bind (wpAny_pure ?_)
 refine wpAny_bind (wpAny_fieldsOf hit rfl ?_)
 show wpAny _ _ (setEntries a >>= _) _ _ s
 refine wpAny_bind (wpAny_setEntries_of ho hd hf ?_)
 rw[if_neg (by rw[hn];simp)]
 show wpAny _ _ (seqItems? (.ref tp) >>= _) _ _ s
 refine wpAny_bind (wpAny_seqItems ht hdt ?_)
 dsimp only
 rw[Int.toNat_natCast,hp]
 show wpAny _ _ (setNextDrawn a (pl:Int).toNat (ep:Int).toNat >>= _) _ _ s
 rw[Int.toNat_natCast,Int.toNat_natCast]
 unfold setNextDrawn
 refine wpAny_bind (wpAny_bind (wpAny_setState_of ho hd hf ?_))
 dsimp only
 rw[if_neg (by simp)]
 obtain⟨x1,x2⟩:=x
 rw[hx]
 refine wpAny_pure ?_
 refine wpAny_bind (wpAny_setField_rec hit (by simp) λh2 g2 b2=> ?_)
 exact wpAny_pure ⟨_,rfl,wpAny_pure (q h2 g2 b2)⟩
theorem jdb{it a tp:Addr}{i n ep:Nat}{ot:Obj}{ps:Array Value}{k:Nat}{o:Obj}{es:Array (Int × Value)}{t:SetTable}{Q:Option Value->Shared->Prop}(hh:A.handled=none)(hit:s.heap.get? it=some (z2w (.ref tp) i a n ep))
  (ho:s.heap.get? a=some o) (hd:o.data=.set es ep t) (hf:t.fits es.size=true) (hn:es.size=n) (ht:s.heap.get? tp=some ot) (hdt:ot.data=.seq ps k) (hp:ps[i]? =none)
  (q:∀ h',Heap.ExtBut it s.heap h'->Q none { s with heap:=h' }):wpAny (model P w) A (pyNext (.ref it)) Q E s:=by
 have T:s.TypeIs (.ref it) "set_iterator":=⟨_,hit,rfl⟩
 unfold pyNext
 refine wpAny_bind (wpAny_attempt (wpAny_callSpecial?_slot (name:=Str.ofString "__next__") T zco (wpAny_call_entry zco T zii ?_ (zjv _))))
 unfold Builtin.«set_iterator.__next__»
 refine wpAny_bind (wpAny_pure ?_)
 refine wpAny_bind (wpAny_fieldsOf hit rfl ?_)
 show wpAny _ _ (setEntries a >>= _) _ _ s
 refine wpAny_bind (wpAny_setEntries_of ho hd hf ?_)
 rw[if_neg (by rw[hn];simp)]
 show wpAny _ _ (seqItems? (.ref tp) >>= _) _ _ s
 refine wpAny_bind (wpAny_seqItems ht hdt ?_)
 dsimp only
 rw[Int.toNat_natCast,hp]
 dsimp only
 refine wpAny_bind (wpAny_setField_rec hit (by simp) λh1 g1 b1=> ?_)
 refine wpAny_bind (wpAny_setField_rec g1 (by simp) λh2 g2 b2=> ?_)
 refine wpAny_mono (jfi (s:=s) (it:=it) (A:=A.in1) (Q:=λr s'=>match r with
  | .error e=>wpAny (model P w) A (isInstance e (.type "StopIteration") >>= λb=>if b=true then pure none else throw e) Q E s'
  | _=>False) (by simpa using hh) (b1.trans b2).extBut λh' e hx te=> ?_) (λ_ _ z=>z.elim) (λe s' z=>z)
 refine wpAny_bind (wpAny_isInstance (T:="StopIteration") (b:=true) te isSubtype_stop ?_)
 exact wpAny_pure (q _ hx)
theorem z83{a:Addr}{o:Obj}{es:Array (Int × Value)}{ep:Nat}{t:SetTable}{i:Nat}{Q:Option (Value × Nat)->Shared->Prop}(ft:w.params.followText "set-order"=true)(ho:s.heap.get? a=some o)(hd:o.data=.set es ep t)(hf:t.fits es.size=true)
  (q:Q (((pickOrder (w.params.setOrder a ep) es)[i]?).map λe=>(e.2,0)) s):wpAny (model P w) A (setNext a 0 i ep) Q E s:=by
 unfold setNext
 refine wpAny_bind (wpAny_setState_of ho hd hf ?_)
 dsimp only
 refine wpAny_bind ?_
 unfold setsByText
 refine wpAny_bind (wpAny_askSetting (wpAny_pure ?_))
 show wpAny _ _ (if w.params.followText "set-order"=true then _ else _) _ _ s
 rw[if_pos ft,if_neg (by simp)]
 refine wpAny_bind ?_
 unfold setWalk
 refine wpAny_bind (wpAny_setState_of ho hd hf ?_)
 dsimp only
 refine wpAny_bind ?_
 unfold setsByText
 refine wpAny_bind (wpAny_askSetting (wpAny_pure ?_))
 show wpAny _ _ (if w.params.followText "set-order"=true then _ else _) _ _ s
 rw[if_pos ft]
 refine wpAny_bind (wpAny_askSetting (wpAny_pure ?_))
 exact wpAny_pure q
theorem jau{a:Addr}{o:Obj}{es:Array (Int × Value)}{ep:Nat}{t:SetTable}{i:Nat}{Q:Option (Value × Nat)->Shared->Prop}(ft:w.params.followText "set-order"=false)(ho:s.heap.get? a=some o)(hd:o.data=.set es ep t)(hf:t.fits es.size=true)
  (L:Led (jat w) t) (pl:(!t.plain && decide (es.size > 1))=false) (hi:i<=es.size) (q:Q ((es[i]?).map λe=>(e.2,z58 t.place (i+1))) s):wpAny (model P w) A (setNext a (z58 t.place i) i ep) Q E s:=by
 have hz:t.place.size=es.size:=by
  unfold SetTable.fits at hf
  simp only[Bool.and_eq_true,beq_iff_eq]at hf
  exact hf.1
 unfold setNext
 refine wpAny_bind (wpAny_setState_of ho hd hf ?_)
 dsimp only
 refine wpAny_bind ?_
 unfold setsByText
 refine wpAny_bind (wpAny_askSetting (wpAny_pure ?_))
 show wpAny _ _ (if w.params.followText "set-order"=true then _ else _) _ _ s
 rw[if_neg (show ¬ w.params.followText "set-order"=true by rw[ft];exact Bool.false_ne_true)]
 have ld:t.led=true:=by rw[L.led];unfold jat;rw[ft];rfl
 show wpAny _ _ (if(!t.plain && decide (es.size > 1))=true then _ else _) _ _ s
 rw[if_neg (by rw[pl];exact Bool.false_ne_true)]
 refine wpAny_bind (m:=if(!t.led && !es.isEmpty)=true then _ else _) ?_
 rw[if_neg (by rw[ld];simp)]
 refine wpAny_pure (wpAny_pure ?_)
 rw[z8z L.rise (by omega)]
 by_cases hlt:i<es.size
 ·have h2:i<t.place.size:=by omega
  rw[Array.getElem?_eq_getElem hlt,Array.getElem?_eq_getElem h2]
  rw[Array.getElem?_eq_getElem hlt]at q
  have:z58 t.place (i+1)=t.place[i]+1:=by simp[z58,h2]
  rw[Option.map_some,this]at q
  exact q
 ·rw[Array.getElem?_eq_none (by omega)]
  rw[Array.getElem?_eq_none (by omega),Option.map_none]at q
  exact q
end
end L2
namespace L2
open PySem PyProof.Rows
theorem z4p:entryFor table "set.__iter__"=some Builtin.«frozenset.__iter__» :=entryFor_alias (id':="frozenset.__iter__") (by kernel_rfl) rfl (by decide +kernel) (by kernel_rfl)
theorem z4q:entryFor table "set_iterator.__iter__"=some Builtin.«dict_keyiterator.__iter__» :=entryFor_alias (id':="dict_keyiterator.__iter__") (by kernel_rfl) rfl (by decide +kernel) (by kernel_rfl)
theorem z63(a:Value):argsOk "set_iterator.__iter__" ⟨[a],[]⟩:=by
 unfold argsOk
 kernel_rfl
structure jav(P:Program)(w:World)(A:Around)(h h1:Heap)(a I:Addr)(ms:List Int):Prop where
 ex:∃ (fp:List Addr) (ord:List Value) (ks:List Int) (St:Nat->Heap->Prop),(∀ b∈fp,b=a\/h.objs.size<=b)/\Walks P w A I fp [I] ord.length (λi v=>ord[i]? =some v) St/\St 0 h1/\IntsAre ord ks/\ks.Perm ms
 new:h.objs.size<=I
section
variable{P:Program}{w:World}{A:Around}{E:Value->Shared->Prop}{s:Shared}
theorem zm1:∀ {es:List (Int × Value)},ElemsOf (intKind P w) es->IntsAre (es.map (·.2)) (es.map λe=>iv e.2)
 | [],_=>.nil
 | e::r,h=>by
  obtain⟨t,z⟩:=z62 h (List.mem_cons_self ..)
  have:=zm1 h.tail
  rw[List.map_cons,List.map_cons,z]
  exact .cons _ _ this
theorem jb8{it:Addr}{f:Value}{i:Nat}{a:Addr}{n ep:Nat}{Q:Value->Shared->Prop}(hit:s.heap.get? it=some (z2w f i a n ep))(q:Q (.ref it) s):wpAny (model P w) A (pyIter (.ref it)) Q E s:=by
 have T:s.TypeIs (.ref it) "set_iterator":=⟨_,hit,rfl⟩
 refine wpAny_pyIter_slot T zvj (wpAny_call_entry zvj T z4q ?_ (z63 _))
 show wpAny _ _ (ret (.ref it)) _ _ s
 exact wpAny_pure ⟨_,rfl,"set_iterator",_,T,zco.lookup,q⟩
theorem jaw{a I:Addr}{es:Array (Int × Value)}{ep:Nat}{t:SetTable}{o:Obj}{f:Nat->Nat}{ord:List Value}(hh:A.handled=none)(hne:a≠I)(hd:o.data=.set es ep t)(hf:t.fits es.size=true)(hl:ord.length=es.size)
  (nx:∀ (s:Shared),s.heap.get? a=some o->∀ (i:Nat),i<=es.size->∀ (A':Around) (E':Value->Shared->Prop) (Q':Option (Value × Nat)->Shared->Prop),Q' ((ord[i]?).map λv=>(v,f (i+1))) s->wpAny (model P w) A' (setNext a (f i) i ep) Q' E' s) :
  Walks P w A I [I,a] [I] ord.length (λi v=>ord[i]? =some v) (λi h=>h.get? I=some (z2w (rawInt (f i)) i a es.size ep)/\h.get? a=some o) where
 sub:=λb hb=>by simp at hb;simp[hb]
 frame:=λ_ _ _ st k=>⟨k I (by simp) _ st.1,k a (by simp) _ st.2⟩
 item:=λi s Q E hi st q=>by
  have e:ord[i]? =some ord[i]:=List.getElem?_eq_getElem hi
  refine jfh st.1 st.2 hd hf rfl (λA' E' Q' q'=>nx s st.2 i (by omega) A' E' Q' (by rw[e];exact q')) λh' g b=> ?_
  exact q _ h' s.toks e ⟨g,b.extBut a _ hne st.2⟩ λc u hc z=>b.extBut c u (λy=>hc (by simp[y])) z
 done:=λs Q E st q=>by
  refine jfj hh st.1 st.2 hd hf rfl (λA' E' Q' q'=>nx s st.2 ord.length (by omega) A' E' Q' (by rw[List.getElem?_eq_none (Nat.le_refl _)];exact q')) λh' x=> ?_
  exact q h' s.toks λc u hc z=>x c u (λy=>hc (by simp[y])) z
 self:=λ_ _ _ _ st q=>jb8 st.1 q
theorem jax{a I tp:Addr}{es:Array (Int × Value)}{ep k:Nat}{t:SetTable}{o ot:Obj}{pl:List Nat}{ord:List Value}(hh:A.handled=none)(hne:a≠I)(hnt:tp≠I)(hd:o.data=.set es ep t)(hf:t.fits es.size=true)
  (hdt:ot.data=.seq (pl.map λ(i:Nat)=>rawInt i).toArray k) (hl:ord.length=pl.length) (hx:∀ (i p:Nat),pl[i]? =some p->∃ e:Int × Value,es[p]? =some e/\ord[i]? =some e.2) :
  Walks P w A I [I,a,tp] [I] ord.length (λi v=>ord[i]? =some v) (λi h=>h.get? I=some (z2w (.ref tp) i a es.size ep)/\h.get? a=some o/\h.get? tp=some ot) where
 sub:=λb hb=>by simp at hb;simp[hb]
 frame:=λ_ _ _ st k=>⟨k I (by simp) _ st.1,k a (by simp) _ st.2.1,k tp (by simp) _ st.2.2⟩
 item:=λi s Q E hi st q=>by
  have hi':i<pl.length:=by omega
  have e:=List.getElem?_eq_getElem hi'
  obtain⟨x,e1,e2⟩:=hx i _ e
  refine jda st.1 st.2.1 hd hf rfl st.2.2 hdt (by rw[List.getElem?_toArray,List.getElem?_map,e];rfl) e1 λh' g b=> ?_
  exact q _ h' s.toks e2 ⟨g,b.extBut a _ hne st.2.1,b.extBut tp _ hnt st.2.2⟩ λc u hc z=>b.extBut c u (λy=>hc (by simp[y])) z
 done:=λs Q E st q=>by
  refine jdb hh st.1 st.2.1 hd hf rfl st.2.2 hdt (by rw[List.getElem?_toArray,List.getElem?_map,List.getElem?_eq_none (by omega)];rfl) λh' x=> ?_
  exact q h' s.toks λc u hc z=>x c u (λy=>hc (by simp[y])) z
 self:=λ_ _ _ _ st q=>jb8 st.1 q
theorem jdc{n:Nat}{Q:Nat->Shared->Prop}(hn:n≠0)(q:∀ i d,i<n->Q i { s with drawn:=d }):wpAny (model P w) A (choose .order n) Q E s:=fun Γ p hΓ =>by
 show Sem.wp _ _ (.choose .order n .pure) _ _ _ _
 rw[Sem.wp_choose]
 refine⟨hn,?_⟩
 show Sem.wp _ _ (.pure _) _ _ _ _
 rw[Sem.wp]
 exact q _ _ (Nat.mod_lt _ (Nat.pos_of_ne_zero hn))
theorem z59{α :Type}:∀ (n:Nat) (xs:List α) (s:Shared) (Q:List α ->Shared->Prop),xs.length=n->(∀ ys d,List.Perm ys xs->Q ys { s with drawn:=d })->wpAny (model P w) A (drawOrder n xs) Q E s
 | 0,xs,s,Q,hn,q=>by
  have:xs=[]:=List.length_eq_zero_iff.mp hn
  subst this
  unfold drawOrder
  exact wpAny_pure (q [] s.drawn .nil)
 | n+1,[],s,Q,hn,q=>by cases hn
 | n+1,x::r,s,Q,hn,q=>by
  unfold drawOrder
  refine wpAny_bind (jdc (by simp) λi d hi=> ?_)
  rw[List.getElem?_eq_getElem hi]
  dsimp only
  refine wpAny_bind (z59 n _ _ _ (by rw[List.length_eraseIdx_of_lt hi,hn];rfl) λys d' p=> ?_)
  refine wpAny_pure (q _ d' ?_)
  refine(List.Perm.cons _ p).trans ?_
  rw[List.eraseIdx_eq_take_drop_succ]
  refine List.perm_middle.symm.trans ?_
  rw[<-List.drop_eq_getElem_cons hi,List.take_append_drop]
theorem jhv{a:Addr}{ms:List Int}{Q:Value->Shared->Prop}(hh:A.handled=none)(S:IntSet P w s.heap a ms)
    (q:∀ I h1 d1,(∀ b o,s.heap.get? b=some o->h1.get? b=some o)->jav P w A s.heap h1 a I ms->Q (.ref I) { s with heap:=h1,drawn:=d1 }):wpAny (model P w) A (pyIter (.ref a)) Q E s:=by
  obtain⟨o,es,ep,t,ho,hex,hd,hel,hp,hb,hf,L⟩:=S
  have T:s.TypeIs (.ref a) "set":=⟨o,ho,hex.1⟩
  have hlt:a<s.heap.objs.size:=Heap.lt_size ho
  refine wpAny_pyIter_slot T PySem.F.slot_set_iter (wpAny_call_entry PySem.F.slot_set_iter T z4p ?_ (PySem.F.args_set_iter_1 _))
  unfold Builtin.«frozenset.__iter__»
  show wpAny _ _ ((pure a:Sem Addr) >>= _) _ _ s
  refine wpAny_bind (wpAny_pure ?_)
  refine wpAny_bind ?_
  unfold Builtin.Frozenset.sizeOf
  refine wpAny_bind (wpAny_setEntries_of ho hd hf (wpAny_pure ?_))
  refine wpAny_bind ?_
  unfold setDrawn
  refine wpAny_bind (wpAny_setState_of ho hd hf ?_)
  dsimp only
  refine wpAny_bind ?_
  unfold setsByText
  refine wpAny_bind (wpAny_askSetting (wpAny_pure (wpAny_pure ?_)))
  show wpAny _ _ (if(!w.params.followText "set-order" && (!t.plain && decide (es.size > 1)))=true then _ else _) _ _ s
  have plain:∀ (f:Nat->Nat) (ord:List Value),f 0=0->ord.length=es.size->(∃ ks,IntsAre ord ks/\ks.Perm ms) →
      (∀ (s:Shared),s.heap.get? a=some o->∀ (i:Nat),i<=es.size->∀ (A':Around) (E':Value->Shared->Prop) (Q':Option (Value × Nat)->Shared->Prop),Q' ((ord[i]?).map λv=>(v,f (i+1))) s->wpAny (model P w) A' (setNext a (f i) i ep) Q' E' s) →
      jav P w A s.heap (s.heap.push (z2w (rawInt 0) 0 a es.size ep)) a s.heap.objs.size ms:=λf ord f0 hl ⟨ks,hi,pk⟩ nx =>
    ⟨⟨_,ord,ks,_,λb hb=>by
        simp only[List.mem_cons,List.not_mem_nil,or_false]at hb
        rcases hb with rfl | rfl
        ·exact .inr (Nat.le_refl _)
        ·exact .inl rfl,jaw hh (Nat.ne_of_lt hlt) hd hf hl nx,⟨by rw[f0];exact Heap.get?_push_size _ rfl,Heap.get?_push_of_some _ ho⟩,hi,pk⟩,Nat.le_refl _⟩
  have fin:∀ (W:jav P w A s.heap (s.heap.push (z2w (rawInt 0) 0 a es.size ep)) a s.heap.objs.size ms),
      wpAny (model P w) A.in1 (do
        let first ← (pure (rawInt 0):Sem Value)
        ret (← newFields "set_iterator" [first,rawInt 0,.ref a,rawInt es.size,rawInt (← setEpoch a)])) (λfin s'=>∃ v,fin=.done (.ret v)/\∃ T' r,s'.TypeIs v T'/\typeLookup (.type T') "__next__"=pure (some r)/\Q v s') E s:=λW=>by
    refine wpAny_bind (wpAny_pure ?_)
    refine wpAny_bind (wpAny_setEpoch_of ho hd hf ?_)
    refine wpAny_bind (wpAny_newObj_type (wpAny_pure ⟨_,rfl,"set_iterator",_,⟨_,Heap.get?_push_size _ rfl,rfl⟩,zco.lookup,?_⟩))
    exact q _ _ s.drawn (λb u e=>Heap.get?_push_of_some _ e) W
  cases ft:w.params.followText "set-order" with
  | true =>
    rw[if_neg (by simp)]
    have pk:=jfd (w.params.setOrder a ep) es
    have hl:(pickOrder (w.params.setOrder a ep) es).size=es.size:=by rw[<-Array.length_toList,pk.length_eq,Array.length_toList]
    refine fin (plain (λ_=>0) ((pickOrder (w.params.setOrder a ep) es).toList.map (·.2)) rfl (by rw[List.length_map,Array.length_toList,hl]) ⟨_,zm1 (hel.perm pk),(pk.map _).trans hp⟩ λs1 h1 i hi A' E' Q' q'=> ?_)
    refine z83 ft h1 hd hf ?_
    rw[List.getElem?_map,Array.getElem?_toList,Option.map_map]at q'
    exact q'
  | false =>
    cases pl:(!t.plain && decide (es.size > 1))with
    | false =>
      rw[if_neg (by simp)]
      refine fin (plain (z58 t.place) (es.toList.map (·.2)) rfl (by rw[List.length_map,Array.length_toList]) ⟨_,zm1 hel,hp⟩ λs1 h1 i hi A' E' Q' q'=> ?_)
      refine jau ft h1 hd hf L pl hi ?_
      rw[List.getElem?_map,Array.getElem?_toList,Option.map_map]at q'
      exact q'
    | true =>
      rw[if_pos (by simp)]
      refine wpAny_bind (z59 es.size (List.range es.size) s _ (List.length_range) λys d p=> ?_)
      have hy:ys.length=es.size:=by rw[p.length_eq,List.length_range]
      have hys:∀ x∈ys,x<es.size:=λx hx=>List.mem_range.mp (p.mem_iff.mp hx)
      refine wpAny_bind (wpAny_newTuple ?_ (by rw[List.length_map,hy];exact fits_of_scanBound hb))
      refine wpAny_bind (wpAny_setEpoch_of (o:=o) (Heap.get?_push_of_some _ ho) hd hf ?_)
      refine wpAny_bind (wpAny_newObj_type (wpAny_pure ⟨_,rfl,"set_iterator",_,⟨_,Heap.get?_push_size _ rfl,rfl⟩,zco.lookup,?_⟩))
      refine q _ _ d (λb u e=>Heap.get?_push_of_some _ (Heap.get?_push_of_some _ e)) ⟨⟨_,ys.map λp=>(es[p]?.map (·.2)).getD .none,ys.map λp=>(es[p]?.map λe=>iv e.2).getD 0,_,λb hb=> ?_,
        jax hh ?_ ?_ hd hf rfl (by rw[List.length_map]) λi p e=> ?_,⟨Heap.get?_push_size _ rfl,Heap.get?_push_of_some _ (Heap.get?_push_of_some _ ho),Heap.get?_push_of_some _ (Heap.get?_push_size _ rfl)⟩,?_,?_⟩,?_⟩
      · simp only[List.mem_cons,List.not_mem_nil,or_false]at hb
        rcases hb with rfl | rfl | rfl
        ·right;rw[size_push'];exact Nat.le_succ _
        ·exact .inl rfl
        ·exact .inr (Nat.le_refl _)
      ·rw[size_push'];exact Nat.ne_of_lt (Nat.lt_succ_of_lt hlt)
      ·rw[size_push'];exact Nat.ne_of_lt (Nat.lt_succ_self _)
      · have hp':p<es.size:=hys p (List.mem_of_getElem? e)
        exact⟨es[p],Array.getElem?_eq_getElem hp',by rw[List.getElem?_map,e];simp[hp']⟩
      · have all:∀ (l:List Nat),(∀ x∈l,x<es.size)->IntsAre (l.map λp=>(es[p]?.map (·.2)).getD .none) (l.map λp=>(es[p]?.map λe=>iv e.2).getD 0):=by
          intro l
          induction l with
          | nil=>exact λ_=>.nil
          | cons x r ih =>
            intro hl
            have hx:=hl x (List.mem_cons_self ..)
            obtain⟨tk,z⟩:=z62 hel (e:=es[x]) (by simp)
            have e1:(es[x]?.map (·.2)).getD Value.none=Value.int (iv es[x].2) tk:=by rw[Array.getElem?_eq_getElem hx];exact z
            have e2:(es[x]?.map λe=>iv e.2).getD 0=iv es[x].2:=by rw[Array.getElem?_eq_getElem hx];rfl
            rw[List.map_cons,List.map_cons,e1,e2]
            exact .cons _ _ (ih λy hy=>hl y (List.mem_cons_of_mem _ hy))
        exact all ys hys
      · refine(p.map _).trans (List.Perm.trans (List.Perm.of_eq ?_) hp)
        refine List.ext_getElem (by simp) λi h1 h2=> ?_
        have hi:i<es.size:=by simpa using h1
        simp[hi]
      ·rw[size_push'];exact Nat.le_succ _
theorem jhw{a:Addr}{Q:Bool->Shared->Prop}(T:s.TypeIs (.ref a) "set")(q:Q false s):wpAny (model P w) A (Builtin.List.listLengthHint (.ref a)) Q E s:=by
 unfold Builtin.List.listLengthHint
 refine wpAny_bind (wpAny_specialOf T PySem.F.slot_set_len.lookup ?_)
 generalize hid:("set.__len__":String)=id0
 wp_delta
 rw[show splitId id0=some ("set","__len__")from by subst hid;decide +kernel]
 subst hid
 refine wpAny_bind (wpAny_isInstance (T:="set") (b:=true) T (by rw[isSubtype_type];kernel_rfl) ?_)
 refine wpAny_ite_split (λz=>absurd z (by decide)) (λ_=> ?_)
 refine wpAny_ite_split (λ_=> ?_) (λz=>absurd (by decide +kernel) z)
 exact wpAny_bind (wpAny_typeOf T (wpAny_pure q))
theorem jay{a:Addr}{ms:List Int}{R:List Value->Shared->Prop}(hh:A.handled=none)(S:IntSet P w s.heap a ms)(hn:ms.length<=sizeLine)
  (q:∀ h' tk d vs ks,(∀ b o,s.heap.get? b=some o->h'.get? b=some o)->s.heap.objs.size<=h'.objs.size->IntsAre vs ks->ks.Perm ms->R vs { s with heap:=h',toks:=tk,drawn:=d }):wpAny (model P w) A (collect (.ref a)) R E s:=by
 have hlt:a<s.heap.objs.size:=let ⟨_,_,_,_,ho,_⟩:=S;Heap.lt_size ho
 unfold collect
 refine wpAny_bind (wpAny_runValue (codeAny_builtin entry_proto_collect' ?_))
 rw[Around.under_plainId PySem.F.plain_proto_collect _]
 show wpAny _ A.in1 (newList [] >>= λl=>again (.builtin "list.__iadd__" ⟨[l,.ref a],[]⟩)) _ _ s
 refine wpAny_bind (wpAny_newObj_type ?_)
 refine wpAny_pure ⟨plainId_quiet PySem.F.plain_list_iadd _,codeAny_builtin entry_list_iadd' ?_⟩
 rw[Around.under_plainId PySem.F.plain_list_iadd _]
 show wpAny _ A.in1 (Builtin.List.listExtendWith (.ref s.heap.objs.size) (.ref a) (.ref s.heap.objs.size)) _ _ _
 generalize eN:s.heap.objs.size=N at hlt ⊢
 have gN:(s.heap.push { cls:=.type "list",data:=.seq ([]:List Value).toArray }).get? N=some { cls:=.type "list",data:=.seq #[] }:=eN ▸ Heap.get?_push_size _ rfl
 have keep1:∀ b o,s.heap.get? b=some o->(s.heap.push { cls:=.type "list",data:=.seq ([]:List Value).toArray }).get? b=some o:=λb o e=>Heap.get?_push_of_some _ e
 have S1:=S.at λo e=>keep1 a o e
 have big:(s.heap.push { cls:=.type "list",data:=.seq ([]:List Value).toArray }).objs.size=N+1:=by rw[size_push',eN]
 revert gN keep1 S1 big
 generalize s.heap.push { cls:=.type "list",data:=.seq ([]:List Value).toArray }=h0
 intro gN keep1 S1 big
 have T1:∀ h':Heap,(∀ b o,h0.get? b=some o->h'.get? b=some o)->∀ tk d,({ s with heap:=h',toks:=tk,drawn:=d }:Shared).TypeIs (.ref a) "set":=λh' k tk d=>by
  obtain⟨o,_,_,_,ho,hex,_⟩:=S1
  exact⟨o,k _ _ ho,hex.1⟩
 unfold Builtin.List.listExtendWith
 refine wpAny_bind (wpAny_typeOf (T:="set") (T1 h0 (λ_ _ e=>e) s.toks s.drawn) ?_)
 have ne:Builtin.List.listSameRef (.ref N) (.ref a)=false:=by
  simp only[Builtin.List.listSameRef,beq_eq_false_iff_ne]
  exact Nat.ne_of_gt hlt
 have n1:(Value.type "set" == Value.type "list")=false:=by decide
 have n2:(Value.type "set" == Value.type "tuple")=false:=by decide
 simp only[ne,n1,n2,Bool.or_false,Bool.false_eq_true,if_false]
 refine wpAny_bind (jhv (A:=A.in1) (s:={ s with heap:=h0 }) (by simpa using hh) S1 λI h1 d1 k1 W=> ?_)
 obtain⟨⟨fp,ord,ks,St,hfp,W,st,hi,pk⟩,hI⟩:=W
 have hI:N+1<=I:=big ▸ hI
 have hlen:ord.length=ms.length:=by rw[IntsAre.length hi,pk.length_eq]
 refine wpAny_bind (wpAny_holding (jhw (T1 h1 k1 s.toks d1) ?_))
 rw[if_pos (by decide)]
 refine wpAny_bind (wpAny_rule ?_)
 refine wpAny_bind ?_
 show wpAny _ _ (updateSeq N (·.push .none) >>= λ_=>updateSeq N (·.pop)) _ _ _
 have g1:=k1 _ _ gN
 refine wpAny_bind (wpAny_updateSeq (s:={ s with heap:=h1,drawn:=d1 }) g1 rfl ?_)
 have g2:=Heap.get?_update_self (Obj.mapSeq (·.push Value.none)) g1 rfl
 refine wpAny_updateSeq (hz:=by seq_fits) g2 rfl ?_
 have g3:=Heap.get?_update_self (Obj.mapSeq (·.pop)) g2 rfl
 have oth:∀ b o,b≠N->h1.get? b=some o->((h1.update N (Obj.mapSeq (·.push Value.none))).update N (Obj.mapSeq (·.pop))).get? b=some o:=λb o hb e =>
  (Heap.get?_update_other _ _ (Ne.symm hb)).trans ((Heap.get?_update_other _ _ (Ne.symm hb)).trans e)
 have Nfp:N∉fp:=λz=>by
  rcases hfp N z with y | y
  ·exact Nat.ne_of_gt hlt y
  ·have y':h0.objs.size<=N:=y
   rw[big]at y'
   exact absurd y' (Nat.not_succ_le_self _)
 refine wpAny_pure ⟨plainId_quiet PySem.F.plain_extend_loop _,?_⟩
 refine codeAny_extend_loopS W.toS (by rw[hlen];exact hn) N Nfp (.ref N) ord.length 0 _ #[] _ rfl (Nat.zero_le _) (W.frame 0 _ _ st λb hb o e=>oth b o (λz=>Nfp (z ▸ hb)) e) g3 (ItemsOf.nil _) λs' acc c m g4 hacc=> ?_
 show wpAny _ A (load N >>= _) _ _ _
 refine wpAny_bind (wpAny_load g4 ?_)
 refine wpAny_pure ?_
 have eacc:acc.toList=ord:=by
  refine List.ext_getElem? λi=> ?_
  by_cases hlt':i<ord.length
  ·have h3:i<acc.size:=by rw[hacc.1];exact hlt'
   have:=hacc.2 i acc[i] (Array.getElem?_eq_getElem h3)
   rw[Array.getElem?_toList,Array.getElem?_eq_getElem h3,this]
  ·have e1:acc.toList[i]? =none:=List.getElem?_eq_none (by rw[Array.length_toList,hacc.1];omega)
   have e2:ord[i]? =none:=List.getElem?_eq_none (by omega)
   rw[e1,e2]
 show R acc.toList s'
 rw[eacc]
 obtain⟨h3,gn3,dr3,tk3,os3⟩:=s'
 have a1:gn3=s.gens:=m.gens
 have a2:dr3=d1:=m.drawn
 have a3:os3=s.os:=m.os
 subst a1;subst a2;subst a3
 refine q _ _ dr3 ord ks (λb o e=> ?_) (by rw[eN];exact Nat.le_of_lt (Heap.lt_size g4)) hi pk
 have hb:b<N:=eN ▸ Heap.lt_size e
 refine m.heap b o (λz=> ?_) (oth b o (Nat.ne_of_lt hb) (k1 _ _ (keep1 _ _ e)))
 simp only[List.mem_cons,List.not_mem_nil,or_false]at z
 rcases z with z | z
 ·exact Nat.ne_of_lt hb z
 ·exact Nat.ne_of_lt (Nat.lt_of_lt_of_le (Nat.lt_succ_of_lt hb) hI) z
theorem jdd{a:Addr}{ms:List Int}{Q:Value->Shared->Prop}(hh:A.handled=none)(S:IntSet P w s.heap a ms)(hn:ms.length<64)
  (q:∀ D h' tk d c out ks,(∀ b o,s.heap.get? b=some o->h'.get? b=some o)->s.heap.objs.size<=D->h'.get? D=some (seqObj "list" out c)->IntsAre out.toList ks->ks.Perm ms->ks.Pairwise (· <=·)->Q (.ref D) { s with heap:=h',toks:=tk,drawn:=d }) :
  wpAny (model P w) A (call (.builtin "sorted") [.ref a]) Q E s:=by
 refine Calls.call_function_entry kind_sorted plain_sorted entry_sorted (args_sorted1 _) ?_
 unfold Builtin.«sorted»
 refine wpAny_bind (m:=checkCount "sorted" 1 1 _) (wpAny_pure ?_)
 refine wpAny_bind (jay (A:=A.in1) (by simpa using hh) S (by rw[sizeLine_eq];omega) λh1 tk d vs ks k1 size_le hi pk=> ?_)
 have hl:vs.length<64:=by rw[IntsAre.length hi,pk.length_eq];exact hn
 refine wpAny_bind (wpAny_newList ?_ (by rw[sizeLine_eq];omega))
 have g:(h1.push (seqObj "list" vs.toArray 0)).get? h1.objs.size=some (seqObj "list" vs.toArray 0):=Heap.get?_push_size _ rfl
 show wpAny _ _ _ _ _ { s with heap:=h1.push (seqObj "list" vs.toArray 0),toks:=tk,drawn:=d }
 refine wpAny_bind (wpAny_holding (wpAny_call_entry slot_list_sort ⟨_,g,rfl⟩ entry_list_sort (list_sort_tree g hi hl λout ks' i1 p1 r1=>⟨_,rfl,?_⟩) (args_list_sort _)))
 obtain⟨c,gc⟩:=sortedHeap_at (n:=0) (out:=out) g
 refine wpAny_pure ⟨_,rfl,q _ _ tk d c out ks' (λb o e=> ?_) size_le gc i1 (p1.trans pk) r1⟩
 have hb:=Heap.lt_size (k1 _ _ e)
 rw[sortedHeap_old (Nat.ne_of_lt hb) (by rw[size_push'];exact Nat.lt_succ_of_lt hb)]
 exact Heap.get?_push_of_some _ (k1 _ _ e)
end
end L2
namespace L2
open PySem PyProof.Rows
section
variable{P:Program}{w:World}{A:Around}{E:Value->Shared->Prop}{s:Shared}
theorem jhx{l:Addr}{its:Array Value}{ns:List Int}{Q:Value->Shared->Prop}(hh:A.handled=none)(hl:s.heap.IsList l its)(hi:IntsAre its.toList ns)(hb:its.size+1<scanBound)
  (q:∀ h' tk,IntSet P w h' s.heap.objs.size (firstMet (λi=>ns.getD i 0) its.size)->(∀ b o,s.heap.get? b=some o->h'.get? b=some o)->Q (.ref s.heap.objs.size) { s with heap:=h',toks:=tk }) :
  wpAny (model P w) A (call (.type "set") [.ref l]) Q E s:=by
 obtain⟨c,tl,mro⟩:=PySem.F.called_set.mro
 have made:=PySem.F.called_set.made
 have sub:=PySem.F.called_set.sub
 refine wpAny_call (codeAny_of_tree ?_)
 show wpAny _ _ (callAny (.type "set") _) _ _ _
 refine wpAny_pure ⟨Code.quiet_builtin _ (by decide +kernel),codeAny_builtin PySem.F.entry_type_call ?_⟩
 rw[Around.under_plain (weight_type_call_type "set" [.ref l] []) rfl]
 have n1:=PySem.F.called_set.notType
 have n2:=PySem.F.called_set.canCreate
 have n3:=PySem.F.typeCall_set_1 (.ref l)
 repeat (any_goals (first | assumption | wp_step))
 generalize eS:({ cls:=.type "set",dict:=none,data:=.set #[] 0 (.fresh 0 0 (jat w)) }:Obj)=oS
 refine codeAny_mono (jkk (E:=E) (Q:=λx s1=>x=.ref s.heap.objs.size/\s1={ s with heap:=s.heap.push oS }) ⟨rfl,by rw[<-eS]⟩) λr s1 hr=> ?_
 cases r with
 | error e=>exact hr
 | ok fl =>
  cases fl with
  | ret x =>
   obtain⟨rfl,rfl⟩:=hr
   have g0:(s.heap.push oS).get? s.heap.objs.size=some oS:=Heap.get?_push_size _ (by rw[<-eS];rfl)
   have T0:Shared.TypeIs { s with heap:=s.heap.push oS } (.ref s.heap.objs.size) "set":=⟨_,g0,by rw[<-eS]⟩
   have i1:=PySem.F.called_set.init.lookup
   have i2:=PySem.F.called_set.init.bind (.ref s.heap.objs.size)
   repeat (any_goals (first | assumption | wp_step))
   refine codeAny_mono (codeAny_call_builtin (R:=wants (λr s2=>r=.none/\∃ h' tk,s2={ s with heap:=h',toks:=tk }/\IntSet P w h' s.heap.objs.size (firstMet (λi=>ns.getD i 0) its.size) ∧
    (∀ b o,s.heap.get? b=some o->h'.get? b=some o)) E) PySem.F.called_set.init.plain PySem.F.entry_set_init (check_set_init_1 T0 ?_)) λr2 s2 hr2=> ?_
   ·obtain⟨ol,gl,cl,nl,dl⟩:=hl
    obtain⟨c1,d1,dt1,sl1⟩:=ol
    simp only at cl dl
    subst cl;subst dl
    have gl':=Heap.get?_push_of_some oS gl
    have e1:=PySem.F.sub_list_set
    have e2:=PySem.F.sub_list_frozenset
    have e3:(Value.type "list" == Value.type "dict")=false:=by decide
    have hl1:(s.heap.push oS).IsList l its:=⟨_,gl',rfl,nl,rfl⟩
    have hlt:l<s.heap.objs.size:=Heap.lt_size gl
    have big:=size_push' s.heap oS
    revert gl' hl1 g0 T0 big
    have keep0:∀ b o,s.heap.get? b=some o->(s.heap.push oS).get? b=some o:=λb o e=>Heap.get?_push_of_some _ e
    revert keep0
    generalize s.heap.push oS=h0
    intro keep0 g0 T0 gl' hl1 big
    subst eS
    unfold Builtin.«set.__init__» noKeywords Builtin.Frozenset.updateFrom
    generalize hPI:pyIter=PI
    wp_walk
    subst hPI
    refine wpAny_pyIter_list hl1 ?_
    refine wpAny_bind (wpAny_runValue ?_)
    have hh3:A.in1.in1.in1.handled=none:=by simp[hh]
    have ne1:l≠h0.objs.size:=Nat.ne_of_lt (by rw[big];exact Nat.lt_succ_of_lt hlt)
    have nin:s.heap.objs.size∉[h0.objs.size,l]:=by
     simp only[List.mem_cons,List.not_mem_nil,or_false,not_or]
     exact⟨Nat.ne_of_lt (by rw[big];exact Nat.lt_succ_self _),Nat.ne_of_gt hlt⟩
    refine jfg ((Walks.list hh3 _ l ne1 its).toS) s.heap.objs.size nin (λi=>ns.getD i 0) (λi v e=>IntsAre.int_at hi i v (by rw[Array.getElem?_toList];exact e)) hb (its.size - 0) 0 _ (by omega) (Nat.zero_le _)
     ⟨⟨_,Heap.get?_push_size _ rfl,rfl,rfl⟩,hl1.push _⟩ ⟨_,#[],0,_,Heap.get?_push_of_some _ g0,⟨rfl,rfl,rfl⟩,rfl,λe he=>by simp at he,by exact .nil,by decide,by rfl,Led.fresh _⟩ λs3 m S3=> ?_
    obtain⟨h3,g3,d3,tk3,os3⟩:=s3
    have a1:g3=s.gens:=m.gens
    have a2:d3=s.drawn:=m.drawn
    have a3:os3=s.os:=m.os
    subst a1;subst a2;subst a3
    show wpAny _ _ _ _ _ _
    refine wpAny_pure ?_
    show wpAny _ _ (ret Value.none) _ _ _
    refine wpAny_pure ⟨rfl,h3,tk3,rfl,S3,λb o e=> ?_⟩
    have hb:=Heap.lt_size e
    refine m.heap b o ?_ (Heap.get?_push_of_some _ (keep0 _ _ e))
    simp only[List.mem_cons,List.not_mem_nil,or_false,not_or]
    exact⟨Nat.ne_of_lt hb,Nat.ne_of_lt (by rw[big];exact Nat.lt_succ_of_lt hb)⟩
   ·cases r2 with
    | error e=>exact hr2
    | ok fl2 =>
     cases fl2 with
     | ret r =>
      obtain⟨rfl,h',tk,rfl,S',k'⟩:=hr2
      repeat (any_goals (first | assumption | wp_step))
      exact q _ _ S' k'
     | _=>exact hr2.elim
  | _=>exact hr.elim
end
end L2
namespace L2
section
variable{X:Cx}
theorem Inv.drawn{pins:List (Addr × Obj)}{σ:St}{H:Hp}{s:Shared}(I:Inv X pins σ H s)(d):Inv X pins σ H { s with drawn:=d } :=
 { ok:=I.ok,os:=I.os,bare:=I.bare,base:=I.base,loc:=I.loc,cell:=I.cell,free:=I.free,freeC:=I.freeC,pin:=I.pin,hok:=I.hok,len:=I.len }
theorem z0e:∀ {ns:List Int} {us:List Value},Vals (ns.map V.int) us->IntsAre us ns
 | [],_,.nil=>.nil
 | n::r,_,.cons h t=>by
  obtain⟨tk,rfl⟩:=h
  exact .cons _ _ (z0e t)
abbrev jo3(X:Cx)(a:Addr)(ms:List Int):HO:=.ext λh=>IntSet X.prog X.w h a ms
theorem jaz(hc:X.calm=true):zrl X (.type "set") (λxs H Q=>∃ (p:Addr) (ns:List Int),xs=[.ref p]/\SqL X.K H p (ns.map V.int)/\ns.length<=1000 ∧
  ∀ (a:Addr),H a=none->Q (.ref a) (upd H a (jo3 X a (firstMet (λi=>ns.getD i 0) ns.length)))):=by
 intro pins s σ H xs us Q I r h
 obtain⟨p,ns,rfl,hq,hn,q⟩:=h
 obtain⟨u,rfl,rx⟩:=z4k r
 cases rx
 obtain⟨its,r',pl,hz⟩:=I.list hq
 have hi:=z0e r'
 have hlen:its.length=ns.length:=IntsAre.length hi
 refine jhx (I.ok.hd hc) pl.isList hi (by rw[List.size_toArray,hlen];exact Nat.lt_of_le_of_lt (Nat.succ_le_succ hn) (by decide)) λh' tk S k=> ?_
 have hz2:its.toArray.size=ns.length:=by rw[List.size_toArray,hlen]
 rw[hz2]at S
 refine⟨.ref s.heap.objs.size,_,I.laid k (Nat.le_refl _) ?_,rfl,q _ (I.hok.fresh (Nat.le_refl _))⟩
 exact⟨S,⟨_,S.choose_spec.choose_spec.choose_spec.choose_spec.1⟩,λh1 h2 z e=>z.at e⟩
theorem z4r(hc:X.calm=true):zrl X (.builtin "sorted") (λxs H Q=>∃ (a:Addr) (ms:List Int),xs=[.ref a]/\H a=some (jo3 X a ms)/\ms.length<64 ∧
  ∀ (D:Addr) (ks:List Int),H D=none->List.Perm ks ms->ks.Pairwise (· <=·)->Q (.ref D) (upd H D (.lst (ks.map V.int)))):=by
 intro pins s σ H xs us Q I r h
 obtain⟨a,ms,rfl,ha,hn,q⟩:=h
 obtain⟨u,rfl,rx⟩:=z4k r
 cases rx
 obtain⟨S,_,_⟩:=I.hok a _ ha
 refine jdd (I.ok.hd hc) S hn λD h' tk d c out ks k hD g hi pk hr=> ?_
 have hl:ks.length<64:=by rw[pk.length_eq];exact hn
 refine⟨.ref D,_,(I.laid (t':=tk) k hD ?_).drawn d,rfl,q D ks (I.hok.fresh hD) pk hr⟩
 exact⟨by rw[List.length_map,sizeLine_eq];omega,out.toList,c,z2p hi,g⟩
theorem z84(val:Nat->Int)(n:Nat)(x:Int):x∈firstMet val n↔∃ i,i<n/\val i=x:=by
 have h:=firstMet_any val n x
 rw[Bool.eq_iff_iff,List.any_eq_true,List.any_eq_true]at h
 constructor
 ·intro hx
  obtain⟨y,hy,e⟩:=h.mp ⟨x,hx,beq_self_eq_true x⟩
  obtain⟨i,hi,rfl⟩:=List.mem_map.mp hy
  exact⟨i,List.mem_range.mp hi,eq_of_beq e⟩
 ·rintro ⟨i,hi,rfl⟩
  obtain⟨y,hy,e⟩:=h.mpr ⟨val i,List.mem_map.mpr ⟨i,List.mem_range.mpr hi,rfl⟩,beq_self_eq_true _⟩
  exact eq_of_beq e ▸ hy
theorem zln(val:Nat->Int):∀ n,(firstMet val n).Nodup
 | 0=>by rw[firstMet_zero];exact List.nodup_nil
 | n+1=>by
  rw[firstMet_succ]
  by_cases h:val n∈firstMet val n
  ·rw[z81 h];exact zln val n
  ·rw[z82 h]
   exact List.nodup_append.mpr ⟨zln val n,by simp,λa ha b hb e=>by rw[List.mem_singleton]at hb;subst hb;subst e;exact h ha⟩
theorem jfk:∀ {l:List Int},l.Pairwise (· <=·)->l.Nodup->l.Pairwise (· <·)
 | [],_,_=>.nil
 | x::r,h,n=>by
  obtain⟨h1,h2⟩:=List.pairwise_cons.mp h
  obtain⟨n1,n2⟩:=List.nodup_cons.mp n
  refine List.pairwise_cons.mpr ⟨λy hy=> ?_,jfk h2 n2⟩
  have:=h1 y hy
  have:x≠y:=λz=>n1 (z ▸ hy)
  omega
def z2c(K:W.Frag)(te:TE):TE:=λσ H Q=>te σ H λx H1=>∃ (p:Addr) (ns:List Int),x=.ref p/\SqL K H1 p (ns.map V.int)/\ns.length<64 ∧
 ∀ (a:Addr) (o:HO) (D:Addr) (ks:List Int),H1 a=none->upd H1 a o D=none->ks.Pairwise (· <·)->(∀ x,x∈ks↔x∈ns)->ks.length<=ns.length->Q (.ref D) (upd (upd H1 a o) D (.lst (ks.map V.int)))
def clo(te:TE):TE:=λσ H Q=>∃ C:VK,te σ H C/\∀ x H1,C x H1->Q x H1
theorem PE.clo{e:Expr}{te:TE}(h:PE X e te):PE X e (clo te):=λpins s σ H Q I ⟨C,q,m⟩=>thn (h pins s σ H C I q) λv s' ⟨x,H1,I1,r1,q1⟩=>⟨x,H1,I1,r1,m _ _ q1⟩
theorem z6a{e:Expr}{te:TE}{p1 p2 p3 p4:Pos}(hc:X.calm=true)(g1:Gl X "sorted")(m1:X.mg "sorted"=none)(g2:Gl X "set")(m2:X.mg "set"=none)(h:PE X e te)
  (he:starEach [e] X.env=[(false,eval e X.env)]:=by rfl) :
  PE X (.Call (.Name "sorted" p1) [.Call (.Name "set" p2) [e] [] p3] [] p4) (z2c X.K te):=λpins s σ H Q I q=>by
 refine(zcm (z4r hc) g1 m1 (by rfl) (zaa (zhc (jaz hc) g2 m2 (by rfl) (zaa h.clo zad he) (he:=he)) zad)) pins s σ H Q I ?_
 refine⟨_,q,λx H1 ⟨p,ns,e1,hq,hn,q1⟩=> ?_⟩
 subst e1
 refine⟨p,ns,rfl,hq,by omega,λa ha=>⟨a,_,rfl,zae,?_,λD ks hD pk hr=> ?_⟩⟩
 ·exact Nat.lt_of_le_of_lt (firstMet_length_le ..) hn
 ·have nd:=zln (λi=>ns.getD i 0) ns.length
  refine q1 a _ D ks ha hD (jfk hr (pk.nodup_iff.mpr nd)) (λx=> ?_) (by rw[pk.length_eq];exact firstMet_length_le ..)
  rw[pk.mem_iff,z84]
  refine⟨λ⟨i,hi,e⟩=> ?_,λhx=> ?_⟩
  ·rw[<-e]
   simp[List.getD,hi]
  ·obtain⟨i,hi,e⟩:=List.getElem_of_mem hx
   exact⟨i,hi,by simp[List.getD,hi,e]⟩
end
end L2
namespace L2
def Itv(K:W.Frag)(a:Addr)(n:Nat):It :=
 ⟨λi H=>i<n/\∃ xs,SqL K H a xs/\xs.length=n,λi H x H'=>H'=H/\∀ xs,SqL K H a xs->xs[n - 1 - i]? =some x,λi _=>n<=i⟩
def jpf(K:W.Frag)(ta:TA):TI:=λσ H R=>ta σ H λvs H1=>∃ a xs,vs=[.ref a]/\SqL K H1 a xs/\R (Itv K a xs.length) H1
section
variable{X:Cx}{tg:Expr}
def jmo(K:W.Frag)(te:TE)(ts:TO):TE:=λσ H Q=>te σ H λx H1=>ts σ H1 λk H2=>k=some (-1)/\∃ a xs,x=.ref a/\SqL K H2 a xs/\∀ p,H2 p=none->Q (.ref p) (upd H2 p (.lst xs.reverse))
theorem jfl{K:W.Frag}{te:TE}{ts:TO}{σ:St}{H:Hp}{Q:VK}:jmo K te ts σ H Q=(te σ H λx H1=>ts σ H1 λk H2=>k=some (-1)/\∃ a xs,x=.ref a/\SqL K H2 a xs/\∀ p,H2 p=none->Q (.ref p) (upd H2 p (.lst xs.reverse))):=rfl
def jog(ta:TA):TE:=λσ H Q=>ta σ H λvs H1=>∃ k:Nat,vs=[.int k]/\k<=100000/\∀ p,H1 p=none->Q (.ref p) (upd H1 p (.lst (ups k)))
theorem jhy{ta:TA}{σ:St}{H:Hp}{Q:VK}:jog ta σ H Q=(ta σ H λvs H1=>∃ k:Nat,vs=[.int k]/\k<=100000/\∀ p,H1 p=none->Q (.ref p) (upd H1 p (.lst (ups k)))):=rfl
def zkz(K:W.Frag):List V->Hp->VK->Prop:=λxs H Q=>∃ (p:Addr) (kvs:List (Key × V)),xs=[.ref p]/\H p=some (.dK kvs)/\∀ l,H l=none->Q (.ref l) (upd H l (.dK kvs))
theorem jde:zrl X (.type "dict") (zkz X.K):=by
 intro pins s σ H xs us Q I r h
 obtain⟨p,kvs,rfl,hp,q⟩:=h
 obtain⟨u,rfl,rx⟩:=z4k r
 cases rx
 exact jg9 I (.inl hp) λl s' hl I'=>⟨.ref l,_,I',rfl,q l hl⟩
theorem jmp{K:W.Frag}{p:Addr}{H:Hp}{Q:VK}:zkz K [.ref p] H Q=∃ kvs,H p=some (.dK kvs)/\∀ l,H l=none->Q (.ref l) (upd H l (.dK kvs)):=by simp[zkz]
end
theorem ja0{K:W.Frag}{as:TA}{g:TG}{s1:TS}{D:Ends}{σ:St}{H:Hp}:jad (jpf K as) g s1 D σ H=(as σ H λvs H1=>∃ a xs,vs=[.ref a]/\SqL K H1 a xs/\z6w (Itv K a xs.length) g s1 D σ H1):=rfl
section
variable{K:W.Frag}{tt:TT}{cap:List Nat}{σ:St}{H:Hp}{Q:VK}
theorem ja1{n:Nat}(p:Nat->Bool)(hn:n<=sizeLine)(ht:∀ i,i<n->∀ QB:Bool->Hp->Prop,QB (p i) H->tt (some (.int (i:Int))::z4n cap σ) H QB)
  (hd:∀ q,H q=none->Q (.ref q) (upd H q (.lst (((List.range n).filter p).map λ(i:Nat)=>V.int i)))):zx4 (Itr 0 n) (zaz 0) tt (tVr 0) 1 cap σ H Q:=by
 refine⟨λi m σ' ys H'=>m=n - i/\i<=n/\H'=H/\(∃ x0,σ'=x0::z4n cap σ)/\ys=((List.range i).filter p).map λ(i:Nat)=>V.int i,⟨n,by simp,Nat.zero_le _,rfl,⟨none,rfl⟩,rfl⟩,?_⟩
 rintro i m σ' ys H' ⟨rfl,hi,rfl,⟨x0,rfl⟩,rfl⟩
 by_cases hlt:i<n
 ·refine .inr ⟨hlt,?_,λx H2 y=> ?_⟩
  ·rw[List.length_map]
   have:=List.length_filter_le p (List.range i)
   rw[List.length_range]at this
   omega
  ·obtain⟨e,y⟩:=y
   subst e y
   rw[Int.zero_add]
   simp only[zaz,List.set_cons_zero]
   refine ht i hlt _ ?_
   cases hp:p i with
   | true =>
    rw[if_pos rfl]
    refine⟨λv H4=>v=.int i/\H4=H2,λy H4 ⟨e1,e2⟩=>⟨n - (i+1),by omega,rfl,hlt,e2,⟨_,rfl⟩,?_⟩,?_⟩
    ·rw[e1,List.range_succ,List.filter_append,List.map_append]
     simp[hp]
    ·simp[tVr]
   | false =>
    rw[if_neg Bool.false_ne_true]
    refine⟨n - (i+1),by omega,rfl,hlt,rfl,⟨_,rfl⟩,?_⟩
    rw[List.range_succ,List.filter_append,List.map_append]
    simp[hp]
 ·have e:i=n:=by omega
  subst e
  exact .inl ⟨Nat.le_refl _,hd⟩
end
section
variable{K:W.Frag}{td ty tv te:TE}{D:Ends}{σ:St}{H:Hp}{Q:VK}{QB:Bool->Hp->Prop}
theorem jhz:jjm td ty σ H Q=(td σ H λx H1=>ty σ H1 λy H2=>∃ a v,x=.ref a/\DGet H2 a y (some v)/\Q v H2):=rfl
theorem jkl:jnk ty td σ H Q=(ty σ H λy H1=>td σ H1 λx H2=>∃ a o,x=.ref a/\DGet H2 a y o/\Q (.bl o.isSome) H2):=rfl
theorem jdf:ztn ty td σ H Q=(ty σ H λy H1=>td σ H1 λx H2=>∃ a o,x=.ref a/\DGet H2 a y o/\Q (.bl (!o.isSome)) H2):=rfl
theorem jh0:jc1 td ty tv D σ H=(tv σ H λv H1=>td σ H1 λx H2=>ty σ H2 λy H3=>∃ a H4,x=.ref a/\DPut H3 a y v H4/\D.nx σ H4):=rfl
theorem jfm:jej td ty σ H Q=(td σ H λx H1=>∃ a,x=.ref a/\IsD H1 a/\ty σ H1 λy H2=>∃ o,DGet H2 a y o/\Q (o.getD .non) H2):=rfl
theorem jfn:z8p σ H Q=(∀ p,H p=none->Q (.ref p) (upd H p (.dK []))):=rfl
theorem jfo:jei σ H Q=(∀ p,H p=none->Q (.ref p) (upd H p (.dT []))):=rfl
theorem joh:tB te σ H QB=(te σ H λx H1=>∃ c,x=.bl c/\QB c H1):=rfl
theorem ja2:z2c K te σ H Q=(te σ H λx H1=>∃ (p:Addr) (ns:List Int),x=.ref p/\SqL K H1 p (ns.map V.int)/\ns.length<64 ∧
 ∀ (a:Addr) (o:HO) (D:Addr) (ks:List Int),H1 a=none->upd H1 a o D=none->ks.Pairwise (· <·)->(∀ x,x∈ks↔x∈ns)->ks.length<=ns.length->Q (.ref D) (upd (upd H1 a o) D (.lst (ks.map V.int)))):=rfl
variable{a b:Addr}{i j:Int}{z:Str}{kvs:List (Key × V)}{kvt:List (List Key × V)}{v:V}
theorem dI(e:H a=some (.dK kvs)):DGet H a (.int i) (zre kvs (.inl i)):=DGet.k (k:=.inl i) e
theorem dS(e:H a=some (.dK kvs)):DGet H a (.str z) (zre kvs (.inr z)):=DGet.k (k:=.inr z) e
theorem dT2(e:H a=some (.dT kvt))(eb:H b=some (.tup [.int i,.int j])):DGet H a (.ref b) (zre kvt [.inl i,.inl j]):=DGet.t (k:=[.inl i,.inl j]) e eb
theorem dS'(e:H a=some (.dK kvs))(h:zre kvs (.inr z)=some v):DGet H a (.str z) (some v):=h ▸ dS e
theorem pS(e:H a=some (.dK kvs))(hl:kvs.length<100000):DPut H a (.str z) v (upd H a (.dK (zx0 kvs (.inr z) v))):=DPut.k (k:=.inr z) e (Nat.lt_of_lt_of_le hl (by decide))
theorem pT2(e:H a=some (.dT kvt))(eb:H b=some (.tup [.int i,.int j]))(hl:kvt.length<100000):DPut H a (.ref b) v (upd H a (.dT (zx0 kvt [.inl i,.inl j] v))):=DPut.t (k:=[.inl i,.inl j]) e eb (Nat.lt_of_lt_of_le hl (by decide))
end
end L2
namespace L2
section
variable{X:Cx}
abbrev jnn(K:W.Frag):R2:=rIn K false
theorem jfp(hu:X.A.units+64<cLine):OpR X (compareOp .In) (jnn X.K):=jec
end
theorem SqT.same{K:W.Frag}{H H':Hp}{a:Addr}{xs:List V}(e:Same H H')(h:SqT K H a xs):SqT K H' a xs:=by
 rcases h with(h | ⟨o,h⟩) | h
 ·exact .inl (.inl (e _ _ h))
 ·exact .inl (.inr ⟨o,e _ _ h⟩)
 ·exact .inr h
mutual
theorem Rep.same{K:W.Frag}{H H':Hp}(s:Same H H'):∀ {v:V} {d:PyData},Rep K H v d->Rep K H' v d
 | _,_,.non=>.non
 | _,_,.bl b=>.bl b
 | _,_,.int i=>.int i
 | _,_,.str x=>.str x
 | _,_,.lst h r=>.lst (s.seq h) (RepAll.same s r)
 | _,_,.tup h r=>.tup (SqT.same s h) (RepAll.same s r)
theorem RepAll.same{K:W.Frag}{H H':Hp}(s:Same H H'):∀ {vs:List V} {ds:List PyData},RepAll K H vs ds->RepAll K H' vs ds
 | _,_,.nil=>.nil
 | _,_,.cons h r=>.cons (Rep.same s h) (RepAll.same s r)
end
def Dat(K:W.Frag)(H:Hp)(n:Nat)(v:V)(d:PyData):Prop:=Rep K H v d/\d.canLay0=true/\d.depth<=n
section
variable{K:W.Frag}{H:Hp}{n:Nat}{Q:VK}
theorem Dat.int(i:Int):Dat K H n (.int i) (.int i):=⟨.int i,rfl,Nat.zero_le _⟩
theorem Dat.non:Dat K H n .non .none:=⟨.non,rfl,Nat.zero_le _⟩
theorem ja3:∀ {xs:List V} {ds:List PyData},Paired (Dat K H n) xs ds->RepAll K H xs ds/\PyData.canLayAll0 ds=true/\PyData.depthAll ds<=n
 | _,_,.nil=>⟨.nil,rfl,Nat.zero_le _⟩
 | _,_,.cons h t=>by
  obtain⟨a1,a2,a3⟩:=ja3 t
  refine⟨.cons h.1 a1,?_,?_⟩
  ·simp[PyData.canLayAll0,h.2.1,a2]
  ·simp only[PyData.depthAll];exact Nat.max_le.mpr ⟨h.2.2,a3⟩
theorem Dat.lst{p:Addr}{xs:List V}{ds:List PyData}(h:SqL K H p xs)(hs:Paired (Dat K H n) xs ds):Dat K H (n+1) (.ref p) (.list ds):=by
 obtain⟨a1,a2,a3⟩:=ja3 hs
 exact⟨.lst h a1,by simpa [PyData.canLay0]using a2,by simpa [PyData.depth]using a3⟩
theorem Dat.tup{p:Addr}{xs:List V}{ds:List PyData}(h:SqT K H p xs)(hs:Paired (Dat K H n) xs ds):Dat K H (n+1) (.ref p) (.tuple ds):=by
 obtain⟨a1,a2,a3⟩:=ja3 hs
 exact⟨.tup h a1,by simpa [PyData.canLay0]using a2,by simpa [PyData.depth]using a3⟩
theorem Dat.shp{v:V}{d:PyData}(h:Dat K H n v d)(hn:n<=64):shp d:=by
 unfold L2.shp PySem.SeqAt.shaped
 rw[h.2.1]
 simpa using Nat.le_trans h.2.2 hn
theorem z64:∀ (l:List Int),Paired (Dat K H n) (l.map V.int) (l.map PyData.int)
 | []=>.nil
 | x::r=>.cons (.int x) (z64 r)
theorem jiz{p q:Addr}{d:PyData}(hn:n<=64)(h1:Dat K H n (.ref p) d)(h2:Dat K H n (.ref q) d)(hq:Q (.bl true) H):zsb K (.ref p) (.ref q) H Q:=by
 unfold zsb
 rw[if_neg (by simp[jgt])]
 refine⟨_,_,h1.1,h2.1,h1.shp hn,h1.shp hn,?_⟩
 rw[jb5 (h1.shp hn)]
 exact hq
theorem jmq{p q:Addr}{d:PyData}(hn:n<=64)(h1:Dat K H n (.ref p) d)(h2:Dat K H n (.ref q) d)(hq:Q (.bl false) H):jhd K (.ref p) (.ref q) H Q:=by
 unfold jhd
 rw[if_neg (by simp[jgt])]
 refine⟨_,_,h1.1,h2.1,h1.shp hn,h1.shp hn,?_⟩
 rw[jb5 (h1.shp hn)]
 exact hq
end
end L2
namespace L2
end L2
namespace L2
section
variable{prog:Program}{w:World}{A:Around}{E:Value->Shared->Prop}{s:Shared}{d it:Addr}{od:Obj}{es:Array DictEntry}{ep i:Nat}
end
end L2
namespace L2
theorem zpd:∀ {ys:List Str} {us:List Value},Vals (ys.map V.str) us->StrsAre us ys
 | [],_,.nil=>.nil
 | y::r,_,.cons h t=>by
  obtain⟨tk,rfl⟩:=h
  exact .cons _ _ (zpd t)
section
variable{X:Cx}
def z85(K:W.Frag):V->List V->Hp->VK->Prop:=λx vs H Q=>∃ (z:Str) (p:Addr) (ys:List Str),x=.str z/\vs=[.ref p]/\SqL K H p (ys.map V.str)/\z.length<=16/\(ys.map (·.length)).sum+ys.length<=1048576/\Q (.str (Txt.join z ys)) H
theorem jkm:MtR X "str.join" (z85 X.K):=by
 intro pins s σ H x vs v us Q I rx rv h
 obtain⟨z,p,ys,rfl,rfl,hp,hz,hw,q⟩:=h
 obtain⟨t,rfl⟩:=rx
 obtain⟨u,rfl,ru⟩:=rv.one
 cases ru
 obtain⟨its,r,pl,hz'⟩:=I.list hp
 exact join_listW pl.isList (zpd r) hz hw λt' k=>⟨.str _,H,I.tok k,⟨t',rfl⟩,q⟩
end
section
variable{K:W.Frag}{tt:TT}{te:TE}{cap:List Nat}{σ:St}{H:Hp}{Q:VK}
end
end L2
namespace L2
section
variable{X:Cx}{tg:Expr}
end
section
variable{K:W.Frag}{tt:TT}{cap:List Nat}{σ:St}{H:Hp}{Q:VK}
end
def cNx(n i:Nat)(P:Prop):Prop:=∃ m',m'<n - i/\m'=n - (i+1)/\i+1<=n/\P
theorem jdg{K:W.Frag}{g:TG}{tt:TT}{te:TE}{k:Nat}{cap:List Nat}{σ:St}{H:Hp}{Q:VK}{b:Addr}{xs:List V}(hn:xs.length<=sizeLine)(Pv:Nat->St->List V->Hp->Prop)(h0:Pv 0 (z6r k cap σ) [] H)(hq:∀ i σ' ys H,Pv i σ' ys H->SqL K H b xs/\ys.length<=i)
  (hs:∀ i x σ' ys H,i<xs.length->xs[i]? =some x->Pv i σ' ys H->g x σ' H λσ2 H2=>tt σ2 H2 λc H3=>if c=true then ∃ N:VK,(∀ y H4,N y H4->cNx xs.length i (Pv (i+1) σ2 (ys++[y]) H4))/\te σ2 H3 N else cNx xs.length i (Pv (i+1) σ2 ys H3))
  (hd:∀ σ' ys H,Pv xs.length σ' ys H->∀ p,H p=none->Q (.ref p) (upd H p (.lst ys))):zx4 (Itl K b) g tt te k cap σ H Q:=by
 refine⟨λi m σ' ys H=>m=xs.length - i/\i<=xs.length/\Pv i σ' ys H,⟨xs.length,by simp,Nat.zero_le _,h0⟩,?_⟩
 rintro i m σ' ys H ⟨rfl,hi,p⟩
 obtain⟨q,hl⟩:=hq i σ' ys H p
 by_cases hlt:i<xs.length
 ·refine .inr ⟨⟨xs,xs[i],q,by simp[hlt]⟩,by omega,λx H' y=> ?_⟩
  obtain⟨e,y⟩:=y
  subst e
  exact hs i x σ' ys _ hlt (y xs q) p
 ·have e:i=xs.length:=by omega
  subst e
  exact .inl ⟨⟨xs,q,Nat.le_refl _⟩,hd σ' ys H p⟩
section
variable{P:Program}{w:World}{A:Around}{E:Value->Shared->Prop}{s:Shared}
end
section
variable{X:Cx}
end
end L2
namespace L2
section
variable{P:Program}{w:World}{A:Around}{E:Value->Shared->Prop}{s:Shared}
theorem jdh{e it l:Addr}{i:Nat}{items:Array Value}{x old:Value}{Q:Option Value->Shared->Prop}(he:IsEnum s.heap e it i old)(hi:s.heap.IsListIter it l i)(hl:s.heap.IsList l items)(ex:items[i]? =some x)(ne:e≠it)
  (q:∀ h',IsEnumOut h' e it (i+1) x s.heap.objs.size->h'.IsListIter it l (i+1)->h'.get? s.heap.objs.size=some { cls:=Value.type "tuple",data:=Data.seq #[Value.int i s.toks,x] }->(∀ b o,b≠e->b≠it->s.heap.get? b=some o->h'.get? b=some o) →
   Q (some (.ref s.heap.objs.size)) { s with heap:=h',toks:=s.toks+1 }):wpAny (model P w) A (pyNext (.ref e)) Q E s:=by
 have ty:s.TypeIs (.ref e) "enumerate":=⟨_,he,rfl⟩
 unfold pyNext
 exact wpAny_bind (wpAny_attempt (wpAny_callSpecial?_slot (name:=Str.ofString "__next__") ty F.slot_enumerate_next (wpAny_call_entry F.slot_enumerate_next ty F.entry_enumerate_next
  (enumerate_next_item he hi hl ex ne λh' a1 a2 a3 _ a4=>wpAny_pure (q h' a1 a2 a3 a4)) (F.args_enumerate_next_1 _))))
theorem jh1{e it l:Addr}{i:Nat}{items:Array Value}{old:Value}{Q:Fin->Shared->Prop}(hh:A.handled=none)(he:IsEnum s.heap e it i old)(hi:s.heap.IsListIter it l i)(hl:s.heap.IsList l items)(ex:items[i]? =none)
  (q:∀ h' x,Heap.ExtBut it s.heap h'->(∃ o,h'.get? x=some o/\o.cls=.type "StopIteration")->E (.ref x) { s with heap:=h' }):wpAny (model P w) A (Builtin.«enumerate.__next__» ⟨[.ref e],[]⟩) Q E s:=by
 show wpAny (model P w) A (field (.ref e) 2 >>= _) _ _ s
 refine wpAny_bind (wpAny_field he rfl (x:=.ref it) rfl ?_)
 exact wpAny_bind (joe (k:=true) hh hi hl ex q)
theorem jdi{e it l:Addr}{i:Nat}{items:Array Value}{old:Value}{Q:Option Value->Shared->Prop}(hh:A.handled=none)(he:IsEnum s.heap e it i old)(hi:s.heap.IsListIter it l i)(hl:s.heap.IsList l items)(ex:items[i]? =none)
  (q:∀ h',Heap.ExtBut it s.heap h'->Q none { s with heap:=h' }):wpAny (model P w) A (pyNext (.ref e)) Q E s:=by
 have ty:s.TypeIs (.ref e) "enumerate":=⟨_,he,rfl⟩
 unfold pyNext
 refine wpAny_bind (wpAny_attempt (wpAny_callSpecial?_slot (name:=Str.ofString "__next__") ty F.slot_enumerate_next (wpAny_call_entry F.slot_enumerate_next ty F.entry_enumerate_next (jh1 hh he hi hl ex λh' x kk ⟨o,e1,e2⟩=> ?_) (F.args_enumerate_next_1 _))))
 exact wpAny_bind (wpAny_isInstance (T:="StopIteration") (b:=true) ⟨o,e1,e2⟩ isSubtype_stop (wpAny_pure (q _ kk)))
end
def Ite(K:W.Frag)(a:Addr):It :=
  ⟨λi H=>∃ xs x,SqL K H a xs/\xs[i]? =some x,
   λi H v H'=>∃ t,H t=none/\v=.ref t/\∃ x,H'=upd H t (.tup [.int (i:Int),x])/\∀ xs,SqL K H a xs->xs[i]? =some x,
   λi H=>∃ xs,SqL K H a xs/\xs.length<=i⟩
def EnSt(e it l:Addr)(i:Nat)(h:Heap):Prop:=(∃ old,IsEnum h e it i old)/\h.IsListIter it l i
theorem EnSt.lt{e it l:Addr}{i:Nat}{h:Heap}(q:EnSt e it l i h):∀ b∈[e,it],b<h.objs.size:=by
 obtain⟨⟨old,h1⟩,o,h2,_⟩:=q
 intro b hb
 simp only[List.mem_cons,List.not_mem_nil,or_false]at hb
 rcases hb with rfl | rfl
 ·exact Heap.lt_size h1
 ·exact Heap.lt_size h2
theorem jfq{P:Program}{w:World}{K:W.Frag}{elts:List Expr}{kn:Nat}{pos:Pos}{e it l:Addr}(ne:e≠it) :
  ji8 P w K (.Tuple elts kn pos) (Ite K l) [e,it] e (λi h=>EnSt e it l i h) where
 mem:=by simp
 obj:=λi h st b hb=>by
  obtain⟨⟨old,h1⟩,h2⟩:=st
  obtain⟨o4,e4,d4⟩:=ItK.ob (k:=true) h2
  simp only[List.mem_cons,List.not_mem_nil,or_false]at hb
  rcases hb with rfl | rfl
  ·exact⟨_,h1,λv q=>by cases q⟩
  ·exact⟨_,e4,λv q=>by rw[d4]at q;cases q⟩
 keep:=λi h h' ⟨⟨old,h1⟩,h2⟩ q=>⟨⟨old,q e (by simp) _ h1⟩,ItK.up (k:=true) h2 λo x=>q it (by simp) o x⟩
 item:=by
  intro X hP hw hK hc i pins s σ H E I hf st hg
  subst hP hw hK
  obtain⟨xs,x,hx,ex⟩:=hg
  obtain⟨its,rv,d1⟩:=I.seqK (k:=true) hx
  obtain⟨u,hu,ru⟩:=rv.get ex
  have lt:=EnSt.lt st
  obtain⟨⟨old,h1⟩,h2⟩:=st
  refine jdh h1 h2 d1 (x:=u) (by simpa using hu) ne λh' g1 g2 g3 kk=>⟨_,rfl,?_⟩
  refine wpAny_letOwnedTupleGo_enum g1 λh2' z2 sb=> ?_
  have I1:=I.tnew (ys:=[.int (i:Int),x]) (its:=[Value.int (i:Int) s.toks,u]) (.cons (show RelV (.int (i:Int)) (Value.int (i:Int) s.toks)from⟨s.toks,rfl⟩) (.cons ru .nil)) (by show 2<=sizeLine;decide)
  have f':∀ b∈[e,it],b≠s.heap.objs.size:=λb hb=>Nat.ne_of_lt (lt b hb)
  have nz:s.heap.objs.size≠e:=(f' e (by simp)).symm
  have I2:Inv X pins σ (upd H s.heap.objs.size (.tup [.int (i:Int),x])) { s with heap:=h2',toks:=s.toks+1 }:=by
   refine Inv.turnedS (s:={ s with heap:=s.heap.push { cls:=Value.type "tuple",data:=Data.seq #[Value.int i s.toks,u] } }) (t':=s.toks+1) (fp:=[e,it]) I1 (λb o hb eo=> ?_) λb hb=>(hf b hb).upd (f' b hb)
   simp only[List.mem_cons,List.not_mem_nil,or_false,not_or]at hb
   rcases Heap.get?_push_cases eo with⟨e1,e2⟩ | e1
   ·subst e1 e2
    exact sb.extBut _ _ nz g3
   ·exact sb.extBut _ _ hb.1 (kk _ _ hb.1 hb.2 e1)
  exact⟨.ref s.heap.objs.size,_,I2,rfl,⟨s.heap.objs.size,I.fresh,rfl,x,rfl,λys' q=>by rw[I.seqK_inj (k:=true) q hx];exact ex⟩,
   ⟨⟨_,z2⟩,ItK.up (k:=true) g2 λo x=>sb.extBut _ _ ne.symm x⟩,λb hb=>((hf b hb).upd (f' b hb)).1⟩
 done:=by
  intro X hP hw hK hc i pins s σ H E I hf st hg
  subst hP hw hK
  obtain⟨xs,hx,en⟩:=hg
  obtain⟨its,rv,d1⟩:=I.seqK (k:=true) hx
  obtain⟨⟨old,h1⟩,h2⟩:=st
  have e1:=rv.length
  refine jdi (I.ok.hd hc) h1 h2 d1 (by simp;omega) λh' kk=>⟨rfl,I.turnedS (t':=s.toks) (fp:=[e,it]) (λb o hb eo=> ?_) hf⟩
  simp only[List.mem_cons,List.not_mem_nil,or_false,not_or]at hb
  exact kk _ _ hb.2 eo
 self:=λ_ _ _ _ _ st h=>by
  obtain⟨⟨old,h1⟩,_⟩:=st
  exact wpAny_pyIter_enum h1 h
section
variable{X:Cx}
def jh2(K:W.Frag)(ta:TA):TI:=λσ H R=>ta σ H λvs H1=>∃ a:Addr,vs=[.ref a]/\(∃ xs,SqL K H1 a xs)/\R (Ite K a) H1
theorem jfr{a:Expr}{ta:TA}{p pos p2:Pos}{elts:List Expr}{kn:Nat}(hg:Gl X "enumerate")(hm:X.mg "enumerate"=none)(ha:PA X [a] ta)(hs:starEach [a] X.env=[(false,eval a X.env)]:=by rfl) :
  PI X (.Tuple elts kn p2) (.Call (.Name "enumerate" p) [a] [] pos) (jh2 X.K ta):=by
 intro pins s σ H R I h
 refine Call_ (z8a I hg hm boot_enumerate (PyProof.Rows.callWith_type1 (thn (ha pos pins s σ H _ I h) λus s1 ⟨vs,H1,I1,r1,q1⟩=> ?_) (by rw[hs];rfl) (by rfl)))
 obtain⟨l,e,⟨xs,hx⟩,q⟩:=q1
 subst e
 obtain⟨u,rfl,rx⟩:=z4k r1
 cases rx
 obtain⟨its,rv,d1⟩:=I1.seqK (k:=true) hx
 refine call_enumerate_list d1 λh' z1 z2 sz kk=>wpAny_pyIter_enum z1 ?_
 have I2:Inv X pins σ H1 { s1 with heap:=h' }:=I1.kept (t':=s1.toks) kk
 refine⟨_,[s1.heap.objs.size+1,s1.heap.objs.size],_,_,H1,rfl,I2,jfq (Nat.ne_of_gt (by omega)),⟨⟨_,z1⟩,z2⟩,λb hb=>I1.fpOk ?_ (I1.hok.fresh ?_),q⟩
 all_goals
  simp only[List.mem_cons,List.not_mem_nil,or_false]at hb
  rcases hb with rfl | rfl<;>omega
end
theorem z86{K:W.Frag}{as:TA}{g:TG}{s1:TS}{D:Ends}{σ:St}{H:Hp}:jad (jh2 K as) g s1 D σ H=(as σ H λvs H1=>∃ a:Addr,vs=[.ref a]/\(∃ xs,SqL K H1 a xs)/\z6w (Ite K a) g s1 D σ H1):=rfl
theorem z87{K:W.Frag}{σ:St}{H:Hp}{a:Addr}{xs:List V}{g:TG}{tb:TS}{D:Ends}(Pv:Nat->St->Hp->Prop)(h0:Pv 0 σ H)(ha:∀ i σ H,i<=xs.length->Pv i σ H->SqL K H a xs)
  (hs:∀ i x σ H t,xs[i]? =some x->Pv i σ H->H t=none->g (.ref t) σ (upd H t (.tup [.int (i:Int),x])) λσ2 H2=>tb { D with nx:=Pv (i+1),ct:=Pv (i+1),bk:=D.nx } σ2 H2) (hd:∀ σ H,Pv xs.length σ H->D.nx σ H):z6w (Ite K a) g tb D σ H:=by
 refine⟨λi m σ H=>i+m=xs.length/\Pv i σ H,⟨xs.length,by omega,h0⟩,λi m σ H ⟨e,p⟩=> ?_⟩
 have h1:=ha i σ H (by omega) p
 by_cases hi:i<xs.length
 ·refine .inr ⟨⟨xs,xs[i],h1,List.getElem?_eq_getElem hi⟩,Pv (i+1),λσ' H' q=>⟨m - 1,by omega,by omega,q⟩,λv H' ⟨t,ht,e,x,e',q1⟩=> ?_⟩
  subst e e'
  exact hs i x σ H t (q1 _ h1) p ht
 ·have e:i=xs.length:=by omega
  subst e
  exact .inl ⟨⟨xs,h1,Nat.le_refl _⟩,hd _ _ p⟩
def jno(K:W.Frag):R2:=λx y H Q=>jnn K x y H Q\/∃ t ts p xs,x=.ref t/\SqT K H t ts/\y=.ref p/\SqT K H p xs/\(∀ z∈xs,z=.non\/∃ i,z=.int i)/\Q (.bl false) H
theorem jb9:∀ {xs:List V} {us:List Value} {u:Value},Vals xs us->u∈us->∃ x∈xs,RelV x u
 | _,_,_,.nil,h=>by cases h
 | _,_,_,.cons r t,h=>by
  rcases List.mem_cons.mp h with rfl | h
  ·exact⟨_,List.mem_cons_self ..,r⟩
  ·obtain⟨x,hx,e⟩:=jb9 t h
   exact⟨x,List.mem_cons_of_mem _ hx,e⟩
theorem jmr{X:Cx}(hu:X.A.units+64<cLine):OpR X (compareOp .In) (jno X.K):=by
 intro pins s σ H x y v u Q I rx ry h
 rcases h with h | ⟨t,ts,p,xs,rfl,ht,rfl,hp,hx,q⟩
 ·exact jfp hu pins s σ H x y v u Q I rx ry h
 ·cases rx
  cases ry
  obtain⟨its,r,pl,hz⟩:=I.tuple hp
  obtain⟨tts,tr,tl,_⟩:=I.tuple ht
  have hin:X.A.in1.units<cLine:=by
   have:X.A.in1.units=X.A.units+1:=rfl
   omega
  refine SeqAt.in_tupleAt (λ_=>false) pl (λz hz'=> ?_) ⟨.bl _,H,I,rfl,?_⟩
  ·obtain⟨z0,h0,r0⟩:=jb9 r (by simpa using hz')
   rcases hx z0 h0 with rfl | ⟨i,rfl⟩
   ·cases r0
    exact SeqAt.EqAt.none_tuple tl hin
   ·obtain⟨tk,rfl⟩:=r0
    exact SeqAt.EqAt.int_tuple _ _ tl hin
  ·have:its.toArray.any (λ_=>false)=false:=by
    rw[Array.any_eq_false]
    simp
   rw[this]
   exact q
end L2
namespace L2
section
variable{X:Cx}
theorem z88:∀ {us:List Value} {ys:List Str},StrsAre us ys->Vals (ys.map V.str) us
 | _,_,.nil=>.nil
 | _,_,.cons z t h=>.cons ⟨_,rfl⟩ (z88 h)
def zsd(K:W.Frag):List V->Hp->VK->Prop:=λxs H Q=>∃ (p:Addr) (ys:List Str),xs=[.ref p]/\SqL K H p (ys.map V.str)/\ys.length<64 ∧
  ∀ (D:Addr) (ks:List Str),H D=none->ks.Perm ys->sortedS ks=true->Q (.ref D) (upd H D (.lst (ks.map V.str)))
theorem z89(hc:X.calm=true):zrl X (.builtin "sorted") (zsd X.K):=by
 intro pins s σ H xs us Q I r h
 obtain⟨p,ys,rfl,hp,hn,q⟩:=h
 obtain⟨u,rfl,rx⟩:=z4k r
 cases rx
 obtain⟨its,rv,pl,hz⟩:=I.list hp
 have hi:=zpd rv
 have hlen:its.length=ys.length:=by have:=rv.length;simpa using this.symm
 refine sorted_strs pl.isList hi (by omega) λout ks ho pk hr=> ?_
 obtain⟨c,g⟩:=sortedAll_at s.heap its out
 have hD:s.heap.objs.size<=s.heap.objs.size+1:=Nat.le_succ _
 refine⟨.ref _,_,I.laid (t':=s.toks) (λb o e=>sortedAll_old e) hD ?_,rfl,q _ ks (I.hok.fresh hD) pk hr⟩
 have hl:ks.length<64:=by rw[pk.length_eq];exact hn
 exact⟨by rw[List.length_map,sizeLine_eq];omega,out.toList,c,z88 ho,g⟩
theorem zx5:∀ {l:List Str},sortedS l=true->l.Pairwise λa b=>¬ b.cps.toList<a.cps.toList
 | [],_=>.nil
 | [x],_=>List.pairwise_singleton _ _
 | x::y::r,h=>by
  have h':(!Spec.ltCps y.cps.toList x.cps.toList && risingS y r)=true:=h
  rw[Bool.and_eq_true,Bool.not_eq_true',ltCps_eq,decide_eq_false_iff_not]at h'
  have ih:(y::r).Pairwise λa b=>¬ b.cps.toList<a.cps.toList:=zx5 (l:=y::r) h'.2
  refine List.pairwise_cons.mpr ⟨λz hz=> ?_,ih⟩
  rcases List.mem_cons.mp hz with e | hz
  ·rw[e];exact h'.1
  ·have h2:=(List.pairwise_cons.mp ih).1 z hz
   exact λhlt=>by
    have a1:x.cps.toList<=y.cps.toList:=List.not_lt.mp h'.1
    have a2:y.cps.toList<=z.cps.toList:=List.not_lt.mp h2
    exact absurd hlt (List.not_lt.mpr (List.le_trans a1 a2))
theorem z9a{l m:List Str}(h1:sortedS l=true)(h2:sortedS m=true)(p:l.Perm m):l=m :=
 List.Perm.eq_of_pairwise (λa b _ _ h h'=>by
  have e:=List.le_antisymm (List.not_lt.mp h) (List.not_lt.mp h')
  cases a;cases b
  exact congrArg Str.mk (Array.toList_inj.mp e)) (zx5 h1) (zx5 h2) p
def z9b:V->List V->Hp->VK->Prop:=λx vs H Q=>∃ z y:Str,x=.str z/\vs=[.str y]/\Q (.int (Txt.find z y)) H
theorem jkn:MtR X "str.find" z9b:=by
 intro pins s σ H x vs v us Q I rx rv h
 obtain⟨z,y,rfl,rfl,q⟩:=h
 obtain⟨t,rfl⟩:=rx
 obtain⟨u,rfl,ru⟩:=rv.one
 obtain⟨t2,rfl⟩:=ru
 exact PySem.SC.find ⟨.int _,H,I.tok _,⟨_,rfl⟩,q⟩
end
end L2
namespace L2
abbrev Ad:=String->Addr
def SameBut(F:Addr->Prop)(H H':Hp):Prop:=∀ b o,H b=some o->¬ F b->H' b=some o
structure zhw(K:W.Frag)(a:Ad):Prop where
 cl:Cls K (a "Plank")
 nC:NoAttr K (a "Plank") "contents"
 nW:NoAttr K (a "Plank") "width"
 nN:NoAttr K (a "Plank") "written"
def pf(cl:Addr)(w n:Int):List (Str × V):=[("contents",.ref cl),("width",.int w),("written",.int n)]
theorem jms:¬ ("contents":Str)="width":=by decide +kernel
theorem joi:¬ ("contents":Str)="written":=by decide +kernel
theorem joj:¬ ("width":Str)="written":=by decide +kernel
theorem jok(cl:Addr)(w n:Int):(pf cl w n).lookup ("contents":Str)=some (V.ref cl):=by simp[pf]
theorem jpg(cl:Addr)(w n:Int):(pf cl w n).lookup ("width":Str)=some (V.int w):=by
 have h:(("width":Str) == "contents")=false:=beq_eq_false_iff_ne.mpr (Ne.symm jms)
 simp[pf,List.lookup_cons,h]
theorem jmt(cl:Addr)(w n:Int):zfs "written" (.int n) (zfs "width" (.int w) (zfs "contents" (.ref cl) []))=pf cl w n:=by
 simp only[zfs,pf]
 rw[if_neg jms]
 simp only[zfs]
 rw[if_neg joi,if_neg joj]
theorem jh3(cl:Addr)(w n:Int){m:Str}(h1:¬ m="contents")(h2:¬ m="width")(h3:¬ m="written"):(pf cl w n).lookup m=none:=by
 have e1:=beq_eq_false_iff_ne.mpr h1
 have e2:=beq_eq_false_iff_ne.mpr h2
 have e3:=beq_eq_false_iff_ne.mpr h3
 simp[pf,List.lookup_cons,e1,e2,e3]
structure PlankAt(a:Ad)(H:Hp)(p cl:Addr)(w:Nat)(rows:List (List V))(n:Nat):Prop where
 ob:∃ dx,H p=some (.ins (a "Plank") dx (pf cl w n))
 ls:∃ ts:List Addr,H cl=some (.lst (ts.map V.ref))/\Paired (λt r=>H t=some (.tup r)) ts rows
 wd:∀ r∈rows,r.length=w
 sz:rows.length<=1000
 sw:w<=1000
theorem PlankAt.ne{a:Ad}{H:Hp}{p cl:Addr}{w:Nat}{rows:List (List V)}{n:Nat}(P:PlankAt a H p cl w rows n):p≠cl:=by
 obtain⟨⟨dx,h1⟩,⟨ts,h2,_⟩,_⟩:=P
 exact zix h1 h2 (by intro z;cases z)
theorem PlankAt.same{a:Ad}{H H':Hp}{p cl:Addr}{w:Nat}{rows:List (List V)}{n:Nat}(P:PlankAt a H p cl w rows n)(s:Same H H'):PlankAt a H' p cl w rows n:=by
 obtain⟨⟨dx,e1⟩,⟨ts,e2,e3⟩,r1,r2,r3⟩:=P
 exact⟨⟨dx,s _ _ e1⟩,⟨ts,s _ _ e2,Paired.mapP e3 λt r q=>s _ _ q⟩,r1,r2,r3⟩
def zd8(K:W.Frag)(a:Ad):Sp:=λvs H Q _=>∃ (p dx:Addr) (m w:Nat),vs=[.ref p,.int m,.int w]/\zhw K a/\H p=some (.ins (a "Plank") dx [])/\m<=1000/\1<=w/\w<=1000 ∧
 ∀ cl H',H cl=none->PlankAt a H' p cl w (List.replicate m (List.replicate w .non)) 0->SameBut (· =p) H H'->Q .non H'
def zb9(K:W.Frag)(a:Ad):Sp:=λvs H Q _=>∃ p cl w rows n,vs=[.ref p]/\zhw K a/\PlankAt a H p cl w rows n/\Q (.int rows.length) H
def zdo(K:W.Frag)(a:Ad):Sp:=λvs H Q _=>∃ (p cl:Addr) (w:Nat) (rows:List (List V)) (n:Nat),vs=[.ref p]/\zhw K a/\PlankAt a H p cl w rows n/\Q (.int w) H
def za4(K:W.Frag)(a:Ad):Sp:=λvs H Q E=>∃ (p cl:Addr) (w:Nat) (rows:List (List V)) (n:Nat) (b:Int),vs=[.ref p,.int b]/\zhw K a/\PlankAt a H p cl w rows n ∧
 (0<=b->b<rows.length->Q .non H)/\(b<0\/rows.length<=b->E (.ref (a "NoBlock")) none H)
def zc4(K:W.Frag)(a:Ad):Sp:=λvs H Q E=>∃ (p cl:Addr) (w:Nat) (rows:List (List V)) (n:Nat) (b:Int),vs=[.ref p,.int b]/\zhw K a/\PlankAt a H p cl w rows n ∧
 (∀ (i:Nat) row,b=i->rows[i]? =some row->∀ l,H l=none->Q (.ref l) (upd H l (.lst row)))/\(b<0\/rows.length<=b->E (.ref (a "NoBlock")) none H)
def zdp(K:W.Frag)(a:Ad):Sp:=λ_ _ _ _=>False
end L2
namespace L2
theorem zgm{K:W.Frag}{H:Hp}{p:Addr}{xs:List V}{i:Int}{n:Nat}{v:V}{Q:VK}(h:H p=some (.tup xs))(hi:i=n)(hx:xs[n]? =some v)(q:Q v H):zht K (.ref p) (.int i) H Q :=
 .inr (.inl ⟨p,xs,i,v,rfl,rfl,SqT.of h,by rw[hi];exact z6l hx,q⟩)
theorem jca{C C' dx dx':Addr}{fs fs':List (Str × V)}(h:fs≠fs'):HO.ins C dx fs≠HO.ins C' dx' fs':=by
 intro z
 injection z with _ _ z
 exact h z
theorem jph{K:W.Frag}{H:Hp}{p:Addr}{xs:List V}{lo hi:Option Int}{Q:VK}(h:SqL K H p xs)(q:∀ r,H r=none->Q (.ref r) (upd H r (.lst (jg1 xs lo hi)))):jb1 K (.ref p) lo hi H Q:=.inl ⟨p,xs,rfl,h,q⟩
theorem SameBut.refl{F:Addr->Prop}(H:Hp):SameBut F H H:=λ_ _ e _=>e
theorem SameBut.trans{F:Addr->Prop}{H H' H2:Hp}(s:SameBut F H H')(t:SameBut F H' H2):SameBut F H H2:=λb o e n=>t _ _ (s _ _ e n) n
theorem SameBut.wide{F G:Addr->Prop}{H H':Hp}(s:SameBut F H H')(i:∀ x,F x->G x):SameBut G H H':=λb o e n=>s _ _ e λz=>n (i _ z)
theorem Same.sb{F:Addr->Prop}{H H':Hp}(s:Same H H'):SameBut F H H':=λb o e _=>s b o e
theorem SameBut.upd{F:Addr->Prop}{H H':Hp}{p:Addr}{o:HO}(s:SameBut F H H')(h:F p\/H p=none):SameBut F H (upd H' p o):=λb u e n=>by
 have:b≠p:=by
  rcases h with h | h
  ·exact λz=>n (z ▸ h)
  ·exact zay e h
 rw[zal this];exact s _ _ e n
structure Ch where
 blk:Nat
 cell:Nat
 val:V
 nd:List Int
def z2x:List Ch->Int->Int->Option Nat
 | [],_,_=>none
 | c::r,i,j=>if(c.blk:Int)=i/\(c.cell:Int)=j then some r.length else z2x r i j
def zes(cs:List Ch)(i j:Int):Option Nat:=z2x cs.reverse i j
def z6b:List Ch->Nat->List Nat
 | [],_=>[]
 | c::r,b=>if c.blk=b then z6b r b++[r.length]else z6b r b
def z9c(cs:List Ch)(b:Nat):List Nat:=z6b cs.reverse b
theorem zvk(cs:List Ch)(c:Ch)(i j:Int):zes (cs++[c]) i j=if(c.blk:Int)=i/\(c.cell:Int)=j then some cs.length else zes cs i j:=by
 simp[zes,z2x]
theorem jdj(cs:List Ch)(c:Ch)(b:Nat):z9c (cs++[c]) b=if c.blk=b then z9c cs b++[cs.length]else z9c cs b:=by
 simp[z9c,z6b]
theorem z6c:∀ {l:List Ch} {i j:Int} {k:Nat},z2x l i j=some k->k<l.length
 | [],_,_,_,h=>by cases h
 | c::r,i,j,k,h=>by
  unfold z2x at h
  split at h
  ·cases h;simp
  ·have:=z6c h
   simp only[List.length_cons];omega
theorem zm2{cs:List Ch}{i j:Int}{k:Nat}(h:zes cs i j=some k):k<cs.length:=by
 have:=z6c h
 rwa [List.length_reverse]at this
theorem z6d:∀ (l:List Ch) (b:Nat),(z6b l b).length<=l.length
 | [],_=>Nat.le_refl _
 | c::r,b=>by
  have:=z6d r b
  unfold z6b
  split<;>simp<;>omega
theorem jfs(cs:List Ch)(b:Nat):(z9c cs b).length<=cs.length:=by
 have:=z6d cs.reverse b
 rwa [List.length_reverse]at this
def chf(pl:Addr)(v:V)(nt:Addr):List (Str × V):=[("place",.ref pl),("value",v),("needs",.ref nt)]
def bf(gp m mi lt ou:Addr):List (Str × V):=[("ground",.ref gp),("made",.ref m),("made_in",.ref mi),("latest",.ref lt),("outs",.ref ou)]
def ztq(a b:Str):Bool:=a == b
section
variable{pl nt gp m mi lt ou:Addr}{v:V}
theorem zse{a b:Str}(h:ztq a b=false):(a == b)=false:=h
theorem jol:(chf pl v nt).lookup ("value":Str)=some v:=by
 simp[chf,List.lookup_cons,zse (a:="value") (b:="place") (by decide +kernel)]
theorem zx6{f g:Str}{x y:V}{r:List (Str × V)}(h:ztq g f=false):zfs f y ((g,x)::r)=(g,x)::zfs f y r:=by
 have:¬ g=f:=λe=>by rw[e]at h;simp[ztq]at h
 simp[zfs,this]
theorem zri{f:Str}{y:V}:zfs f y []=[(f,y)]:=rfl
theorem jko:zfs "needs" (.ref nt) (zfs "value" v (zfs "place" (.ref pl) []))=chf pl v nt:=by
 rw[zri,zx6 (by decide +kernel),zri,zx6 (by decide +kernel),zx6 (by decide +kernel),zri]
 rfl
theorem jnp:(bf gp m mi lt ou).lookup ("ground":Str)=some (V.ref gp):=by simp[bf]
theorem jmu:(bf gp m mi lt ou).lookup ("made":Str)=some (V.ref m):=by
 simp[bf,List.lookup_cons,zse (a:="made") (b:="ground") (by decide +kernel)]
theorem jpi:(bf gp m mi lt ou).lookup ("made_in":Str)=some (V.ref mi):=by
 simp[bf,List.lookup_cons,zse (a:="made_in") (b:="ground") (by decide +kernel),zse (a:="made_in") (b:="made") (by decide +kernel)]
theorem jo4:(bf gp m mi lt ou).lookup ("latest":Str)=some (V.ref lt):=by
 simp[bf,List.lookup_cons,zse (a:="latest") (b:="ground") (by decide +kernel),zse (a:="latest") (b:="made") (by decide +kernel),zse (a:="latest") (b:="made_in") (by decide +kernel)]
theorem jpj:(bf gp m mi lt ou).lookup ("outs":Str)=some (V.ref ou):=by
 simp[bf,List.lookup_cons,zse (a:="outs") (b:="ground") (by decide +kernel),zse (a:="outs") (b:="made") (by decide +kernel),zse (a:="outs") (b:="made_in") (by decide +kernel),zse (a:="outs") (b:="latest") (by decide +kernel)]
theorem zlo{x:Str}(h:(ztq x "ground" || ztq x "made" || ztq x "made_in" || ztq x "latest" || ztq x "outs")=false):(bf gp m mi lt ou).lookup x=none:=by
 simp only[Bool.or_eq_false_iff]at h
 obtain⟨⟨⟨⟨h1,h2⟩,h3⟩,h4⟩,h5⟩:=h
 simp[bf,List.lookup_cons,zse h1,zse h2,zse h3,zse h4,zse h5]
theorem jmv:zfs "outs" (.ref ou) (zfs "latest" (.ref lt) (zfs "made_in" (.ref mi) (zfs "made" (.ref m) (zfs "ground" (.ref gp) []))))=bf gp m mi lt ou:=by
 repeat (first | rw[zri] | rw[zx6 (by decide +kernel)])
 rfl
end
structure jmw(K:W.Frag)(C D:Addr):Prop where
 cl:Cls K C
 nG:NoAttr K C "ground"
 nM:NoAttr K C "made"
 nI:NoAttr K C "made_in"
 nL:NoAttr K C "latest"
 nO:NoAttr K C "outs"
 cc:Cls K D
 nP:NoAttr K D "place"
 nV:NoAttr K D "value"
 nN:NoAttr K D "needs"
def ChAt(D:Addr)(H:Hp)(x:Addr)(c:Ch):Prop:=∃ dx pl nt,H x=some (.ins D dx (chf pl c.val nt))/\H pl=some (.tup [.int c.blk,.int c.cell])/\H nt=some (.tup (c.nd.map V.int))
structure BA where
 b:Addr
 gp:Addr
 m:Addr
 mi:Addr
 lt:Addr
 ou:Addr
 ls:List Addr
 cl:Addr
def BA.F(A:BA)(x:Addr):Prop:=x=A.m\/x=A.mi\/x∈A.ls\/x=A.lt\/x=A.ou\/x=A.cl
def KeysOk(kvo:List (Key × V))(n:Nat):Prop:=(kvo.map (·.1)).Nodup/\∀ p∈kvo,∃ x:Nat,p.1=Sum.inl (x:Int)/\x<n
theorem KeysOk.mono{kvo:List (Key × V)}{n m:Nat}(h:KeysOk kvo n)(hm:n<=m):KeysOk kvo m:=⟨h.1,λp hp=>by obtain⟨x,e,hx⟩:=h.2 p hp;exact⟨x,e,by omega⟩⟩
theorem KeysOk.len{kvo:List (Key × V)}{n:Nat}(h:KeysOk kvo n):kvo.length<=n:=by
 have:=List.Nodup.length_le_of_subset (l₂:=(List.range n).map λ(k:Nat)=>(Sum.inl (k:Int):Key)) h.1 λk hk=>by
  obtain⟨p,hp,rfl⟩:=List.mem_map.mp hk
  obtain⟨x,e,hx⟩:=h.2 p hp
  rw[e]
  exact List.mem_map.mpr ⟨x,List.mem_range.mpr hx,rfl⟩
 simpa using this
theorem KeysOk.put{kvo:List (Key × V)}{n:Nat}(h:KeysOk kvo n){k:Nat}(hk:k<n)(hn:zre kvo (.inl (k:Int))=none)(v:V):KeysOk (zx0 kvo (.inl (k:Int)) v) n:=by
 refine⟨jjo v h.1 hn,λp hp=> ?_⟩
 rw[jbw v hn]at hp
 rcases List.mem_append.mp hp with hp | hp
 ·exact h.2 p hp
 ·rw[List.mem_singleton.mp hp];exact⟨k,rfl,hk⟩
structure BookIn(C D:Addr)(H:Hp)(A:BA)(w:Nat)(cs:List Ch)(outs:Int->Bool):Prop where
 ob:∃ dx,H A.b=some (.ins C dx (bf A.gp A.m A.mi A.lt A.ou))
 made:∃ chs:List Addr,H A.m=some (.lst (chs.map V.ref))/\Paired (ChAt D H) chs cs
 mil:H A.mi=some (.lst (A.ls.map V.ref))
 mic:∀ (i:Nat) l,A.ls[i]? =some l->H l=some (.lst ((z9c cs i).map λ(k:Nat)=>V.int k))
 nd:A.ls.Nodup
 lat:∃ kvs,H A.lt=some (.dT kvs)/\(∀ i j:Int,zre kvs [.inl i,.inl j]=(zes cs i j).map λ(k:Nat)=>V.int k)/\kvs.length<=cs.length
 out:∃ kvo,H A.ou=some (.dK kvo)/\(∀ k:Int,(zre kvo (.inl k)).isSome=outs k)/\KeysOk kvo cs.length
 sz:cs.length<=990
 inn:∀ c∈cs,c.blk<A.ls.length/\c.cell<w
 need:∀ (k:Nat) c,cs[k]? =some c->(∀ x∈c.nd,0<=x/\x<k)/\c.nd.Pairwise (· <·)/\c.nd.length<=100
 ap:A.m≠A.mi/\A.m∉A.ls/\A.mi∉A.ls/\A.cl≠A.m/\A.cl≠A.mi/\A.cl∉A.ls
 chn:∀ (k:Nat) c,cs[k]? =some c->∀ j,zes (cs.take k) c.blk c.cell=some j->(j:Int)∈c.nd
structure BookAt(a:Ad)(C:Addr)(H:Hp)(A:BA)(w:Nat)(rows:List (List V))(n:Nat)(cs:List Ch)(outs:Int->Bool):Prop where
 bk:BookIn C (a "Change") H A w cs outs
 pk:PlankAt a H A.gp A.cl w rows n
 nb:A.ls.length=rows.length
def zx7(o:Option HO):Prop:=(∀ xs,o≠some (.tup xs))/\∀ C dx fs,o≠some (.ins C dx fs)
theorem ChAt.sb{D:Addr}{G:Addr->Prop}{H H':Hp}(s:SameBut G H H')(g:∀ x,G x->zx7 (H x)){x:Addr}{c:Ch}(h:ChAt D H x c):ChAt D H' x c:=by
 obtain⟨dx,pl,nt,e1,e2,e3⟩:=h
 exact⟨dx,pl,nt,s _ _ e1 λz=>(g _ z).2 _ _ _ e1,s _ _ e2 λz=>(g _ z).1 _ e2,s _ _ e3 λz=>(g _ z).1 _ e3⟩
theorem BookIn.sb{C D:Addr}{G:Addr->Prop}{H H':Hp}{A:BA}{w:Nat}{cs:List Ch}{outs:Int->Bool}(B:BookIn C D H A w cs outs)(s:SameBut G H H')(g:∀ x,G x->zx7 (H x))(f:∀ x,G x->¬ A.F x):BookIn C D H' A w cs outs:=by
 obtain⟨⟨dx,e1⟩,⟨chs,e2,e3⟩,e4,e5,e6,⟨kvs,e7,e8⟩,⟨kvo,e9,e10⟩,r1,r2,r3,r4,r5⟩:=B
 refine⟨⟨dx,s _ _ e1 λz=>(g _ z).2 _ _ _ e1⟩,⟨chs,s _ _ e2 λz=>f _ z (.inl rfl),Paired.mapP e3 λx c h=>h.sb s g⟩,s _ _ e4 λz=>f _ z (.inr (.inl rfl)),λi l h=>s _ _ (e5 i l h) λz=>f _ z (.inr (.inr (.inl (List.mem_of_getElem? h)))),e6,
  ⟨kvs,s _ _ e7 λz=>f _ z (.inr (.inr (.inr (.inl rfl)))),e8⟩,⟨kvo,s _ _ e9 λz=>f _ z (.inr (.inr (.inr (.inr (.inl rfl))))),e10⟩,r1,r2,r3,r4,r5⟩
theorem PlankAt.sbL{a:Ad}{G:Addr->Prop}{H H':Hp}{p cl:Addr}{w:Nat}{rows:List (List V)}{n:Nat}(P:PlankAt a H p cl w rows n)(s:SameBut G H H')(g:∀ x,G x->zx7 (H x))(h:¬ G cl):PlankAt a H' p cl w rows n:=by
 obtain⟨⟨dx,e1⟩,⟨ts,e2,e3⟩,r1,r2,r3⟩:=P
 exact⟨⟨dx,s _ _ e1 λz=>(g _ z).2 _ _ _ e1⟩,⟨ts,s _ _ e2 h,Paired.mapP e3 λt r q=>s _ _ q λz=>(g _ z).1 _ q⟩,r1,r2,r3⟩
theorem BookAt.sb{a:Ad}{C:Addr}{G:Addr->Prop}{H H':Hp}{A:BA}{w:Nat}{rows:List (List V)}{n:Nat}{cs:List Ch}{outs:Int->Bool}(B:BookAt a C H A w rows n cs outs)(s:SameBut G H H')(g:∀ x,G x->zx7 (H x))(f:∀ x,G x->¬ A.F x):BookAt a C H' A w rows n cs outs :=
 ⟨B.bk.sb s g f,B.pk.sbL s g λz=>f _ z (.inr (.inr (.inr (.inr (.inr rfl))))),B.nb⟩
theorem BookAt.same{a:Ad}{C:Addr}{H H':Hp}{A:BA}{w:Nat}{rows:List (List V)}{n:Nat}{cs:List Ch}{outs:Int->Bool}(B:BookAt a C H A w rows n cs outs)(s:Same H H'):BookAt a C H' A w rows n cs outs :=
 B.sb (G:=λ_=>False) (Same.sb s) (λ_ z=>z.elim) λ_ z=>z.elim
theorem BookAt.off{a:Ad}{C:Addr}{H:Hp}{A:BA}{w:Nat}{rows:List (List V)}{n:Nat}{cs:List Ch}{outs:Int->Bool}(B:BookAt a C H A w rows n cs outs){x:Addr}(h:H x=none):¬ A.F x:=by
 obtain⟨⟨_,⟨chs,e2,_⟩,e4,e5,_,⟨kvs,e7,_⟩,⟨kvo,e9,_⟩,_⟩,⟨_,⟨ts,e11,_⟩,_⟩,_⟩:=B
 rintro (z | z | z | z | z | z)
 ·rw[z,e2]at h;cases h
 ·rw[z,e4]at h;cases h
 ·obtain⟨i,hi,e⟩:=List.getElem_of_mem z
  have:=e5 i x (by rw[<-e];exact List.getElem?_eq_getElem hi)
  rw[this]at h;cases h
 ·rw[z,e7]at h;cases h
 ·rw[z,e9]at h;cases h
 ·rw[z,e11]at h;cases h
theorem jmx{α :Type}{l:List α}{x: α}(h:x∈l):∃ i:Nat,l[i]? =some x:=by
 obtain⟨i,hi,e⟩:=List.getElem_of_mem h
 exact⟨i,by rw[<-e];exact List.getElem?_eq_getElem hi⟩
theorem z2y{H:Hp}{x:Addr}{xs:List V}(h:H x=some (.lst xs)):zx7 (H x):=by
 rw[h];exact⟨λ_ z=>(by cases z),λ_ _ _ z=>(by cases z)⟩
theorem jft{H:Hp}{x:Addr}{xs:List (Key × V)}(h:H x=some (.dK xs)):zx7 (H x):=by
 rw[h];exact⟨λ_ z=>(by cases z),λ_ _ _ z=>(by cases z)⟩
theorem jkp{H:Hp}{x:Addr}{xs:List (List Key × V)}(h:H x=some (.dT xs)):zx7 (H x):=by
 rw[h];exact⟨λ_ z=>(by cases z),λ_ _ _ z=>(by cases z)⟩
theorem BookAt.loose{a:Ad}{C:Addr}{H:Hp}{A:BA}{w:Nat}{rows:List (List V)}{n:Nat}{cs:List Ch}{outs:Int->Bool}(B:BookAt a C H A w rows n cs outs){x:Addr}(h:A.F x):zx7 (H x):=by
 obtain⟨⟨_,⟨chs,e2,_⟩,e4,e5,_,⟨kvs,e7,_⟩,⟨kvo,e9,_⟩,_⟩,⟨_,⟨ts,e11,_⟩,_⟩,_⟩:=B
 rcases h with z | z | z | z | z | z
 ·exact z2y (z ▸ e2)
 ·exact z2y (z ▸ e4)
 ·obtain⟨i,e⟩:=jmx z
  exact z2y (e5 i x e)
 ·exact jkp (z ▸ e7)
 ·exact jft (z ▸ e9)
 ·exact z2y (z ▸ e11)
structure jpl(cs:List Ch)(outs:Int->Bool)(ns:List Int)(R:Int->Bool):Prop where
 all:∀ x∈ns,R x=true
 up:∀ (k:Nat) (c:Ch),cs[k]? =some c->outs k=false->R k=true->∀ y∈c.nd,R y=true
 only:∀ x,R x=true->x∈ns\/∃ (k:Nat) (c:Ch),cs[k]? =some c/\outs k=false/\R k=true/\x∈c.nd
end L2
namespace L2
def jmy(nd:List Int)(there:Int->Bool):Option Int:=nd.find? λx=> !there x
structure Pass where
 out:List Nat
 held:List (Nat × Int)
 gone:Int->Bool
def jmz(cs:List Ch)(outs:Int->Bool)(s:Pass)(k:Nat):Pass :=
 if outs k || s.gone k then s else
  match (cs[k]?).bind λc=>jmy c.nd λx=>outs x || s.gone x with
  | none=>⟨s.out++[k],s.held,λx=>s.gone x || x ==(k:Int)⟩
  | some l=>⟨s.out,s.held++[(k,l)],s.gone⟩
def outcome(cs:List Ch)(outs taken:Int->Bool)(b:Nat):Pass:=(z9c cs b).foldl (jmz cs outs) ⟨[],[],taken⟩
end L2
namespace L2
end L2
namespace L2
structure z65(K:W.Frag)(a:Ad):Prop where
 cl:Cls K (a "Layout")
 n1:NoAttr K (a "Layout") "name_blocks"
 n2:NoAttr K (a "Layout") "record_blocks"
 n3:NoAttr K (a "Layout") "piece_blocks"
 n4:NoAttr K (a "Layout") "width"
section
variable{n r c w:Int}
def lf(n r c w:Int):List (Str × V):=[("name_blocks",.int n),("record_blocks",.int r),("piece_blocks",.int c),("width",.int w)]
theorem jnq:(lf n r c w).lookup ("name_blocks":Str)=some (V.int n):=by simp[lf]
theorem jm0:(lf n r c w).lookup ("record_blocks":Str)=some (V.int r):=by
 simp[lf,List.lookup_cons,zse (a:="record_blocks") (b:="name_blocks") (by decide +kernel)]
theorem jom:(lf n r c w).lookup ("piece_blocks":Str)=some (V.int c):=by
 simp[lf,List.lookup_cons,zse (a:="piece_blocks") (b:="name_blocks") (by decide +kernel),zse (a:="piece_blocks") (b:="record_blocks") (by decide +kernel)]
theorem jk4:(lf n r c w).lookup ("width":Str)=some (V.int w):=by
 simp[lf,List.lookup_cons,zse (a:="width") (b:="name_blocks") (by decide +kernel),zse (a:="width") (b:="record_blocks") (by decide +kernel),zse (a:="width") (b:="piece_blocks") (by decide +kernel)]
theorem zgn{x:Str}(h:(ztq x "name_blocks" || ztq x "record_blocks" || ztq x "piece_blocks" || ztq x "width")=false):(lf n r c w).lookup x=none:=by
 simp only[Bool.or_eq_false_iff]at h
 obtain⟨⟨⟨h1,h2⟩,h3⟩,h4⟩:=h
 simp[lf,List.lookup_cons,zse h1,zse h2,zse h3,zse h4]
theorem jm1:zfs "width" (.int w) (zfs "piece_blocks" (.int c) (zfs "record_blocks" (.int r) (zfs "name_blocks" (.int n) [])))=lf n r c w:=by
 repeat (first | rw[zri] | rw[zx6 (by decide +kernel)])
 rfl
end
structure LayAt(a:Ad)(H:Hp)(p:Addr)(n r c w:Nat):Prop where
 ob:∃ dx,H p=some (.ins (a "Layout") dx (lf n r c w))
 hn:n<=100
 hr:r<=100
 hc:c<=100
 h1:1<=w
 hw:w<=100
theorem LayAt.same{a:Ad}{H H':Hp}{p:Addr}{n r c w:Nat}(L:LayAt a H p n r c w)(s:Same H H'):LayAt a H' p n r c w:=by
 obtain⟨⟨dx,e⟩,z1,z2,z3,z4,z5⟩:=L
 exact⟨⟨dx,s _ _ e⟩,z1,z2,z3,z4,z5⟩
theorem LayAt.sb{a:Ad}{F:Addr->Prop}{H H':Hp}{p:Addr}{n r c w:Nat}(L:LayAt a H p n r c w)(s:SameBut F H H')(f:¬ F p):LayAt a H' p n r c w:=by
 obtain⟨⟨dx,e⟩,z1,z2,z3,z4,z5⟩:=L
 exact⟨⟨dx,s _ _ e f⟩,z1,z2,z3,z4,z5⟩
def zdq(K:W.Frag)(a:Ad):Sp:=λvs H Q _=>∃ (p dx:Addr) (n r c w:Nat),vs=[.ref p,.int n,.int r,.int c,.int w]/\z65 K a/\H p=some (.ins (a "Layout") dx [])/\n<=100/\r<=100/\c<=100/\1<=w/\w<=100 ∧
 ∀ H',LayAt a H' p n r c w->SameBut (· =p) H H'->Q .non H'
def znx(x y:Int)(Q:VK)(H:Hp):Prop:=∀ t,H t=none->Q (.ref t) (upd H t (.tup [.int x,.int y]))
def zar(K:W.Frag)(a:Ad):Sp:=λvs H Q _=>∃ (p:Addr) (n r c w k:Nat) (b:Int),vs=[.ref p,.int b,.int k]/\z65 K a/\LayAt a H p n r c w/\znx (b+k / w) (k % w) Q H
def za5(K:W.Frag)(a:Ad):Sp:=λvs H Q _=>∃ (p:Addr) (n r c w k:Nat),vs=[.ref p,.int k]/\z65 K a/\LayAt a H p n r c w/\znx (0+k / w) (k % w) Q H
def zat(K:W.Frag)(a:Ad):Sp:=λvs H Q _=>∃ (p:Addr) (n r c w k:Nat),vs=[.ref p,.int k]/\z65 K a/\LayAt a H p n r c w/\znx (n+k / w) (k % w) Q H
def zbg(K:W.Frag)(a:Ad):Sp:=λvs H Q _=>∃ (p:Addr) (n r c w k:Nat),vs=[.ref p,.int k]/\z65 K a/\LayAt a H p n r c w/\znx (n+r+k / w) (k % w) Q H
def za1(K:W.Frag)(a:Ad):Sp:=λvs H Q _=>∃ (p:Addr) (n r c w k:Nat),vs=[.ref p,.int k]/\z65 K a/\LayAt a H p n r c w/\znx (n+r+c+k / w) (k % w) Q H
def zax(K:W.Frag)(a:Ad):Sp:=λvs H Q _=>∃ (p:Addr) (n r c w k:Nat),vs=[.ref p,.int k]/\z65 K a/\LayAt a H p n r c w/\znx (n+r+c+r+k / w) (k % w) Q H
def zak(K:W.Frag)(a:Ad):Sp:=λvs H Q _=>∃ (p:Addr) (n r c w:Nat),vs=[.ref p]/\z65 K a/\LayAt a H p n r c w/\Q (.int (n+r+c)) H
def zbz(K:W.Frag)(a:Ad):Sp:=λvs H Q _=>∃ (p:Addr) (n r c w:Nat),vs=[.ref p]/\z65 K a/\LayAt a H p n r c w/\Q (.int (n+r+c+r+c)) H
def zbd(K:W.Frag)(a:Ad):Sp:=λvs H Q _=>∃ (p:Addr) (n r c w:Nat),vs=[.ref p]/\z65 K a/\LayAt a H p n r c w/\∀ t,H t=none->Q (.ref t) (upd H t (.tup [.int (n * w),.int (r * w),.int (c * w)]))
def zda(K:W.Frag)(a:Ad):Sp:=λvs H Q _=>∃ (p:Addr) (n r c w:Nat),vs=[.ref p]/\z65 K a/\zhw K a/\LayAt a H p n r c w ∧
 ∀ x cl H',H x=none->H cl=none->PlankAt a H' x cl w (List.replicate (n+r+c+r+c) (List.replicate w .non)) 0->Same H H'->Q (.ref x) H'
end L2
namespace L2
abbrev bkC(a:Ad):Addr:=a "Hold"
def z2z(ns:List Int)(k:Nat):Int:=ns.getD k 0
def zci(K:W.Frag)(a:Ad):Sp:=λvs H Q _=>∃ (s:Addr) (ns:List Int) (k:Nat),vs=[.ref s,.int k]/\SqL K H s (ns.map V.int)/\ns.length<=1000/\Q (.int (z2z ns k)) H
theorem zx8{K:W.Frag}{a:Ad}{s:Addr}{k:Int}{H:Hp}{Q:VK}{E:XK}:zci K a [.ref s,.int k] H Q E=∃ (ns:List Int) (n:Nat),k=n/\SqL K H s (ns.map V.int)/\ns.length<=1000/\Q (.int (z2z ns n)) H:=by simp[zci,and_assoc]
abbrev TB(K:W.Frag)(a:Ad):Prop:=jmw K (bkC a) (a "Change")
abbrev ja4(a:Ad)(H:Hp)(A:BA)(w:Nat)(rows:List (List V))(n:Nat)(cs:List Ch)(outs:Int->Bool):Prop:=BookAt a (bkC a) H A w rows n cs outs
def jfu:Option Nat->V
 | none=>.non
 | some k=>.int k
def z20(n:Nat)(outs:Int->Bool):List Nat:=(List.range n).filter λ(k:Nat)=> !outs k
def zks(l:List Nat):List V:=l.map λ(k:Nat)=>V.int k
abbrev onPl(rows:List (List V))(w:Nat)(i j:Int):Prop:=0<=i/\i<rows.length/\0<=j/\j<w
def zdr(K:W.Frag)(a:Ad):Sp:=λvs H Q _=>∃ x dx pl v nt,vs=[.ref x,.ref pl,v,.ref nt]/\TB K a/\H x=some (.ins (a "Change") dx [])/\Q .non (upd H x (.ins (a "Change") dx (chf pl v nt)))
def zd9(K:W.Frag)(a:Ad):Sp:=λvs H Q _=>∃ (b gp cl dx:Addr) (w:Nat) (rows:List (List V)) (n:Nat),vs=[.ref b,.ref gp]/\TB K a/\zhw K a/\PlankAt a H gp cl w rows n/\H b=some (.ins (bkC a) dx []) ∧
 ∀ (m mi lt ou:Addr) (ls:List Addr) (H':Hp),H m=none->H mi=none->H lt=none->H ou=none->(∀ l∈ls,H l=none)->ja4 a H' ⟨b,gp,m,mi,lt,ou,ls,cl⟩ w rows n [] (λ_=>false)->SameBut (· =b) H H'->Q .non H'
def zea(K:W.Frag)(a:Ad):Sp:=λvs H Q _=>∃ (nl:Addr) (ns:List Int) (o:Option Nat),vs=[.ref nl,jfu o]/\SqL K H nl (ns.map V.int)/\ns.length<=60 ∧
 ∀ (t:Addr) (ks:List Int) (H':Hp),Same H H'->H' t=some (.tup (ks.map V.int))->ks.Pairwise (· <·)->(∀ x,x∈ks↔x∈ns\/∃ k:Nat,o=some k/\x=k)->ks.length<=ns.length+1->Q (.ref t) H'
def zbo(K:W.Frag)(a:Ad):Sp:=λvs H Q E=>∃ (A:BA) (w:Nat) (rows:List (List V)) (n:Nat) (cs:List Ch) (outs:Int->Bool) (pl:Addr) (i j:Int),vs=[.ref A.b,.ref pl]/\TB K a/\zhw K a/\ja4 a H A w rows n cs outs/\H pl=some (.tup [.int i,.int j]) ∧
 (onPl rows w i j->Q .non H)/\(¬ onPl rows w i j->E (.ref (a "NoBlock")) none H)
def zcj(K:W.Frag)(a:Ad):Sp:=λvs H Q E=>∃ (A:BA) (w:Nat) (rows:List (List V)) (n:Nat) (cs:List Ch) (outs:Int->Bool) (pl:Addr) (i j:Int),vs=[.ref A.b,.ref pl]/\TB K a/\zhw K a/\ja4 a H A w rows n cs outs/\H pl=some (.tup [.int i,.int j]) ∧
 (onPl rows w i j->Q (jfu (zes cs i j)) H)/\(¬ onPl rows w i j->E (.ref (a "NoBlock")) none H)
abbrev known(cs:List Ch)(x:Int):Prop:=0<=x/\x<cs.length
def zbh(K:W.Frag)(a:Ad):Sp:=λvs H Q E=>∃ (A:BA) (w:Nat) (rows:List (List V)) (n:Nat) (cs:List Ch) (outs:Int->Bool) (nl:Addr) (ns:List Int),vs=[.ref A.b,.ref nl]/\TB K a/\ja4 a H A w rows n cs outs/\SqL K H nl (ns.map V.int) ∧
 ((∀ x∈ns,known cs x)->Q .non H)/\((∃ x∈ns,¬ known cs x)->E (.ref (a "NoChange")) none H)
def zao(K:W.Frag)(a:Ad):Sp:=λvs H Q E=>∃ (A:BA) (w:Nat) (rows:List (List V)) (n:Nat) (cs:List Ch) (outs:Int->Bool) (pl nl:Addr) (v:V) (ns:List Int) (i j:Int),vs=[.ref A.b,.ref pl,v,.ref nl]/\TB K a/\zhw K a/\ja4 a H A w rows n cs outs/\H pl=some (.tup [.int i,.int j])/\SqL K H nl (ns.map V.int)/\ns.length<=60/\cs.length<990 ∧
 (onPl rows w i j->(∀ x∈ns,known cs x)->∀ (nd:List Int) (H':Hp),nd.Pairwise (· <·)->(∀ x,x∈nd↔x∈ns\/∃ k:Nat,zes cs i j=some k/\x=k)->ja4 a H' A w rows n (cs++[⟨i.toNat,j.toNat,v,nd⟩]) outs->SameBut A.F H H'->Q (.int cs.length) H') ∧
 (¬ onPl rows w i j->E (.ref (a "NoBlock")) none H)/\(onPl rows w i j->(∃ x∈ns,¬ known cs x)->E (.ref (a "NoChange")) none H)
def zcp(K:W.Frag)(a:Ad):Sp:=λvs H Q _=>∃ (A:BA) (w:Nat) (rows:List (List V)) (n:Nat) (cs:List Ch) (outs:Int->Bool),vs=[.ref A.b]/\TB K a/\ja4 a H A w rows n cs outs ∧
 ∀ (l:Addr) (H':Hp),H l=none->Same H H'->H' l=some (.lst (zks (z20 cs.length outs)))->Q (.ref l) H'
def zhx(cs:List Ch)(rows:List (List V))(i j:Int):Option V:=match zes cs i j with
 | some k=>(cs[k]?).map (·.val)
 | none=>(rows[i.toNat]?).bind λr=>r[j.toNat]?
def zbi(K:W.Frag)(a:Ad):Sp:=λvs H Q E=>∃ (A:BA) (w:Nat) (rows:List (List V)) (n:Nat) (cs:List Ch) (outs:Int->Bool) (pl:Addr) (i j:Int),vs=[.ref A.b,.ref pl]/\TB K a/\zhw K a/\ja4 a H A w rows n cs outs/\H pl=some (.tup [.int i,.int j]) ∧
 (onPl rows w i j->∀ (v:V) (H':Hp),zhx cs rows i j=some v->Same H H'->Q v H')/\(¬ onPl rows w i j->E (.ref (a "NoBlock")) none H)
def zdb(K:W.Frag)(a:Ad):Sp:=λ_ _ _ _=>False
def zdc(K:W.Frag)(a:Ad):Sp:=λ_ _ _ _=>False
def zcg(K:W.Frag)(a:Ad):Sp:=λ_ _ _ _=>False
def zeb(K:W.Frag)(a:Ad):Sp:=λvs H Q E=>∃ (A:BA) (w:Nat) (rows:List (List V)) (n:Nat) (cs:List Ch) (outs:Int->Bool) (b:Int),vs=[.ref A.b,.int b]/\TB K a/\zhw K a/\ja4 a H A w rows n cs outs/\(b<0\/rows.length<=b)/\E (.ref (a "NoBlock")) none H
def GoodV:Nat->Hp->V->Prop
 | 0,_,_=>False
 | _+1,_,.int _=>True
 | _+1,_,.non=>True
 | _+1,_,.str z=>PyData.strOk z=true
 | n+1,H,.ref p=>∃ xs,H p=some (.tup xs)/\xs.length<=100/\∀ v∈xs,GoodV n H v
 | _,_,_=>False
def jh4(v:V):Prop:=v=.non\/∃ i,v=.int i
def zij(n r c w kind k:Nat):Nat:=(if kind=0 then 0 else if kind=1 then n+r+c else if kind=2 then n+r+c+r else if kind=3 then n else n+r)+k / w
def zbv(n r c w kind:Nat):Nat:=(if kind=0 then n else if kind=1 then r else if kind=2 then c else if kind=3 then r else c) * w
def z66(kind:Nat)(v:V):Bool:=decide (v=.non) || (decide (0<kind) && decide (v=.int 0))
def z67(f:Nat->Bool)(m:Nat):Int:=match (List.range m).find? f with
 | some k=>k
 | none=> -1
def jm2(H:Hp)(rows:List (List V)):Prop:=∀ r∈rows,∀ v∈r,GoodV 4 H v
def goodH(H:Hp)(cs:List Ch)(rows:List (List V)):Prop:=jm2 H rows/\∀ c∈cs,GoodV 4 H c.val
def z9d(cs:List Ch)(rows:List (List V))(n r c w kind:Nat)(k:Nat):Bool:=match zhx cs rows (zij n r c w kind k:Nat) (k % w:Nat)with
 | some v=>z66 kind v
 | none=>false
def zbp(K:W.Frag)(a:Ad):Sp:=λvs H Q E=>∃ (A:BA) (w:Nat) (rows:List (List V)) (n:Nat) (cs:List Ch) (outs:Int->Bool) (pl vl:Addr) (ts:List Addr) (xs:List V) (f:Nat->Bool) (m:Nat),vs=[.ref A.b,.ref pl,.ref vl]/\TB K a/\zhw K a/\ja4 a H A w rows n cs outs/\H pl=some (.lst (ts.map V.ref))/\ts.length=m/\m<=1000/\H vl=some (.tup xs)/\(∀ z∈xs,jh4 z) ∧
 (∀ k t,ts[k]? =some t->∃ i j v,H t=some (.tup [.int i,.int j])/\onPl rows w i j/\zhx cs rows i j=some v/\GoodV 4 H v/\f k=decide (v∈xs)) ∧
 (∀ k:Nat,z67 f m=k->∀ H',Same H H'->Q (.int k) H')/\(z67 f m= -1->∀ H',Same H H'->E (.ref (a "NoRoom")) none H')
def z68(kind:Nat)(K:W.Frag)(a:Ad)(p b:Addr)(H:Hp)(Q:VK)(E:XK):Prop:=∃ (A:BA) (n r c w:Nat) (rows:List (List V)) (nn:Nat) (cs:List Ch) (outs:Int->Bool),b=A.b/\TB K a/\zhw K a/\z65 K a/\LayAt a H p n r c w/\n<=6/\r<=6/\c<=6/\w<=6/\ja4 a H A w rows nn cs outs/\rows.length=n+r+c+r+c/\(∀ i j v,zhx cs rows i j=some v->GoodV 4 H v) ∧
 (∀ k:Nat,z67 (z9d cs rows n r c w kind) (zbv n r c w kind)=k->∀ H',Same H H'->Q (.int k) H')/\(z67 (z9d cs rows n r c w kind) (zbv n r c w kind)= -1->∀ H',Same H H'->E (.ref (a "NoRoom")) none H')
def zds(K:W.Frag)(a:Ad):Sp:=λvs H Q E=>∃ p b,vs=[.ref p,.ref b]/\z68 0 K a p b H Q E
def zdt(K:W.Frag)(a:Ad):Sp:=λvs H Q E=>∃ p b,vs=[.ref p,.ref b]/\z68 1 K a p b H Q E
def zec(K:W.Frag)(a:Ad):Sp:=λvs H Q E=>∃ p b,vs=[.ref p,.ref b]/\z68 2 K a p b H Q E
def jfv(c:Nat):Bool:=decide (32<=c) && decide (c<=126) && decide (c≠37)
def zm3(c:Nat):Bool:=decide (97<=c) && decide (c<=122)
def zbe(z:Str):Bool:=decide (1<=z.length) && decide (z.length<=8) && z.cps.toList.all zm3
def ztr(z:Str):Bool:=decide (1<=z.length) && decide (z.length<=40) && z.cps.toList.all jfv
def zg4(K:W.Frag)(a:Ad):Sp:=λvs H Q _=>∃ c:Nat,vs=[.str ⟨#[c]⟩]/\Q (.bl (jfv c)) H
def zg5(K:W.Frag)(a:Ad):Sp:=λvs H Q _=>∃ z:Str,vs=[.str z]/\z.length<=1000/\∀ H',Same H H'->Q (.bl (zbe z)) H'
def zfu(K:W.Frag)(a:Ad):Sp:=λvs H Q _=>∃ z:Str,vs=[.str z]/\z.length<=1000/\∀ H',Same H H'->Q (.bl (ztr z)) H'
structure z6e(K:W.Frag)(a:Ad):Prop where
 cl:Cls K (a "Store")
 n1:NoAttr K (a "Store") "plan"
 n2:NoAttr K (a "Store") "book"
 n3:NoAttr K (a "Store") "taken_out"
def sf(lp b tk:Addr):List (Str × V):=[("plan",.ref lp),("book",.ref b),("taken_out",.ref tk)]
structure SA where
 A:BA
 st:Addr
 lp:Addr
 tk:Addr
inductive CV where
 | no
 | nm (z:Str) (k:Nat)
 | mk (i:Nat)
 | rc (m:Nat) (ps:List Nat)
 | tx (z:Str)
abbrev Md:=Nat->Nat->CV
def RepC(H:Hp):CV->V->Prop
 | .no,v=>v=.non
 | .nm z k,v=>∃ t,v=.ref t/\H t=some (.tup [.str z,.int k])
 | .mk i,v=>v=.int i
 | .rc m ps,v=>∃ t u,v=.ref t/\H t=some (.tup [.int m,.ref u])/\H u=some (.tup (zks ps))
 | .tx z,v=>v=.str z
def Md.put(M:Md)(kind k:Nat)(x:CV):Md:=λi j=>if i=kind/\j=k then x else M i j
def jm3:Nat->CV->Prop
 | _,.no=>True
 | 0,.nm _ _=>True
 | 1,.mk i=>i<=1
 | 2,.mk i=>i<=1
 | 3,.rc _ _=>True
 | 4,.tx _=>True
 | _,_=>False
structure SM(a:Ad)(H:Hp)(S:SA)(n r c w:Nat)(rows:List (List V))(nn:Nat)(cs:List Ch)(outs:Int->Bool)(tks:List (Key × V))(M:Md):Prop where
 ob:∃ dx,H S.st=some (.ins (a "Store") dx (sf S.lp S.A.b S.tk))
 ly:LayAt a H S.lp n r c w
 bk:ja4 a H S.A w rows nn cs outs
 tk:H S.tk=some (.dK tks)
 tl:tks.length<=cs.length
 tv:∀ z v,zre tks (.inr z)=some v->∃ k:Nat,v=.int k/\k<cs.length
 ap:¬ S.A.F S.tk
 sz:n<=6/\r<=6/\c<=6/\w<=6/\rows.length=n+r+c+r+c
 gd:goodH H cs rows
 rp:∀ kind k v,kind<5->k<zbv n r c w kind->zhx cs rows (zij n r c w kind k:Nat) (k % w:Nat)=some v->RepC H (M kind k) v
 ok:∀ kind k,kind<5->k<zbv n r c w kind->jm3 kind (M kind k)
def z77(M:Md)(k:Nat):Option (Str × Nat):=match M 0 k with
 | .nm z r=>some (z,r)
 | _=>none
def zpe(M:Md)(m:Nat):List Str:=(List.range m).filterMap λk=>(z77 M k).map (·.1)
def cellOf(M:Md)(m:Nat)(z:Str):Option Nat:=(List.range m).find? λk=>(z77 M k).any λp=>decide (p.1=z)
def zi1(kind:Nat):CV->Bool
 | .no=>true
 | .mk i=>decide (0<kind) && decide (i=0)
 | _=>false
def jfw(M:Md)(kind m:Nat):Int:=z67 (λk=>zi1 kind (M kind k)) m
abbrev TS4(K:W.Frag)(a:Ad):Prop:=TB K a/\zhw K a/\z65 K a/\z6e K a
structure SX where
 S:SA
 n:Nat
 r:Nat
 c:Nat
 w:Nat
 rows:List (List V)
 nn:Nat
 outs:Int->Bool
abbrev SX.at(X:SX)(a:Ad)(H:Hp)(cs:List Ch)(tks:List (Key × V))(M:Md):Prop:=SM a H X.S X.n X.r X.c X.w X.rows X.nn cs X.outs tks M
abbrev SX.m0(X:SX):Nat:=X.n * X.w
def zed(K:W.Frag)(a:Ad):Sp:=λvs H Q _=>∃ (x dx lp gp cl:Addr) (n r c w:Nat) (rows:List (List V)) (nn:Nat) (M:Md),vs=[.ref x,.ref lp,.ref gp]/\TS4 K a/\H x=some (.ins (a "Store") dx [])/\LayAt a H lp n r c w/\PlankAt a H gp cl w rows nn/\(n<=6/\r<=6/\c<=6/\w<=6/\rows.length=n+r+c+r+c)/\jm2 H rows/\(∀ kind k v,kind<5->k<zbv n r c w kind->zhx [] rows (zij n r c w kind k:Nat) (k % w:Nat)=some v->RepC H (M kind k) v)/\(∀ kind k,kind<5->k<zbv n r c w kind->jm3 kind (M kind k)) ∧
 ∀ (S:SA) (H':Hp),S.st=x->S.lp=lp->S.A.gp=gp->S.A.cl=cl->(∀ y o,H y=some o->y=cl\/¬ S.A.F y)->H S.tk=none->SM a H' S n r c w rows nn [] (λ_=>false) [] M->SameBut (· =x) H H'->Q .non H'
def zdl(K:W.Frag)(a:Ad):Sp:=λvs H Q _=>∃ (x dx lp b tk:Addr),vs=[.ref x]/\z6e K a/\H x=some (.ins (a "Store") dx (sf lp b tk))/\Q (.ref b) H
def zdd(K:W.Frag)(a:Ad):Sp:=λvs H Q _=>∃ (x dx lp b tk:Addr),vs=[.ref x]/\z6e K a/\H x=some (.ins (a "Store") dx (sf lp b tk))/\Q (.ref lp) H
def zba(K:W.Frag)(a:Ad):Sp:=λvs H Q _=>∃ (X:SX) (cs:List Ch) (tks:List (Key × V)) (M:Md),vs=[.ref X.S.st]/\TS4 K a/\X.at a H cs tks M ∧
 ∀ (l:Addr) (xs:List V) (H':Hp),Same H H'->H' l=some (.lst xs)->xs.length=X.m0->(∀ k v,xs[k]? =some v->RepC H' (M 0 k) v)->Q (.ref l) H'
def zck(K:W.Frag)(a:Ad):Sp:=λvs H Q _=>∃ (X:SX) (cs:List Ch) (tks:List (Key × V)) (M:Md),vs=[.ref X.S.st]/\TS4 K a/\X.at a H cs tks M ∧
 ∀ (l:Addr) (ks:List Str) (H':Hp),H l=none->Same H H'->H' l=some (.lst (ks.map V.str))->ks.Perm (zpe M X.m0)->sortedS ks=true->Q (.ref l) H'
def zbk(K:W.Frag)(a:Ad):Sp:=λvs H Q _=>∃ (X:SX) (cs:List Ch) (tks:List (Key × V)) (M:Md) (z:Str),vs=[.ref X.S.st,.str z]/\TS4 K a/\X.at a H cs tks M/\∀ (H':Hp),Same H H'->Q (jfu (cellOf M X.m0 z)) H'
def zau(K:W.Frag)(a:Ad):Sp:=λvs H Q E=>∃ (X:SX) (cs:List Ch) (tks:List (Key × V)) (M:Md) (z:Str),vs=[.ref X.S.st,.str z]/\TS4 K a/\X.at a H cs tks M ∧
 (∀ cell k,cellOf M X.m0 z=some cell->cell<X.m0->M 0 cell=.nm z k->∀ H',Same H H'->Q (.int k) H')/\(cellOf M X.m0 z=none->∀ H',Same H H'->E (.ref (a "NoName")) none H')
def zap(K:W.Frag)(a:Ad):Sp:=λvs H Q _=>∃ (X:SX) (cs:List Ch) (tks:List (Key × V)) (M:Md) (rec:Nat),vs=[.ref X.S.st,.int rec]/\TS4 K a/\X.at a H cs tks M/\rec<X.r * X.w/\∀ v H',RepC H' (M 3 rec) v->Same H H'->Q v H'
def za3(K:W.Frag)(a:Ad):Sp:=λvs H Q E=>∃ (X:SX) (cs:List Ch) (tks:List (Key × V)) (M:Md) (z:Str) (gl:Addr) (zs:List Str),vs=[.ref X.S.st,.str z,.ref gl]/\TS4 K a/\X.at a H cs tks M/\H gl=some (.lst (zs.map V.str))/\zs.length<=60/\(∀ y∈zs,y.length<=1000) ∧
 (zs.all zbe=true->cellOf M X.m0 z=none->∀ H',Same H H'->Q .non H')/\(zs.all zbe=false->∀ H',Same H H'->E (.ref (a "NoName")) none H')/\(zs.all zbe=true->(∃ k,cellOf M X.m0 z=some k)->∀ H',Same H H'->E (.ref (a "Twice")) none H')
def jnr(X:SX)(a:Ad)(H:Hp)(cs:List Ch)(tks:List (Key × V))(M':Md)(Q:VK):Prop:=∀ (ch:Ch) (H':Hp),X.at a H' (cs++[ch]) tks M'->SameBut X.S.A.F H H'->Q (.int cs.length) H'
def zbm(K:W.Frag)(a:Ad):Sp:=λvs H Q _=>∃ (X:SX) (cs:List Ch) (tks:List (Key × V)) (M:Md) (cell rec need:Nat) (z:Str),vs=[.ref X.S.st,.int cell,.str z,.int rec,.int need]/\TS4 K a/\X.at a H cs tks M/\cell<X.m0/\need<cs.length/\cs.length<980/\PyData.strOk z=true/\jnr X a H cs tks (M.put 0 cell (.nm z rec)) Q
def zbl(K:W.Frag)(a:Ad):Sp:=λvs H Q _=>∃ (X:SX) (cs:List Ch) (tks:List (Key × V)) (M:Md) (rec m m':Nat) (more:Int) (ps:List Nat) (nl:Addr) (ns:List Int),vs=[.ref X.S.st,.int rec,.int more,.ref nl]/\TS4 K a/\X.at a H cs tks M/\rec<X.r * X.w/\M 3 rec=.rc m ps/\(m:Int)+more=m'/\ps.length<=100/\H nl=some (.lst (ns.map V.int))/\ns.length<=60/\(∀ x∈ns,known cs x)/\cs.length<980/\jnr X a H cs tks (M.put 3 rec (.rc m' ps)) Q
def zb0(K:W.Frag)(a:Ad):Sp:=λvs H Q _=>∃ (X:SX) (cs:List Ch) (tks:List (Key × V)) (M:Md) (rec m:Nat) (ps ps':List Nat) (pl nl:Addr) (ns:List Int),vs=[.ref X.S.st,.int rec,.ref pl,.ref nl]/\TS4 K a/\X.at a H cs tks M/\rec<X.r * X.w/\M 3 rec=.rc m ps/\H pl=some (.tup (zks ps'))/\ps'.length<=100/\H nl=some (.lst (ns.map V.int))/\ns.length<=60/\(∀ x∈ns,known cs x)/\cs.length<980/\jnr X a H cs tks (M.put 3 rec (.rc m ps')) Q
def zbj(K:W.Frag)(a:Ad):Sp:=λvs H Q _=>∃ (X:SX) (cs:List Ch) (tks:List (Key × V)) (M:Md) (cell:Nat) (z:Str) (nl:Addr) (ns:List Int),vs=[.ref X.S.st,.str z,.ref nl]/\TS4 K a/\X.at a H cs tks M/\cellOf M X.m0 z=some cell/\cell<X.m0/\H nl=some (.lst (ns.map V.int))/\ns.length<=60/\(∀ x∈ns,known cs x)/\cs.length<980 ∧
 ∀ (ch:Ch) (H':Hp),X.at a H' (cs++[ch]) (zx0 tks (.inr z) (.int cs.length)) (M.put 0 cell .no)->SameBut (λx=>X.S.A.F x\/x=X.S.tk) H H'->Q (.int cs.length) H'
def Md.unmark(M:Md)(ps:List Nat):Md:=ps.foldl (λM p=>M.put 2 p (.mk 0)) M
def zbq(K:W.Frag)(a:Ad):Sp:=λvs H Q _=>∃ (X:SX) (cs:List Ch) (tks:List (Key × V)) (M:Md) (rec m gone:Nat) (ps:List Nat),vs=[.ref X.S.st,.int rec,.int gone]/\TS4 K a/\X.at a H cs tks M/\rec<X.r * X.w/\M 3 rec=.rc m ps/\gone<cs.length/\(∀ p∈ps,p<X.c * X.w)/\ps.length<=36/\cs.length<940 ∧
 ∀ (ex:List Ch) (l:Addr) (H':Hp),H l=none->H' l=some (.lst (zks ((List.range (ps.length+2)).map (cs.length+·))))->ex.length=ps.length+2->X.at a H' (cs++ex) tks (((M.put 3 rec .no).unmark ps).put 1 rec (.mk 0))->SameBut X.S.A.F H H'->Q (.ref l) H'
def jfx(X:SX)(a:Ad)(H:Hp)(cs:List Ch)(d:Nat)(M':Md)(Q:VK):Prop:=∀ (ex:List Ch) (tks':List (Key × V)) (l:Addr) (H':Hp),ex.length=d->H l=none->H' l=some (.lst (zks ((List.range d).map (cs.length+·))))->X.at a H' (cs++ex) tks' M'->SameBut (λx=>X.S.A.F x\/x=X.S.tk) H H'->Q (.ref l) H'
def z2d(a:Ad)(H:Hp)(c:String)(E:XK):Prop:=∀ H',Same H H'->E (.ref (a c)) none H'
def zc5(K:W.Frag)(a:Ad):Sp:=λvs H Q E=>∃ (X:SX) (cs:List Ch) (tks:List (Key × V)) (M:Md) (z:Str),vs=[.ref X.S.st,.str z]/\TS4 K a/\X.at a H cs tks M/\z.length<=1000/\cs.length<900 ∧
 (zbe z=true->cellOf M X.m0 z=none->∀ rec cell:Nat,jfw M 1 (X.r * X.w)=rec->jfw M 0 X.m0=cell->rec<X.r * X.w->cell<X.m0->jfx X a H cs 3 (((M.put 1 rec (.mk 1)).put 3 rec (.rc 1 [])).put 0 cell (.nm z rec)) Q) ∧
 (zbe z=false->z2d a H "NoName" E)/\(zbe z=true->(∃ k,cellOf M X.m0 z=some k)->z2d a H "Twice" E) ∧
 (zbe z=true->cellOf M X.m0 z=none->(jfw M 1 (X.r * X.w)= -1\/jfw M 0 X.m0= -1)->z2d a H "NoRoom" E)
def zb2(K:W.Frag)(a:Ad):Sp:=λvs H Q E=>∃ (X:SX) (cs:List Ch) (tks:List (Key × V)) (M:Md) (y z:Str),vs=[.ref X.S.st,.str y,.str z]/\TS4 K a/\X.at a H cs tks M/\y.length<=1000/\z.length<=1000/\cs.length<900 ∧
 (zbe y=true->zbe z=true->cellOf M X.m0 z=none->∀ old rec cell:Nat,cellOf M X.m0 y=some old->old<X.m0->M 0 old=.nm y rec->rec<X.r * X.w/\∃ m ps,M 3 rec=.rc m ps/\ps.length<=100/\(jfw M 0 X.m0=cell->cell<X.m0->jfx X a H cs 2 ((M.put 3 rec (.rc (m+1) ps)).put 0 cell (.nm z rec)) Q)) ∧
 ((zbe y && zbe z)=false->z2d a H "NoName" E)/\(zbe y=true->zbe z=true->(∃ k,cellOf M X.m0 z=some k)->z2d a H "Twice" E)/\(zbe y=true->zbe z=true->cellOf M X.m0 z=none->cellOf M X.m0 y=none->z2d a H "NoName" E) ∧
 (zbe y=true->zbe z=true->cellOf M X.m0 z=none->(∃ k,cellOf M X.m0 y=some k)->jfw M 0 X.m0= -1->z2d a H "NoRoom" E)
def zdu(K:W.Frag)(a:Ad):Sp:=λvs H Q E=>∃ (X:SX) (cs:List Ch) (tks:List (Key × V)) (M:Md) (z:Str),vs=[.ref X.S.st,.str z]/\TS4 K a/\X.at a H cs tks M/\cs.length<900 ∧
 (∀ cell rec:Nat,cellOf M X.m0 z=some cell->cell<X.m0->M 0 cell=.nm z rec->rec<X.r * X.w/\∃ m ps,M 3 rec=.rc m ps/\(∀ p∈ps,p<X.c * X.w)/\ps.length<=36 ∧
  (1<m->jfx X a H cs 2 ((M.put 0 cell .no).put 3 rec (.rc (m - 1) ps)) Q)/\(m<=1->jfx X a H cs (ps.length+3) ((((M.put 0 cell .no).put 3 rec .no).unmark ps).put 1 rec (.mk 0)) Q)) ∧
 (cellOf M X.m0 z=none->z2d a H "NoName" E)
def zcv(K:W.Frag)(a:Ad):Sp:=λvs H Q E=>∃ (X:SX) (cs:List Ch) (tks:List (Key × V)) (M:Md) (z t:Str),vs=[.ref X.S.st,.str z,.str t]/\TS4 K a/\X.at a H cs tks M/\t.length<=1000/\PyData.strOk t=true/\cs.length<900 ∧
 (∀ cell rec:Nat,cellOf M X.m0 z=some cell->cell<X.m0->M 0 cell=.nm z rec->ztr t=true->∀ p:Nat,jfw M 2 (X.c * X.w)=p->p<X.c * X.w->rec<X.r * X.w/\∃ m ps,M 3 rec=.rc m ps/\ps.length<=90/\jfx X a H cs 3 (((M.put 2 p (.mk 1)).put 4 p (.tx t)).put 3 rec (.rc m (ps++[p]))) Q) ∧
 (cellOf M X.m0 z=none->z2d a H "NoName" E)/\((∃ k,cellOf M X.m0 z=some k)->ztr t=false->z2d a H "NoPiece" E)/\((∃ k,cellOf M X.m0 z=some k)->ztr t=true->jfw M 2 (X.c * X.w)= -1->z2d a H "NoRoom" E)
def zcl(K:W.Frag)(a:Ad):Sp:=λvs H Q E=>∃ (X:SX) (cs:List Ch) (tks:List (Key × V)) (M:Md) (z:Str),vs=[.ref X.S.st,.str z]/\TS4 K a/\X.at a H cs tks M ∧
 (∀ cell rec:Nat,cellOf M X.m0 z=some cell->cell<X.m0->M 0 cell=.nm z rec->rec<X.r * X.w/\∃ m ps,M 3 rec=.rc m ps/\ps.length<=100/\∃ ts:List Str,Paired (λp t=>p<X.c * X.w/\M 4 p=.tx t) ps ts/\∀ l H',H l=none->Same H H'->H' l=some (.lst (ts.map V.str))->Q (.ref l) H') ∧
 (cellOf M X.m0 z=none->z2d a H "NoName" E)
def zca(K:W.Frag)(a:Ad):Sp:=λvs H Q E=>∃ (X:SX) (cs:List Ch) (tks:List (Key × V)) (M:Md) (z:Str) (x:Int),vs=[.ref X.S.st,.str z,.int x]/\TS4 K a/\X.at a H cs tks M ∧
 (∀ cell rec:Nat,cellOf M X.m0 z=some cell->cell<X.m0->M 0 cell=.nm z rec->rec<X.r * X.w/\∃ m ps,M 3 rec=.rc m ps/\ps.length<=100/\(x<0\/ps.length<=x)/\z2d a H "NoPiece" E)/\(cellOf M X.m0 z=none->z2d a H "NoName" E)
def zcq(K:W.Frag)(a:Ad):Sp:=λvs H Q E=>∃ (X:SX) (cs:List Ch) (tks:List (Key × V)) (M:Md) (y z:Str),vs=[.ref X.S.st,.str y,.str z]/\TS4 K a/\X.at a H cs tks M/\y.length<=1000/\z.length<=1000/\cs.length<900/\(zbe y && zbe z)=false/\z2d a H "NoName" E
def zc6(K:W.Frag)(a:Ad):Sp:=λvs H Q E=>∃ (X:SX) (cs:List Ch) (tks:List (Key × V)) (M:Md) (x:Int),vs=[.ref X.S.st,.int x]/\TS4 K a/\X.at a H cs tks M/\(x<0\/X.rows.length<=x)/\z2d a H "NoBlock" E
structure TE1(K:W.Frag)(a:Ad)(c:String)(b1 b2 b3:Bool):Prop where
 ec:jlz K (a c)
 hit:W.exmOne K (.ref (a c)) (.ref (a "HoldError"))=some true
 i1:W.kitOne K (.ref (a c)) (.ref (a "NoName"))=some b1
 i2:W.kitOne K (.ref (a c)) (.ref (a "NoPiece"))=some b2
 i3:W.kitOne K (.ref (a c)) (.ref (a "NoBlock"))=some b3
 iv:W.kitOne K (.ref (a c)) (.type "ValueError")=some true
 no:W.kitAny K (.ref (a c)) [.ref (a "NoChange"),.ref (a "NoRoom"),.ref (a "NoRow"),.ref (a "NotSound"),.ref (a "Twice")]=some false
structure TD(K:W.Frag)(a:Ad):Prop where
 n1:W.exmOne K (.ref (a "NoName")) (.ref (a "NoName"))=some true
 t1:W.exmOne K (.ref (a "Twice")) (.ref (a "NoName"))=some false
 t2:W.exmOne K (.ref (a "Twice")) (.ref (a "Twice"))=some true
 p1:W.exmOne K (.ref (a "NoPiece")) (.ref (a "NoName"))=some false
 p2:W.exmOne K (.ref (a "NoPiece")) (.ref (a "Twice"))=some false
 p3:W.exmOne K (.ref (a "NoPiece")) (.ref (a "NoPiece"))=some true
 r1:W.exmOne K (.ref (a "NoRoom")) (.ref (a "NoName"))=some false
 r2:W.exmOne K (.ref (a "NoRoom")) (.ref (a "Twice"))=some false
 r3:W.exmOne K (.ref (a "NoRoom")) (.ref (a "NoPiece"))=some false
 r4:W.exmOne K (.ref (a "NoRoom")) (.ref (a "NoRoom"))=some true
structure TX4(K:W.Frag)(a:Ad):Prop where
 n:TE1 K a "NoName" true false false
 p:TE1 K a "NoPiece" false true false
 b:TE1 K a "NoBlock" false false true
 d:TD K a
def ldB(M:Md)(rec k:Nat):Bool:=match M 0 k with
 | .nm _ r=>decide (r=rec)
 | _=>false
def zkt(M:Md)(m rec:Nat):Nat:=(List.range m).countP (ldB M rec)
structure Snd(X:SX)(M:Md):Prop where
 m1:∀ k z rec,k<X.m0->M 0 k=.nm z rec->zbe z=true/\rec<X.r * X.w/\∃ m ps,M 3 rec=.rc m ps
 m3:∀ rec m ps,rec<X.r * X.w->M 3 rec=.rc m ps->m=zkt M X.m0 rec
 m4:∀ rec m ps,rec<X.r * X.w->M 3 rec=.rc m ps->ps.Nodup/\(∀ p∈ps,p<X.c * X.w/\M 2 p=.mk 1/\∃ t,M 4 p=.tx t/\PyData.strOk t=true)/\M 1 rec=.mk 1
 m5:∀ rec rec' m m' ps ps' p,rec<X.r * X.w->rec'<X.r * X.w->rec≠rec'->M 3 rec=.rc m ps->M 3 rec'=.rc m' ps'->p∈ps->¬ p∈ps'
structure K4(a:Ad)(H:Hp)(X:SX)(cs:List Ch)(tks:List (Key × V))(M:Md):Prop where
 st:X.at a H cs tks M
 sd:Snd X M
 six:X.c * X.w<=6
def zlp(X:SX)(M:Md)(z:Str)(kind:Nat):String:=if kind=11 then "NoBlock" else if(kind=8\/kind=9)/\(cellOf M X.m0 z).isSome=true then "NoPiece" else "NoName"
def zex(K:W.Frag)(a:Ad):Sp:=λvs H Q _=>∃ x:Int,vs=[.int x]/\∀ (l:Addr) (zs:List Str) (H':Hp),H l=none->Same H H'->H' l=some (.lst (zs.map V.str))->zs.length=5->(∀ z∈zs,zbe z=true)->Q (.ref l) H'
def zfv(K:W.Frag)(a:Ad):Sp:=λvs H Q _=>∃ x:Int,vs=[.int x]/\∀ (t:Str) (H':Hp),t.length<=40->PyData.strOk t=true->Same H H'->Q (.str t) H'
def zi2(K:W.Frag)(a:Ad):Sp:=λvs H Q _=>∃ x:Int,vs=[.int x]/\∀ y,Q (.int y) H
def zcr(K:W.Frag)(a:Ad):Sp:=λvs H Q _=>∃ (x:Int) (z:Str),vs=[.int x,.str z]/\zbe z=true/\∀ (y:Str) (H':Hp),zbe y=false->y.length<=20->Same H H'->Q (.str y) H'
def zfw(K:W.Frag)(a:Ad):Sp:=λvs H Q _=>∃ (X:SX) (cs:List Ch) (tks:List (Key × V)) (M:Md) (kind:Nat) (y z:Str) (x:Int),vs=[.ref X.S.st,.int kind,.str y,.str z,.int x]/\TS4 K a/\TD K a/\K4 a H X cs tks M/\cs.length<850/\(kind=0\/kind=2\/kind=3\/kind=4)/\zbe y=true/\zbe z=true ∧
 ∀ v cs' tks' M' H',K4 a H' X cs' tks' M'->cs'.length<=cs.length+9->SameBut (λx=>X.S.A.F x\/x=X.S.tk) H H'->Q v H'
def zey(K:W.Frag)(a:Ad):Sp:=λvs H Q E=>∃ (X:SX) (cs:List Ch) (tks:List (Key × V)) (M:Md) (kind:Nat) (y z:Str) (x:Int),vs=[.ref X.S.st,.int kind,.str y,.str z,.int x]/\TS4 K a/\K4 a H X cs tks M/\cs.length<850/\kind<12/\zbe y=false/\y.length<=20/\zbe z=true/\z2d a H (zlp X M z kind) E
def zc7(K:W.Frag)(a:Ad):Sp:=λvs H Q _=>∃ (X:SX) (cs:List Ch) (tks:List (Key × V)) (M:Md) (kind:Nat) (y z:Str) (x:Int),vs=[.ref X.S.st,.int kind,.str y,.str z,.int x,.str (Str.ofString (zlp X M z kind))]/\TS4 K a/\TX4 K a/\K4 a H X cs tks M/\cs.length<850/\kind<12/\zbe y=false/\y.length<=20/\zbe z=true/\∀ H',Same H H'->Q (.bl true) H'
def TxtOf(X:SX)(M:Md)(z:Str):Option (List Str)->Prop
 | none=>cellOf M X.m0 z=none
 | some ts=>∃ cell rec m ps,cellOf M X.m0 z=some cell/\M 0 cell=.nm z rec/\M 3 rec=.rc m ps/\Paired (λp t=>M 4 p=.tx t/\PyData.strOk t=true) ps ts
def LookAt(X:SX)(cs:List Ch)(M:Md)(z:Str)(H:Hp)(t:Addr):Prop:=∃ (l1 l3:Addr) (ks:List Str) (v:V) (o:Option (List Str)),H t=some (.tup [.ref l1,v,.ref l3,.bl true])/\H l1=some (.lst (ks.map V.str))/\ks.Perm (zpe M X.m0)/\sortedS ks=true/\TxtOf X M z o/\(match o with
 | none=>v=.non
 | some ts=>∃ l2,v=.ref l2/\H l2=some (.lst (ts.map V.str)))/\H l3=some (.lst (zks (z20 cs.length X.outs)))
def ze3(K:W.Frag)(a:Ad):Sp:=λvs H Q _=>∃ (X:SX) (cs:List Ch) (tks:List (Key × V)) (M:Md) (z:Str),vs=[.ref X.S.st,.str z]/\TS4 K a/\TD K a/\K4 a H X cs tks M/\∀ t H',LookAt X cs M z H' t->Same H H'->Q (.ref t) H'
def z6f(K:W.Frag)(a:Ad):Sp:=λvs H Q _=>∃ (s:Addr) (ns:List Int),vs=[.ref s]/\TS4 K a/\TX4 K a/\SqL K H s (ns.map V.int)/\ns.length<=63/\∀ H',Q (.bl true) H'
end L2
namespace L2
abbrev FK:=W.Frag
abbrev XE:=St->XK
theorem ap3{f g:TS}(h:f=g)(D:Ends)(σ:St)(H:Hp):f D σ H=g D σ H:=by rw[h]
section
variable{K:FK}{a:Ad}{n:Nat}{E E1:XE}{D:Ends}{σ:St}{H:Hp}
def zny(K:FK)(a:Ad)(E E1:XE):TS:=(z53 K (tVr 0) (tVr 1) "place")
theorem zts:type_of% (ap3 (zny.eq_1 K a E E1) D σ H):=rfl
def znz(K:FK)(a:Ad)(E E1:XE):TS:=(z53 K (tVr 0) (tVr 2) "value")
theorem ztt:type_of% (ap3 (znz.eq_1 K a E E1) D σ H):=rfl
def zn0(K:FK)(a:Ad)(E E1:XE):TS:=(z53 K (tVr 0) (tVr 3) "needs")
theorem ztu:type_of% (ap3 (zn0.eq_1 K a E E1) D σ H):=rfl
def zik(K:FK)(a:Ad)(E:XE):TS:=(zby (zny K a E E) (zby (znz K a E E) (zn0 K a E E)))
def zmd(K:FK)(a:Ad)(E E1:XE):TS:=(zgc (zl9 (z0k (zac (tCB (zcc K) (zac (zdx K (tVr 0) "made") zaw)) zaw)) (zaz 0) (tB (ztn (tVr 0) (zdx K (tVr 1) "outs"))) (tVr 0) 1 [0]))
theorem zrm:type_of% (ap3 (zmd.eq_1 K a E E1) D σ H):=rfl
def zhg(K:FK)(a:Ad)(E:XE):TS:=(zmd K a E E)
def zgo(K:FK)(a:Ad)(E E1:XE):TS:=(znw (a "NoChange") E (zac (tC (.str "there is no change of such a number")) zaw))
theorem zfl:type_of% (ap3 (zgo.eq_1 K a E E1) D σ H):=rfl
def zgp(K:FK)(a:Ad)(E E1:XE):TS:=(zkr (jds (zek (znu z8q jdu (tC (.int 0)) (tVr 2) (tCB (zcc K) (zac (zdx K (tVr 0) "made") zaw))))) (zgo K a E E) zha)
theorem zfm:type_of% (ap3 (zgp.eq_1 K a E E1) D σ H):=rfl
def zgq(K:FK)(a:Ad)(E E1:XE):TS:=(jad (jb2 K (tVr 1)) (zaz 2) (zgp K a E E))
theorem zfn:type_of% (ap3 (zgq.eq_1 K a E E1) D σ H):=rfl
def zdm(K:FK)(a:Ad)(E:XE):TS:=(zgq K a E E)
def zpf(K:FK)(a:Ad)(E E1:XE):TS:=(zgc (tCB (zge K) (zac (z2c K (tVr 0)) zaw)))
theorem zk0:type_of% (ap3 (zpf.eq_1 K a E E1) D σ H):=rfl
def zpg(K:FK)(a:Ad)(E E1:XE):TS:=(zkr (zek (tOp jk2 (tVr 1) (tC .non))) (zpf K a E E) zha)
theorem zk1:type_of% (ap3 (zpg.eq_1 K a E E1) D σ H):=rfl
def zph(K:FK)(a:Ad)(E E1:XE):TS:=(zgc (tCB (zge K) (zac (z2c K (tOp (zcy K) (tCB (zft K) (zac (tVr 0) zaw)) (zll (zac (tVr 1) zaw)))) zaw)))
theorem zk2:type_of% (ap3 (zph.eq_1 K a E E1) D σ H):=rfl
def zhh(K:FK)(a:Ad)(E:XE):TS:=(zby (zpg K a E E) (zph K a E E))
def zx9(K:FK)(a:Ad)(E E1:XE):TS:=(zgc (tVr 3))
def zya(K:FK)(a:Ad)(E E1:XE):TS:=(zkr (jkz (tB (ztn (tVr 3) (zdx K (tVr 0) "outs"))) (tB (ztn (tVr 3) (tVr 2)))) (zx9 K a E E) zha)
def zyb(K:FK)(a:Ad)(E E1:XE):TS:=(jad (jb2 K (zdx K (tOp (zht K) (zdx K (tVr 0) "made") (tVr 1)) "needs")) (zaz 3) (zya K a E E))
def zyc(K:FK)(a:Ad)(E E1:XE):TS:=(zgc (tC .non))
def zkg(K:FK)(a:Ad)(E:XE):TS:=(zby (zyb K a E E) (zyc K a E E))
def ztv(K:FK)(a:Ad)(E E1:XE):TS:=(zd5 (tCB (zft K) (zac (tVr 1) zaw)) (zaz 3))
def ztw(K:FK)(a:Ad)(E E1:XE):TS:=(zd5 (zdx K (tOp (zht K) (zdx K (tVr 0) "made") (tVr 4)) "value") (jng (tVr 3) (tOp (zht K) (zdx K (tOp (zht K) (zdx K (tVr 0) "made") (tVr 4)) "place") (tC (.int 1))) jju))
def ztx(K:FK)(a:Ad)(E E1:XE):TS:=(zkr (tB (jnk (tVr 4) (zdx K (tVr 0) "outs"))) (ztw K a E E) zha)
def zty(K:FK)(a:Ad)(E E1:XE):TS:=(jad (jb2 K (tOp (zht K) (zdx K (tVr 0) "made_in") (tVr 2))) (zaz 4) (ztx K a E E))
def ztz(K:FK)(a:Ad)(E E1:XE):TS:=(zgc (tVr 3))
def zh8(K:FK)(a:Ad)(E:XE):TS:=(zby (ztv K a E E) (zby (zty K a E E) (ztz K a E E)))
def z0f(K:FK)(a:Ad)(E E1:XE):TS:=(zgc (jag (znu z8q z8q (tC (.str " ")) (tVr 0) (tC (.str "~"))) (tOp (jhd K) (tCB (zm0 K) (zac (tVr 0) zaw)) (tC (.int 37)))))
theorem z21:type_of% (ap3 (z0f.eq_1 K a E E1) D σ H):=rfl
def zrj(K:FK)(a:Ad)(E:XE):TS:=(z0f K a E E)
def z0g(K:FK)(a:Ad)(E E1:XE):TS:=(zgc (jag (znu z8q z8q (tC (.int 1)) (tCB (zcc K) (zac (tVr 0) zaw)) (tC (.int 8))) (tCB (zkf K) (zac (zl9 (jnm (tVr 0)) (zaz 0) zju (znu z8q z8q (tC (.str "a")) (tVr 0) (tC (.str "z"))) 1 []) zaw))))
theorem z22:type_of% (ap3 (z0g.eq_1 K a E E1) D σ H):=rfl
def zrk(K:FK)(a:Ad)(E:XE):TS:=(z0g K a E E)
def zme(K:FK)(a:Ad)(E E1:XE):TS:=(zgc (zdx K (tVr 0) "plan"))
theorem zrn:type_of% (ap3 (zme.eq_1 K a E E1) D σ H):=rfl
def zhi(K:FK)(a:Ad)(E:XE):TS:=(zme K a E E)
def zpi(K:FK)(a:Ad)(E E1:XE):TS:=(zgc (zdx K (tVr 0) "book"))
theorem zvl:type_of% (ap3 (zpi.eq_1 K a E E1) D σ H):=rfl
def zjw(K:FK)(a:Ad)(E:XE):TS:=(zpi K a E E)
def zpj(K:FK)(a:Ad)(E E1:XE):TS:=(z53 K (tVr 0) (zl9 (z0k (zac (tVr 1) zaw)) (zaz 0) zju (tOp (zvh K) (z6k (zac (tC .non) zaw)) (tVr 1)) 1 [2]) "contents")
theorem zvm:type_of% (ap3 (zpj.eq_1 K a E E1) D σ H):=rfl
def zpk(K:FK)(a:Ad)(E E1:XE):TS:=(z53 K (tVr 0) (tVr 2) "width")
theorem zvn:type_of% (ap3 (zpk.eq_1 K a E E1) D σ H):=rfl
def zpl(K:FK)(a:Ad)(E E1:XE):TS:=(z53 K (tVr 0) (tC (.int 0)) "written")
theorem zvo:type_of% (ap3 (zpl.eq_1 K a E E1) D σ H):=rfl
def zjx(K:FK)(a:Ad)(E:XE):TS:=(zby (zpj K a E E) (zby (zpk K a E E) (zpl K a E E)))
def zmf(K:FK)(a:Ad)(E E1:XE):TS:=(zgc (tCB (zcc K) (zac (zdx K (tVr 0) "contents") zaw)))
theorem zro:type_of% (ap3 (zmf.eq_1 K a E E1) D σ H):=rfl
def zhj(K:FK)(a:Ad)(E:XE):TS:=(zmf K a E E)
def zn1(K:FK)(a:Ad)(E E1:XE):TS:=(zgc (zdx K (tVr 0) "width"))
theorem zt0:type_of% (ap3 (zn1.eq_1 K a E E1) D σ H):=rfl
def zil(K:FK)(a:Ad)(E:XE):TS:=(zn1 K a E E)
def zg6(K:FK)(a:Ad)(E E1:XE):TS:=(znw (a "NoBlock") E (zac (tC (.str "there is no such block")) zaw))
theorem zkh:type_of% (ap3 (zg6.eq_1 K a E E1) D σ H):=rfl
def zg7(K:FK)(a:Ad)(E E1:XE):TS:=(zkr (jds (zek (znu z8q jdu (tC (.int 0)) (tVr 1) (tCB (zcc K) (zac (zdx K (tVr 0) "contents") zaw))))) (zg6 K a E E) zha)
theorem zki:type_of% (ap3 (zg7.eq_1 K a E E1) D σ H):=rfl
def zd3(K:FK)(a:Ad)(E:XE):TS:=(zg7 K a E E)
def zn2(K:FK)(a:Ad)(E E1:XE):TS:=(z53 K (tVr 0) (tVr 1) "name_blocks")
theorem zt1:type_of% (ap3 (zn2.eq_1 K a E E1) D σ H):=rfl
def zn3(K:FK)(a:Ad)(E E1:XE):TS:=(z53 K (tVr 0) (tVr 2) "record_blocks")
theorem zt2:type_of% (ap3 (zn3.eq_1 K a E E1) D σ H):=rfl
def zn4(K:FK)(a:Ad)(E E1:XE):TS:=(z53 K (tVr 0) (tVr 3) "piece_blocks")
theorem zt3:type_of% (ap3 (zn4.eq_1 K a E E1) D σ H):=rfl
def zn5(K:FK)(a:Ad)(E E1:XE):TS:=(z53 K (tVr 0) (tVr 4) "width")
theorem zt4:type_of% (ap3 (zn5.eq_1 K a E E1) D σ H):=rfl
def zim(K:FK)(a:Ad)(E:XE):TS:=(zby (zn2 K a E E) (zby (zn3 K a E E) (zby (zn4 K a E E) (zn5 K a E E))))
def zk3(K:FK)(a:Ad)(E E1:XE):TS:=(zgc (z6k (zac (tOp (zvh K) (zdx K (tVr 0) "name_blocks") (zdx K (tVr 0) "width")) (zac (tOp (zvh K) (zdx K (tVr 0) "record_blocks") (zdx K (tVr 0) "width")) (zac (tOp (zvh K) (zdx K (tVr 0) "piece_blocks") (zdx K (tVr 0) "width")) zaw)))))
theorem zpm:type_of% (ap3 (zk3.eq_1 K a E E1) D σ H):=rfl
def zgu(K:FK)(a:Ad)(E:XE):TS:=(zk3 K a E E)
def zee(K:FK)(a:Ad)(E E1:XE):TS:=(zgc (tOp (zcy K) (tOp (zcy K) (zdx K (tVr 0) "name_blocks") (zdx K (tVr 0) "record_blocks")) (zdx K (tVr 0) "piece_blocks")))
theorem zgr:type_of% (ap3 (zee.eq_1 K a E E1) D σ H):=rfl
def zb3(K:FK)(a:Ad)(E:XE):TS:=(zee K a E E)
def zhy(K:FK)(a:Ad)(E E1:XE):TS:=(zgc (z6k (zac (tOp (zcy K) (tVr 1) (tOp zgd (tVr 2) (zdx K (tVr 0) "width"))) (zac (tOp ze2 (tVr 2) (zdx K (tVr 0) "width")) zaw))))
theorem zlq:type_of% (ap3 (zhy.eq_1 K a E E1) D σ H):=rfl
def zet(K:FK)(a:Ad)(E:XE):TS:=(zhy K a E E)
def zn6(K:FK)(a:Ad)(E E1:XE):TS:=(zgc (tOp (zht K) (tVr 0) (tVr 1)))
theorem zt5:type_of% (ap3 (zn6.eq_1 K a E E1) D σ H):=rfl
def zn7(K:FK)(a:Ad)(E E1:XE):TS:=(zkr (zek (tOp jdu (tVr 1) (tCB (zcc K) (zac (tVr 0) zaw)))) (zn6 K a E E) zha)
theorem zt6:type_of% (ap3 (zn7.eq_1 K a E E1) D σ H):=rfl
def zn8(K:FK)(a:Ad)(E E1:XE):TS:=(zgc (tC (.int 0)))
theorem zt7:type_of% (ap3 (zn8.eq_1 K a E E1) D σ H):=rfl
def zin(K:FK)(a:Ad)(E:XE):TS:=(zby (zn7 K a E E) (zn8 K a E E))
def zsf(K:FK)(a:Ad)(E E1:XE):TS:=(zd5 (tC (.str "abcdefghijklmnopqrstuvwxyz")) (zaz 1))
theorem zyd:type_of% (ap3 (zsf.eq_1 K a E E1) D σ H):=rfl
def zsg(K:FK)(a:Ad)(E E1:XE):TS:=(zd5 (tC (.str "")) (zaz 2))
theorem zye:type_of% (ap3 (zsg.eq_1 K a E E1) D σ H):=rfl
def zsh(K:FK)(a:Ad)(E E1:XE):TS:=(zd5 (tOp zgd (tVr 0) (tC (.int 6))) (zaz 3))
theorem zyf:type_of% (ap3 (zsh.eq_1 K a E E1) D σ H):=rfl
def zsi(K:FK)(a:Ad)(E E1:XE):TS:=(zd5 (tOp (zcy K) (tVr 2) (tOp (zht K) (tVr 1) (tOp ze2 (tOp (zcy K) (tVr 3) (tOp (zvh K) (tOp (zvh K) (tC (.int 7)) (tVr 4)) (tOp ze2 (tOp zgd (tVr 3) (tC (.int 26))) (tC (.int 5))))) (tC (.int 26))))) (zaz 2))
theorem zyg:type_of% (ap3 (zsi.eq_1 K a E E1) D σ H):=rfl
def zsj(K:FK)(a:Ad)(E E1:XE):TS:=(zd5 (tOp (zcy K) (tOp zgd (tVr 3) (tC (.int 29))) (tOp (zvh K) (tC (.int 3)) (tVr 4))) (zaz 3))
theorem zyh:type_of% (ap3 (zsj.eq_1 K a E E1) D σ H):=rfl
def zsk(K:FK)(a:Ad)(E E1:XE):TS:=(jad (z0k (zac (tOp (zcy K) (tC (.int 1)) (tOp ze2 (tVr 0) (tC (.int 6)))) zaw)) (zaz 4) (zby (zsi K a E E) (zsj K a E E)))
theorem zyi:type_of% (ap3 (zsk.eq_1 K a E E1) D σ H):=rfl
def zsl(K:FK)(a:Ad)(E E1:XE):TS:=(zd5 (tOp ze2 (tOp zgd (tVr 0) (tC (.int 7))) (tCB (zcc K) (zac (tVr 2) zaw))) (zaz 5))
theorem zyj:type_of% (ap3 (zsl.eq_1 K a E E1) D σ H):=rfl
def zsm(K:FK)(a:Ad)(E E1:XE):TS:=(zd5 (tOp (zht K) (tVr 1) (tOp ze2 (tOp zgd (tVr 0) (tC (.int 11))) (tC (.int 26)))) (zaz 6))
theorem zyk:type_of% (ap3 (zsm.eq_1 K a E E1) D σ H):=rfl
def zsn(K:FK)(a:Ad)(E E1:XE):TS:=(zd5 (tOp (zht K) (tVr 1) (tOp ze2 (tOp (zcy K) (tOp (zcy K) (tOp zgd (tVr 0) (tC (.int 11))) (tC (.int 1))) (tOp ze2 (tOp zgd (tVr 0) (tC (.int 13))) (tC (.int 25)))) (tC (.int 26)))) (zaz 7))
theorem zyl:type_of% (ap3 (zsn.eq_1 K a E E1) D σ H):=rfl
def zpn(K:FK)(a:Ad)(E E1:XE):TS:=(zd5 (tOp (zht K) (tVr 1) (tOp ze2 (tOp (zcy K) (tOp (zcy K) (tBM K "str" z9b (tVr 1) (zac (tOp (zht K) (tVr 2) (tVr 5)) zaw)) (tC (.int 1))) (tOp ze2 (tOp zgd (tVr 0) (tC (.int 17))) (tC (.int 25)))) (tC (.int 26)))) (zaz 8))
theorem zvp:type_of% (ap3 (zpn.eq_1 K a E E1) D σ H):=rfl
def zpo(K:FK)(a:Ad)(E E1:XE):TS:=(zgc (zll (zac (tVr 2) (zac (tOp (zcy K) (tVr 2) (tVr 7)) (zac (tOp (zcy K) (tVr 6) (tVr 2)) (zac (tOp (zcy K) (tOp (zcy K) (tSl (jb1 K) (tVr 2) zh6 (zxz (tVr 5))) (tVr 8)) (tSl (jb1 K) (tVr 2) (zxz (tOp (zcy K) (tVr 5) (tC (.int 1)))) zh6)) (zac (tOp (zcy K) (tOp (zcy K) (tVr 2) (tVr 7)) (tVr 6)) zaw)))))))
theorem zvq:type_of% (ap3 (zpo.eq_1 K a E E1) D σ H):=rfl
def zk4(K:FK)(a:Ad)(E:XE):TS:=(zby (zsf K a E E) (zby (zsg K a E E) (zby (zsh K a E E) (zby (zsk K a E E) (zby (zsl K a E E) (zby (zsm K a E E) (zby (zsn K a E E) (zby (zpn K a E E) (zpo K a E E)))))))))
def zvr(K:FK)(a:Ad)(E E1:XE):TS:=(zd5 (tC (.str " !\"#$&'()*+,-./0123456789:;<=>?@ABCDEFGHIJKLMNOPQRSTUVWXYZ[\\]^_`")) (zaz 1))
theorem z0o:type_of% (ap3 (zvr.eq_1 K a E E1) D σ H):=rfl
def zvs(K:FK)(a:Ad)(E E1:XE):TS:=(zd5 (tOp (zcy K) (tVr 1) (tC (.str "abcdefghijklmnopqrstuvwxyz{|}~"))) (zaz 1))
theorem z0p:type_of% (ap3 (zvs.eq_1 K a E E1) D σ H):=rfl
def zvt(K:FK)(a:Ad)(E E1:XE):TS:=(zd5 (tOp (zcy K) (tC (.int 1)) (tOp ze2 (tVr 0) (tC (.int 5)))) (zaz 2))
theorem z0q:type_of% (ap3 (zvt.eq_1 K a E E1) D σ H):=rfl
def zvu(K:FK)(a:Ad)(E E1:XE):TS:=(zd5 (tOp jc3 (tC (.int 40)) (tOp ze2 (tOp zgd (tVr 0) (tC (.int 40))) (tC (.int 2)))) (zaz 2))
theorem z0r:type_of% (ap3 (zvu.eq_1 K a E E1) D σ H):=rfl
def zvv(K:FK)(a:Ad)(E E1:XE):TS:=(zkr (zek (tOp (zsb K) (tOp ze2 (tOp zgd (tVr 0) (tC (.int 5))) (tC (.int 8))) (tC (.int 3)))) (zvu K a E E) zha)
theorem z0s:type_of% (ap3 (zvv.eq_1 K a E E1) D σ H):=rfl
def zm4(K:FK)(a:Ad)(E E1:XE):TS:=(zd5 (tOp (zcy K) (tC (.int 1)) (tOp ze2 (tOp zgd (tVr 0) (tC (.int 19))) (tC (.int 93)))) (zaz 3))
theorem z0t:type_of% (ap3 (zm4.eq_1 K a E E1) D σ H):=rfl
def zm5(K:FK)(a:Ad)(E E1:XE):TS:=(zd5 (tOp (zcy K) (tC (.int 1)) (tOp ze2 (tOp zgd (tVr 0) (tC (.int 7))) (tC (.int 3)))) (zaz 4))
theorem z0u:type_of% (ap3 (zm5.eq_1 K a E E1) D σ H):=rfl
def zm6(K:FK)(a:Ad)(E E1:XE):TS:=(zgc (tBM K "str" (z85 K) (tC (.str "")) (zac (zl9 (z0k (zac (tVr 2) zaw)) (zaz 0) zju (tOp (zht K) (tVr 1) (tOp ze2 (tOp (zcy K) (tOp zgd (tVr 2) (tC (.int 3))) (tOp (zvh K) (tVr 3) (tOp zgd (tVr 0) (tVr 4)))) (tC (.int 94)))) 1 [1,0,3,4]) zaw)))
theorem z0v:type_of% (ap3 (zm6.eq_1 K a E E1) D σ H):=rfl
def zm7(K:FK)(a:Ad)(E:XE):TS:=(zby (zvr K a E E) (zby (zvs K a E E) (zby (zvt K a E E) (zby (zvv K a E E) (zby (zm4 K a E E) (zby (zm5 K a E E) (zm6 K a E E)))))))
def z23(K:FK)(a:Ad)(E E1:XE):TS:=(zgc (tOp jc3 (tOp ze2 (tVr 0) (tC (.int 4))) (tC (.int 1))))
theorem z4s:type_of% (ap3 (z23.eq_1 K a E E1) D σ H):=rfl
def z24(K:FK)(a:Ad)(E E1:XE):TS:=(zkr (zek (tOp (zsb K) (tOp ze2 (tOp zgd (tVr 0) (tC (.int 28))) (tC (.int 2))) (tC (.int 0)))) (z23 K a E E) zha)
theorem z4t:type_of% (ap3 (z24.eq_1 K a E E1) D σ H):=rfl
def z25(K:FK)(a:Ad)(E E1:XE):TS:=(zgc (tOp jc3 (tOp ze2 (tVr 0) (tC (.int 14))) (tC (.int 1))))
theorem z4u:type_of% (ap3 (z25.eq_1 K a E E1) D σ H):=rfl
def zvw(K:FK)(a:Ad)(E:XE):TS:=(zby (z24 K a E E) (z25 K a E E))
def zmg(K:FK)(a:Ad)(E E1:XE):TS:=(zd5 (tOp ze2 (tOp zgd (tVr 0) (tC (.int 7))) (tOp (zcy K) (tCB (zcc K) (zac (tVr 1) zaw)) (tC (.int 1)))) (zaz 2))
theorem zrp:type_of% (ap3 (zmg.eq_1 K a E E1) D σ H):=rfl
def zmh(K:FK)(a:Ad)(E E1:XE):TS:=(zd5 (zll (zac (tC (.str "")) (zac (tC (.str " ")) (zac (tC (.str "abcdefghi")) (zac (tOp (zcy K) (tOp (zcy K) (tSl (jb1 K) (tVr 1) zh6 (zxz (tVr 2))) (tC (.str "A"))) (tSl (jb1 K) (tVr 1) (zxz (tVr 2)) zh6)) (zac (tOp (zcy K) (tOp (zcy K) (tSl (jb1 K) (tVr 1) zh6 (zxz (tVr 2))) (tC (.str "0"))) (tSl (jb1 K) (tVr 1) (zxz (tVr 2)) zh6)) zaw)))))) (zaz 3))
theorem zrq:type_of% (ap3 (zmh.eq_1 K a E E1) D σ H):=rfl
def zmi(K:FK)(a:Ad)(E E1:XE):TS:=(zgc (tOp (zht K) (tOp (zcy K) (tVr 3) (zll (zac (tOp (zcy K) (tOp (zcy K) (tSl (jb1 K) (tVr 1) zh6 (zxz (tVr 2))) (tC (.str "-"))) (tSl (jb1 K) (tVr 1) (zxz (tVr 2)) zh6)) (zac (tOp (zcy K) (tVr 1) (tC (.str " "))) zaw)))) (tOp ze2 (tVr 0) (tC (.int 7)))))
theorem zrr:type_of% (ap3 (zmi.eq_1 K a E E1) D σ H):=rfl
def zhk(K:FK)(a:Ad)(E:XE):TS:=(zby (zmg K a E E) (zby (zmh K a E E) (zmi K a E E)))
def zso(K:FK)(a:Ad)(E E1:XE):TS:=(z53 K (tVr 0) (tVr 1) "ground")
theorem zym:type_of% (ap3 (zso.eq_1 K a E E1) D σ H):=rfl
def zsp(K:FK)(a:Ad)(E E1:XE):TS:=(z53 K (tVr 0) (zll zaw) "made")
theorem zyn:type_of% (ap3 (zsp.eq_1 K a E E1) D σ H):=rfl
def zsq(K:FK)(a:Ad)(E E1:XE):TS:=(z53 K (tVr 0) (zl9 (z0k (zac (za0 (a "Plank") "blocks" (zb9 K a) [] E (tVr 1) zaw) zaw)) (zaz 0) zju (zll zaw) 1 []) "made_in")
theorem zyo:type_of% (ap3 (zsq.eq_1 K a E E1) D σ H):=rfl
def zsr(K:FK)(a:Ad)(E E1:XE):TS:=(z53 K (tVr 0) jei "latest")
theorem zyp:type_of% (ap3 (zsr.eq_1 K a E E1) D σ H):=rfl
def zss(K:FK)(a:Ad)(E E1:XE):TS:=(z53 K (tVr 0) z8p "outs")
theorem zyq:type_of% (ap3 (zss.eq_1 K a E E1) D σ H):=rfl
def zk5(K:FK)(a:Ad)(E:XE):TS:=(zby (zso K a E E) (zby (zsp K a E E) (zby (zsq K a E E) (zby (zsr K a E E) (zss K a E E)))))
def zhl(K:FK)(a:Ad)(E E1:XE):TS:=(znw (a "NoBlock") E (zac (tC (.str "there is no such place on the plank")) zaw))
theorem zku:type_of% (ap3 (zhl.eq_1 K a E E1) D σ H):=rfl
def zhm(K:FK)(a:Ad)(E E1:XE):TS:=(zkr (tOr (jds (zek (znu z8q jdu (tC (.int 0)) (tOp (zht K) (tVr 1) (tC (.int 0))) (za0 (a "Plank") "blocks" (zb9 K a) [] E (zdx K (tVr 0) "ground") zaw)))) (jds (zek (znu z8q jdu (tC (.int 0)) (tOp (zht K) (tVr 1) (tC (.int 1))) (za0 (a "Plank") "cells" (zdo K a) [] E (zdx K (tVr 0) "ground") zaw))))) (zhl K a E E) zha)
theorem zkv:type_of% (ap3 (zhm.eq_1 K a E E1) D σ H):=rfl
def zef(K:FK)(a:Ad)(E:XE):TS:=(zhm K a E E)
def zyr(K:FK)(a:Ad)(E E1:XE):TS:=(zd5 (tCB (zkz K) (zac (tVr 2) zaw)) (zaz 3))
def zys(K:FK)(a:Ad)(E E1:XE):TS:=(zd5 (zll zaw) (zaz 4))
def zyt(K:FK)(a:Ad)(E E1:XE):TS:=(zd5 (zll zaw) (zaz 5))
def zyu(K:FK)(a:Ad)(E E1:XE):TS:=(zd5 (za0 (a "Hold") "lack_of" (zdb K a) [] E (tVr 0) (zac (tVr 6) (zac (tVr 3) zaw))) (zaz 7))
def zyv(K:FK)(a:Ad)(E E1:XE):TS:=(jc1 (tVr 3) (tVr 6) (tC (.bl true)))
def zyw(K:FK)(a:Ad)(E E1:XE):TS:=(zfr (tBM K "list" zh7 (tVr 4) (zac (tVr 6) zaw)))
def zyx(K:FK)(a:Ad)(E E1:XE):TS:=(zfr (tBM K "list" zh7 (tVr 5) (zac (z6k (zac (tVr 6) (zac (tVr 7) zaw))) zaw)))
def zyy(K:FK)(a:Ad)(E E1:XE):TS:=(zkr (zek (tOp jk2 (tVr 7) (tC .non))) (zby (zyv K a E E) (zyw K a E E)) (zyx K a E E))
def zyz(K:FK)(a:Ad)(E E1:XE):TS:=(zkr (jkz (tB (ztn (tVr 6) (zdx K (tVr 0) "outs"))) (tB (ztn (tVr 6) (tVr 3)))) (zby (zyu K a E E) (zyy K a E E)) zha)
def zvx(K:FK)(a:Ad)(E E1:XE):TS:=(jad (jb2 K (tOp (zht K) (zdx K (tVr 0) "made_in") (tVr 1))) (zaz 6) (zyz K a E E))
def zvy(K:FK)(a:Ad)(E E1:XE):TS:=(zgc (z6k (zac (tVr 4) (zac (tVr 5) zaw))))
def zkj(K:FK)(a:Ad)(E:XE):TS:=(zby (zyr K a E E) (zby (zys K a E E) (zby (zyt K a E E) (zby (zvx K a E E) (zvy K a E E)))))
def zvz(K:FK)(a:Ad)(E E1:XE):TS:=(zgc (jag (znu z8q z8q (tC (.int 1)) (tCB (zcc K) (zac (tVr 0) zaw)) (tC (.int 40))) (tCB (zkf K) (zac (zl9 (jnm (tVr 0)) (zaz 0) zju (zi0 (zg4 K a) [] (λ_=>E0) (zac (tVr 0) zaw)) 1 []) zaw))))
theorem z0w:type_of% (ap3 (zvz.eq_1 K a E E1) D σ H):=rfl
def zm8(K:FK)(a:Ad)(E:XE):TS:=(zvz K a E E)
def zpp(K:FK)(a:Ad)(E E1:XE):TS:=(zfr (za0 (a "Plank") "ask_for_block" (za4 K a) [] E (tVr 0) (zac (tVr 1) zaw)))
theorem zv0:type_of% (ap3 (zpp.eq_1 K a E E1) D σ H):=rfl
def zpq(K:FK)(a:Ad)(E E1:XE):TS:=(zgc (tCB (zft K) (zac (tOp (zht K) (zdx K (tVr 0) "contents") (tVr 1)) zaw)))
theorem zv1:type_of% (ap3 (zpq.eq_1 K a E E1) D σ H):=rfl
def zjy(K:FK)(a:Ad)(E:XE):TS:=(zby (zpp K a E E) (zpq K a E E))
def z0x(K:FK)(a:Ad)(E E1:XE):TS:=(zfr (za0 (a "Plank") "ask_for_block" (za4 K a) [] E (tVr 0) (zac (tVr 1) zaw)))
def z0y(K:FK)(a:Ad)(E E1:XE):TS:=(znw (a "NoBlock") E (zac (tC (.str "the list is not as long as a block")) zaw))
def z0z(K:FK)(a:Ad)(E E1:XE):TS:=(zkr (zek (tOp (jhd K) (tCB (zcc K) (zac (tVr 2) zaw)) (zdx K (tVr 0) "width"))) (z0y K a E E) zha)
def z00(K:FK)(a:Ad)(E E1:XE):TS:=(zd5 (tCB (zge K) (zac (tVr 2) zaw)) (jng (zdx K (tVr 0) "contents") (tVr 1) jju))
def z01(K:FK)(a:Ad)(E E1:XE):TS:=(jaj K (tVr 0) (tC (.int 1)) jnj "written")
def zlr(K:FK)(a:Ad)(E:XE):TS:=(zby (z0x K a E E) (zby (z0z K a E E) (zby (z00 K a E E) (z01 K a E E))))
def zkk(K:FK)(a:Ad)(E E1:XE):TS:=(zgc (za0 (a "Layout") "place_from" (zar K a) [] E (tVr 0) (zac (tC (.int 0)) (zac (tVr 1) zaw))))
theorem zoz:type_of% (ap3 (zkk.eq_1 K a E E1) D σ H):=rfl
def zgf(K:FK)(a:Ad)(E:XE):TS:=(zkk K a E E)
def zi3(K:FK)(a:Ad)(E E1:XE):TS:=(zgc (za0 (a "Layout") "place_from" (zar K a) [] E (tVr 0) (zac (zdx K (tVr 0) "name_blocks") (zac (tVr 1) zaw))))
theorem zmj:type_of% (ap3 (zi3.eq_1 K a E E1) D σ H):=rfl
def ze4(K:FK)(a:Ad)(E:XE):TS:=(zi3 K a E E)
def zjm(K:FK)(a:Ad)(E E1:XE):TS:=(zgc (za0 (a "Layout") "place_from" (zar K a) [] E (tVr 0) (zac (tOp (zcy K) (zdx K (tVr 0) "name_blocks") (zdx K (tVr 0) "record_blocks")) (zac (tVr 1) zaw))))
theorem zm9:type_of% (ap3 (zjm.eq_1 K a E E1) D σ H):=rfl
def zfo(K:FK)(a:Ad)(E:XE):TS:=(zjm K a E E)
def zhn(K:FK)(a:Ad)(E E1:XE):TS:=(zgc (za0 (a "Layout") "place_from" (zar K a) [] E (tVr 0) (zac (za0 (a "Layout") "blocks_ahead_of_marks" (zak K a) [] E (tVr 0) zaw) (zac (tVr 1) zaw))))
theorem zkw:type_of% (ap3 (zhn.eq_1 K a E E1) D σ H):=rfl
def zeg(K:FK)(a:Ad)(E:XE):TS:=(zhn K a E E)
def zhz(K:FK)(a:Ad)(E E1:XE):TS:=(zgc (za0 (a "Layout") "place_from" (zar K a) [] E (tVr 0) (zac (tOp (zcy K) (za0 (a "Layout") "blocks_ahead_of_marks" (zak K a) [] E (tVr 0) zaw) (zdx K (tVr 0) "record_blocks")) (zac (tVr 1) zaw))))
theorem zls:type_of% (ap3 (zhz.eq_1 K a E E1) D σ H):=rfl
def zeu(K:FK)(a:Ad)(E:XE):TS:=(zhz K a E E)
def zk6(K:FK)(a:Ad)(E E1:XE):TS:=(zgc (tOp (zcy K) (tOp (zcy K) (za0 (a "Layout") "blocks_ahead_of_marks" (zak K a) [] E (tVr 0) zaw) (zdx K (tVr 0) "record_blocks")) (zdx K (tVr 0) "piece_blocks")))
theorem zpr:type_of% (ap3 (zk6.eq_1 K a E E1) D σ H):=rfl
def zgv(K:FK)(a:Ad)(E:XE):TS:=(zk6 K a E E)
def zn9(K:FK)(a:Ad)(E E1:XE):TS:=(zfr (za0 (a "Hold") "ask_for_place" (zbo K a) [] E (tVr 0) (zac (tVr 1) zaw)))
theorem zt8:type_of% (ap3 (zn9.eq_1 K a E E1) D σ H):=rfl
def zoa(K:FK)(a:Ad)(E E1:XE):TS:=(zgc (jej (zdx K (tVr 0) "latest") (tVr 1)))
theorem zt9:type_of% (ap3 (zoa.eq_1 K a E E1) D σ H):=rfl
def zio(K:FK)(a:Ad)(E:XE):TS:=(zby (zn9 K a E E) (zoa K a E E))
def zps(K:FK)(a:Ad)(E E1:XE):TS:=(zd5 (za0 (a "Plank") "read" (zc4 K a) [] E (zdx K (tVr 0) "ground") (zac (tVr 1) zaw)) (zaz 2))
theorem zv2:type_of% (ap3 (zps.eq_1 K a E E1) D σ H):=rfl
def z26(K:FK)(a:Ad)(E E1:XE):TS:=(zd5 (za0 (a "Hold") "outcome" (zdc K a) [] E (tVr 0) (zac (tVr 1) (zac z8p zaw))) (zaz 3))
def z27(K:FK)(a:Ad)(E E1:XE):TS:=(jc1 (zdx K (tVr 0) "outs") (tVr 4) (tC (.bl true)))
def z28(K:FK)(a:Ad)(E E1:XE):TS:=(jad (jb2 K (tOp (zht K) (tVr 3) (tC (.int 0)))) (zaz 4) (z27 K a E E))
def z29(K:FK)(a:Ad)(E E1:XE):TS:=(zfr (za0 (a "Plank") "write" (zdp K a) [] E (zdx K (tVr 0) "ground") (zac (tVr 1) (zac (za0 (a "Hold") "laid_over" (zcg K a) [] E (tVr 0) (zac (tVr 2) (zac (tVr 1) zaw))) zaw))))
def z3a(K:FK)(a:Ad)(E E1:XE):TS:=(zgc (tVr 3))
def zjz(K:FK)(a:Ad)(E:XE):TS:=(zby (zps K a E E) (zby (z26 K a E E) (zby (z28 K a E E) (zby (z29 K a E E) (z3a K a E E)))))
def zmk(K:FK)(a:Ad)(E E1:XE):TS:=(zgc (z8e (a "Plank") (zd8 K a) [] E (zac (za0 (a "Layout") "blocks" (zbz K a) [] E (tVr 0) zaw) (zac (zdx K (tVr 0) "width") zaw))))
theorem zrs:type_of% (ap3 (zmk.eq_1 K a E E1) D σ H):=rfl
def zho(K:FK)(a:Ad)(E:XE):TS:=(zmk K a E E)
def zob(K:FK)(a:Ad)(E E1:XE):TS:=(zd5 (za0 (a "Hold") "newest" (zcj K a) [] E (tVr 0) (zac (tVr 1) zaw)) (zaz 4))
theorem zua:type_of% (ap3 (zob.eq_1 K a E E1) D σ H):=rfl
def zoc(K:FK)(a:Ad)(E E1:XE):TS:=(zfr (za0 (a "Hold") "ask_for_changes" (zbh K a) [] E (tVr 0) (zac (tVr 3) zaw)))
theorem zub:type_of% (ap3 (zoc.eq_1 K a E E1) D σ H):=rfl
def zod(K:FK)(a:Ad)(E E1:XE):TS:=(zd5 (tCB (zcc K) (zac (zdx K (tVr 0) "made") zaw)) (zaz 5))
theorem zuc:type_of% (ap3 (zod.eq_1 K a E E1) D σ H):=rfl
def zoe(K:FK)(a:Ad)(E E1:XE):TS:=(zfr (tBM K "list" zh7 (zdx K (tVr 0) "made") (zac (z8e (a "Change") (zdr K a) [] E (zac (tVr 1) (zac (tVr 2) (zac (zi0 (zea K a) [] E (zac (tVr 3) (zac (tVr 4) zaw))) zaw)))) zaw)))
theorem zud:type_of% (ap3 (zoe.eq_1 K a E E1) D σ H):=rfl
def zof(K:FK)(a:Ad)(E E1:XE):TS:=(zfr (tBM K "list" zh7 (tOp (zht K) (zdx K (tVr 0) "made_in") (tOp (zht K) (tVr 1) (tC (.int 0)))) (zac (tVr 5) zaw)))
theorem zue:type_of% (ap3 (zof.eq_1 K a E E1) D σ H):=rfl
def zog(K:FK)(a:Ad)(E E1:XE):TS:=(jc1 (zdx K (tVr 0) "latest") (tVr 1) (tVr 5))
theorem zuf:type_of% (ap3 (zog.eq_1 K a E E1) D σ H):=rfl
def zoh(K:FK)(a:Ad)(E E1:XE):TS:=(zgc (tVr 5))
theorem zug:type_of% (ap3 (zoh.eq_1 K a E E1) D σ H):=rfl
def ziq(K:FK)(a:Ad)(E:XE):TS:=(zby (zob K a E E) (zby (zoc K a E E) (zby (zod K a E E) (zby (zoe K a E E) (zby (zof K a E E) (zby (zog K a E E) (zoh K a E E)))))))
def zml(K:FK)(a:Ad)(E E1:XE):TS:=(zd5 (za0 (a "Hold") "newest" (zcj K a) [] E (tVr 0) (zac (tVr 1) zaw)) (zaz 2))
theorem zrt:type_of% (ap3 (zml.eq_1 K a E E1) D σ H):=rfl
def zmm(K:FK)(a:Ad)(E E1:XE):TS:=(zgc (tOp (zht K) (za0 (a "Plank") "read" (zc4 K a) [] E (zdx K (tVr 0) "ground") (zac (tOp (zht K) (tVr 1) (tC (.int 0))) zaw)) (tOp (zht K) (tVr 1) (tC (.int 1)))))
theorem zru:type_of% (ap3 (zmm.eq_1 K a E E1) D σ H):=rfl
def zmn(K:FK)(a:Ad)(E E1:XE):TS:=(zkr (zek (tOp jk2 (tVr 2) (tC .non))) (zmm K a E E) zha)
theorem zrv:type_of% (ap3 (zmn.eq_1 K a E E1) D σ H):=rfl
def zmo(K:FK)(a:Ad)(E E1:XE):TS:=(zgc (zdx K (tOp (zht K) (zdx K (tVr 0) "made") (tVr 2)) "value"))
theorem zrw:type_of% (ap3 (zmo.eq_1 K a E E1) D σ H):=rfl
def zhp(K:FK)(a:Ad)(E:XE):TS:=(zby (zml K a E E) (zby (zmn K a E E) (zmo K a E E)))
def zpt(K:FK)(a:Ad)(E E1:XE):TS:=(z53 K (tVr 0) (tVr 1) "plan")
theorem zv3:type_of% (ap3 (zpt.eq_1 K a E E1) D σ H):=rfl
def zpu(K:FK)(a:Ad)(E E1:XE):TS:=(z53 K (tVr 0) (z8e (a "Hold") (zd9 K a) [] E (zac (tVr 2) zaw)) "book")
theorem zv4:type_of% (ap3 (zpu.eq_1 K a E E1) D σ H):=rfl
def zpv(K:FK)(a:Ad)(E E1:XE):TS:=(z53 K (tVr 0) z8p "taken_out")
theorem zv5:type_of% (ap3 (zpv.eq_1 K a E E1) D σ H):=rfl
def zj0(K:FK)(a:Ad)(E:XE):TS:=(zby (zpt K a E E) (zby (zpu K a E E) (zpv K a E E)))
def zoi(K:FK)(a:Ad)(E E1:XE):TS:=(zgc (za0 (a "Hold") "write" (zeb K a) [] E (zdx K (tVr 0) "book") (zac (tVr 1) zaw)))
theorem zuh:type_of% (ap3 (zoi.eq_1 K a E E1) D σ H):=rfl
def zir(K:FK)(a:Ad)(E:XE):TS:=(zoi K a E E)
def zoj(K:FK)(a:Ad)(E E1:XE):TS:=(zgc (tVr 3))
theorem zui:type_of% (ap3 (zoj.eq_1 K a E E1) D σ H):=rfl
def zok(K:FK)(a:Ad)(E E1:XE):TS:=(zkr (zek (tOp (jno K) (za0 (a "Hold") "in_hand" (zbi K a) [] E (tVr 0) (zac (tVr 4) zaw)) (tVr 2))) (zoj K a E E) zha)
theorem zuj:type_of% (ap3 (zok.eq_1 K a E E1) D σ H):=rfl
def zol(K:FK)(a:Ad)(E E1:XE):TS:=(jad (jh2 K (zac (tVr 1) zaw)) (jnf K 2 (jcq (zaz 3) (jcq (zaz 4) jne))) (zok K a E E))
theorem zuk:type_of% (ap3 (zol.eq_1 K a E E1) D σ H):=rfl
def zom(K:FK)(a:Ad)(E E1:XE):TS:=(znw (a "NoRoom") E (zac (tC (.str "nothing of what is to be taken is free")) zaw))
theorem zul:type_of% (ap3 (zom.eq_1 K a E E1) D σ H):=rfl
def zis(K:FK)(a:Ad)(E:XE):TS:=(zby (zol K a E E) (zom K a E E))
def zi4(K:FK)(a:Ad)(E E1:XE):TS:=(zgc (zl9 (z0k (zac (tOp (zht K) (za0 (a "Layout") "counts" (zbd K a) [] E (zdx K (tVr 0) "plan") zaw) (tC (.int 0))) zaw)) (zaz 0) zju (za0 (a "Hold") "in_hand" (zbi K a) [] (λ_=>E0) (zdx K (tVr 1) "book") (zac (za0 (a "Layout") "name_at" (za5 K a) [] (λ_=>E0) (zdx K (tVr 1) "plan") (zac (tVr 0) zaw)) zaw)) 1 [0]))
theorem zmp:type_of% (ap3 (zi4.eq_1 K a E E1) D σ H):=rfl
def ze5(K:FK)(a:Ad)(E:XE):TS:=(zi4 K a E E)
def zkl(K:FK)(a:Ad)(E E1:XE):TS:=(zgc (za0 (a "Hold") "in_hand" (zbi K a) [] E (zdx K (tVr 0) "book") (zac (za0 (a "Layout") "record_at" (zat K a) [] E (zdx K (tVr 0) "plan") (zac (tVr 1) zaw)) zaw)))
theorem zo0:type_of% (ap3 (zkl.eq_1 K a E E1) D σ H):=rfl
def zgg(K:FK)(a:Ad)(E:XE):TS:=(zkl K a E E)
def zjn(K:FK)(a:Ad)(E E1:XE):TS:=(zd5 (zll (zac (tVr 4) zaw)) (zaz 5))
theorem zna:type_of% (ap3 (zjn.eq_1 K a E E1) D σ H):=rfl
def zjo(K:FK)(a:Ad)(E E1:XE):TS:=(zfr (tBM K "list" zh7 (tVr 5) (zac (jjm (zdx K (tVr 0) "taken_out") (tVr 2)) zaw)))
theorem znb:type_of% (ap3 (zjo.eq_1 K a E E1) D σ H):=rfl
def zjp(K:FK)(a:Ad)(E E1:XE):TS:=(zkr (tB (jnk (tVr 2) (zdx K (tVr 0) "taken_out"))) (zjo K a E E) zha)
theorem znc:type_of% (ap3 (zjp.eq_1 K a E E1) D σ H):=rfl
def zgk(K:FK)(a:Ad)(E E1:XE):TS:=(zgc (za0 (a "Hold") "change" (zao K a) [] E (zdx K (tVr 0) "book") (zac (za0 (a "Layout") "name_at" (za5 K a) [] E (zdx K (tVr 0) "plan") (zac (tVr 1) zaw)) (zac (z6k (zac (tVr 2) (zac (tVr 3) zaw))) (zac (tVr 5) zaw)))))
theorem znd:type_of% (ap3 (zgk.eq_1 K a E E1) D σ H):=rfl
def zfp(K:FK)(a:Ad)(E:XE):TS:=(zby (zjn K a E E) (zby (zjp K a E E) (zgk K a E E)))
def zst(K:FK)(a:Ad)(E E1:XE):TS:=(zd5 (zl9 (z0k (zac (tOp (zht K) (za0 (a "Layout") "counts" (zbd K a) [] E (tVr 0) zaw) (tC (.int 0))) zaw)) (zaz 0) zju (za0 (a "Layout") "name_at" (za5 K a) [] (λ_=>E0) (tVr 1) (zac (tVr 0) zaw)) 1 [0]) (zaz 2))
theorem zy0:type_of% (ap3 (zst.eq_1 K a E E1) D σ H):=rfl
def zsu(K:FK)(a:Ad)(E E1:XE):TS:=(zgc (zi0 (zbp K a) [] E (zac (tVr 1) (zac (tVr 2) (zac (z6k (zac (tC .non) zaw)) zaw)))))
theorem zy1:type_of% (ap3 (zsu.eq_1 K a E E1) D σ H):=rfl
def zk7(K:FK)(a:Ad)(E:XE):TS:=(zby (zst K a E E) (zsu K a E E))
def zon(K:FK)(a:Ad)(E E1:XE):TS:=(zd5 (zl9 (z0k (zac (tOp (zht K) (za0 (a "Layout") "counts" (zbd K a) [] E (tVr 0) zaw) (tC (.int 1))) zaw)) (zaz 0) zju (za0 (a "Layout") "record_mark" (za1 K a) [] (λ_=>E0) (tVr 1) (zac (tVr 0) zaw)) 1 [0]) (zaz 2))
theorem zum:type_of% (ap3 (zon.eq_1 K a E E1) D σ H):=rfl
def zoo(K:FK)(a:Ad)(E E1:XE):TS:=(zgc (zi0 (zbp K a) [] E (zac (tVr 1) (zac (tVr 2) (zac (z6k (zac (tC .non) (zac (tC (.int 0)) zaw))) zaw)))))
theorem zun:type_of% (ap3 (zoo.eq_1 K a E E1) D σ H):=rfl
def zit(K:FK)(a:Ad)(E:XE):TS:=(zby (zon K a E E) (zoo K a E E))
def zpw(K:FK)(a:Ad)(E E1:XE):TS:=(zd5 (zl9 (z0k (zac (tOp (zht K) (za0 (a "Layout") "counts" (zbd K a) [] E (tVr 0) zaw) (tC (.int 2))) zaw)) (zaz 0) zju (za0 (a "Layout") "piece_mark" (zax K a) [] (λ_=>E0) (tVr 1) (zac (tVr 0) zaw)) 1 [0]) (zaz 2))
theorem zv6:type_of% (ap3 (zpw.eq_1 K a E E1) D σ H):=rfl
def zpx(K:FK)(a:Ad)(E E1:XE):TS:=(zgc (zi0 (zbp K a) [] E (zac (tVr 1) (zac (tVr 2) (zac (z6k (zac (tC .non) (zac (tC (.int 0)) zaw))) zaw)))))
theorem zv7:type_of% (ap3 (zpx.eq_1 K a E E1) D σ H):=rfl
def zj1(K:FK)(a:Ad)(E:XE):TS:=(zby (zpw K a E E) (zpx K a E E))
def zop(K:FK)(a:Ad)(E E1:XE):TS:=(zgc (tCB (zsd K) (zac (zl9 (jb2 K (za0 (a "Store") "name_cells" (zba K a) [] E (tVr 0) zaw)) (zaz 0) (zek (tOp jew (tVr 0) (tC .non))) (tOp (zht K) (tVr 0) (tC (.int 0))) 1 []) zaw)))
theorem zuo:type_of% (ap3 (zop.eq_1 K a E E1) D σ H):=rfl
def ziu(K:FK)(a:Ad)(E:XE):TS:=(zop K a E E)
def zk8(K:FK)(a:Ad)(E E1:XE):TS:=(zgc (tVr 2))
theorem zpy:type_of% (ap3 (zk8.eq_1 K a E E1) D σ H):=rfl
def zk9(K:FK)(a:Ad)(E E1:XE):TS:=(zkr (jkz (zek (tOp jew (tVr 3) (tC .non))) (zek (tOp (zsb K) (tOp (zht K) (tVr 3) (tC (.int 0))) (tVr 1)))) (zk8 K a E E) zha)
theorem zpz:type_of% (ap3 (zk9.eq_1 K a E E1) D σ H):=rfl
def zla(K:FK)(a:Ad)(E E1:XE):TS:=(jad (jh2 K (zac (za0 (a "Store") "name_cells" (zba K a) [] E (tVr 0) zaw) zaw)) (jnf K 2 (jcq (zaz 2) (jcq (zaz 3) jne))) (zk9 K a E E))
theorem zp0:type_of% (ap3 (zla.eq_1 K a E E1) D σ H):=rfl
def zlb(K:FK)(a:Ad)(E E1:XE):TS:=(zgc (tC .non))
theorem zp1:type_of% (ap3 (zlb.eq_1 K a E E1) D σ H):=rfl
def zgw(K:FK)(a:Ad)(E:XE):TS:=(zby (zla K a E E) (zlb K a E E))
def zlc(K:FK)(a:Ad)(E E1:XE):TS:=(zd5 (za0 (a "Store") "standing" (zap K a) [] E (tVr 0) (zac (tVr 1) zaw)) (zaz 4))
theorem zp2:type_of% (ap3 (zlc.eq_1 K a E E1) D σ H):=rfl
def zld(K:FK)(a:Ad)(E E1:XE):TS:=(zgc (za0 (a "Hold") "change" (zao K a) [] E (zdx K (tVr 0) "book") (zac (za0 (a "Layout") "record_at" (zat K a) [] E (zdx K (tVr 0) "plan") (zac (tVr 1) zaw)) (zac (z6k (zac (tOp (zcy K) (tOp (zht K) (tVr 4) (tC (.int 0))) (tVr 2)) (zac (tOp (zht K) (tVr 4) (tC (.int 1))) zaw))) (zac (tVr 3) zaw)))))
theorem zp3:type_of% (ap3 (zld.eq_1 K a E E1) D σ H):=rfl
def zgx(K:FK)(a:Ad)(E:XE):TS:=(zby (zlc K a E E) (zld K a E E))
def zle(K:FK)(a:Ad)(E E1:XE):TS:=(zgc (za0 (a "Hold") "change" (zao K a) [] E (zdx K (tVr 0) "book") (zac (za0 (a "Layout") "record_at" (zat K a) [] E (zdx K (tVr 0) "plan") (zac (tVr 1) zaw)) (zac (z6k (zac (tOp (zht K) (za0 (a "Store") "standing" (zap K a) [] E (tVr 0) (zac (tVr 1) zaw)) (tC (.int 0))) (zac (tVr 2) zaw))) (zac (tVr 3) zaw)))))
theorem zp4:type_of% (ap3 (zle.eq_1 K a E E1) D σ H):=rfl
def zgy(K:FK)(a:Ad)(E:XE):TS:=(zle K a E E)
def zh0(K:FK)(a:Ad)(E E1:XE):TS:=(zd5 (tOp (zht K) (za0 (a "Store") "standing" (zap K a) [] E (tVr 0) (zac (tVr 1) zaw)) (tC (.int 1))) (zaz 3))
theorem zlt:type_of% (ap3 (zh0.eq_1 K a E E1) D σ H):=rfl
def zh1(K:FK)(a:Ad)(E E1:XE):TS:=(zd5 (za0 (a "Hold") "change" (zao K a) [] E (zdx K (tVr 0) "book") (zac (za0 (a "Layout") "record_at" (zat K a) [] E (zdx K (tVr 0) "plan") (zac (tVr 1) zaw)) (zac (tC .non) (zac (zll (zac (tVr 2) zaw)) zaw)))) (zaz 4))
theorem zlu:type_of% (ap3 (zh1.eq_1 K a E E1) D σ H):=rfl
def zh2(K:FK)(a:Ad)(E E1:XE):TS:=(zd5 (zll (zac (tVr 4) zaw)) (zaz 5))
theorem zlv:type_of% (ap3 (zh2.eq_1 K a E E1) D σ H):=rfl
def zh3(K:FK)(a:Ad)(E E1:XE):TS:=(zfr (tBM K "list" zh7 (tVr 5) (zac (za0 (a "Hold") "change" (zao K a) [] E (zdx K (tVr 0) "book") (zac (tVr 6) (zac (tC (.int 0)) (zac (zll (zac (tVr 4) zaw)) zaw)))) zaw)))
theorem zlw:type_of% (ap3 (zh3.eq_1 K a E E1) D σ H):=rfl
def zh4(K:FK)(a:Ad)(E E1:XE):TS:=(jad (jb2 K (tOp (zcy K) (zl9 (jb2 K (tVr 3)) (zaz 0) zju (za0 (a "Layout") "piece_mark" (zax K a) [] (λ_=>E0) (zdx K (tVr 1) "plan") (zac (tVr 0) zaw)) 1 [0]) (zll (zac (za0 (a "Layout") "record_mark" (za1 K a) [] E (zdx K (tVr 0) "plan") (zac (tVr 1) zaw)) zaw)))) (zaz 6) (zh3 K a E E))
theorem zlx:type_of% (ap3 (zh4.eq_1 K a E E1) D σ H):=rfl
def zh5(K:FK)(a:Ad)(E E1:XE):TS:=(zgc (tVr 5))
theorem zly:type_of% (ap3 (zh5.eq_1 K a E E1) D σ H):=rfl
def zev(K:FK)(a:Ad)(E:XE):TS:=(zby (zh0 K a E E) (zby (zh1 K a E E) (zby (zh2 K a E E) (zby (zh4 K a E E) (zh5 K a E E)))))
def zfx(K:FK)(a:Ad)(E E1:XE):TS:=(znw (a "NoName") E (zac (tC (.str "the text is no name")) zaw))
theorem zi5:type_of% (ap3 (zfx.eq_1 K a E E1) D σ H):=rfl
def zfy(K:FK)(a:Ad)(E E1:XE):TS:=(zkr (jds (jk3 K (tCB (zkf K) (zac (zl9 (jb2 K (tVr 2)) (zaz 0) zju (zi0 (zg5 K a) [] (λ_=>E0) (zac (tVr 0) zaw)) 1 []) zaw)))) (zfx K a E E) zha)
theorem zi6:type_of% (ap3 (zfy.eq_1 K a E E1) D σ H):=rfl
def zfz(K:FK)(a:Ad)(E E1:XE):TS:=(znw (a "Twice") E (zac (tC (.str "the new name stands already")) zaw))
theorem zi7:type_of% (ap3 (zfz.eq_1 K a E E1) D σ H):=rfl
def zf0(K:FK)(a:Ad)(E E1:XE):TS:=(zkr (zek (tOp jew (za0 (a "Store") "cell_of" (zbk K a) [] E (tVr 0) (zac (tVr 1) zaw)) (tC .non))) (zfz K a E E) zha)
theorem zi8:type_of% (ap3 (zf0.eq_1 K a E E1) D σ H):=rfl
def zc8(K:FK)(a:Ad)(E:XE):TS:=(zby (zfy K a E E) (zf0 K a E E))
def zjq(K:FK)(a:Ad)(E E1:XE):TS:=(zd5 (za0 (a "Store") "cell_of" (zbk K a) [] E (tVr 0) (zac (tVr 1) zaw)) (zaz 2))
theorem zne:type_of% (ap3 (zjq.eq_1 K a E E1) D σ H):=rfl
def zjr(K:FK)(a:Ad)(E E1:XE):TS:=(znw (a "NoName") E (zac (tC (.str "no such name stands")) zaw))
theorem znf:type_of% (ap3 (zjr.eq_1 K a E E1) D σ H):=rfl
def zjs(K:FK)(a:Ad)(E E1:XE):TS:=(zkr (zek (tOp jk2 (tVr 2) (tC .non))) (zjr K a E E) zha)
theorem zng:type_of% (ap3 (zjs.eq_1 K a E E1) D σ H):=rfl
def zjt(K:FK)(a:Ad)(E E1:XE):TS:=(zgc (tOp (zht K) (tOp (zht K) (za0 (a "Store") "name_cells" (zba K a) [] E (tVr 0) zaw) (tVr 2)) (tC (.int 1))))
theorem znh:type_of% (ap3 (zjt.eq_1 K a E E1) D σ H):=rfl
def zfq(K:FK)(a:Ad)(E:XE):TS:=(zby (zjq K a E E) (zby (zjs K a E E) (zjt K a E E)))
def zi9(K:FK)(a:Ad)(E E1:XE):TS:=(zd5 (za0 (a "Hold") "change" (zao K a) [] E (zdx K (tVr 0) "book") (zac (za0 (a "Layout") "name_at" (za5 K a) [] E (zdx K (tVr 0) "plan") (zac (za0 (a "Store") "cell_of" (zbk K a) [] E (tVr 0) (zac (tVr 1) zaw)) zaw)) (zac (tC .non) (zac (tVr 2) zaw)))) (zaz 3))
theorem zmq:type_of% (ap3 (zi9.eq_1 K a E E1) D σ H):=rfl
def zja(K:FK)(a:Ad)(E E1:XE):TS:=(jc1 (zdx K (tVr 0) "taken_out") (tVr 1) (tVr 3))
theorem zmr:type_of% (ap3 (zja.eq_1 K a E E1) D σ H):=rfl
def zjb(K:FK)(a:Ad)(E E1:XE):TS:=(zgc (tVr 3))
theorem zms:type_of% (ap3 (zjb.eq_1 K a E E1) D σ H):=rfl
def ze6(K:FK)(a:Ad)(E:XE):TS:=(zby (zi9 K a E E) (zby (zja K a E E) (zjb K a E E)))
def zp5(K:FK)(a:Ad)(E E1:XE):TS:=(zfr (za0 (a "Store") "ask_for_new_name" (za3 K a) [] E (tVr 0) (zac (tVr 1) (zac (zll (zac (tVr 1) zaw)) zaw))))
theorem zv8:type_of% (ap3 (zp5.eq_1 K a E E1) D σ H):=rfl
def zp6(K:FK)(a:Ad)(E E1:XE):TS:=(zd5 (zi0 (zdt K a) [] E (zac (zdx K (tVr 0) "plan") (zac (zdx K (tVr 0) "book") zaw))) (zaz 2))
theorem zv9:type_of% (ap3 (zp6.eq_1 K a E E1) D σ H):=rfl
def zp7(K:FK)(a:Ad)(E E1:XE):TS:=(zd5 (zi0 (zds K a) [] E (zac (zdx K (tVr 0) "plan") (zac (zdx K (tVr 0) "book") zaw))) (zaz 3))
theorem zwa:type_of% (ap3 (zp7.eq_1 K a E E1) D σ H):=rfl
def zp8(K:FK)(a:Ad)(E E1:XE):TS:=(zd5 (za0 (a "Hold") "change" (zao K a) [] E (zdx K (tVr 0) "book") (zac (za0 (a "Layout") "record_mark" (za1 K a) [] E (zdx K (tVr 0) "plan") (zac (tVr 2) zaw)) (zac (tC (.int 1)) (zac (zll zaw) zaw)))) (zaz 4))
theorem zwb:type_of% (ap3 (zp8.eq_1 K a E E1) D σ H):=rfl
def zp9(K:FK)(a:Ad)(E E1:XE):TS:=(zd5 (za0 (a "Hold") "change" (zao K a) [] E (zdx K (tVr 0) "book") (zac (za0 (a "Layout") "record_at" (zat K a) [] E (zdx K (tVr 0) "plan") (zac (tVr 2) zaw)) (zac (z6k (zac (tC (.int 1)) (zac (z6k zaw) zaw))) (zac (zll (zac (tVr 4) zaw)) zaw)))) (zaz 5))
theorem zwc:type_of% (ap3 (zp9.eq_1 K a E E1) D σ H):=rfl
def zqa(K:FK)(a:Ad)(E E1:XE):TS:=(zgc (zll (zac (tVr 4) (zac (tVr 5) (zac (za0 (a "Store") "fill_cell" (zbm K a) [] E (tVr 0) (zac (tVr 3) (zac (tVr 1) (zac (tVr 2) (zac (tVr 5) zaw))))) zaw)))))
theorem zwd:type_of% (ap3 (zqa.eq_1 K a E E1) D σ H):=rfl
def zj2(K:FK)(a:Ad)(E:XE):TS:=(zby (zp5 K a E E) (zby (zp6 K a E E) (zby (zp7 K a E E) (zby (zp8 K a E E) (zby (zp9 K a E E) (zqa K a E E))))))
def zqb(K:FK)(a:Ad)(E E1:XE):TS:=(zfr (za0 (a "Store") "ask_for_new_name" (za3 K a) [] E (tVr 0) (zac (tVr 2) (zac (zll (zac (tVr 1) (zac (tVr 2) zaw))) zaw))))
theorem zwe:type_of% (ap3 (zqb.eq_1 K a E E1) D σ H):=rfl
def zqc(K:FK)(a:Ad)(E E1:XE):TS:=(zd5 (za0 (a "Store") "record_of" (zau K a) [] E (tVr 0) (zac (tVr 1) zaw)) (zaz 3))
theorem zwf:type_of% (ap3 (zqc.eq_1 K a E E1) D σ H):=rfl
def zqd(K:FK)(a:Ad)(E E1:XE):TS:=(zd5 (zi0 (zds K a) [] E (zac (zdx K (tVr 0) "plan") (zac (zdx K (tVr 0) "book") zaw))) (zaz 4))
theorem zwg:type_of% (ap3 (zqd.eq_1 K a E E1) D σ H):=rfl
def zqe(K:FK)(a:Ad)(E E1:XE):TS:=(zd5 (za0 (a "Store") "recount" (zbl K a) [] E (tVr 0) (zac (tVr 3) (zac (tC (.int 1)) (zac (zll zaw) zaw)))) (zaz 5))
theorem zwh:type_of% (ap3 (zqe.eq_1 K a E E1) D σ H):=rfl
def zqf(K:FK)(a:Ad)(E E1:XE):TS:=(zgc (zll (zac (tVr 5) (zac (za0 (a "Store") "fill_cell" (zbm K a) [] E (tVr 0) (zac (tVr 4) (zac (tVr 2) (zac (tVr 3) (zac (tVr 5) zaw))))) zaw))))
theorem zwi:type_of% (ap3 (zqf.eq_1 K a E E1) D σ H):=rfl
def zj3(K:FK)(a:Ad)(E:XE):TS:=(zby (zqb K a E E) (zby (zqc K a E E) (zby (zqd K a E E) (zby (zqe K a E E) (zqf K a E E)))))
def zsv(K:FK)(a:Ad)(E E1:XE):TS:=(zd5 (za0 (a "Store") "record_of" (zau K a) [] E (tVr 0) (zac (tVr 1) zaw)) (zaz 2))
theorem zy2:type_of% (ap3 (zsv.eq_1 K a E E1) D σ H):=rfl
def zsw(K:FK)(a:Ad)(E E1:XE):TS:=(zd5 (za0 (a "Store") "empty_cell" (zbj K a) [] E (tVr 0) (zac (tVr 1) (zac (zll zaw) zaw))) (zaz 3))
theorem zy3:type_of% (ap3 (zsw.eq_1 K a E E1) D σ H):=rfl
def zsx(K:FK)(a:Ad)(E E1:XE):TS:=(zgc (zll (zac (tVr 3) (zac (za0 (a "Store") "recount" (zbl K a) [] E (tVr 0) (zac (tVr 2) (zac (tUn jev (tC (.int 1))) (zac (zll (zac (tVr 3) zaw)) zaw)))) zaw))))
theorem zy4:type_of% (ap3 (zsx.eq_1 K a E E1) D σ H):=rfl
def zsy(K:FK)(a:Ad)(E E1:XE):TS:=(zkr (zek (tOp jnl (tOp (zht K) (za0 (a "Store") "standing" (zap K a) [] E (tVr 0) (zac (tVr 2) zaw)) (tC (.int 0))) (tC (.int 1)))) (zsx K a E E) zha)
theorem zy5:type_of% (ap3 (zsy.eq_1 K a E E1) D σ H):=rfl
def zsz(K:FK)(a:Ad)(E E1:XE):TS:=(zgc (tOp (zcy K) (zll (zac (tVr 3) zaw)) (za0 (a "Store") "drop_record" (zbq K a) [] E (tVr 0) (zac (tVr 2) (zac (tVr 3) zaw)))))
theorem zy6:type_of% (ap3 (zsz.eq_1 K a E E1) D σ H):=rfl
def zlf(K:FK)(a:Ad)(E:XE):TS:=(zby (zsv K a E E) (zby (zsw K a E E) (zby (zsy K a E E) (zsz K a E E))))
def zs0(K:FK)(a:Ad)(E E1:XE):TS:=(zd5 (za0 (a "Store") "record_of" (zau K a) [] E (tVr 0) (zac (tVr 1) zaw)) (zaz 3))
theorem zy7:type_of% (ap3 (zs0.eq_1 K a E E1) D σ H):=rfl
def zs1(K:FK)(a:Ad)(E E1:XE):TS:=(znw (a "NoPiece") E (zac (tC (.str "the text is none of a piece")) zaw))
theorem zy8:type_of% (ap3 (zs1.eq_1 K a E E1) D σ H):=rfl
def zs2(K:FK)(a:Ad)(E E1:XE):TS:=(zkr (jds (jk3 K (zi0 (zfu K a) [] E (zac (tVr 2) zaw)))) (zs1 K a E E) zha)
theorem zy9:type_of% (ap3 (zs2.eq_1 K a E E1) D σ H):=rfl
def zs3(K:FK)(a:Ad)(E E1:XE):TS:=(zd5 (zi0 (zec K a) [] E (zac (zdx K (tVr 0) "plan") (zac (zdx K (tVr 0) "book") zaw))) (zaz 4))
theorem zza:type_of% (ap3 (zs3.eq_1 K a E E1) D σ H):=rfl
def zs4(K:FK)(a:Ad)(E E1:XE):TS:=(zd5 (za0 (a "Hold") "change" (zao K a) [] E (zdx K (tVr 0) "book") (zac (za0 (a "Layout") "piece_mark" (zax K a) [] E (zdx K (tVr 0) "plan") (zac (tVr 4) zaw)) (zac (tC (.int 1)) (zac (zll zaw) zaw)))) (zaz 5))
theorem zzb:type_of% (ap3 (zs4.eq_1 K a E E1) D σ H):=rfl
def zs5(K:FK)(a:Ad)(E E1:XE):TS:=(zd5 (za0 (a "Hold") "change" (zao K a) [] E (zdx K (tVr 0) "book") (zac (za0 (a "Layout") "piece_at" (zbg K a) [] E (zdx K (tVr 0) "plan") (zac (tVr 4) zaw)) (zac (tVr 2) (zac (zll (zac (tVr 5) zaw)) zaw)))) (zaz 6))
theorem zzc:type_of% (ap3 (zs5.eq_1 K a E E1) D σ H):=rfl
def zs6(K:FK)(a:Ad)(E E1:XE):TS:=(zgc (zll (zac (tVr 5) (zac (tVr 6) (zac (za0 (a "Store") "regroup" (zb0 K a) [] E (tVr 0) (zac (tVr 3) (zac (tOp (zcy K) (tOp (zht K) (za0 (a "Store") "standing" (zap K a) [] E (tVr 0) (zac (tVr 3) zaw)) (tC (.int 1))) (z6k (zac (tVr 4) zaw))) (zac (zll (zac (tVr 6) zaw)) zaw)))) zaw)))))
theorem zzd:type_of% (ap3 (zs6.eq_1 K a E E1) D σ H):=rfl
def zlg(K:FK)(a:Ad)(E:XE):TS:=(zby (zs0 K a E E) (zby (zs2 K a E E) (zby (zs3 K a E E) (zby (zs4 K a E E) (zby (zs5 K a E E) (zs6 K a E E))))))
def zqg(K:FK)(a:Ad)(E E1:XE):TS:=(zd5 (za0 (a "Store") "record_of" (zau K a) [] E (tVr 0) (zac (tVr 1) zaw)) (zaz 3))
theorem zwj:type_of% (ap3 (zqg.eq_1 K a E E1) D σ H):=rfl
def zqh(K:FK)(a:Ad)(E E1:XE):TS:=(zd5 (tOp (zht K) (za0 (a "Store") "standing" (zap K a) [] E (tVr 0) (zac (tVr 3) zaw)) (tC (.int 1))) (zaz 4))
theorem zwk:type_of% (ap3 (zqh.eq_1 K a E E1) D σ H):=rfl
def zqi(K:FK)(a:Ad)(E E1:XE):TS:=(znw (a "NoPiece") E (zac (tC (.str "the record has no piece at that place")) zaw))
theorem zwl:type_of% (ap3 (zqi.eq_1 K a E E1) D σ H):=rfl
def zqj(K:FK)(a:Ad)(E E1:XE):TS:=(zkr (jds (zek (znu z8q jdu (tC (.int 0)) (tVr 2) (tCB (zcc K) (zac (tVr 4) zaw))))) (zqi K a E E) zha)
theorem zwm:type_of% (ap3 (zqj.eq_1 K a E E1) D σ H):=rfl
def z3b(K:FK)(a:Ad)(E E1:XE):TS:=(zd5 (za0 (a "Store") "regroup" (zb0 K a) [] E (tVr 0) (zac (tVr 3) (zac (tOp (zcy K) (tSl (jb1 K) (tVr 4) zh6 (zxz (tVr 2))) (tSl (jb1 K) (tVr 4) (zxz (tOp (zcy K) (tVr 2) (tC (.int 1)))) zh6)) (zac (zll zaw) zaw)))) (zaz 5))
def z3c(K:FK)(a:Ad)(E E1:XE):TS:=(zgc (zll (zac (tVr 5) (zac (za0 (a "Hold") "change" (zao K a) [] E (zdx K (tVr 0) "book") (zac (za0 (a "Layout") "piece_mark" (zax K a) [] E (zdx K (tVr 0) "plan") (zac (tOp (zht K) (tVr 4) (tVr 2)) zaw)) (zac (tC (.int 0)) (zac (zll (zac (tVr 5) zaw)) zaw)))) zaw))))
def zj4(K:FK)(a:Ad)(E:XE):TS:=(zby (zqg K a E E) (zby (zqh K a E E) (zby (zqj K a E E) (zby (z3b K a E E) (z3c K a E E)))))
def zoq(K:FK)(a:Ad)(E E1:XE):TS:=(zd5 (tOp (zht K) (za0 (a "Store") "standing" (zap K a) [] E (tVr 0) (zac (za0 (a "Store") "record_of" (zau K a) [] E (tVr 0) (zac (tVr 1) zaw)) zaw)) (tC (.int 1))) (zaz 2))
theorem zup:type_of% (ap3 (zoq.eq_1 K a E E1) D σ H):=rfl
def zor(K:FK)(a:Ad)(E E1:XE):TS:=(zgc (zl9 (jb2 K (tVr 2)) (zaz 0) zju (za0 (a "Hold") "in_hand" (zbi K a) [] (λ_=>E0) (zdx K (tVr 1) "book") (zac (za0 (a "Layout") "piece_at" (zbg K a) [] (λ_=>E0) (zdx K (tVr 1) "plan") (zac (tVr 0) zaw)) zaw)) 1 [0]))
theorem zuq:type_of% (ap3 (zor.eq_1 K a E E1) D σ H):=rfl
def ziv(K:FK)(a:Ad)(E:XE):TS:=(zby (zoq K a E E) (zor K a E E))
def zqk(K:FK)(a:Ad)(E E1:XE):TS:=(zd5 (za0 (a "Store") "link" (zb2 K a) [] E (tVr 0) (zac (tVr 1) (zac (tVr 2) zaw))) (zaz 3))
theorem zwn:type_of% (ap3 (zqk.eq_1 K a E E1) D σ H):=rfl
def z3d(K:FK)(a:Ad)(E E1:XE):TS:=(zd5 (za0 (a "Store") "record_of" (zau K a) [] E (tVr 0) (zac (tVr 1) zaw)) (zaz 4))
def z3e(K:FK)(a:Ad)(E E1:XE):TS:=(zd5 (za0 (a "Store") "empty_cell" (zbj K a) [] E (tVr 0) (zac (tVr 1) (zac (zll (zac (tOp (zht K) (tVr 3) (tC (.int 1))) zaw)) zaw))) (zaz 5))
def z3f(K:FK)(a:Ad)(E E1:XE):TS:=(zgc (tOp (zcy K) (tVr 3) (zll (zac (tVr 5) (zac (za0 (a "Store") "recount" (zbl K a) [] E (tVr 0) (zac (tVr 4) (zac (tUn jev (tC (.int 1))) (zac (zll (zac (tVr 5) zaw)) zaw)))) zaw)))))
def zj5(K:FK)(a:Ad)(E:XE):TS:=(zby (zqk K a E E) (zby (z3d K a E E) (zby (z3e K a E E) (z3f K a E E))))
def zwo(K:FK)(a:Ad)(E E1:XE):TS:=(zd5 (tC .non) (zaz 2))
theorem z02:type_of% (ap3 (zwo.eq_1 K a E E1) D σ H):=rfl
def zwp(K:FK)(a:Ad)(E E1:XE):TS:=(zd5 (za0 (a "Store") "texts" (zcl K a) [] E1 (tVr 0) (zac (tVr 1) zaw)) (zaz 2))
theorem z03:type_of% (ap3 (zwp.eq_1 K a E E1) D σ H):=rfl
def zwq(K:FK)(a:Ad)(E E1:XE):TS:=(zd5 (tC .non) (zaz 2))
theorem z04:type_of% (ap3 (zwq.eq_1 K a E E1) D σ H):=rfl
def zwr(K:FK)(a:Ad)(E E1:XE):TS:=(jlu (λE1=>(zwp K a E E1)) (zsa (λcls=>W.exmOne K cls (.ref (a "NoName"))) (zwq K a E E) jc2))
theorem z05:type_of% (ap3 (zwr.eq_1 K a E E1) D σ H):=rfl
def zni(K:FK)(a:Ad)(E E1:XE):TS:=(zd5 (za0 (a "Hold") "waiting" (zcp K a) [] E (za0 (a "Store") "hold" (zdl K a) [] E (tVr 0) zaw) zaw) (zaz 3))
theorem z06:type_of% (ap3 (zni.eq_1 K a E E1) D σ H):=rfl
def znj(K:FK)(a:Ad)(E E1:XE):TS:=(zd5 (tCB (zft K) (zac (tVr 3) zaw)) (zaz 4))
theorem z07:type_of% (ap3 (znj.eq_1 K a E E1) D σ H):=rfl
def znk(K:FK)(a:Ad)(E E1:XE):TS:=(zfr (jn4 K "list" jc4 (tVr 3)))
theorem z08:type_of% (ap3 (znk.eq_1 K a E E1) D σ H):=rfl
def znl(K:FK)(a:Ad)(E E1:XE):TS:=(zgc (z6k (zac (za0 (a "Store") "names" (zck K a) [] E (tVr 0) zaw) (zac (tVr 2) (zac (tVr 4) (zac (tOp (zsb K) (za0 (a "Hold") "waiting" (zcp K a) [] E (za0 (a "Store") "hold" (zdl K a) [] E (tVr 0) zaw) zaw) (tVr 4)) zaw))))))
theorem z09:type_of% (ap3 (znl.eq_1 K a E E1) D σ H):=rfl
def znm(K:FK)(a:Ad)(E:XE):TS:=(zby (zwo K a E E) (zby (zwr K a E E) (zby (zni K a E E) (zby (znj K a E E) (zby (znk K a E E) (znl K a E E))))))
def zws(K:FK)(a:Ad)(E E1:XE):TS:=(zd5 (tC (.str "")) (zaz 5))
theorem z1a:type_of% (ap3 (zws.eq_1 K a E E1) D σ H):=rfl
def zwt(K:FK)(a:Ad)(E E1:XE):TS:=(zfr (za0 (a "Store") "make" (zc5 K a) [] E1 (tVr 0) (zac (tVr 2) zaw)))
theorem z1b:type_of% (ap3 (zwt.eq_1 K a E E1) D σ H):=rfl
def zwu(K:FK)(a:Ad)(E E1:XE):TS:=(zfr (za0 (a "Store") "link" (zb2 K a) [] E1 (tVr 0) (zac (tVr 2) (zac (tVr 3) zaw))))
theorem z1c:type_of% (ap3 (zwu.eq_1 K a E E1) D σ H):=rfl
def zwv(K:FK)(a:Ad)(E E1:XE):TS:=(zfr (za0 (a "Store") "cut" (zdu K a) [] E1 (tVr 0) (zac (tVr 2) zaw)))
theorem z1d:type_of% (ap3 (zwv.eq_1 K a E E1) D σ H):=rfl
def zww(K:FK)(a:Ad)(E E1:XE):TS:=(zfr (za0 (a "Store") "put" (zcv K a) [] E1 (tVr 0) (zac (tVr 2) (zac (zi0 (zfv K a) [] E1 (zac (tVr 4) zaw)) zaw))))
theorem z1e:type_of% (ap3 (zww.eq_1 K a E E1) D σ H):=rfl
def z69(K:FK)(a:Ad)(E E1:XE):TS:=(zfr (za0 (a "Store") "take" (zca K a) [] E1 (tVr 0) (zac (tVr 2) (zac (zi0 (zi2 K a) [] E1 (zac (tVr 4) zaw)) zaw))))
def z7a(K:FK)(a:Ad)(E E1:XE):TS:=(zfr (za0 (a "Store") "move" (zcq K a) [] E1 (tVr 0) (zac (tVr 2) (zac (tVr 3) zaw))))
def z7b(K:FK)(a:Ad)(E E1:XE):TS:=(zkr (zek (tOp (zsb K) (tVr 1) (tC (.int 6)))) (z69 K a E E1) (z7a K a E E1))
def zwx(K:FK)(a:Ad)(E E1:XE):TS:=(zkr (zek (tOp jdu (tVr 1) (tC (.int 6)))) (zww K a E E1) (z7b K a E E1))
theorem z1f:type_of% (ap3 (zwx.eq_1 K a E E1) D σ H):=rfl
def zs7(K:FK)(a:Ad)(E E1:XE):TS:=(zkr (zek (tOp (zsb K) (tVr 1) (tC (.int 3)))) (zwv K a E E1) (zwx K a E E1))
theorem zmt:type_of% (ap3 (zs7.eq_1 K a E E1) D σ H):=rfl
def zs8(K:FK)(a:Ad)(E E1:XE):TS:=(zkr (zek (tOp (zsb K) (tVr 1) (tC (.int 2)))) (zwu K a E E1) (zs7 K a E E1))
theorem zh9:type_of% (ap3 (zs8.eq_1 K a E E1) D σ H):=rfl
def zs9(K:FK)(a:Ad)(E E1:XE):TS:=(zkr (zek (tOp jdu (tVr 1) (tC (.int 2)))) (zwt K a E E1) (zs8 K a E E1))
theorem zgh:type_of% (ap3 (zs9.eq_1 K a E E1) D σ H):=rfl
def zlz(K:FK)(a:Ad)(E E1:XE):TS:=(zd5 (tC (.str "NoRoom")) (zaz 5))
theorem zze:type_of% (ap3 (zlz.eq_1 K a E E1) D σ H):=rfl
def zl0(K:FK)(a:Ad)(E E1:XE):TS:=(zd5 (tC (.str "NoPiece")) (zaz 5))
theorem zzf:type_of% (ap3 (zl0.eq_1 K a E E1) D σ H):=rfl
def zl1(K:FK)(a:Ad)(E E1:XE):TS:=(zd5 (tC (.str "Twice")) (zaz 5))
theorem zzg:type_of% (ap3 (zl1.eq_1 K a E E1) D σ H):=rfl
def zl2(K:FK)(a:Ad)(E E1:XE):TS:=(zd5 (tC (.str "NoName")) (zaz 5))
theorem zzh:type_of% (ap3 (zl2.eq_1 K a E E1) D σ H):=rfl
def zta(K:FK)(a:Ad)(E E1:XE):TS:=(jlu (λE1=>(zs9 K a E E1)) (zsa (λcls=>W.exmOne K cls (.ref (a "NoName"))) (zl2 K a E E) (zsa (λcls=>W.exmOne K cls (.ref (a "Twice"))) (zl1 K a E E) (zsa (λcls=>W.exmOne K cls (.ref (a "NoPiece"))) (zl0 K a E E) (zsa (λcls=>W.exmOne K cls (.ref (a "NoRoom"))) (zlz K a E E) jc2)))))
theorem zzi:type_of% (ap3 (zta.eq_1 K a E E1) D σ H):=rfl
def zgs(K:FK)(a:Ad)(E E1:XE):TS:=(zgc (tVr 5))
theorem zmu:type_of% (ap3 (zgs.eq_1 K a E E1) D σ H):=rfl
def znn(K:FK)(a:Ad)(E:XE):TS:=(zby (zws K a E E) (zby (zta K a E E) (zgs K a E E)))
def ztb(K:FK)(a:Ad)(E E1:XE):TS:=(zfr (za0 (a "Store") "make" (zc5 K a) [] E (tVr 0) (zac (tVr 2) zaw)))
theorem zzj:type_of% (ap3 (ztb.eq_1 K a E E1) D σ H):=rfl
def ztc(K:FK)(a:Ad)(E E1:XE):TS:=(zfr (za0 (a "Store") "link" (zb2 K a) [] E (tVr 0) (zac (tVr 2) (zac (tVr 3) zaw))))
theorem zzk:type_of% (ap3 (ztc.eq_1 K a E E1) D σ H):=rfl
def ztd(K:FK)(a:Ad)(E E1:XE):TS:=(zfr (za0 (a "Store") "link" (zb2 K a) [] E (tVr 0) (zac (tVr 3) (zac (tVr 2) zaw))))
theorem zzl:type_of% (ap3 (ztd.eq_1 K a E E1) D σ H):=rfl
def zte(K:FK)(a:Ad)(E E1:XE):TS:=(zfr (za0 (a "Store") "cut" (zdu K a) [] E (tVr 0) (zac (tVr 2) zaw)))
theorem zzm:type_of% (ap3 (zte.eq_1 K a E E1) D σ H):=rfl
def ztf(K:FK)(a:Ad)(E E1:XE):TS:=(zfr (za0 (a "Store") "put" (zcv K a) [] E (tVr 0) (zac (tVr 2) (zac (tC (.str "a")) zaw))))
theorem zzn:type_of% (ap3 (ztf.eq_1 K a E E1) D σ H):=rfl
def ztg(K:FK)(a:Ad)(E E1:XE):TS:=(zfr (za0 (a "Store") "take" (zca K a) [] E (tVr 0) (zac (tVr 2) (zac (tC (.int 0)) zaw))))
theorem zzo:type_of% (ap3 (ztg.eq_1 K a E E1) D σ H):=rfl
def zth(K:FK)(a:Ad)(E E1:XE):TS:=(zfr (za0 (a "Store") "move" (zcq K a) [] E (tVr 0) (zac (tVr 3) (zac (tVr 2) zaw))))
theorem zzp:type_of% (ap3 (zth.eq_1 K a E E1) D σ H):=rfl
def zti(K:FK)(a:Ad)(E E1:XE):TS:=(zfr (za0 (a "Store") "texts" (zcl K a) [] E (tVr 0) (zac (tVr 2) zaw)))
theorem zzq:type_of% (ap3 (zti.eq_1 K a E E1) D σ H):=rfl
def ztj(K:FK)(a:Ad)(E E1:XE):TS:=(zfr (za0 (a "Store") "move" (zcq K a) [] E (tVr 0) (zac (tVr 2) (zac (tVr 3) zaw))))
theorem zzr:type_of% (ap3 (ztj.eq_1 K a E E1) D σ H):=rfl
def zql(K:FK)(a:Ad)(E E1:XE):TS:=(zd5 (za0 (a "Layout") "blocks" (zbz K a) [] E (za0 (a "Store") "layout" (zdd K a) [] E (tVr 0) zaw) zaw) (zaz 5))
theorem zwy:type_of% (ap3 (zql.eq_1 K a E E1) D σ H):=rfl
def zqm(K:FK)(a:Ad)(E E1:XE):TS:=(zfr (za0 (a "Store") "write" (zc6 K a) [] E (tVr 0) (zac (tOp (zht K) (zll (zac (tOp jc3 (tUn jev (tC (.int 1))) (tOp ze2 (tVr 4) (tOp jeu (tC (.int 10)) (tC (.int 30))))) (zac (tOp (zcy K) (tVr 5) (tOp ze2 (tVr 4) (tOp jeu (tC (.int 10)) (tC (.int 30))))) zaw))) (tOp ze2 (tOp zgd (tVr 4) (tC (.int 3))) (tC (.int 2)))) zaw)))
theorem zwz:type_of% (ap3 (zqm.eq_1 K a E E1) D σ H):=rfl
def zqn(K:FK)(a:Ad)(E E1:XE):TS:=(zfr (za0 (a "Store") "put" (zcv K a) [] E (tVr 0) (zac (tVr 3) (zac (tOp (zht K) (zll (zac (tC (.str "")) (zac (tOp (zvh K) (tC (.str "-")) (tC (.int 41))) zaw))) (tOp ze2 (tVr 4) (tC (.int 2)))) zaw))))
theorem zw0:type_of% (ap3 (zqn.eq_1 K a E E1) D σ H):=rfl
def zqo(K:FK)(a:Ad)(E E1:XE):TS:=(zfr (za0 (a "Store") "take" (zca K a) [] E (tVr 0) (zac (tVr 3) (zac (tOp (zht K) (zll (zac (tOp jc3 (tUn jev (tC (.int 1))) (tOp ze2 (tVr 4) (tOp jeu (tC (.int 10)) (tC (.int 30))))) (zac (tOp (zcy K) (tC (.int 6)) (tOp ze2 (tVr 4) (tOp jeu (tC (.int 10)) (tC (.int 30))))) zaw))) (tOp ze2 (tOp zgd (tVr 4) (tC (.int 3))) (tC (.int 2)))) zaw))))
theorem zw1:type_of% (ap3 (zqo.eq_1 K a E E1) D σ H):=rfl
def zqp(K:FK)(a:Ad)(E E1:XE):TS:=(zkr (zek (tOp (zsb K) (tVr 1) (tC (.int 8)))) (zqn K a E E) (zqo K a E E))
theorem zw2:type_of% (ap3 (zqp.eq_1 K a E E1) D σ H):=rfl
def zqq(K:FK)(a:Ad)(E E1:XE):TS:=(zkr (zek (tOp (zsb K) (tVr 1) (tC (.int 11)))) (zby (zql K a E E) (zqm K a E E)) (zqp K a E E))
theorem zw3:type_of% (ap3 (zqq.eq_1 K a E E1) D σ H):=rfl
def zqr(K:FK)(a:Ad)(E E1:XE):TS:=(zkr (zek (tOp (zsb K) (tVr 1) (tC (.int 10)))) (ztj K a E E) (zqq K a E E))
theorem zw4:type_of% (ap3 (zqr.eq_1 K a E E1) D σ H):=rfl
def zqs(K:FK)(a:Ad)(E E1:XE):TS:=(zkr (zek (tOp (zsb K) (tVr 1) (tC (.int 7)))) (zti K a E E) (zqr K a E E))
theorem zw5:type_of% (ap3 (zqs.eq_1 K a E E1) D σ H):=rfl
def zqt(K:FK)(a:Ad)(E E1:XE):TS:=(zkr (zek (tOp (zsb K) (tVr 1) (tC (.int 6)))) (zth K a E E) (zqs K a E E))
theorem zw6:type_of% (ap3 (zqt.eq_1 K a E E1) D σ H):=rfl
def zqu(K:FK)(a:Ad)(E E1:XE):TS:=(zkr (zek (tOp (zsb K) (tVr 1) (tC (.int 5)))) (ztg K a E E) (zqt K a E E))
theorem zw7:type_of% (ap3 (zqu.eq_1 K a E E1) D σ H):=rfl
def zqv(K:FK)(a:Ad)(E E1:XE):TS:=(zkr (zek (tOp (zsb K) (tVr 1) (tC (.int 4)))) (ztf K a E E) (zqu K a E E))
theorem zw8:type_of% (ap3 (zqv.eq_1 K a E E1) D σ H):=rfl
def zqw(K:FK)(a:Ad)(E E1:XE):TS:=(zkr (zek (tOp (zsb K) (tVr 1) (tC (.int 3)))) (zte K a E E) (zqv K a E E))
theorem zw9:type_of% (ap3 (zqw.eq_1 K a E E1) D σ H):=rfl
def zqx(K:FK)(a:Ad)(E E1:XE):TS:=(zkr (zek (tOp (zsb K) (tVr 1) (tC (.int 2)))) (ztd K a E E) (zqw K a E E))
theorem zxa:type_of% (ap3 (zqx.eq_1 K a E E1) D σ H):=rfl
def zqy(K:FK)(a:Ad)(E E1:XE):TS:=(zkr (zek (tOp (zsb K) (tVr 1) (tC (.int 1)))) (ztc K a E E) (zqx K a E E))
theorem zxb:type_of% (ap3 (zqy.eq_1 K a E E1) D σ H):=rfl
def zqz(K:FK)(a:Ad)(E E1:XE):TS:=(zkr (zek (tOp (zsb K) (tVr 1) (tC (.int 0)))) (ztb K a E E) (zqy K a E E))
theorem zxc:type_of% (ap3 (zqz.eq_1 K a E E1) D σ H):=rfl
def zlh(K:FK)(a:Ad)(E:XE):TS:=(zqz K a E E)
def zos(K:FK)(a:Ad)(E E1:XE):TS:=(zd5 (zll zaw) (zaz 6))
theorem zur:type_of% (ap3 (zos.eq_1 K a E E1) D σ H):=rfl
def zot(K:FK)(a:Ad)(E E1:XE):TS:=(zd5 (tC (.bl false)) (zaz 7))
theorem zus:type_of% (ap3 (zot.eq_1 K a E E1) D σ H):=rfl
def zou(K:FK)(a:Ad)(E E1:XE):TS:=(zd5 (tC (.bl false)) (zaz 8))
theorem zut:type_of% (ap3 (zou.eq_1 K a E E1) D σ H):=rfl
def zov(K:FK)(a:Ad)(E E1:XE):TS:=(zfr (zi0 (zey K a) [] E1 (zac (tVr 0) (zac (tVr 1) (zac (tVr 2) (zac (tVr 3) (zac (tVr 4) zaw)))))))
theorem zuu:type_of% (ap3 (zov.eq_1 K a E E1) D σ H):=rfl
def zjg(K:FK)(a:Ad)(E E1:XE):TS:=(zd5 (zll (zac (tCB (zd7 K) (zac (tVr 9) (zac (tC (.ref (a "NoName"))) zaw))) (zac (tCB (zd7 K) (zac (tVr 9) (zac (tC (.ref (a "NoPiece"))) zaw))) (zac (tCB (zd7 K) (zac (tVr 9) (zac (tC (.ref (a "NoBlock"))) zaw))) zaw)))) (zaz 6))
theorem zuv:type_of% (ap3 (zjg.eq_1 K a E E1) D σ H):=rfl
def zjh(K:FK)(a:Ad)(E E1:XE):TS:=(zd5 (tCB (zd7 K) (zac (tVr 9) (zac (z6k (zac (tC (.ref (a "NoChange"))) (zac (tC (.ref (a "NoRoom"))) (zac (tC (.ref (a "NoRow"))) (zac (tC (.ref (a "NotSound"))) (zac (tC (.ref (a "Twice"))) zaw)))))) zaw))) (zaz 8))
theorem zuw:type_of% (ap3 (zjh.eq_1 K a E E1) D σ H):=rfl
def zji(K:FK)(a:Ad)(E E1:XE):TS:=(zd5 (tCB (zd7 K) (zac (tVr 9) (zac (tC (.ty "ValueError")) zaw))) (zaz 7))
theorem zux:type_of% (ap3 (zji.eq_1 K a E E1) D σ H):=rfl
def zow(K:FK)(a:Ad)(E E1:XE):TS:=(jlu (λE1=>(zov K a E E1)) (z6s (λcls=>W.exmOne K cls (.ref (a "HoldError"))) 9 (zby (zjg K a E E) (zby (zjh K a E E) (zji K a E E))) jc2))
theorem zuy:type_of% (ap3 (zow.eq_1 K a E E1) D σ H):=rfl
def zjj(K:FK)(a:Ad)(E E1:XE):TS:=(zgc (jag (tVr 7) (jag (jjv K (tVr 8)) (tOp (zsb K) (tVr 6) (zll (zac (tOp (zsb K) (tVr 5) (tC (.str "NoName"))) (zac (tOp (zsb K) (tVr 5) (tC (.str "NoPiece"))) (zac (tOp (zsb K) (tVr 5) (tC (.str "NoBlock"))) zaw))))))))
theorem zuz:type_of% (ap3 (zjj.eq_1 K a E E1) D σ H):=rfl
def ziw(K:FK)(a:Ad)(E:XE):TS:=(zby (zos K a E E) (zby (zot K a E E) (zby (zou K a E E) (zby (zow K a E E) (zjj K a E E)))))
def jcb(K:FK)(a:Ad)(E E1:XE):TS:=(zd5 (zi0 (zci K a) [] E (zac (tVr 0) (zac (tC (.int 0)) zaw))) (zaz 1))
theorem ja5:type_of% (ap3 (jcb.eq_1 K a E E1) D σ H):=rfl
def jcc(K:FK)(a:Ad)(E E1:XE):TS:=(zd5 (z8e (a "Layout") (zdq K a) [] E (zac (tOp (zcy K) (tC (.int 1)) (tOp ze2 (tVr 1) (tC (.int 2)))) (zac (tOp (zcy K) (tC (.int 1)) (tOp ze2 (tOp zgd (tVr 1) (tC (.int 2))) (tC (.int 2)))) (zac (tOp (zcy K) (tC (.int 1)) (tOp ze2 (tOp zgd (tVr 1) (tC (.int 4))) (tC (.int 2)))) (zac (tOp (zcy K) (tC (.int 1)) (tOp ze2 (tOp zgd (tVr 1) (tC (.int 8))) (tC (.int 3)))) zaw))))) (zaz 2))
theorem ja6:type_of% (ap3 (jcc.eq_1 K a E E1) D σ H):=rfl
def jcd(K:FK)(a:Ad)(E E1:XE):TS:=(zd5 (z8e (a "Store") (zed K a) [] E (zac (tVr 2) (zac (za0 (a "Layout") "plank" (zda K a) [] E (tVr 2) zaw) zaw))) (zaz 3))
theorem ja7:type_of% (ap3 (jcd.eq_1 K a E E1) D σ H):=rfl
def jce(K:FK)(a:Ad)(E E1:XE):TS:=(zd5 (zi0 (zex K a) [] E (zac (tOp zgd (tVr 1) (tC (.int 24))) zaw)) (zaz 4))
theorem ja8:type_of% (ap3 (jce.eq_1 K a E E1) D σ H):=rfl
def jcf(K:FK)(a:Ad)(E E1:XE):TS:=(zd5 (tOp (zht K) (tVr 4) (tOp ze2 (tOp zgd (tVr 1) (tC (.int 6))) (tC (.int 5)))) (zaz 5))
theorem ja9:type_of% (ap3 (jcf.eq_1 K a E E1) D σ H):=rfl
def jcg(K:FK)(a:Ad)(E E1:XE):TS:=(zfr (zi0 (zfw K a) [] E (zac (tVr 3) (zac (tOp (zht K) (zll (zac (tC (.int 0)) (zac (tC (.int 2)) (zac (tC (.int 3)) (zac (tC (.int 4)) zaw))))) (tOp ze2 (tOp zgd (tVr 1) (tC (.int 30))) (tC (.int 4)))) (zac (tVr 5) (zac (tOp (zht K) (tVr 4) (tOp ze2 (tOp zgd (tVr 1) (tC (.int 120))) (tC (.int 5)))) (zac (tOp zgd (tVr 1) (tC (.int 600))) zaw)))))))
theorem jba:type_of% (ap3 (jcg.eq_1 K a E E1) D σ H):=rfl
def jch(K:FK)(a:Ad)(E E1:XE):TS:=ji7
theorem jbb:type_of% (ap3 (jch.eq_1 K a E E1) D σ H):=rfl
def jci(K:FK)(a:Ad)(E E1:XE):TS:=(zkr (zek (tOp (zsb K) (tOp ze2 (tVr 1) (tC (.int 2))) (tC (.int 0)))) (zby (jcg K a E E) (jch K a E E)) zha)
theorem jbc:type_of% (ap3 (jci.eq_1 K a E E1) D σ H):=rfl
def jcj(K:FK)(a:Ad)(E E1:XE):TS:=(zd5 (tOp ze2 (tOp zgd (tVr 1) (tC (.int 30))) (tC (.int 12))) (zaz 6))
theorem jbd:type_of% (ap3 (jcj.eq_1 K a E E1) D σ H):=rfl
def z9e(K:FK)(a:Ad)(E E1:XE):TS:=(zd5 (tC (.str "NoName")) (zaz 7))
theorem z9f:type_of% (ap3 (z9e.eq_1 K a E E1) D σ H):=rfl
def z9g(K:FK)(a:Ad)(E E1:XE):TS:=(zd5 (tC (.str "NoPiece")) (zaz 7))
theorem z9h:type_of% (ap3 (z9g.eq_1 K a E E1) D σ H):=rfl
def z9i(K:FK)(a:Ad)(E E1:XE):TS:=(zkr (jkz (zek (tOp (jnn K) (tVr 6) (z6k (zac (tC (.int 8)) (zac (tC (.int 9)) zaw))))) (zek (tOp (jnn K) (tVr 5) (za0 (a "Store") "names" (zck K a) [] E (tVr 3) zaw)))) (z9g K a E E) zha)
theorem z9j:type_of% (ap3 (z9i.eq_1 K a E E1) D σ H):=rfl
def z9k(K:FK)(a:Ad)(E E1:XE):TS:=(zd5 (tC (.str "NoBlock")) (zaz 7))
theorem z9l:type_of% (ap3 (z9k.eq_1 K a E E1) D σ H):=rfl
def z3g(K:FK)(a:Ad)(E E1:XE):TS:=(zkr (zek (tOp (zsb K) (tVr 6) (tC (.int 11)))) (z9k K a E E) zha)
theorem z9m:type_of% (ap3 (z3g.eq_1 K a E E1) D σ H):=rfl
def zxd(K:FK)(a:Ad)(E E1:XE):TS:=(zd5 (zi0 (ze3 K a) [] E (zac (tVr 3) (zac (tVr 5) zaw))) (zaz 8))
theorem z9n:type_of% (ap3 (zxd.eq_1 K a E E1) D σ H):=rfl
def jfy(K:FK)(a:Ad)(E E1:XE):TS:=(zgc (tC (.bl false)))
def zxe(K:FK)(a:Ad)(E E1:XE):TS:=(zkr (jds (jk3 K (zi0 (zc7 K a) [] E (zac (tVr 3) (zac (tVr 6) (zac (zi0 (zcr K a) [] E (zac (tOp zgd (tVr 1) (tC (.int 300))) (zac (tVr 5) zaw))) (zac (tVr 5) (zac (tOp zgd (tVr 1) (tC (.int 300))) (zac (tVr 7) zaw))))))))) (jfy K a E E) zha)
theorem z9o:type_of% (ap3 (zxe.eq_1 K a E E1) D σ H):=rfl
def jfz(K:FK)(a:Ad)(E E1:XE):TS:=(zgc (tC (.bl false)))
def zxf(K:FK)(a:Ad)(E E1:XE):TS:=(zkr (tOr (jds (jk3 K (tOp (zht K) (tVr 8) (tC (.int 3))))) (zek (tOp (jhd K) (zi0 (ze3 K a) [] E (zac (tVr 3) (zac (tVr 5) zaw))) (tVr 8)))) (jfz K a E E) zha)
theorem z9p:type_of% (ap3 (zxf.eq_1 K a E E1) D σ H):=rfl
def jf0(K:FK)(a:Ad)(E E1:XE):TS:=(zgc (tC (.bl false)))
def zxg(K:FK)(a:Ad)(E E1:XE):TS:=(zkr (jds (jk3 K (zi0 (zc7 K a) [] E (zac (tVr 3) (zac (tVr 6) (zac (zi0 (zcr K a) [] E (zac (tOp zgd (tVr 1) (tC (.int 300))) (zac (tVr 5) zaw))) (zac (tVr 5) (zac (tOp zgd (tVr 1) (tC (.int 300))) (zac (tVr 7) zaw))))))))) (jf0 K a E E) zha)
theorem z9q:type_of% (ap3 (zxg.eq_1 K a E E1) D σ H):=rfl
def z9r(K:FK)(a:Ad)(E E1:XE):TS:=(jad (jb2 K (tSl (jb1 K) (tVr 0) (zxz (tC (.int 1))) zh6)) (zaz 1) (zby (jcf K a E E) (zby (jci K a E E) (zby (jcj K a E E) (zby (z9e K a E E) (zby (z9i K a E E) (zby (z3g K a E E) (zby (zxd K a E E) (zby (zxe K a E E) (zby (zxf K a E E) (zxg K a E E)))))))))))
theorem z9s:type_of% (ap3 (z9r.eq_1 K a E E1) D σ H):=rfl
def z9t(K:FK)(a:Ad)(E E1:XE):TS:=(zgc (tC (.bl true)))
theorem z9u:type_of% (ap3 (z9t.eq_1 K a E E1) D σ H):=rfl
def jck(K:FK)(a:Ad)(E:XE):TS:=(zby (jcb K a E E) (zby (jcc K a E E) (zby (jcd K a E E) (zby (jce K a E E) (zby (z9r K a E E) (z9t K a E E))))))
end
end L2
namespace L2
local macro_rules
 | `(tactic| push_cast[$ls,*])=>`(tactic| simp only[↓je1,↓jhg,↓je2,↓jhh,↓je3,↓jhi,↓jjx,↓jhj,↓jjy,↓jl0,↓jiu,↓jhk,↓je4,↓jjz,↓jj0,↓jl1,↓jhl,↓jj1,↓jhm,↓jj2,↓jl2,↓je5,↓jb3,↓jj3,↓jj4,↓jhn,↓jho,↓jhp,↓jj5,↓jj6,↓jl3,↓jiv,↓je6,↓jj7,↓jb4,↓jj8,↓jj9,↓jka,↓jhq,↓jl4,↓jc5,↓jhr,↓jl5,↓jkb,↓jkc,↓jhs,↓z6x,↓z6y,↓z8t,↓z8u,↓z8v,↓jap,↓jc6,
     ↓jl6,↓jl7,↓job,↓jiw,↓jl9,↓je7,↓je8,↓jkd,↓je9,↓jke,↓jkg,↓jkf,↓joc,↓jod,↓jpe,↓jmd,↓jme,↓jmb,↓jma,↓jmc,↓jmf,↓jmg,↓jmh,↓jmi,↓jmj,↓jkh,↓jht,↓jmk,↓jml,↓jix,↓jki,
     jc3,ze2,zgd,jeu,jev,jlw,Ends.drop,zbn,List.map_cons,List.map_nil,List.length_cons,List.length_nil,List.reduceReplicate,Nat.reduceAdd,Nat.reduceSub,Nat.zero_add,List.cons_append,List.nil_append,List.append_nil,List.getElem?_cons_zero,List.getElem?_cons_succ,Option.some.injEq,Option.join_some,List.set_cons_zero,List.set_cons_succ,
     V.int.injEq,V.ref.injEq,V.bl.injEq,V.str.injEq,List.cons.injEq,and_true,true_and,exists_eq_left',exists_eq_left,exists_eq',exists_eq,exists_and_left,exists_and_right,reduceCtorEq,false_and,and_false,or_false,false_or,exists_false,decide_eq_true_eq,Bool.not_eq_true',Bool.not_eq_true,decide_eq_false_iff_not,eq_self_iff_true,if_true,Bool.false_eq_true,if_false,ite_true,Bool.true_eq_false,forall_const,and_assoc,Int.reduceToNat,Int.reduceLT,Int.reduceLE,Int.reduceEq,Nat.reduceLeDiff,Int.toNat_natCast,not_true_eq_false,not_false_eq_true,Bool.not_false,Bool.not_true,↓jhz,↓jkl,↓jdf,↓jh0,↓jfm,↓jfn,↓jfo,↓joh,↓ja2,↓ja0,↓jmp,↓jfl,↓jhy,↓z86,↓z8x,↓jof,$ls,*])
section
variable{K:W.Frag}{a:Ad}{vs:List V}{H:Hp}{Q:VK}{E:XK}
theorem z1g(h:zci K a vs H Q E):zin K a (λ_=>E) (zfj Q) (zbn ["script","k"] vs) H:=by
 obtain⟨s,ns,k,rfl,hs,hl,q⟩:=h
 push_cast[zin,↓zt5,↓zt6,↓zt7]
 refine⟨ns.length,?_,?_⟩
 ·exact .inl ⟨_,hs,(List.length_map _).symm⟩
 split
 ·rename_i hk
  have hk:k<ns.length:=by omega
  refine ztp hs rfl (v:=.int (z2z ns k)) ?_ q
  unfold z2z
  rw[List.getElem?_map,List.getElem?_eq_getElem hk]
  simp[List.getD,hk]
 ·rename_i hk
  have:z2z ns k=0:=by
   unfold z2z
   rw[List.getD_eq_getElem?_getD,List.getElem?_eq_none (by omega)];rfl
  rw[this]at q
  exact q
theorem z3h(h:zci K a vs H Q E):vs.length=2:=by
 obtain⟨_,_,_,rfl,_⟩:=h
 rfl
theorem z3i(h:zd8 K a vs H Q E):zjx K a (λ_=>E) (zfj Q) (zbn ["self","blocks","cells"] vs) H:=by
 obtain⟨p,dx,m,w,rfl,T,hp,hm,h1,h2,q⟩:=h
 push_cast[zjx,↓zvm,↓zvn,↓zvo]
 refine⟨by omega,by omega,?_⟩
 refine zmb (zd4 m (by omega)) (λi ys H'=>Same H H'/\∃ ts:List Addr,ys=ts.map V.ref/\Paired (λt r=>H' t=some (.tup r)) ts (List.replicate i (List.replicate w .non))) ⟨Same.refl _,[],rfl,.nil⟩ (λi ys H' hi hl ⟨s,ts,e,P⟩=> ?_) (λys H' hl ⟨s,ts,e,P⟩ cl hcl=> ?_)
 ·push_cast[z4n,Option.join_some,Int.zero_add]
  refine⟨by decide,λt ht=>.inr ?_⟩
  have fin:∀ (t':Addr) (H2:Hp),Same H' H2->H2 t'=some (.tup (List.replicate w .non))->Same H H2/\∃ ts':List Addr,ys++[V.ref t']=ts'.map V.ref/\Paired (λt r=>H2 t=some (.tup r)) ts' (List.replicate (i+1) (List.replicate w .non)):=λt' H2 s2 e2=>by
   refine⟨s.trans s2,ts++[t'],by rw[e,List.map_append];rfl,?_⟩
   rw[List.replicate_succ']
   exact Paired.snoc (Paired.mapP P λt r z=>s2 _ _ z) e2
  have s1:Same H' (upd H' t (.tup [V.non])):=λb o z=>by rw[zal (zay z ht)];exact z
  refine⟨t,w,[.non],rfl,rfl,SqT.of zae,by simp,by omega,by omega,zd4 _ (by simp;omega),λe1=> ?_,λe1 u hu=> ?_⟩
  ·have e1:w=1:=by omega
   refine fin t _ s1 ?_
   rw[zae,e1];rfl
  ·rw[Int.toNat_natCast,jmm]
   exact fin u _ (s1.trans λb o z=>by rw[zal (zay z hu)];exact z) zae
 ·have npc:p≠cl:=zay (s _ _ hp) hcl
  have e1:upd H' cl (HO.lst ys) p=some (HO.ins (a "Plank") dx []):=by rw[zal npc];exact s _ _ hp
  refine⟨_,_,_,e1,T.cl,T.nC,by decide,_,_,_,zae,T.cl,T.nW,zc3 (by decide),_,_,_,zae,T.cl,T.nN,zc3 (n:=1000) (Nat.succ_lt_succ (zc3 (n:=999) (by decide))),?_⟩
  rw[jmt,zmx,zmx]
  refine q cl _ (s.free hcl) ⟨⟨dx,zae⟩,⟨ts,by rw[zal npc.symm,zae,e],?_⟩,λr hr=> ?_,by simpa using hm,h2⟩ λb o eb hb=> ?_
  ·refine Paired.mapP P λt r z=> ?_
   rw[zal (zix z (s _ _ hp) (by intro z';cases z')),zal (zay z hcl)]
   exact z
  ·rw[List.eq_of_mem_replicate hr,List.length_replicate]
  ·rw[zal hb,zal (zay (s _ _ eb) hcl)]
   exact s _ _ eb
theorem zzs(h:zb9 K a vs H Q E):zhj K a (λ_=>E) (zfj Q) (zbn ["self"] vs) H:=by
 obtain⟨p,cl,w,rows,n,rfl,T,P,q⟩:=h
 obtain⟨dx,h1⟩:=P.ob
 obtain⟨ts,h2,h3⟩:=P.ls
 push_cast[zhj,↓zro]
 refine⟨_,_,_,h1,T.cl,T.nC,_,jok _ _ _,rows.length,.inl ⟨_,SqL.of h2,?_⟩,q⟩
 rw[List.length_map,h3.length]
theorem z1h(h:zdo K a vs H Q E):zil K a (λ_=>E) (zfj Q) (zbn ["self"] vs) H:=by
 obtain⟨p,cl,w,rows,n,rfl,T,P,q⟩:=h
 obtain⟨dx,h1⟩:=P.ob
 push_cast[zil,↓zt0]
 exact⟨_,_,_,h1,T.cl,T.nW,_,jpg _ _ _,q⟩
theorem zmv(h:za4 K a vs H Q E):zd3 K a (λ_=>E) (zfj Q) (zbn ["self","block"] vs) H:=by
 obtain⟨p,cl,w,rows,n,b,rfl,T,P,q,qe⟩:=h
 obtain⟨dx,h1⟩:=P.ob
 obtain⟨ts,h2,h3⟩:=P.ls
 push_cast[zd3,↓zkh,↓zki]
 have hl:rows.length=(ts.map V.ref).length:=by rw[List.length_map,h3.length]
 split
 ·rename_i h0
  refine⟨_,_,_,h1,T.cl,T.nC,_,jok _ _ _,rows.length,.inl ⟨_,SqL.of h2,hl⟩,?_⟩
  split
  ·exact⟨by decide,qe (by omega)⟩
  ·exact q h0 (by omega)
 ·exact⟨by decide,qe (by omega)⟩
theorem jm4(cl:Addr)(w n:Int):(pf cl w n).lookup ("ask_for_block":Str)=none:=jh3 _ _ _ (by decide +kernel) (by decide +kernel) (by decide +kernel)
theorem z3j(h:zc4 K a vs H Q E):zjy K a (λ_=>E) (zfj Q) (zbn ["self","block"] vs) H:=by
 obtain⟨p,cl,w,rows,n,b,rfl,T,P,q,qe⟩:=h
 obtain⟨dx,h1⟩:=P.ob
 obtain⟨ts,h2,h3⟩:=P.ls
 push_cast[zjy,↓zv0,↓zv1,za4]
 refine⟨_,_,h1,jm4 _ _ _,T,cl,w,rows,⟨n,P⟩,λh0 hb=>⟨_,_,_,h1,T.cl,T.nC,_,jok _ _ _,?_⟩,qe⟩
 obtain⟨i,rfl⟩:∃ i:Nat,b=i:=⟨b.toNat,by omega⟩
 have hi:i<rows.length:=by omega
 obtain⟨t,et,ht⟩:=zmc h3 (List.getElem?_eq_getElem hi)
 refine ztp (SqL.of h2) rfl (v:=.ref t) (by rw[List.getElem?_map,et];rfl) ?_
 rw[jix]
 exact⟨_,.inr (SqT.of ht),q i _ rfl (List.getElem?_eq_getElem hi)⟩
theorem z1i(h:zdp K a vs H Q E):zlr K a (λ_=>E) (zfj Q) (zbn ["self","block","values"] vs) H:=h.elim
theorem jf1(cl:Addr)(w n:Int):(pf cl w n).lookup ("read":Str)=none:=jh3 _ _ _ (by decide +kernel) (by decide +kernel) (by decide +kernel)
theorem z4v(h:zd8 K a vs H Q E):vs.length=3:=by
 obtain⟨_,_,_,_,rfl,_⟩:=h
 rfl
theorem z1j(h:zb9 K a vs H Q E):vs.length=1:=by
 obtain⟨_,_,_,_,_,rfl,_⟩:=h
 rfl
theorem z3k(h:zdo K a vs H Q E):vs.length=1:=by
 obtain⟨_,_,_,_,_,rfl,_⟩:=h
 rfl
theorem zno(h:za4 K a vs H Q E):vs.length=2:=by
 obtain⟨_,_,_,_,_,_,rfl,_⟩:=h
 rfl
theorem z4w(h:zc4 K a vs H Q E):vs.length=2:=by
 obtain⟨_,_,_,_,_,_,rfl,_⟩:=h
 rfl
theorem z3l(h:zdp K a vs H Q E):vs.length=3:=h.elim
theorem zgl{f:Str}{v:V}{fs:List (Str × V)}{n:Nat}(h:fs.length<n):(zfs f v fs).length<n+1:=Nat.lt_of_le_of_lt (zka f v fs) (Nat.succ_lt_succ h)
theorem SameBut.none{b:Addr}{H H1:Hp}{x:Addr}(s:SameBut (· =b) H H1)(hb:H1 b≠Option.none)(h:H1 x=Option.none):H x=Option.none:=by
 cases e:H x with
 | none=>rfl
 | some o =>
  have:x≠b:=λz=>hb (z ▸ h)
  rw[s _ _ e this]at h
  cases h
theorem z1k(h:zdr K a vs H Q E):zik K a (λ_=>E) (zfj Q) (zbn ["self","place","value","needs"] vs) H:=by
 obtain⟨x,dx,pl,v,nt,rfl,T,hx,q⟩:=h
 push_cast[zik,↓zts,↓ztt,↓ztu]
 refine⟨_,_,_,hx,T.cc,T.nP,by decide,_,_,_,zae,T.cc,T.nV,zgl (n:=999) (by decide),_,_,_,zae,T.cc,T.nN,zgl (n:=999) (zgl (n:=998) (by decide)),?_⟩
 rw[jko,zmx,zmx]
 exact q
theorem z3m(h:zdr K a vs H Q E):vs.length=4:=by
 obtain⟨_,_,_,_,_,rfl,_⟩:=h
 rfl
theorem z4x(h:zd9 K a vs H Q E):zk5 K a (λ_=>E) (zfj Q) (zbn ["self","plank"] vs) H:=by
 obtain⟨b,gp,cl,dx,w,rows,n,rfl,T,TP,P,hb,q⟩:=h
 push_cast[zk5,↓zym,↓zyn,↓zyo,↓zyp,↓zyq]
 refine⟨_,_,_,hb,T.cl,T.nG,by decide,by decide,?_⟩
 have e1:upd H b (.ins (bkC a) dx (zfs "ground" (.ref gp) [])) b=some (.ins (bkC a) dx (zfs "ground" (.ref gp) [])):=zae
 have s1:SameBut (· =b) H (upd H b (.ins (bkC a) dx (zfs "ground" (.ref gp) []))):=λx o e n=>by rw[zal n];exact e
 revert e1 s1
 generalize upd H b (.ins (bkC a) dx (zfs "ground" (.ref gp) []))=H1
 intro e1 s1 m hm
 have nbm:b≠m:=zay e1 hm
 have hmH:=s1.none (by rw[e1];intro z;cases z) hm
 refine⟨_,_,_,by rw[zal nbm];exact e1,T.cl,T.nM,zgl (n:=999) (by decide),?_⟩
 have s2:SameBut (· =b) H (upd (upd H1 m (.lst [])) b (.ins (bkC a) dx (zfs "made" (.ref m) (zfs "ground" (.ref gp) [])))):=(s1.upd (.inr hmH)).upd (.inl rfl)
 have e2:upd (upd H1 m (.lst [])) b (.ins (bkC a) dx (zfs "made" (.ref m) (zfs "ground" (.ref gp) []))) b=some (.ins (bkC a) dx (zfs "made" (.ref m) (zfs "ground" (.ref gp) []))):=zae
 have m2:upd (upd H1 m (.lst [])) b (.ins (bkC a) dx (zfs "made" (.ref m) (zfs "ground" (.ref gp) []))) m=some (.lst []):=by rw[zal nbm.symm,zae]
 revert s2 e2 m2
 generalize upd (upd H1 m (.lst [])) b (.ins (bkC a) dx (zfs "made" (.ref m) (zfs "ground" (.ref gp) [])))=H2
 intro s2 e2 m2
 have gb:∀ x xs,(· =b) x->H x≠some (.tup xs):=λx xs e=>by rw[show x=b from e,hb];intro z;cases z
 have ncl:¬ cl=b:=by obtain⟨ts,z,_⟩:=P.ls;exact zix z hb (by intro z;cases z)
 have P2:PlankAt a H2 gp cl w rows n:=by
  obtain⟨⟨dx',f1⟩,⟨ts,f2,f3⟩,r1,r2,r3⟩:=P
  exact⟨⟨dx',s2 _ _ f1 (zix f1 hb (jca (by simp[pf])))⟩,⟨ts,s2 _ _ f2 (zix f2 hb (by intro z;cases z)),Paired.mapP f3 λt r z=>s2 _ _ z (zix z hb (by intro z;cases z))⟩,r1,r2,r3⟩
 obtain⟨dp,hp⟩:=P2.ob
 refine⟨_,_,hp,jh3 _ _ _ (by decide +kernel) (by decide +kernel) (by decide +kernel),gp,cl,w,rows,n,rfl,TP,P2,rows.length,rfl,by omega,by have:=P.sz;omega,?_⟩
 rw[Int.toNat_natCast]
 refine zmb (zd4 _ (by have:=P.sz;omega)) (λi ys H'=>Same H2 H'/\∃ ls:List Addr,ys=ls.map V.ref/\ls.Nodup/\∀ l∈ls,H' l=some (.lst [])/\H2 l=none) ⟨Same.refl _,[],rfl,List.nodup_nil,by simp⟩ (λi ys H' hi hl ⟨s,ls,ey,nd,al⟩=> ?_) (λys H' hl ⟨s,ls,ey,nd,al⟩ mi hmi=> ?_)
 ·push_cast[]
  refine⟨by decide,λl hl'=>⟨s.trans (zah hl'),ls++[l],by rw[ey,List.map_append];rfl,?_,λx hx=> ?_⟩⟩
  ·exact List.nodup_append.mpr ⟨nd,by simp,λx hx y hy e=>by rw[List.mem_singleton]at hy;subst hy;subst e;rw[(al _ hx).1]at hl';cases hl'⟩
  ·rcases List.mem_append.mp hx with hx | hx
   ·exact⟨zah hl' _ _ (al x hx).1,(al x hx).2⟩
   ·rw[List.mem_singleton.mp hx];exact⟨zae,s.free hl'⟩
 ·have s3:SameBut (· =b) H (upd H' mi (.lst ys)):=by
   intro x o e nx
   have e':=s _ _ (s2 _ _ e nx)
   rw[zal (zay e' hmi)];exact e'
  have e3:upd H' mi (.lst ys) b=some (.ins (bkC a) dx (zfs "made" (.ref m) (zfs "ground" (.ref gp) []))):=by rw[zal (zay (s _ _ e2) hmi)];exact s _ _ e2
  have m3:upd H' mi (.lst ys) m=some (.lst []):=by rw[zal (zay (s _ _ m2) hmi)];exact s _ _ m2
  have i3:upd H' mi (.lst ys) mi=some (.lst (ls.map V.ref)):=by rw[zae,ey]
  have l3:∀ l∈ls,upd H' mi (.lst ys) l=some (.lst [])/\H l=none/\l≠mi/\l≠m:=λl hl'=>by
   have z:=al l hl'
   have n1:=zay z.1 hmi
   exact⟨by rw[zal n1];exact z.1,s2.none (by rw[e2];intro z;cases z) z.2,n1,λy=>by rw[y,m2]at z;cases z.2⟩
  have hmiH:H mi=none:=s2.none (by rw[e2];intro z;cases z) (s.free hmi)
  have nmm:m≠mi:=zay (s _ _ m2) hmi
  have hlen:ls.length=rows.length:=by rw[<-hl,ey,List.length_map]
  revert s3 e3 m3 i3 l3
  generalize upd H' mi (.lst ys)=H3
  intro s3 e3 m3 i3 l3
  refine⟨_,_,_,e3,T.cl,T.nI,zgl (n:=999) (zgl (n:=998) (by decide)),λlt hlt=> ?_⟩
  have nb4:b≠lt:=zay zae hlt
  rw[zal nb4.symm]at hlt
  have ltH:H lt=none:=s3.none (by rw[e3];intro z;cases z) hlt
  refine⟨_,_,_,by rw[zal nb4,zae],T.cl,T.nL,zgl (n:=999) (zgl (n:=998) (zgl (n:=997) (by decide))),λou hou=> ?_⟩
  have nb5:b≠ou:=zay zae hou
  rw[zal nb5.symm]at hou
  have nl5:lt≠ou:=zay zae hou
  rw[zal nl5.symm,zal nb5.symm]at hou
  have ouH:H ou=none:=s3.none (by rw[e3];intro z;cases z) hou
  refine⟨_,_,_,by rw[zal nb5,zae],T.cl,T.nO,zgl (n:=999) (zgl (n:=998) (zgl (n:=997) (zgl (n:=996) (by decide)))),?_⟩
  rw[jmv]
  generalize eH:upd (upd (upd (upd (upd H3 b _) lt (.dT [])) b _) ou (.dK [])) b (.ins (bkC a) dx (bf gp m mi lt ou))=H5
  have kp:∀ x,x≠b->x≠lt->x≠ou->H5 x=H3 x:=λx n1 n2 n3=>by rw[<-eH,zal n1,zal n3,zal n1,zal n2,zal n1]
  have kk:∀ x o,H3 x=some o->x≠b->H5 x=some o:=λx o e n1=>by rw[kp x n1 (zay e hlt) (zay e hou)];exact e
  have s5:SameBut (· =b) H H5:=λx o e n1=>kk x o (s3 _ _ e n1) n1
  have nbx:∀ x xs,H3 x=some (.lst xs)->x≠b:=λx xs e=>zix e e3 (by intro z;cases z)
  refine q m mi lt ou ls H5 hmH hmiH ltH ouH (λl hl'=>(l3 l hl').2.1) ⟨⟨⟨dx,by rw[<-eH,zae]⟩,⟨[],kk _ _ m3 (nbx _ _ m3),.nil⟩,kk _ _ i3 (nbx _ _ i3),λi l e=> ?_,nd,⟨[],?_,λi j=>rfl,Nat.le_refl _⟩,⟨[],?_,λk=>rfl,List.nodup_nil,by simp⟩,by simp,by simp,by simp,⟨nmm,?_,?_,?_,?_,?_⟩,by simp⟩,?_,hlen⟩ s5
  ·have z:=l3 l (List.mem_of_getElem? e)
   exact kk _ _ z.1 (nbx _ _ z.1)
  ·rw[<-eH,zal nb4.symm,zal nl5,zal nb4.symm,zae]
  ·rw[<-eH,zal nb5.symm,zae]
  ·exact λz=>(l3 _ z).2.2.2 rfl
  ·exact λz=>(l3 _ z).2.2.1 rfl
  ·obtain⟨ts,z,_⟩:=P.ls;exact zay z hmH
  ·obtain⟨ts,z,_⟩:=P.ls;exact zay z hmiH
  ·obtain⟨ts,z,_⟩:=P.ls;exact λy=>by rw[(l3 _ y).2.1]at z;cases z
  ·obtain⟨⟨dx',f1⟩,⟨ts,f2,f3⟩,r1,r2,r3⟩:=P
   exact⟨⟨dx',s5 _ _ f1 (zix f1 hb (jca (by simp[pf])))⟩,⟨ts,s5 _ _ f2 (zix f2 hb (by intro z;cases z)),Paired.mapP f3 λt r z=>s5 _ _ z (zix z hb (by intro z;cases z))⟩,r1,r2,r3⟩
theorem z7c(h:zd9 K a vs H Q E):vs.length=2:=by
 obtain⟨_,_,_,_,_,_,_,rfl,_⟩:=h
 rfl
theorem z3n(h:zea K a vs H Q E):zhh K a (λ_=>E) (zfj Q) (zbn ["needs","ahead"] vs) H:=by
 obtain⟨nl,ns,o,rfl,hs,hl,q⟩:=h
 cases o with
 | none =>
  push_cast[zhh,↓zk0,↓zk1,↓zk2,jfu]
  refine⟨ns,hs,by omega,λx o D ks hx hD r m l=>⟨_,.inl ⟨SqL.of zae,λt ht=>q t ks _ (((zah hx).trans (zah hD)).trans (zah ht)) zae r (λy=> ?_) (by omega)⟩⟩⟩
  rw[m y];simp
 | some k =>
  push_cast[zhh,↓zk0,↓zk1,↓zk2,jfu]
  refine⟨_,.inl hs,λl hl'=>⟨by decide,λp hp=>.inl ?_⟩⟩
  have np:l≠p:=zay zae hp
  have s0:Same H (upd (upd H l (.lst (ns.map V.int))) p (.lst [.int k])):=(zah hl').trans (zah hp)
  have e1:upd (upd H l (.lst (ns.map V.int))) p (.lst [.int k]) l=some (.lst (ns.map V.int)):=by rw[zal np,zae]
  have e2:upd (upd H l (.lst (ns.map V.int))) p (.lst [.int k]) p=some (.lst [.int k]):=zae
  revert s0 e1 e2
  generalize upd (upd H l (.lst (ns.map V.int))) p (.lst [.int k])=H1
  intro s0 e1 e2
  refine⟨l,p,_,_,rfl,rfl,e1,e2,zd4 _ (by simp;omega),λr hr=>⟨r,rfl,ns++[(k:Int)],?_,by simp;omega,λx o D ks hx hD rs m ll=>⟨_,.inl ⟨SqL.of zae,λt ht=>q t ks _ ((((s0.trans (zah hr)).trans (zah hx)).trans (zah hD)).trans (zah ht)) zae rs (λy=> ?_) (by simpa using ll)⟩⟩⟩⟩
  ·rw[List.map_append];exact SqL.of zae
  ·rw[m y,List.mem_append,List.mem_singleton];simp
theorem z4y(h:zea K a vs H Q E):vs.length=2:=by
 obtain⟨_,_,_,rfl,_⟩:=h
 rfl
theorem znp(h:zbo K a vs H Q E):zef K a (λ_=>E) (zfj Q) (zbn ["self","place"] vs) H:=by
 obtain⟨A,w,rows,n,cs,outs,pl,i,j,rfl,T,TP,B,hp,q,qe⟩:=h
 obtain⟨dx,hb⟩:=B.bk.ob
 obtain⟨dp,hg⟩:=B.pk.ob
 have ng:∀ {m:Str},¬ m="contents"->¬ m="width"->¬ m="written"->(pf A.cl w n).lookup m=none:=λh1 h2 h3=>jh3 _ _ _ h1 h2 h3
 push_cast[zef,↓zku,↓zkv]
 refine zgm hp (n:=0) rfl rfl ?_
 push_cast[]
 split
 ·rename_i h0
  refine⟨_,_,_,hb,T.cl,T.nG,_,jnp,A.gp,rfl,_,_,hg,ng (by decide +kernel) (by decide +kernel) (by decide +kernel),A.gp,A.cl,w,rows,n,rfl,TP,B.pk,?_⟩
  push_cast[]
  split
  ·exact⟨by decide,qe λz=>by omega⟩
  ·rename_i h1
   refine zgm hp (n:=1) rfl rfl ?_
   push_cast[]
   split
   ·rename_i h2
    refine⟨_,_,_,hb,T.cl,T.nG,_,jnp,A.gp,rfl,_,_,hg,ng (by decide +kernel) (by decide +kernel) (by decide +kernel),A.gp,A.cl,w,rows,n,rfl,TP,B.pk,?_⟩
    push_cast[]
    split
    ·exact⟨by decide,qe λz=>by omega⟩
    ·exact q ⟨h0,by omega,h2,by omega⟩
   ·exact⟨by decide,qe λz=>by omega⟩
 ·exact⟨by decide,qe λz=>by omega⟩
theorem zo1(h:zbo K a vs H Q E):vs.length=2:=by
 obtain⟨_,_,_,_,_,_,_,_,_,rfl,_⟩:=h
 rfl
theorem z1l(h:zcj K a vs H Q E):zio K a (λ_=>E) (zfj Q) (zbn ["self","place"] vs) H:=by
 obtain⟨A,w,rows,n,cs,outs,pl,i,j,rfl,T,TP,B,hp,q,qe⟩:=h
 obtain⟨dx,hb⟩:=B.bk.ob
 obtain⟨kvs,hl,hv,_⟩:=B.bk.lat
 push_cast[zio,↓zt8,↓zt9]
 refine⟨_,_,hb,zlo (by decide +kernel),A,w,rows,n,cs,outs,pl,i,j,rfl,T,TP,B,hp,λh=> ?_,qe⟩
 push_cast[]
 refine⟨_,_,_,hb,T.cl,T.nL,_,jo4,A.lt,rfl,.inr ⟨_,.inl hl⟩,_,dT2 hl hp,?_⟩
 rw[hv]
 have:=q h
 cases e:zes cs i j with
 | none=>rw[e]at this;exact this
 | some k=>rw[e]at this;exact this
theorem z3o(h:zcj K a vs H Q E):vs.length=2:=by
 obtain⟨_,_,_,_,_,_,_,_,_,rfl,_⟩:=h
 rfl
theorem BookIn.len{C D:Addr}{A:BA}{w:Nat}{cs:List Ch}{outs:Int->Bool}(B:BookIn C D H A w cs outs):∃ xs,H A.m=some (.lst xs)/\xs.length=cs.length:=by
 obtain⟨chs,e,p⟩:=B.made
 exact⟨_,e,by rw[List.length_map,p.length]⟩
theorem zl3(h:zbh K a vs H Q E):zdm K a (λ_=>E) (zfj Q) (zbn ["self","numbers","number"] vs) H:=by
 obtain⟨A,w,rows,n,cs,outs,nl,ns,rfl,T,B,hs,q,qe⟩:=h
 obtain⟨dx,hb⟩:=B.bk.ob
 obtain⟨xs,hm,hml⟩:=B.bk.len
 push_cast[zdm,↓zfl,↓zfm,↓zfn]
 refine .inl ⟨⟨_,hs⟩,?_⟩
 refine z2u (xs:=ns.map V.int) (λi σ H'=>H'=H/\(∃ z,σ=[some (.ref A.b),some (.ref nl),z])/\∀ x∈ns.take i,known cs x) ⟨rfl,⟨_,rfl⟩,by simp⟩ (λi σ H' _ ⟨e,_⟩=>e ▸ hs) (λi x σ H' hx ⟨e,⟨z,ez⟩,kn⟩=> ?_) (λσ H' ⟨e,⟨z,ez⟩,kn⟩=> ?_)
 ·subst e;subst ez
  rw[List.getElem?_map,Option.map_eq_some_iff]at hx
  obtain⟨x',hx',rfl⟩:=hx
  push_cast[↓zfl,↓zfm,↓zfn]
  have bad:¬ known cs x'->1<=sizeLine/\E (.ref (a "NoChange")) none H':=λh=>⟨by decide,qe ⟨x',List.mem_of_getElem? hx',h⟩⟩
  split
  ·rename_i h0
   refine⟨_,_,_,hb,T.cl,T.nM,_,jmu,cs.length,.inl ⟨_,SqL.of hm,hml.symm⟩,?_⟩
   split
   ·exact bad λz=>by omega
   ·intro y hy
    rw[List.take_add_one,hx']at hy
    rcases List.mem_append.mp hy with hy | hy
    ·exact kn y hy
    ·simp only[Option.toList_some,List.mem_singleton]at hy
     subst hy
     exact⟨h0,by omega⟩
  ·exact bad λz=>by omega
 ·subst e
  refine q λx hx=>kn x ?_
  rw[List.length_map,List.take_length];exact hx
theorem zmw(h:zbh K a vs H Q E):vs.length=2:=by
 obtain⟨_,_,_,_,_,_,_,_,rfl,_⟩:=h
 rfl
theorem zzt(h:zcp K a vs H Q E):zhg K a (λ_=>E) (zfj Q) (zbn ["self"] vs) H:=by
 obtain⟨A,w,rows,n,cs,outs,rfl,T,B,q⟩:=h
 obtain⟨dx,hb⟩:=B.bk.ob
 obtain⟨xs,hm,hml⟩:=B.bk.len
 obtain⟨kvo,ho,hv,_⟩:=B.bk.out
 have sz:=B.bk.sz
 push_cast[zhg,↓zrm]
 refine⟨_,_,_,hb,T.cl,T.nM,_,jmu,cs.length,.inl ⟨_,SqL.of hm,hml.symm⟩,by omega,by omega,?_⟩
 refine ja1 (λ(k:Nat)=> !outs k) (zd4 _ (by omega)) (λi hi QB qb=> ?_) λp hp=> ?_
 ·push_cast[z4n]
  refine⟨_,_,_,hb,T.cl,T.nO,_,jpj,A.ou,rfl,_,dI ho,?_⟩
  rw[hv];exact qb
 ·exact q p _ hp (zah hp) (by rw[zae];rfl)
theorem z1m(h:zcp K a vs H Q E):vs.length=1:=by
 obtain⟨_,_,_,_,_,_,rfl,_⟩:=h
 rfl
theorem z1n(h:zao K a vs H Q E):ziq K a (λ_=>E) (zfj Q) (zbn ["self","place","value","needs","ahead","number"] vs) H:=by
 obtain⟨A,w,rows,n,cs,outs,pl,nl,v,ns,i,j,rfl,T,TP,B,hp,hs,hl,hc,q,q1,q2⟩:=h
 obtain⟨dx,hb⟩:=B.bk.ob
 obtain⟨xs,hm,hml⟩:=B.bk.len
 push_cast[ziq,↓zua]
 refine⟨_,_,hb,zlo (by decide +kernel),A,w,rows,n,cs,outs,pl,i,j,rfl,T,TP,B,hp,λhon=> ?_,q1⟩
 push_cast[↓zub]
 refine⟨_,_,hb,zlo (by decide +kernel),A,w,rows,n,cs,outs,nl,ns,rfl,T,B,hs,λhkn=> ?_,q2 hon⟩
 push_cast[↓zuc]
 refine⟨_,_,_,hb,T.cl,T.nM,_,jmu,cs.length,.inl ⟨_,SqL.of hm,hml.symm⟩,?_⟩
 push_cast[↓zud]
 refine⟨_,_,_,hb,T.cl,T.nM,_,jmu,.inl ⟨rfl,_,SqL.of hm⟩,nl,ns,zes cs i j,rfl,hs,hl,λt ks H1 s1 et kr km kl=> ?_⟩
 push_cast[]
 intro x dy hx hdy ndy
 refine⟨x,dy,pl,v,t,rfl,T,zae,rfl,?_⟩
 rw[zmx]
 have s2:Same H1 (upd (upd H1 dy (.own x)) x (.ins (a "Change") dy (chf pl v t))):=(zah hdy).trans (zah (by rw[zal ndy.symm];exact hx))
 have ex:upd (upd H1 dy (.own x)) x (.ins (a "Change") dy (chf pl v t)) x=some (.ins (a "Change") dy (chf pl v t)):=zae
 revert s2 ex
 generalize upd (upd H1 dy (.own x)) x (.ins (a "Change") dy (chf pl v t))=H2
 intro s2 ex
 have s:=s1.trans s2
 have hxH:H x=none:=s1.free hx
 replace et:=s2 _ _ et
 obtain⟨chs,hm',pch⟩:=B.bk.made
 have hmi:=B.bk.mil
 obtain⟨kvs,hlt,hv,hkl⟩:=B.bk.lat
 obtain⟨kvo,hou,hvo,hko⟩:=B.bk.out
 obtain⟨i0,i1,j0,j1⟩:=hon
 obtain⟨i',rfl⟩:∃ i':Nat,i=i':=⟨i.toNat,by omega⟩
 obtain⟨j',rfl⟩:∃ j':Nat,j=j':=⟨j.toNat,by omega⟩
 have hil:i'<A.ls.length:=by rw[B.nb];omega
 have el:=List.getElem?_eq_getElem hil
 have hll:=B.bk.mic i' _ el
 have hmem:A.ls[i']∈A.ls:=List.getElem_mem hil
 revert el hll hmem
 generalize A.ls[i']=l
 intro el hll hmem
 have ap:=B.bk.ap
 have nml:A.m≠l:=λz=>ap.2.1 (z ▸ hmem)
 have nil':A.mi≠l:=λz=>ap.2.2.1 (z ▸ hmem)
 have ncl:A.cl≠l:=λz=>ap.2.2.2.2.2 (z ▸ hmem)
 have klt:∀ {y:Addr} {o:HO},H2 y=some o->(∀ k,o≠.dT k)->y≠A.lt:=λe h=>zix e (s _ _ hlt) (h _)
 have km':∀ {y:Addr} {o:HO},H2 y=some o->(∀ k,o≠.lst k)->y≠A.m:=λe h=>zix e (s _ _ hm') (h _)
 have kll:∀ {y:Addr} {o:HO},H2 y=some o->(∀ k,o≠.lst k)->y≠l:=λe h=>zix e (s _ _ hll) (h _)
 have hb2:=s _ _ hb
 have hp2:=s _ _ hp
 have sz:=B.bk.sz
 have lenc:chs.length=cs.length:=pch.length
 refine⟨A.m,_,_,rfl,rfl,s _ _ hm',Nat.lt_of_lt_of_le (show(chs.map V.ref).length<1000 by rw[List.length_map];omega) (by decide),?_⟩
 push_cast[↓zue]
 have bb:A.b≠A.m:=km' hb2 (by intro k z;cases z)
 have bl:A.b≠l:=kll hb2 (by intro k z;cases z)
 have bt:A.b≠A.lt:=klt hb2 (by intro k z;cases z)
 have pm:pl≠A.m:=km' hp2 (by intro k z;cases z)
 have pl':pl≠l:=kll hp2 (by intro k z;cases z)
 have pt:pl≠A.lt:=klt hp2 (by intro k z;cases z)
 have lt':l≠A.lt:=klt (s _ _ hll) (by intro k z;cases z)
 have mt:A.m≠A.lt:=klt (s _ _ hm') (by intro k z;cases z)
 have it:A.mi≠A.lt:=klt (s _ _ hmi) (by intro k z;cases z)
 refine⟨_,_,_,by rw[zal bb];exact hb2,T.cl,T.nI,_,jpi,zgm (by rw[zal pm];exact hp2) (n:=0) rfl rfl (ztp (SqL.of (by rw[zal ap.1.symm];exact s _ _ hmi)) (n:=i') (v:=.ref l) rfl (by rw[List.getElem?_map,el];rfl) ⟨.inl ⟨rfl,_,SqL.of (by rw[zal nml.symm];exact s _ _ hll)⟩,?_⟩)⟩
 have bln:=jfs cs i'
 refine⟨l,_,_,rfl,rfl,by rw[zal nml.symm];exact s _ _ hll,Nat.lt_of_lt_of_le (show((z9c cs i').map λ(k:Nat)=>V.int k).length<1000 by rw[List.length_map];omega) (by decide),?_⟩
 push_cast[↓zuf,↓zug]
 refine⟨_,_,_,by rw[zal bl,zal bb];exact hb2,T.cl,T.nL,_,jo4,A.lt,rfl,_,pT2 (by rw[zal lt'.symm,zal mt.symm];exact s _ _ hlt) (by rw[zal pl',zal pm];exact hp2) (by omega),?_⟩
 generalize eH:upd (upd (upd H2 A.m _) l _) A.lt (.dT (zx0 kvs [.inl ↑i',.inl ↑j'] (.int ↑cs.length)))=H5
 have kp:∀ y,y≠A.m->y≠l->y≠A.lt->H5 y=H2 y:=λy n1 n2 n3=>by rw[<-eH,zal n3,zal n2,zal n1]
 have s5:SameBut (λy=>y=A.m\/y=l\/y=A.lt) H H5:=λy o e ny=>by
  rw[kp y (λz=>ny (.inl z)) (λz=>ny (.inr (.inl z))) (λz=>ny (.inr (.inr z)))]
  exact s _ _ e
 have lo:∀ y,(y=A.m\/y=l\/y=A.lt)->zx7 (H y):=by
  rintro y (z | z | z)
  ·exact B.loose (.inl z)
  ·exact B.loose (.inr (.inr (.inl (z ▸ hmem))))
  ·exact B.loose (.inr (.inr (.inr (.inl z))))
 have hnd:∀ y∈ks,0<=y/\y<cs.length:=λy hy=>by
  rcases(km y).mp hy with h | ⟨k,e,rfl⟩
  ·exact hkn y h
  ·exact⟨by omega,by have:=zm2 e;omega⟩
 refine q ⟨i0,i1,j0,j1⟩ hkn ks H5 kr km ⟨⟨⟨dx,by rw[kp _ bb bl bt];exact hb2⟩,⟨chs++[x],?_,Paired.snoc (Paired.mapP pch λy c h=>h.sb s5 lo) ⟨dy,pl,t,?_,?_,?_⟩⟩,?_,λk l' e=> ?_,B.bk.nd,⟨zx0 kvs [.inl ↑i',.inl ↑j'] (.int ↑cs.length),?_,λp q=> ?_,?_⟩,⟨kvo,?_,hvo,?_⟩,?_,λc hc'=> ?_,λk c e=> ?_,ap,λk c e j ej=> ?_⟩,B.pk.sbL s5 lo ?_,B.nb⟩ (s5.wide λy z=> ?_)
 ·rw[<-eH,zal mt,zal nml,zae,List.map_append];rfl
 ·rw[kp x (km' ex (by intro k z;cases z)) (kll ex (by intro k z;cases z)) (klt ex (by intro k z;cases z))];exact ex
 ·rw[kp pl pm pl' pt];exact hp2
 ·rw[kp t (km' et (by intro k z;cases z)) (kll et (by intro k z;cases z)) (klt et (by intro k z;cases z))];exact et
 ·rw[kp _ ap.1.symm nil' it];exact s _ _ hmi
 ·rw[jdj]
  by_cases z:l'=l
  ·subst z
   have ek:k=i':=by
    obtain⟨h1,h2⟩:=List.getElem?_eq_some_iff.mp e
    obtain⟨h3,h4⟩:=List.getElem?_eq_some_iff.mp el
    exact(List.getElem_inj B.bk.nd).mp (h2.trans h4.symm)
   subst ek
   rw[<-eH,zal lt',zae]
   simp
  ·have nk:¬ i'=k:=λy=>by subst y;rw[el]at e;cases e;exact z rfl
   have hl':=B.bk.mic k l' e
   rw[kp l' (λy=>ap.2.1 (y ▸ List.mem_of_getElem? e)) z (klt (s _ _ hl') (by intro k z;cases z))]
   simp only[Int.toNat_natCast,if_neg nk]
   exact s _ _ hl'
 ·rw[<-eH,zae]
 ·rw[jbv,zvk]
  by_cases z:p=i'/\q=j'
  ·obtain⟨rfl,rfl⟩:=z
   simp
  ·have z1:¬ ([Sum.inl p,Sum.inl q]:List Key)=[.inl ↑i',.inl ↑j']:=λy=>z (by simpa using y)
   have z2:¬ ((((i':Int).toNat:Nat):Int)=p/\(((j':Int).toNat:Nat):Int)=q):=λy=>z ⟨by omega,by omega⟩
   rw[if_neg z1,if_neg z2]
   exact hv p q
 ·have:=zmy kvs [.inl ↑i',.inl ↑j'] (.int ↑cs.length)
  simp;omega
 ·rw[kp _ (km' (s _ _ hou) (by intro k z;cases z)) (kll (s _ _ hou) (by intro k z;cases z)) (klt (s _ _ hou) (by intro k z;cases z))];exact s _ _ hou
 ·exact hko.mono (by simp)
 ·simp;omega
 ·rcases List.mem_append.mp hc' with h | h
  ·exact B.bk.inn c h
  ·rw[List.mem_singleton.mp h]
   exact⟨by rw[Int.toNat_natCast];exact hil,(show(j':Int).toNat<w by omega)⟩
 ·rcases Nat.lt_or_ge k cs.length with h | h
  ·rw[List.getElem?_append_left h]at e
   exact B.bk.need k c e
  ·rw[List.getElem?_append_right h]at e
   have:k - cs.length=0:=by
    rcases Nat.eq_zero_or_pos (k - cs.length)with z | z
    ·exact z
    ·rw[List.getElem?_eq_none (by simp;omega)]at e;cases e
   rw[this]at e
   cases e
   exact⟨λy hy=>⟨(hnd y hy).1,by have:=(hnd y hy).2;omega⟩,kr,(show ks.length<=100 by omega)⟩
 ·rcases Nat.lt_or_ge k cs.length with h | h
  ·rw[List.getElem?_append_left h]at e
   rw[List.take_append_of_le_length (by omega)]at ej
   exact B.bk.chn k c e j ej
  ·rw[List.getElem?_append_right h]at e
   have:k - cs.length=0:=by
    rcases Nat.eq_zero_or_pos (k - cs.length)with z | z
    ·exact z
    ·rw[List.getElem?_eq_none (by simp;omega)]at e;cases e
   have hk:k=cs.length:=by omega
   subst hk
   rw[this]at e
   cases e
   rw[List.take_left' rfl]at ej
   exact(km _).mpr (.inr ⟨j,by simpa using ej,rfl⟩)
 ·rintro (z | z | z)
  ·exact ap.2.2.2.1 z
  ·exact ncl z
  ·obtain⟨ts,e,_⟩:=B.pk.ls
   exact klt (s _ _ e) (by intro k z;cases z) z
 ·rcases z with z | z | z
  ·exact .inl z
  ·exact .inr (.inr (.inl (z ▸ hmem)))
  ·exact .inr (.inr (.inr (.inl z)))
theorem z3p(h:zao K a vs H Q E):vs.length=4:=by
 obtain⟨_,_,_,_,_,_,_,_,_,_,_,_,rfl,_⟩:=h
 rfl
theorem BookIn.at{C D:Addr}{A:BA}{w:Nat}{cs:List Ch}{outs:Int->Bool}{H:Hp}(B:BookIn C D H A w cs outs){k:Nat}{c:Ch}(e:cs[k]? =some c):∃ xs x,H A.m=some (.lst xs)/\xs[k]? =some (.ref x)/\ChAt D H x c:=by
 obtain⟨chs,h,p⟩:=B.made
 obtain⟨x,ex,hx⟩:=zmc p e
 exact⟨_,x,h,by rw[List.getElem?_map,ex];rfl,hx⟩
theorem z9v(l:List Nat):zks l=(l.map λ(k:Nat)=>(k:Int)).map V.int:=by simp[zks]
theorem jh5{w n:Nat}{rows:List (List V)}{gp cl:Addr}{H1:Hp}{Q:Addr->Hp->Prop}{E:XK}(T:TB K a)(TP:zhw K a)(P:PlankAt a H1 gp cl w rows n)
  (q:∀ (A:BA) (H2:Hp),A.gp=gp->A.cl=cl->(∀ x o,H1 x=some o->x=cl\/¬ A.F x)->ja4 a H2 A w rows n [] (λ_=>false)->Same H1 H2->Q A.b H2) :
  ∀ x dx,H1 x=none->H1 dx=none->dx≠x->zd9 K a [.ref x,.ref gp] (upd (upd H1 dx (.own x)) x (.ins (bkC a) dx [])) (λv H2=>v=.non/\Q x H2) E:=λb db hb hdb ndb=>by
 have s0:Same H1 (upd (upd H1 db (.own b)) b (.ins (bkC a) db [])):=(zah hdb).trans (zah (by rw[zal ndb.symm];exact hb))
 refine⟨b,gp,cl,db,w,rows,n,rfl,T,TP,P.same s0,zae,λm mi lt ou ls H4 hm hmi hlt hou hls B4 sb4=>⟨rfl,?_⟩⟩
 refine q ⟨b,gp,m,mi,lt,ou,ls,cl⟩ H4 rfl rfl (λx o e=> ?_) B4 λy o e=>sb4 _ _ (s0 _ _ e) (zay e hb)
 by_cases z:x=cl
 ·exact .inl z
 ·refine .inr ?_
  have e':=s0 _ _ e
  rintro (y | y | y | y | y | y)
  ·rw[y]at e';rw[show(BA.mk b gp m mi lt ou ls cl).m=m from rfl,hm]at e';cases e'
  ·rw[y]at e';rw[show(BA.mk b gp m mi lt ou ls cl).mi=mi from rfl,hmi]at e';cases e'
  ·rw[hls x y]at e';cases e'
  ·rw[y]at e';rw[show(BA.mk b gp m mi lt ou ls cl).lt=lt from rfl,hlt]at e';cases e'
  ·rw[y]at e';rw[show(BA.mk b gp m mi lt ou ls cl).ou=ou from rfl,hou]at e';cases e'
  ·exact z y
theorem zzu(h:zbi K a vs H Q E):zhp K a (λ_=>E) (zfj Q) (zbn ["self","place","number"] vs) H:=by
 obtain⟨A,w,rows,n,cs,outs,pl,i,j,rfl,T,TP,B,hp,q,qe⟩:=h
 obtain⟨dx,hb⟩:=B.bk.ob
 obtain⟨dp,hg⟩:=B.pk.ob
 push_cast[zhp,↓zrt,↓zru,↓zrv,↓zrw]
 refine⟨_,_,hb,zlo (by decide +kernel),A,w,rows,n,cs,outs,pl,i,j,rfl,T,TP,B,hp,λh=> ?_,qe⟩
 have q:=q h
 unfold zhx at q
 cases e:zes cs i j with
 | none =>
  rw[e]at q
  push_cast[jfu]
  refine⟨_,_,_,hb,T.cl,T.nG,_,jnp,A.gp,rfl,_,_,hg,jf1 _ _ _,zgm hp (n:=0) rfl rfl ?_⟩
  refine⟨A.gp,A.cl,w,rows,n,i,rfl,TP,B.pk,λb' row eb er vl hvl=> ?_,λz=>absurd h λy=>by omega⟩
  subst eb
  have s1:=zah (o:=.lst row) hvl
  refine zgm (s1 _ _ hp) (n:=1) rfl rfl ?_
  have rl:=B.pk.wd row (List.mem_of_getElem? er)
  have hj:j.toNat<row.length:=by omega
  have ej:=List.getElem?_eq_getElem hj
  refine ztp (SqL.of zae) (n:=j.toNat) (v:=row[j.toNat]) (by omega) ej ?_
  refine q _ _ ?_ s1
  rw[show((b':Int)).toNat=b' from by omega,er]
  exact ej
 | some k =>
  rw[e]at q
  push_cast[jfu]
  have hk:=zm2 e
  have ec:=List.getElem?_eq_getElem hk
  obtain⟨chs,hm,pc⟩:=B.bk.made
  obtain⟨x,ex,dx',p1,n1,h1,h2,h3⟩:=zmc pc ec
  refine⟨_,_,_,hb,T.cl,T.nM,_,jmu,ztp (SqL.of hm) (n:=k) (v:=.ref x) rfl (by rw[List.getElem?_map,ex];rfl) ⟨x,rfl,_,_,_,h1,T.cc,T.nV,_,jol,q _ _ ?_ (Same.refl _)⟩⟩
  show(cs[k]?).map (·.val)=_
  rw[ec]
  rfl
theorem z1o(h:zbi K a vs H Q E):vs.length=2:=by
 obtain⟨_,_,_,_,_,_,_,_,_,rfl,_⟩:=h
 rfl
theorem zzv(h:zdb K a vs H Q E):zkg K a (λ_=>E) (zfj Q) (zbn ["self","number","gone","need"] vs) H:=h.elim
theorem z1p(h:zdb K a vs H Q E):vs.length=3:=h.elim
theorem zzw(h:zdc K a vs H Q E):zkj K a (λ_=>E) (zfj Q) (zbn ["self","block","taken","gone","out","held","number","lack"] vs) H:=h.elim
theorem z1q(h:zdc K a vs H Q E):vs.length=3:=h.elim
theorem zu0(h:zcg K a vs H Q E):zh8 K a (λ_=>E) (zfj Q) (zbn ["self","values","block","laid","number"] vs) H:=h.elim
theorem zxh(h:zcg K a vs H Q E):vs.length=3:=h.elim
theorem z3q(h:zeb K a vs H Q E):zjz K a (λ_=>E) (zfj Q) (zbn ["self","block","values","told","number"] vs) H:=by
 obtain⟨A,w,rows,n,cs,outs,b,rfl,T,TP,B,hb,q⟩:=h
 obtain⟨dx,ho⟩:=B.bk.ob
 obtain⟨dp,hg⟩:=B.pk.ob
 push_cast[zjz,↓zv2]
 refine⟨_,_,_,ho,T.cl,T.nG,_,jnp,A.gp,rfl,_,_,hg,jf1 _ _ _,A.gp,A.cl,w,rows,n,b,rfl,TP,B.pk,λi row e er=> ?_,λ_=>q⟩
 have:=(List.getElem?_eq_some_iff.mp er).1
 omega
theorem z4z(h:zeb K a vs H Q E):vs.length=2:=by
 obtain⟨_,_,_,_,_,_,_,rfl,_⟩:=h
 rfl
theorem z1r(h:zdq K a vs H Q E):zim K a (λ_=>E) (zfj Q) (zbn ["self","names","records","pieces","cells"] vs) H:=by
 obtain⟨p,dx,n,r,c,w,rfl,T,hp,b1,b2,b3,b4,b5,q⟩:=h
 push_cast[zim,↓zt1,↓zt2,↓zt3,↓zt4]
 refine⟨_,_,_,hp,T.cl,T.n1,by decide,_,_,_,zae,T.cl,T.n2,zc3 (by decide),_,_,_,zae,T.cl,T.n3,zc3 (n:=1000) (Nat.succ_lt_succ (zc3 (n:=999) (by decide))),_,_,_,zae,T.cl,T.n4,?_,?_⟩
 ·exact zc3 (n:=1000) (Nat.succ_lt_succ (zc3 (n:=999) (Nat.succ_lt_succ (zc3 (n:=998) (by decide)))))
 ·rw[jm1,zmx,zmx,zmx]
  exact q _ ⟨⟨dx,zae⟩,b1,b2,b3,b4,b5⟩ λb o e hb=>by rw[zal hb];exact e
theorem zo2(h:zar K a vs H Q E):zet K a (λ_=>E) (zfj Q) (zbn ["self","block","k"] vs) H:=by
 obtain⟨p,n,r,c,w,k,b,rfl,T,L,q⟩:=h
 obtain⟨dx,e⟩:=L.ob
 have:=L.h1
 have:=L.hw
 push_cast[zet,↓zlq]
 refine⟨_,_,_,e,T.cl,T.n4,_,jk4,?_⟩
 push_cast[]
 refine⟨⟨by omega,by omega⟩,_,_,_,e,T.cl,T.n4,_,jk4,?_⟩
 push_cast[]
 exact⟨by omega,by decide,q⟩
theorem zu1(h:za5 K a vs H Q E):zgf K a (λ_=>E) (zfj Q) (zbn ["self","k"] vs) H:=by
 obtain⟨p,n,r,c,w,k,rfl,T,L,q⟩:=h
 obtain⟨dx,e⟩:=L.ob
 push_cast[zgf,↓zoz]
 exact⟨_,_,e,zgn (by decide +kernel),p,n,r,c,w,k,0,rfl,T,L,q⟩
theorem zq0(h:zat K a vs H Q E):ze4 K a (λ_=>E) (zfj Q) (zbn ["self","k"] vs) H:=by
 obtain⟨p,n,r,c,w,k,rfl,T,L,q⟩:=h
 obtain⟨dx,e⟩:=L.ob
 push_cast[ze4,↓zmj]
 exact⟨_,_,e,zgn (by decide +kernel),_,_,_,e,T.cl,T.n1,_,jnq,p,n,r,c,w,k,_,rfl,T,L,q⟩
theorem zrx(h:zbg K a vs H Q E):zfo K a (λ_=>E) (zfj Q) (zbn ["self","k"] vs) H:=by
 obtain⟨p,n,r,c,w,k,rfl,T,L,q⟩:=h
 obtain⟨dx,e⟩:=L.ob
 push_cast[zfo,↓zm9]
 refine⟨_,_,e,zgn (by decide +kernel),_,_,_,e,T.cl,T.n1,_,jnq,_,_,_,e,T.cl,T.n2,_,jm0,?_⟩
 push_cast[]
 exact⟨p,n,r,c,w,k,_,rfl,T,L,q⟩
theorem znq(h:za1 K a vs H Q E):zeg K a (λ_=>E) (zfj Q) (zbn ["self","k"] vs) H:=by
 obtain⟨p,n,r,c,w,k,rfl,T,L,q⟩:=h
 obtain⟨dx,e⟩:=L.ob
 push_cast[zeg,↓zkw]
 exact⟨_,_,e,zgn (by decide +kernel),_,_,e,zgn (by decide +kernel),p,n,r,c,w,rfl,T,L,p,n,r,c,w,k,_,rfl,T,L,q⟩
theorem zo3(h:zax K a vs H Q E):zeu K a (λ_=>E) (zfj Q) (zbn ["self","k"] vs) H:=by
 obtain⟨p,n,r,c,w,k,rfl,T,L,q⟩:=h
 obtain⟨dx,e⟩:=L.ob
 push_cast[zeu,↓zls]
 refine⟨_,_,e,zgn (by decide +kernel),_,_,e,zgn (by decide +kernel),p,n,r,c,w,rfl,T,L,_,_,_,e,T.cl,T.n2,_,jm0,?_⟩
 push_cast[]
 exact⟨p,n,r,c,w,k,_,rfl,T,L,q⟩
theorem zhq(h:zak K a vs H Q E):zb3 K a (λ_=>E) (zfj Q) (zbn ["self"] vs) H:=by
 obtain⟨p,n,r,c,w,rfl,T,L,q⟩:=h
 obtain⟨dx,e⟩:=L.ob
 push_cast[zb3,↓zgr]
 refine⟨_,_,_,e,T.cl,T.n1,_,jnq,_,_,_,e,T.cl,T.n2,_,jm0,?_⟩
 push_cast[]
 refine⟨_,_,_,e,T.cl,T.n3,_,jom,?_⟩
 push_cast[]
 exact q
theorem zxi(h:zbz K a vs H Q E):zgv K a (λ_=>E) (zfj Q) (zbn ["self"] vs) H:=by
 obtain⟨p,n,r,c,w,rfl,T,L,q⟩:=h
 obtain⟨dx,e⟩:=L.ob
 push_cast[zgv,↓zpr]
 refine⟨_,_,e,zgn (by decide +kernel),p,n,r,c,w,rfl,T,L,_,_,_,e,T.cl,T.n2,_,jm0,?_⟩
 push_cast[]
 refine⟨_,_,_,e,T.cl,T.n3,_,jom,?_⟩
 push_cast[]
 exact q
theorem zxj(h:zbd K a vs H Q E):zgu K a (λ_=>E) (zfj Q) (zbn ["self"] vs) H:=by
 obtain⟨p,n,r,c,w,rfl,T,L,q⟩:=h
 obtain⟨dx,e⟩:=L.ob
 obtain⟨_,b1,b2,b3,b4,b5⟩:=L
 push_cast[zgu,↓zpm]
 refine⟨_,_,_,e,T.cl,T.n1,_,jnq,_,_,_,e,T.cl,T.n4,_,jk4,?_⟩
 push_cast[]
 refine⟨.inl ⟨by omega,by omega⟩,_,_,_,e,T.cl,T.n2,_,jm0,_,_,_,e,T.cl,T.n4,_,jk4,?_⟩
 push_cast[]
 refine⟨.inl ⟨by omega,by omega⟩,_,_,_,e,T.cl,T.n3,_,jom,_,_,_,e,T.cl,T.n4,_,jk4,?_⟩
 push_cast[]
 exact⟨.inl ⟨by omega,by omega⟩,by decide,q⟩
theorem zzx(h:zda K a vs H Q E):zho K a (λ_=>E) (zfj Q) (zbn ["self"] vs) H:=by
 obtain⟨p,n,r,c,w,rfl,T,TP,L,q⟩:=h
 obtain⟨dx,e⟩:=L.ob
 have LL:=L
 obtain⟨_,b1,b2,b3,b4,b5⟩:=L
 push_cast[zho,↓zrs]
 refine⟨_,_,e,zgn (by decide +kernel),p,n,r,c,w,rfl,T,LL,_,_,_,e,T.cl,T.n4,_,jk4,λx dx' hx hdx hne=> ?_⟩
 have s3:Same H (upd (upd H dx' (.own x)) x (.ins (a "Plank") dx' [])):=(zah hdx).trans (zah (by rw[zal hne.symm];exact hx))
 refine⟨x,dx',n+r+c+r+c,w,by simp,TP,zae,by omega,b4,by omega,λcl H2 hcl P2 s4=>⟨rfl,q x cl H2 hx (s3.free hcl) P2 λb o eb=>s4 _ _ (s3 _ _ eb) (zay eb hx)⟩⟩
theorem z3r(h:zdq K a vs H Q E):vs.length=5:=by
 obtain⟨_,_,_,_,_,_,rfl,_⟩:=h
 rfl
theorem zq1(h:zar K a vs H Q E):vs.length=3:=by
 obtain⟨_,_,_,_,_,_,_,rfl,_⟩:=h
 rfl
theorem zxk(h:za5 K a vs H Q E):vs.length=2:=by
 obtain⟨_,_,_,_,_,_,rfl,_⟩:=h
 rfl
theorem zry(h:zat K a vs H Q E):vs.length=2:=by
 obtain⟨_,_,_,_,_,_,rfl,_⟩:=h
 rfl
theorem zu2(h:zbg K a vs H Q E):vs.length=2:=by
 obtain⟨_,_,_,_,_,_,rfl,_⟩:=h
 rfl
theorem zo4(h:za1 K a vs H Q E):vs.length=2:=by
 obtain⟨_,_,_,_,_,_,rfl,_⟩:=h
 rfl
theorem zq2(h:zax K a vs H Q E):vs.length=2:=by
 obtain⟨_,_,_,_,_,_,rfl,_⟩:=h
 rfl
theorem zhu(h:zak K a vs H Q E):vs.length=1:=by
 obtain⟨_,_,_,_,_,rfl,_⟩:=h
 rfl
theorem zzy(h:zbz K a vs H Q E):vs.length=1:=by
 obtain⟨_,_,_,_,_,rfl,_⟩:=h
 rfl
theorem zzz(h:zbd K a vs H Q E):vs.length=1:=by
 obtain⟨_,_,_,_,_,rfl,_⟩:=h
 rfl
theorem z1s(h:zda K a vs H Q E):vs.length=1:=by
 obtain⟨_,_,_,_,_,rfl,_⟩:=h
 rfl
theorem jm5{f:Nat->Bool}{m i:Nat}(hi:i<m)(h:f i=true)(hl:∀ j<i,f j=false):z67 f m=i:=by
 unfold z67
 have:(List.range m).find? f=some i:=by
  rw[List.find?_eq_some_iff_append]
  refine⟨h,List.range i,(List.range (m - i - 1)).map (i+1+·),?_,λj hj=>by rw[hl j (List.mem_range.mp hj)];rfl⟩
  have e1:m=i+(1+(m - i - 1)):=by omega
  conv=>lhs;rw[e1]
  rw[List.range_add,List.range_add]
  simp[Nat.add_assoc,Function.comp_def]
 rw[this]
theorem jh6{f:Nat->Bool}{m:Nat}(hl:∀ j<m,f j=false):z67 f m= -1:=by
 unfold z67
 have:(List.range m).find? f=none:=List.find?_eq_none.mpr λj hj=>by rw[hl j (List.mem_range.mp hj)];exact Bool.false_ne_true
 rw[this]
theorem jh7{n:Nat}{H:Hp}{v:V}{xs:List V}(hx:∀ z∈xs,jh4 z)(hv:GoodV n H v)(hf:z0m v=true):inV v xs=decide (v∈xs):=by
 rw[Bool.eq_iff_iff,decide_eq_true_iff]
 unfold inV
 rw[List.any_eq_true]
 have key:∀ z,jh4 z->(eqV z v=true↔z=v):=λz hz=>by
  rcases hz with rfl | ⟨i,rfl⟩<;>(cases v<;>first | (simp[eqV];done) | (cases n<;>exact hv.elim) | (simp[z0m]at hf))
 constructor
 ·rintro ⟨z,hz,e⟩
  rw[<-(key z (hx z hz)).mp e];exact hz
 ·intro h
  exact⟨v,h,(key v (hx v h)).mpr rfl⟩
def zkm(H H':Hp):Prop:=∀ b xs,H b=some (.tup xs)->H' b=some (.tup xs)
theorem GoodV.keep{H H':Hp}(k:zkm H H'):∀ {n:Nat} {v:V},GoodV n H v->GoodV n H' v
 | 0,_,h=>h
 | _+1,.int _,_=>trivial
 | _+1,.non,_=>trivial
 | _+1,.str _,h=>h
 | n+1,.ref p,⟨xs,h1,h2,h3⟩=>⟨xs,k _ _ h1,h2,λv hv=>(h3 v hv).keep k⟩
theorem Same.tk{H H':Hp}(s:Same H H'):zkm H H':=λb xs e=>s _ _ e
theorem jkq{v:V}{vl:Addr}{xs:List V}(hg:GoodV 4 H v)(hv:H vl=some (.tup xs))(hx:∀ z∈xs,jh4 z)(q:Q (.bl (decide (v∈xs))) H):jno K v (.ref vl) H Q:=by
 have fx:xs.all z0m=true:=List.all_eq_true.mpr λz hz=>by rcases hx z hz with rfl | ⟨i,rfl⟩<;>rfl
 have flat:z0m v=true->jno K v (.ref vl) H Q:=λhf=>.inl ⟨vl,xs,rfl,.inr (SqT.of hv),hf,fx,by
  show Q (.bl (inV v xs)) H
  rw[jh7 hx hg hf];exact q⟩
 cases v with
 | ref t =>
  obtain⟨ys,e,_⟩:=hg
  have:decide ((V.ref t)∈xs)=false:=decide_eq_false λhm=>by rcases hx _ hm with z | ⟨i,z⟩<;>cases z
  rw[this]at q
  exact .inr ⟨t,ys,vl,xs,rfl,SqT.of e,rfl,SqT.of hv,hx,q⟩
 | int i=>exact flat rfl
 | non=>exact flat rfl
 | str z=>exact flat rfl
 | _=>exact hg.elim
theorem z1t(h:zbp K a vs H Q E):zis K a (λ_=>E) (zfj Q) (zbn ["hold","places","values","k","place"] vs) H:=by
 obtain⟨A,w,rows,n,cs,outs,pl,vl,ts,xs,f,m,rfl,T,TP,B,hp,hm,hm2,hv,hx,hf,q,qe⟩:=h
 obtain⟨dx,ho⟩:=B.bk.ob
 push_cast[zis,↓zuk]
 refine⟨⟨_,SqL.of hp⟩,z87 (xs:=ts.map V.ref) (λi σ H'=>(Same H H'/\∀ j<i,f j=false)/\∃ x y,σ=[some (.ref A.b),some (.ref pl),some (.ref vl),x,y]) ⟨⟨Same.refl _,λj hj=>absurd hj (Nat.not_lt_zero _)⟩,_,_,rfl⟩ (λi σ H' _ ⟨⟨s,_⟩,_⟩=>SqL.of (s _ _ hp)) (λi x σ H' t hx' ⟨⟨s,lo⟩,x0,y0,ez⟩ ht=> ?_) (λσ H' ⟨⟨s,lo⟩,x0,y0,ez⟩=> ?_)⟩
 ·subst ez
  rw[List.getElem?_map]at hx'
  cases et:ts[i]? with
  | none=>rw[et]at hx';cases hx'
  | some tt =>
   rw[et]at hx'
   cases hx'
   obtain⟨bi,bj,v,e1,on,ev,gv,ef⟩:=hf i tt et
   have s2:=s.trans (zah (o:=.tup [.int (i:Int),.ref tt]) ht)
   push_cast[]
   refine⟨_,SqT.of zae,rfl,_,_,rfl,_,_,rfl,rfl,?_⟩
   revert s2
   generalize upd H' t (.tup [.int (i:Int),.ref tt])=H2
   intro s2
   push_cast[↓zuj,↓zui]
   refine⟨_,_,s2 _ _ ho,zlo (by decide +kernel),A,w,rows,n,cs,outs,tt,bi,bj,rfl,T,TP,B.same s2,s2 _ _ e1,λ_ v' H3 ev' s3=> ?_,λz=>absurd on z⟩
   rw[ev]at ev'
   cases ev'
   have s4:=s2.trans s3
   refine jkq (gv.keep s4.tk) (s4 _ _ hv) hx ?_
   rw[<-ef]
   push_cast[]
   cases hfi:f i with
   | true=>exact q i (jm5 (by have:=(List.getElem?_eq_some_iff.mp et).1;omega) hfi lo) _ s4
   | false=>exact⟨s4,λj hj=>by
     rcases Nat.lt_or_ge j i with z | z
     ·exact lo j z
     ·rw[show j=i by omega];exact hfi⟩
 ·subst ez
  push_cast[↓zul]
  rw[List.length_map,hm]at lo
  exact⟨by decide,qe (jh6 lo) _ s⟩
theorem z3s(h:zbp K a vs H Q E):vs.length=3:=by
 obtain⟨_,_,_,_,_,_,_,_,_,_,_,_,rfl,_⟩:=h
 rfl
theorem zu3{m w:Nat}{B:Nat->Int}{te:TE}{cap:List Nat}{σ:St}{H:Hp}{Q:VK}(hm:m<=1000)(ht:∀ i H' Q',i<m->Same H H'->znx (B i) (i % w:Nat) Q' H'->te (some (.int (0+(i:Int)))::z4n cap σ) H' Q')
  (q:∀ (ts:List Addr) (H':Hp) (l:Addr),ts.length=m->Same H H'->(∀ k t,ts[k]? =some t->H' t=some (.tup [.int (B k),.int (k % w:Nat)]))->H' l=some (.lst (ts.map V.ref))->Q (.ref l) H'):zx4 (Itr 0 m) (zaz 0) zju te 1 cap σ H Q:=by
 refine zmb (zd4 m (by omega)) (λi ys H'=>Same H H'/\∃ ts:List Addr,ys=ts.map V.ref/\ts.length=i/\∀ k t,ts[k]? =some t->H' t=some (.tup [.int (B k),.int (k % w:Nat)])) ⟨Same.refl _,[],rfl,rfl,λk t h=>by simp at h⟩ (λi ys H' hi hl ⟨s,ts,e,el,h⟩=> ?_) λys H' hl ⟨s,ts,e,el,h⟩ l hl'=> ?_
 ·refine ht i H' _ hi s λt htn=> ?_
  have st:=zah (o:=.tup [.int (B i),.int (i % w:Nat)]) htn
  refine⟨s.trans st,ts++[t],by rw[e,List.map_append];rfl,by simp[el],λk t' hk=> ?_⟩
  rcases Nat.lt_or_ge k ts.length with z | z
  ·rw[List.getElem?_append_left z]at hk
   exact st _ _ (h k t' hk)
  ·rw[List.getElem?_append_right z]at hk
   have hk0:k - ts.length=0:=by
    rcases Nat.eq_zero_or_pos (k - ts.length)with z | z
    ·exact z
    ·rw[List.getElem?_eq_none (by simp;omega)]at hk;cases hk
   rw[hk0]at hk
   cases hk
   have:k=i:=by omega
   subst this
   exact zae
 ·subst e
  have st:=zah (o:=.lst (ts.map V.ref)) hl'
  exact q ts _ l (by simpa using hl) (s.trans st) (λk t hk=>st _ _ (h k t hk)) zae
theorem ji0{rows:List (List V)}{w i j:Nat}(hw:∀ r∈rows,r.length=w)(hi:i<rows.length)(hj:j<w)(cs:List Ch):∃ v,zhx cs rows i j=some v:=by
 unfold zhx
 cases e:zes cs i j with
 | some k =>
  have:=zm2 e
  exact⟨_,by show(cs[k]?).map _=_;rw[List.getElem?_eq_getElem this];rfl⟩
 | none =>
  have er:=List.getElem?_eq_getElem hi
  have hl:=hw _ (List.mem_of_getElem? er)
  exact⟨rows[i][j],by show(rows[(i:Int).toNat]?).bind (λr=>r[(j:Int).toNat]?)=_;rw[Int.toNat_natCast,Int.toNat_natCast,er];exact List.getElem?_eq_getElem (by omega)⟩
theorem jkr{n r c w kind k:Nat}(hk:kind<3)(h:k<zbv n r c w kind):zij n r c w kind k<n+r+c+r+c:=by
 unfold zbv at h
 unfold zij
 have hd:k / w<(if kind=0 then n else if kind=1 then r else if kind=2 then c else if kind=3 then r else c):=Nat.div_lt_of_lt_mul (by rw[Nat.mul_comm];exact h)
 rcases(by omega:kind=0\/kind=1\/kind=2)with z | z | z<;>subst z<;>simp at hd ⊢ <;>omega
theorem jf2{n r c w kind k:Nat}(h:k<zbv n r c w kind):1<=w:=by
 unfold zbv at h
 rcases Nat.eq_zero_or_pos w with z | z
 ·rw[z,Nat.mul_zero]at h;omega
 ·exact z
theorem z2e{n r c w kind:Nat}(h1:n<=6)(h2:r<=6)(h3:c<=6)(h4:w<=6):zbv n r c w kind<=36:=by
 unfold zbv
 have h:(if kind=0 then n else if kind=1 then r else if kind=2 then c else if kind=3 then r else c)<=6:=by
  split<;>(try split)<;>(try split)<;>(try split)<;>omega
 exact Nat.mul_le_mul h h4
def zz0(kind:Nat):List V:=if kind=0 then [.non]else [.non,.int 0]
theorem jf3(kind:Nat)(v:V):decide (v∈zz0 kind)=z66 kind v:=by
 unfold zz0 z66
 by_cases h:kind=0
 ·subst h;simp
 ·rw[if_neg h];simp[Nat.pos_of_ne_zero h]
theorem z7d{kind:Nat}{A:BA}{n r c w:Nat}{rows:List (List V)}{nn:Nat}{cs:List Ch}{outs:Int->Bool}{ts:List Addr}{l:Addr}{H':Hp}(hk:kind<3)(T:TB K a)(TP:zhw K a)(s:Same H H')(B:ja4 a H A w rows nn cs outs)(hM:rows.length=n+r+c+r+c)(h1:n<=6)(h2:r<=6)(h3:c<=6)(h4:w<=6)
  (gh:∀ i j v,zhx cs rows i j=some v->GoodV 4 H v) (hts:ts.length=zbv n r c w kind) (ht:∀ k t,ts[k]? =some t->H' t=some (.tup [.int (zij n r c w kind k:Nat),.int (k % w:Nat)])) (el:H' l=some (.lst (ts.map V.ref)))
  (q:∀ k:Nat,z67 (z9d cs rows n r c w kind) (zbv n r c w kind)=k->∀ H',Same H H'->Q (.int k) H') (qe:z67 (z9d cs rows n r c w kind) (zbv n r c w kind)= -1->∀ H',Same H H'->E (.ref (a "NoRoom")) none H') :
  ∀ u,H' u=none->zbp K a [.ref A.b,.ref l,.ref u] (upd H' u (.tup (zz0 kind))) Q E:=λu hu=>by
 have su:=zah (o:=.tup (zz0 kind)) hu
 have s2:=s.trans su
 refine⟨A,w,rows,nn,cs,outs,l,u,ts,zz0 kind,z9d cs rows n r c w kind,zbv n r c w kind,rfl,T,TP,B.same s2,su _ _ el,hts,by have:=z2e (kind:=kind) h1 h2 h3 h4;omega,zae,λz hz=> ?_,λk t hkt=> ?_,λk hk' H3 s3=>q k hk' H3 (s2.trans s3),λhk' H3 s3=>qe hk' H3 (s2.trans s3)⟩
 ·unfold zz0 at hz
  split at hz<;>simp at hz
  ·exact .inl hz
  ·rcases hz with z | z
   ·exact .inl z
   ·exact .inr ⟨0,z⟩
 ·have hlt:k<zbv n r c w kind:=by have:=(List.getElem?_eq_some_iff.mp hkt).1;omega
  have hb:=jkr hk hlt
  have hw:=jf2 hlt
  have hj:k % w<w:=Nat.mod_lt _ (by omega)
  obtain⟨v,ev⟩:=ji0 (λr' hr'=>B.pk.wd r' hr') (show zij n r c w kind k<rows.length by omega) hj cs
  refine⟨_,_,v,su _ _ (ht k t hkt),⟨by omega,by omega,by omega,by omega⟩,ev,(gh _ _ _ ev).keep s2.tk,?_⟩
  unfold z9d
  rw[ev,jf3]
theorem z40(h:zds K a vs H Q E):zk7 K a (λ_=>E) (zfj Q) (zbn ["layout","hold","places"] vs) H:=by
 obtain⟨p,b,rfl,A,n,r,c,w,rows,nn,cs,outs,rfl,T,TP,TL,L,h1,h2,h3,h4,B,hM,gh,q,qe⟩:=h
 obtain⟨dx,e⟩:=L.ob
 push_cast[zk7,↓zy0,↓zy1]
 refine⟨_,_,e,zgn (by decide +kernel),p,n,r,c,w,rfl,TL,L,λt ht=> ?_⟩
 have s1:=zah (o:=.tup [V.int ((n:Int) * w),V.int ((r:Int) * w),V.int ((c:Int) * w)]) ht
 refine zgm zae (n:=0) rfl rfl ?_
 revert s1
 generalize upd H t (.tup [V.int ((n:Int) * w),V.int ((r:Int) * w),V.int ((c:Int) * w)])=H1
 intro s1
 have hk:=z2e (kind:=0) h1 h2 h3 h4
 have em:(n:Int) * w=(zbv n r c w 0:Nat):=by unfold zbv;simp
 rw[em]
 push_cast[]
 refine⟨by omega,by omega,zu3 (B:=λk=>(zij n r c w 0 k:Nat)) (w:=w) (by omega) (λi H' Q' hi s' q'=> ?_) λts H' l hts s' htt el=> ?_⟩
 ·push_cast[z4n]
  refine⟨_,_,s' _ _ (s1 _ _ e),zgn (by decide +kernel),p,n,r,c,w,i,(by simp),TL,(L.same s1).same s',?_⟩
  unfold zij at q'
  simpa using q'
 ·push_cast[]
  exact⟨by decide,z7d (kind:=0) (by decide) T TP (s1.trans s') B hM h1 h2 h3 h4 gh hts htt el q qe⟩
theorem z7e(h:zds K a vs H Q E):vs.length=2:=by
 obtain⟨_,_,rfl,_⟩:=h
 rfl
theorem z1u(h:zdt K a vs H Q E):zit K a (λ_=>E) (zfj Q) (zbn ["layout","hold","marks"] vs) H:=by
 obtain⟨p,b,rfl,A,n,r,c,w,rows,nn,cs,outs,rfl,T,TP,TL,L,h1,h2,h3,h4,B,hM,gh,q,qe⟩:=h
 obtain⟨dx,e⟩:=L.ob
 push_cast[zit,↓zum,↓zun]
 refine⟨_,_,e,zgn (by decide +kernel),p,n,r,c,w,rfl,TL,L,λt ht=> ?_⟩
 have s1:=zah (o:=.tup [V.int ((n:Int) * w),V.int ((r:Int) * w),V.int ((c:Int) * w)]) ht
 refine zgm zae (n:=1) rfl rfl ?_
 revert s1
 generalize upd H t (.tup [V.int ((n:Int) * w),V.int ((r:Int) * w),V.int ((c:Int) * w)])=H1
 intro s1
 have hk:=z2e (kind:=1) h1 h2 h3 h4
 have em:(r:Int) * w=(zbv n r c w 1:Nat):=by unfold zbv;simp
 rw[em]
 push_cast[]
 refine⟨by omega,by omega,zu3 (B:=λk=>(zij n r c w 1 k:Nat)) (w:=w) (by omega) (λi H' Q' hi s' q'=> ?_) λts H' l hts s' htt el=> ?_⟩
 ·push_cast[z4n]
  refine⟨_,_,s' _ _ (s1 _ _ e),zgn (by decide +kernel),p,n,r,c,w,i,(by simp),TL,(L.same s1).same s',?_⟩
  unfold zij at q'
  simpa using q'
 ·push_cast[]
  exact⟨by decide,z7d (kind:=1) (by decide) T TP (s1.trans s') B hM h1 h2 h3 h4 gh hts htt el q qe⟩
theorem z3t(h:zdt K a vs H Q E):vs.length=2:=by
 obtain⟨_,_,rfl,_⟩:=h
 rfl
theorem z3u(h:zec K a vs H Q E):zj1 K a (λ_=>E) (zfj Q) (zbn ["layout","hold","marks"] vs) H:=by
 obtain⟨p,b,rfl,A,n,r,c,w,rows,nn,cs,outs,rfl,T,TP,TL,L,h1,h2,h3,h4,B,hM,gh,q,qe⟩:=h
 obtain⟨dx,e⟩:=L.ob
 push_cast[zj1,↓zv6,↓zv7]
 refine⟨_,_,e,zgn (by decide +kernel),p,n,r,c,w,rfl,TL,L,λt ht=> ?_⟩
 have s1:=zah (o:=.tup [V.int ((n:Int) * w),V.int ((r:Int) * w),V.int ((c:Int) * w)]) ht
 refine zgm zae (n:=2) rfl rfl ?_
 revert s1
 generalize upd H t (.tup [V.int ((n:Int) * w),V.int ((r:Int) * w),V.int ((c:Int) * w)])=H1
 intro s1
 have hk:=z2e (kind:=2) h1 h2 h3 h4
 have em:(c:Int) * w=(zbv n r c w 2:Nat):=by unfold zbv;simp
 rw[em]
 push_cast[]
 refine⟨by omega,by omega,zu3 (B:=λk=>(zij n r c w 2 k:Nat)) (w:=w) (by omega) (λi H' Q' hi s' q'=> ?_) λts H' l hts s' htt el=> ?_⟩
 ·push_cast[z4n]
  refine⟨_,_,s' _ _ (s1 _ _ e),zgn (by decide +kernel),p,n,r,c,w,i,(by simp),TL,(L.same s1).same s',?_⟩
  unfold zij at q'
  simpa using q'
 ·push_cast[]
  exact⟨by decide,z7d (kind:=2) (by decide) T TP (s1.trans s') B hM h1 h2 h3 h4 gh hts htt el q qe⟩
theorem z41(h:zec K a vs H Q E):vs.length=2:=by
 obtain⟨_,_,rfl,_⟩:=h
 rfl
theorem jf4{cs:List Ch}{rows:List (List V)}(g:goodH H cs rows){i j:Int}{v:V}(h:zhx cs rows i j=some v):GoodV 4 H v:=by
 unfold zhx at h
 cases e:zes cs i j with
 | some k =>
  rw[e]at h
  have h:(cs[k]?).map (·.val)=some v:=h
  cases ec:cs[k]? with
  | none=>rw[ec]at h;cases h
  | some c =>
   rw[ec]at h
   cases h
   exact g.2 c (List.mem_of_getElem? ec)
 | none =>
  rw[e]at h
  have h:(rows[i.toNat]?).bind (λr=>r[j.toNat]?)=some v:=h
  cases er:rows[i.toNat]? with
  | none=>rw[er]at h;cases h
  | some r =>
   rw[er]at h
   exact g.1 r (List.mem_of_getElem? er) v (List.mem_of_getElem? h)
theorem goodH.keep{H H':Hp}{cs:List Ch}{rows:List (List V)}(g:goodH H cs rows)(k:zkm H H'):goodH H' cs rows:=⟨λr hr v hv=>(g.1 r hr v hv).keep k,λc hc=>(g.2 c hc).keep k⟩
theorem jf5{cs:List Ch}{rows:List (List V)}{i j:Int}{bi bj:Nat}{v:V}{nd:List Int}:zhx (cs++[⟨bi,bj,v,nd⟩]) rows i j=if(bi:Int)=i/\(bj:Int)=j then some v else zhx cs rows i j:=by
 unfold zhx
 rw[zvk]
 by_cases h:(bi:Int)=i/\(bj:Int)=j
 ·rw[if_pos h,if_pos h]
  simp
 ·rw[if_neg h,if_neg h]
  cases e:zes cs i j with
  | none=>rfl
  | some k =>
   show((cs++[_])[k]?).map _=(cs[k]?).map _
   rw[List.getElem?_append_left (zm2 e)]
theorem zxl{G:Addr->Prop}{H H':Hp}(s:SameBut G H H')(g:∀ x,G x->zx7 (H x)):zkm H H':=λb xs e=>s _ _ e λz=>(g _ z).1 _ e
theorem jf6{z:Str}{i:Int}{n:Nat}{c:Nat}{Q:VK}(hi:i=n)(hL:z.cps.toList.length<=1000)(hc:z.cps.toList[n]? =some c)(q:Q (.str ⟨#[c]⟩) H):zht K (.str z) (.int i) H Q:=by
 subst hi
 exact .inr (.inr ⟨z,n,c,rfl,rfl,Nat.le_trans (by simpa [Str.length]using hL) (zd4 _ (by omega)),z6l hc,q⟩)
theorem jks{c:Nat}:[c]<(Str.ofString " ").cps.toList↔c<32:=by
 rw[show(Str.ofString " ").cps.toList=[32] by decide +kernel,List.cons_lt_cons_iff]
 simp
theorem jkt{c:Nat}:(Str.ofString "~").cps.toList<[c]↔126<c:=by
 rw[show(Str.ofString "~").cps.toList=[126] by decide +kernel,List.cons_lt_cons_iff]
 simp
theorem jm6{c:Nat}:[c]<(Str.ofString "a").cps.toList↔c<97:=by
 rw[show(Str.ofString "a").cps.toList=[97] by decide +kernel,List.cons_lt_cons_iff]
 simp
theorem jm7{c:Nat}:(Str.ofString "z").cps.toList<[c]↔122<c:=by
 rw[show(Str.ofString "z").cps.toList=[122] by decide +kernel,List.cons_lt_cons_iff]
 simp
theorem z9w(h:zg4 K a vs H Q E):zrj K a (λ_=>E) (zfj Q) (zbn ["sign"] vs) H:=by
 obtain⟨c,rfl,q⟩:=h
 push_cast[zrj,↓z21,jks,jkt]
 unfold jfv at q
 split
 ·rename_i h1
  split
  ·rename_i h2
   rw[show decide (32<=c)=true from decide_eq_true (by omega),show decide (c<=126)=true from decide_eq_true (by omega)]at q
   refine⟨rfl,?_⟩
   have e:(!decide (((#[c].getD 0 0:Nat):Int)=37))=decide (c≠37):=by
    rw[show(#[c]:Array Nat).getD 0 0=c from rfl,<-decide_not]
    exact decide_eq_decide.mpr (by omega)
   rw[e]
   simpa using q
  ·rename_i h2
   rw[show decide (c<=126)=false from decide_eq_false (by omega)]at q
   simpa using q
 ·rename_i h1
  rw[show decide (32<=c)=false from decide_eq_false (by omega)]at q
  simpa using q
theorem z0h{z:Str}{f:Nat->Bool}{te:TE}{Q:VK}(hz:z.length<=1000)(ht:∀ c (Q':VK),Q' (.bl (f c)) H->te [some (.str ⟨#[c]⟩)] H Q')(q:∀ H',Same H H'->Q (.bl (z.cps.toList.all f)) H') :
  zx4 (Itx z) (zaz 0) zju te 1 [] [some (.str z)] H λx H1=>zkf K [x] H1 Q:=by
 have hs:z.cps.size=z.length:=rfl
 refine jhu (zd4 _ (by omega)) (λi ys H'=>H'=H/\ys=(z.cps.toList.take i).map λc=>V.bl (f c)) ⟨rfl,by simp⟩ (λi c ys H' hc hl ⟨e1,e2⟩=> ?_) (λys H' hl ⟨e1,e2⟩ p hp=> ?_)
 ·subst e1
  refine ht c _ ⟨rfl,?_⟩
  have hc':z.cps.toList[i]? =some c:=by simpa using hc
  rw[List.take_add_one,hc',e2]
  simp
 ·subst e1
  have e3:ys=(z.cps.toList.map f).map V.bl:=by
   rw[e2,List.map_map,List.take_of_length_le (by simp)];rfl
  refine⟨p,z.cps.toList.map f,rfl,by rw[<-e3];exact SqL.of zae,?_⟩
  have:=q _ (zah (o:=.lst ys) hp)
  rw[List.all_map]
  exact this
theorem z9x(h:zg5 K a vs H Q E):zrk K a (λ_=>E) (zfj Q) (zbn ["thing"] vs) H:=by
 obtain⟨z,rfl,hz,q⟩:=h
 push_cast[zrk,↓z22]
 unfold zbe at q
 refine⟨z.length,⟨zd4 _ (by omega),rfl⟩,?_⟩
 split
 ·rename_i h1
  rw[show decide (1<=z.length)=true from decide_eq_true (by omega),Bool.true_and]at q
  by_cases h2:z.length<=8
  ·rw[show decide (z.length<=8)=true from decide_eq_true h2,Bool.true_and]at q
   rw[if_pos (by omega)]
   refine z0h hz (λc Q' q'=> ?_) q
   push_cast[jm6,jm7]
   unfold zm3 at q'
   split
   ·rename_i h3
    rw[show decide (97<=c)=true from decide_eq_true (by omega),Bool.true_and]at q'
    rw[show(!decide (122<c))=decide (c<=122) by rw[<-decide_not];exact decide_eq_decide.mpr (by omega)]
    exact q'
   ·rename_i h3
    rw[show decide (97<=c)=false from decide_eq_false (by omega),Bool.false_and]at q'
    exact q'
  ·rw[show decide (z.length<=8)=false from decide_eq_false h2,Bool.false_and]at q
   rw[if_neg (by omega)]
   exact q _ (Same.refl _)
 ·rename_i h1
  rw[show decide (1<=z.length)=false from decide_eq_false (by omega),Bool.false_and,Bool.false_and]at q
  exact q _ (Same.refl _)
theorem z7f(h:zfu K a vs H Q E):zm8 K a (λ_=>E) (zfj Q) (zbn ["thing"] vs) H:=by
 obtain⟨z,rfl,hz,q⟩:=h
 push_cast[zm8,↓z0w]
 unfold ztr at q
 refine⟨z.length,⟨zd4 _ (by omega),rfl⟩,?_⟩
 split
 ·rename_i h1
  rw[show decide (1<=z.length)=true from decide_eq_true (by omega),Bool.true_and]at q
  by_cases h2:z.length<=40
  ·rw[show decide (z.length<=40)=true from decide_eq_true h2,Bool.true_and]at q
   rw[if_pos (by omega)]
   refine z0h hz (λc Q' q'=> ?_) q
   push_cast[]
   exact⟨c,rfl,q'⟩
  ·rw[show decide (z.length<=40)=false from decide_eq_false h2,Bool.false_and]at q
   rw[if_neg (by omega)]
   exact q _ (Same.refl _)
 ·rename_i h1
  rw[show decide (1<=z.length)=false from decide_eq_false (by omega),Bool.false_and,Bool.false_and]at q
  exact q _ (Same.refl _)
theorem jbe(h:zg5 K a vs H Q E):vs.length=1:=by
 obtain⟨_,rfl,_⟩:=h
 rfl
theorem jbf(h:zg4 K a vs H Q E):vs.length=1:=by
 obtain⟨_,rfl,_⟩:=h
 rfl
theorem z9y(h:zfu K a vs H Q E):vs.length=1:=by
 obtain⟨_,rfl,_⟩:=h
 rfl
theorem zjk(x y:Str):(x++y).length=x.length+y.length:=PySem.strLen_append x y
theorem znr(x:Int){n:Nat}(h:1<=n):∃ b:Nat,x % (n:Int)=b/\b<n :=
  ⟨(x % (n:Int)).toNat,by have:=Int.emod_nonneg x (show(n:Int)≠0 by omega);omega,by
    have:=Int.emod_lt_of_pos x (show(0:Int)<n by omega)
    have:=Int.emod_nonneg x (show(n:Int)≠0 by omega);omega⟩
theorem jm8{z:Str}{i:Int}{n:Nat}{Q:VK}(hi:i=n)(hn:n<z.length)(hz:z.length<=1000)(q:∀ c,Q (.str ⟨#[c]⟩) H):zht K (.str z) (.int i) H Q:=by
 subst hi
 have hn':n<z.cps.toList.length:=by simpa [Str.length]using hn
 exact .inr (.inr ⟨z,n,z.cps.toList[n],rfl,rfl,zd4 _ (by omega),z6l (List.getElem?_eq_getElem hn'),q _⟩)
section
variable{lp b tk:Addr}
theorem jf7:(sf lp b tk).lookup ("plan":Str)=some (V.ref lp):=by simp[sf]
theorem jf8:(sf lp b tk).lookup ("book":Str)=some (V.ref b):=by
 simp[sf,List.lookup_cons,zse (a:="book") (b:="plan") (by decide +kernel)]
theorem jon:(sf lp b tk).lookup ("taken_out":Str)=some (V.ref tk):=by
 simp[sf,List.lookup_cons,zse (a:="taken_out") (b:="plan") (by decide +kernel),zse (a:="taken_out") (b:="book") (by decide +kernel)]
theorem zdi{x:Str}(h:(ztq x "plan" || ztq x "book" || ztq x "taken_out")=false):(sf lp b tk).lookup x=none:=by
 simp only[Bool.or_eq_false_iff]at h
 obtain⟨⟨h1,h2⟩,h3⟩:=h
 simp[sf,List.lookup_cons,zse h1,zse h2,zse h3]
theorem jm9:zfs "taken_out" (.ref tk) (zfs "book" (.ref b) (zfs "plan" (.ref lp) []))=sf lp b tk:=by
 repeat (first | rw[zri] | rw[zx6 (by decide +kernel)])
 rfl
end
theorem jku{w k k':Nat}(h1:k / w=k' / w)(h2:k % w=k' % w):k=k':=by
 rw[<-Nat.div_add_mod k w,<-Nat.div_add_mod k' w,h1,h2]
theorem jna{f:Nat->Bool}{m k:Nat}(h:z67 f m=k):k<m:=by
 unfold z67 at h
 cases e:(List.range m).find? f with
 | none=>rw[e]at h;simp at h
 | some k' =>
  rw[e]at h
  have:=List.mem_range.mp (List.mem_of_find?_eq_some e)
  simp at h
  omega
theorem z7g{z:Str}(h:zbe z=true):PyData.strOk z=true:=by
 unfold zbe at h
 rw[Bool.and_eq_true]at h
 have h:=h.2
 unfold PyData.strOk
 rw[<-Array.all_toList]
 rw[List.all_eq_true]at h ⊢
 intro c hc
 have:=h c hc
 simp only[zm3,Bool.and_eq_true,decide_eq_true_eq]at this ⊢
 omega
theorem RepC.keep{H H':Hp}(k:zkm H H'):∀ {x:CV} {v:V},RepC H x v->RepC H' x v
 | .no,_,h=>h
 | .nm _ _,_,⟨t,e,et⟩=>⟨t,e,k _ _ et⟩
 | .mk _,_,h=>h
 | .rc _ _,_,⟨t,u,e,et,eu⟩=>⟨t,u,e,k _ _ et,k _ _ eu⟩
 | .tx _,_,h=>h
theorem SM.same{H H':Hp}{S:SA}{n r c w:Nat}{rows:List (List V)}{nn:Nat}{cs:List Ch}{outs:Int->Bool}{tks:List (Key × V)}{M:Md}(I:SM a H S n r c w rows nn cs outs tks M)(s:Same H H'):SM a H' S n r c w rows nn cs outs tks M:=by
 obtain⟨⟨dx,e1⟩,e2,e3,e4,e5,e6,e7,e8,e9,e10,e11⟩:=I
 exact⟨⟨dx,s _ _ e1⟩,e2.same s,e3.same s,s _ _ e4,e5,e6,e7,e8,e9.keep s.tk,λkind k v h1 h2 hv=>(e10 kind k v h1 h2 hv).keep s.tk,e11⟩
theorem z3v(h:zdl K a vs H Q E):zjw K a (λ_=>E) (zfj Q) (zbn ["self"] vs) H:=by
 obtain⟨x,dx,lp,b,tk,rfl,T,e,q⟩:=h
 push_cast[zjw,↓zvl]
 exact⟨_,_,_,e,T.cl,T.n2,_,jf8,q⟩
theorem z42(h:zdl K a vs H Q E):vs.length=1:=by
 obtain⟨_,_,_,_,_,rfl,_⟩:=h
 rfl
theorem zz1(h:zdd K a vs H Q E):zhi K a (λ_=>E) (zfj Q) (zbn ["self"] vs) H:=by
 obtain⟨x,dx,lp,b,tk,rfl,T,e,q⟩:=h
 push_cast[zhi,↓zrn]
 exact⟨_,_,_,e,T.cl,T.n1,_,jf7,q⟩
theorem z1v(h:zdd K a vs H Q E):vs.length=1:=by
 obtain⟨_,_,_,_,_,rfl,_⟩:=h
 rfl
theorem BookAt.ins1{C:Addr}{H H':Hp}{A:BA}{w:Nat}{rows:List (List V)}{n:Nat}{cs:List Ch}{outs:Int->Bool}{x C' dx:Addr}{fs:List (Str × V)}(B:BookAt a C H A w rows n cs outs)(s:SameBut (· =x) H H')(hx:H x=some (.ins C' dx fs))(hf:fs.length<=2):BookAt a C H' A w rows n cs outs:=by
 obtain⟨⟨⟨d1,e1⟩,⟨chs,e2,e3⟩,e4,e5,e6,⟨kvs,e7,e8⟩,⟨kvo,e9,e10⟩,r1,r2,r3,r4,r5⟩,⟨⟨d2,f1⟩,⟨ts,f2,f3⟩,f4,f5,f6⟩,nb⟩:=B
 have o:∀ {y:Addr} {o:HO},H y=some o->(∀ C'' d'' ,o≠.ins C'' d'' fs)->H' y=some o:=λe h=>s _ _ e (zix e hx (h _ _))
 have oi:∀ {y:Addr} {C'' d'':Addr} {gs:List (Str × V)},H y=some (.ins C'' d'' gs)->2<gs.length->H' y=some (.ins C'' d'' gs):=λe h=>o e λ_ _ z=>by injection z with _ _ z;rw[z]at h;omega
 have ol:∀ {y:Addr} {o':HO},H y=some o'->(∀ C'' d'' gs,o'≠.ins C'' d'' gs)->H' y=some o':=λe h=>o e λ_ _=>h _ _ _
 exact⟨⟨⟨d1,oi e1 (by simp[bf])⟩,⟨chs,ol e2 (by intros;simp),Paired.mapP e3 λy c ⟨d,pl,nt,g1,g2,g3⟩=>⟨d,pl,nt,oi g1 (by simp[chf]),ol g2 (by intros;simp),ol g3 (by intros;simp)⟩⟩,ol e4 (by intros;simp),λi l h=>ol (e5 i l h) (by intros;simp),e6,⟨kvs,ol e7 (by intros;simp),e8⟩,⟨kvo,ol e9 (by intros;simp),e10⟩,r1,r2,r3,r4,r5⟩,⟨⟨d2,oi f1 (by simp[pf])⟩,⟨ts,ol f2 (by intros;simp),Paired.mapP f3 λt r z=>ol z (by intros;simp)⟩,f4,f5,f6⟩,nb⟩
theorem z3w(h:zed K a vs H Q E):zj0 K a (λ_=>E) (zfj Q) (zbn ["self","layout","plank"] vs) H:=by
 obtain⟨x,dx,lp,gp,cl,n,r,c,w,rows,nn,M,rfl,⟨T,TP,TL,TS⟩,hx,L,P,sz,g,hrp,hok,q⟩:=h
 push_cast[zj0,↓zv3,↓zv4,↓zv5]
 refine⟨_,_,_,hx,TS.cl,TS.n1,by decide,?_⟩
 have e1:upd H x (.ins (a "Store") dx (zfs "plan" (.ref lp) [])) x=some (.ins (a "Store") dx (zfs "plan" (.ref lp) [])):=zae
 have s1:SameBut (· =x) H (upd H x (.ins (a "Store") dx (zfs "plan" (.ref lp) []))):=λy o e n=>by rw[zal n];exact e
 revert e1 s1
 generalize upd H x (.ins (a "Store") dx (zfs "plan" (.ref lp) []))=H1
 intro e1 s1
 have P1:PlankAt a H1 gp cl w rows nn:=by
  obtain⟨⟨dx',f1⟩,⟨ts,f2,f3⟩,r1,r2,r3⟩:=P
  exact⟨⟨dx',s1 _ _ f1 (zix f1 hx (jca (by simp[pf])))⟩,⟨ts,s1 _ _ f2 (zix f2 hx (by intro z;cases z)),Paired.mapP f3 λt r z=>s1 _ _ z (zix z hx (by intro z;cases z))⟩,r1,r2,r3⟩
 have ncl:cl≠x:=by obtain⟨ts,z,_⟩:=P.ls;exact zix z hx (by intro z;cases z)
 refine jh5 T TP P1 λA H2 eg ec off B s2=> ?_
 have hx2:=s2 _ _ e1
 refine⟨_,_,_,hx2,TS.cl,TS.n2,zgl (n:=999) (by decide),λp hp=> ?_⟩
 have np:x≠p:=zay zae hp
 rw[zal np.symm]at hp
 refine⟨_,_,_,by rw[zal np,zae],TS.cl,TS.n3,zgl (n:=999) (zgl (n:=998) (by decide)),?_⟩
 rw[jm9]
 have s3:SameBut (· =x) H2 (upd (upd (upd H2 x (.ins (a "Store") dx (zfs "book" (.ref A.b) (zfs "plan" (.ref lp) [])))) p (.dK [])) x (.ins (a "Store") dx (sf lp A.b p))):=λy o e n=>by
  rw[zal n,zal (zay e hp),zal n];exact e
 have e3:upd (upd (upd H2 x (.ins (a "Store") dx (zfs "book" (.ref A.b) (zfs "plan" (.ref lp) [])))) p (.dK [])) x (.ins (a "Store") dx (sf lp A.b p)) x=some (.ins (a "Store") dx (sf lp A.b p)):=zae
 have p3:upd (upd (upd H2 x (.ins (a "Store") dx (zfs "book" (.ref A.b) (zfs "plan" (.ref lp) [])))) p (.dK [])) x (.ins (a "Store") dx (sf lp A.b p)) p=some (.dK []):=by rw[zal np.symm,zae]
 revert s3 e3 p3
 generalize upd (upd (upd H2 x (.ins (a "Store") dx (zfs "book" (.ref A.b) (zfs "plan" (.ref lp) [])))) p (.dK [])) x (.ins (a "Store") dx (sf lp A.b p))=H3
 intro s3 e3 p3
 have B3:=B.ins1 s3 hx2 (Nat.le_trans (zka _ _ _) (by simp))
 have sb:SameBut (· =x) H H3:=(s1.trans (Same.sb s2)).trans s3
 have tk:zkm H H3:=λb xs e=>sb _ _ e (zix e hx (by intro z;cases z))
 have hpH:H p=none:=s1.none (by rw[e1];intro z;cases z) (s2.free hp)
 obtain⟨dl,el⟩:=L.ob
 refine q ⟨A,x,lp,p⟩ H3 rfl rfl eg ec (λy o e=> ?_) hpH ⟨⟨dx,e3⟩,L.sb sb (zix el hx (jca (by simp[lf]))),B3,p3,Nat.le_refl _,λz v h=>by simp[zre]at h,B.off hp,sz,⟨λr hr v hv=>(g r hr v hv).keep tk,λc hc=>by cases hc⟩,λkind k v h1 h2 hv=>(hrp kind k v h1 h2 hv).keep tk,hok⟩ sb
 by_cases hy:y=x
 ·subst hy
  exact(off _ _ e1).imp id id
 ·exact off y o (s1 _ _ e hy)
theorem z43(h:zed K a vs H Q E):vs.length=3:=by
 obtain⟨_,_,_,_,_,_,_,_,_,_,_,_,rfl,_⟩:=h
 rfl
section
variable{X:SX}{cs:List Ch}{tks:List (Key × V)}{M:Md}
theorem jdk{n r c w kind kind' k k':Nat}(h1:kind<5)(h2:kind'<5)(hk:k<zbv n r c w kind)(hk':k'<zbv n r c w kind')(e1:zij n r c w kind k=zij n r c w kind' k')(e2:k % w=k' % w):kind=kind'/\k=k':=by
 unfold zbv at hk hk'
 unfold zij at e1
 have d1:k / w<(if kind=0 then n else if kind=1 then r else if kind=2 then c else if kind=3 then r else c):=Nat.div_lt_of_lt_mul (by rw[Nat.mul_comm];exact hk)
 have d2:k' / w<(if kind'=0 then n else if kind'=1 then r else if kind'=2 then c else if kind'=3 then r else c):=Nat.div_lt_of_lt_mul (by rw[Nat.mul_comm];exact hk')
 have key:kind=kind'/\k / w=k' / w:=by
  generalize k / w=x at *
  generalize k' / w=y at *
  clear hk hk' e2
  rcases(by omega:kind=0\/kind=1\/kind=2\/kind=3\/kind=4)with z | z | z | z | z<;>rcases(by omega:kind'=0\/kind'=1\/kind'=2\/kind'=3\/kind'=4)with y | y | y | y | y<;>subst z<;>subst y<;>simp at d1 d2 e1 ⊢ <;>omega
 exact⟨key.1,jku key.2 e2⟩
theorem SM.on(I:X.at a H cs tks M){kind k:Nat}(h1:kind<5)(hk:k<zbv X.n X.r X.c X.w kind):zij X.n X.r X.c X.w kind k<X.rows.length/\k % X.w<X.w:=by
 refine⟨?_,Nat.mod_lt _ (by have:=jf2 hk;omega)⟩
 rw[I.sz.2.2.2.2]
 unfold zbv at hk
 unfold zij
 have hd:k / X.w<(if kind=0 then X.n else if kind=1 then X.r else if kind=2 then X.c else if kind=3 then X.r else X.c):=Nat.div_lt_of_lt_mul (by rw[Nat.mul_comm];exact hk)
 generalize k / X.w=x at *
 clear hk
 rcases(by omega:kind=0\/kind=1\/kind=2\/kind=3\/kind=4)with z | z | z | z | z<;>subst z<;>simp at hd ⊢ <;>omega
theorem SM.onPl(I:X.at a H cs tks M){kind k:Nat}(h1:kind<5)(hk:k<zbv X.n X.r X.c X.w kind):onPl X.rows X.w (zij X.n X.r X.c X.w kind k:Nat) (k % X.w:Nat):=by
 have:=I.on h1 hk
 exact⟨Int.natCast_nonneg _,by omega,Int.natCast_nonneg _,by omega⟩
theorem SM.val(I:X.at a H cs tks M){kind k:Nat}(h1:kind<5)(hk:k<zbv X.n X.r X.c X.w kind):∃ v,zhx cs X.rows (zij X.n X.r X.c X.w kind k:Nat) (k % X.w:Nat)=some v/\RepC H (M kind k) v:=by
 obtain⟨b1,b2⟩:=I.on h1 hk
 obtain⟨v,ev⟩:=ji0 (λr' hr'=>I.bk.pk.wd r' hr') b1 b2 cs
 exact⟨v,ev,I.rp kind k v h1 hk ev⟩
theorem SM.snoc{H':Hp}{kind k:Nat}{v:V}{x:CV}{nd:List Int}(I:X.at a H cs tks M)(h1:kind<5)(hk:k<zbv X.n X.r X.c X.w kind)(B:ja4 a H' X.S.A X.w X.rows X.nn (cs++[⟨zij X.n X.r X.c X.w kind k,k % X.w,v,nd⟩]) X.outs)(s:SameBut X.S.A.F H H')(g:GoodV 4 H' v)(rx:RepC H' x v)(ox:jm3 kind x):X.at a H' (cs++[⟨zij X.n X.r X.c X.w kind k,k % X.w,v,nd⟩]) tks (M.put kind k x):=by
 have lo:∀ x,X.S.A.F x->zx7 (H x):=λx hx=>I.bk.loose hx
 have tk:zkm H H':=zxl s lo
 obtain⟨⟨dx,e1⟩,e2,e3,e4,e5,e6,e7,e8,e9,e10,e11⟩:=I
 obtain⟨dl,el⟩:=e2.ob
 refine⟨⟨dx,s _ _ e1 λz=>(lo _ z).2 _ _ _ e1⟩,e2.sb s λz=>(lo _ z).2 _ _ _ el,B,s _ _ e4 e7,by rw[List.length_append];omega,λz v h=> ?_,e7,e8,⟨(e9.keep tk).1,λc hc=> ?_⟩,λkind' k' v' h1' hk' hv=> ?_,λkind' k' h1' hk'=> ?_⟩
 ·obtain⟨k,ek,hk⟩:=e6 z v h
  exact⟨k,ek,by rw[List.length_append];omega⟩
 ·rcases List.mem_append.mp hc with y | y
  ·exact(e9.keep tk).2 c y
  ·rw[List.mem_singleton.mp y];exact g
 ·rw[jf5]at hv
  unfold Md.put
  by_cases hp:kind'=kind/\k'=k
  ·obtain⟨rfl,rfl⟩:=hp
   rw[if_pos ⟨rfl,rfl⟩]at hv ⊢
   cases hv
   exact rx
  ·rw[if_neg λy=>hp (by
    have:=jdk h1 h1' hk hk' (by omega) (by omega)
    exact⟨this.1.symm,this.2.symm⟩)]at hv
   rw[if_neg hp]
   exact(e10 kind' k' v' h1' hk' hv).keep tk
 ·unfold Md.put
  split
  ·rename_i y
   rw[y.1];exact ox
  ·exact e11 kind' k' h1' hk'
theorem zgt{kind k:Nat}{v:V}{x:CV}{u nl:Addr}{ns:List Int}(T4:TS4 K a)(I:X.at a H cs tks M)(h1:kind<5)(hk:k<zbv X.n X.r X.c X.w kind)(hu:H u=some (.tup [.int (zij X.n X.r X.c X.w kind k:Nat),.int (k % X.w:Nat)]))(hn:H nl=some (.lst (ns.map V.int)))(hl:ns.length<=60)(hcs:cs.length<990)(kn:∀ x∈ns,known cs x)(g:GoodV 4 H v)(rx:RepC H x v)(ox:jm3 kind x)
  (q:∀ ch H',X.at a H' (cs++[ch]) tks (M.put kind k x)->SameBut X.S.A.F H H'->Q (.int cs.length) H'):zao K a [.ref X.S.A.b,.ref u,v,.ref nl] H Q E:=by
 obtain⟨T,TP,TL,TS⟩:=T4
 refine⟨X.S.A,X.w,X.rows,X.nn,cs,X.outs,u,nl,v,ns,_,_,rfl,T,TP,I.bk,hu,SqL.of hn,hl,hcs,λ_ _ nd H5 pw mem B5 sb5=> ?_,λy=>absurd (I.onPl h1 hk) y,λ_ ⟨x,hx,hk⟩=>absurd (kn x hx) hk⟩
 rw[Int.toNat_natCast,Int.toNat_natCast]at B5
 have tk:=zxl sb5 λx hx=>I.bk.loose hx
 exact q _ H5 (I.snoc h1 hk B5 sb5 (g.keep tk) (rx.keep tk) ox) sb5
end
def NmV(H:Hp)(v:V):Option (Str × Nat)->Prop
 | none=>v=.non
 | some (z,k)=>∃ t,v=.ref t/\H t=some (.tup [.str z,.int k])
theorem NmV.keep{H H':Hp}{v:V}{x:Option (Str × Nat)}(h:NmV H v x)(k:zkm H H'):NmV H' v x:=by
 cases x with
 | none=>exact h
 | some p=>obtain⟨t,e,et⟩:=h;exact⟨t,e,k _ _ et⟩
theorem RepC.nmv{M:Md}{k:Nat}{v:V}(h:RepC H (M 0 k) v)(ok:jm3 0 (M 0 k)):NmV H v (z77 M k):=by
 unfold z77
 cases e:M 0 k with
 | no=>rw[e]at h;exact h
 | nm z r=>rw[e]at h;exact h
 | mk i=>rw[e]at ok;exact ok.elim
 | rc m ps=>rw[e]at ok;exact ok.elim
 | tx z=>rw[e]at ok;exact ok.elim
theorem zq3(h:zba K a vs H Q E):ze5 K a (λ_=>E) (zfj Q) (zbn ["self"] vs) H:=by
 obtain⟨X,cs,tks,M,rfl,⟨T,TP,TL,TS⟩,I,q⟩:=h
 obtain⟨S,n,r,c,w,rows,nn,outs⟩:=X
 dsimp only at *
 have I0:(SX.mk S n r c w rows nn outs).at a H cs tks M:=I
 obtain⟨dx,ho⟩:=I.ob
 obtain⟨dl,el⟩:=I.ly.ob
 obtain⟨db,eb⟩:=I.bk.bk.ob
 have hz:=I.sz
 have hkm:n * w<=36:=Nat.mul_le_mul hz.1 hz.2.2.2.1
 push_cast[ze5,↓zmp]
 refine⟨_,_,_,ho,TS.cl,TS.n1,_,jf7,S.lp,rfl,_,_,el,zgn (by decide +kernel),S.lp,n,r,c,w,rfl,TL,I.ly,λt ht=> ?_⟩
 have s1:=zah (o:=.tup [V.int ((n:Int) * w),V.int ((r:Int) * w),V.int ((c:Int) * w)]) ht
 refine zgm zae (n:=0) rfl rfl ?_
 revert s1
 generalize upd H t (.tup [V.int ((n:Int) * w),V.int ((r:Int) * w),V.int ((c:Int) * w)])=H1
 intro s1
 have em:(n:Int) * w=(n * w:Nat):=by simp
 rw[em]
 push_cast[]
 refine⟨by omega,by omega,zmb (zd4 _ (by omega)) (λi ys H'=>Same H H'/\ys.length=i/\∀ k v,ys[k]? =some v->zhx cs rows (zij n r c w 0 k:Nat) (k % w:Nat)=some v) ⟨s1,rfl,λk v h=>by simp at h⟩ (λi ys H' hi hl ⟨s,_,al⟩=> ?_) (λys H' hl ⟨s,_,al⟩ p hp=> ?_)⟩
 ·push_cast[z4n]
  refine⟨_,_,_,s _ _ ho,TS.cl,TS.n2,_,jf8,S.A.b,rfl,_,_,s _ _ eb,zlo (by decide +kernel),_,_,_,s _ _ ho,TS.cl,TS.n1,_,jf7,S.lp,rfl,_,_,s _ _ el,zgn (by decide +kernel),S.lp,n,r,c,w,i,by simp,TL,I.ly.same s,λu hu=> ?_⟩
  have s2:=s.trans (zah (o:=.tup [.int (0+(i:Int) / w),.int ((i:Int) % w)]) hu)
  have hm0:i<zbv n r c w 0:=by simpa [zbv]using hi
  refine⟨S.A,w,rows,nn,cs,outs,u,(zij n r c w 0 i:Nat),(i % w:Nat),rfl,T,TP,I.bk.same s2,by rw[zae];simp[zij],λ_ v H3 ev s3=>⟨s2.trans s3,by simp[hl],λk v' hk=> ?_⟩,λz=>absurd (SM.onPl I0 (kind:=0) (by decide) hm0) z⟩
  rcases Nat.lt_or_ge k ys.length with z | z
  ·rw[List.getElem?_append_left z]at hk;exact al k v' hk
  ·rw[List.getElem?_append_right z]at hk
   have:k=i:=by
    rcases Nat.eq_or_lt_of_le z with y | y
    ·omega
    ·rw[List.getElem?_eq_none (by simp;omega)]at hk;cases hk
   subst this
   rw[hl,Nat.sub_self]at hk
   cases hk
   exact ev
 ·have sp:=zah (o:=.lst ys) hp
  have s3:=s.trans sp
  refine q p ys _ s3 zae hl λk v hk=> ?_
  have hkl:=(List.getElem?_eq_some_iff.mp hk).1
  exact(I.rp 0 k v (by decide) (by simp[zbv];omega) (al k v hk)).keep s3.tk
theorem zrz(h:zba K a vs H Q E):vs.length=1:=by
 obtain⟨_,_,_,_,rfl,_⟩:=h
 rfl
theorem jf9{M:Md}{m i:Nat}{z:Str}(hi:i<m)(h:(z77 M i).any (λp=>decide (p.1=z))=true)(hl:∀ j<i,(z77 M j).any (λp=>decide (p.1=z))=false):cellOf M m z=some i:=by
 unfold cellOf
 rw[List.find?_eq_some_iff_append]
 refine⟨h,List.range i,(List.range (m - i - 1)).map (i+1+·),?_,λj hj=>by rw[hl j (List.mem_range.mp hj)];rfl⟩
 have e1:m=i+(1+(m - i - 1)):=by omega
 conv=>lhs;rw[e1]
 rw[List.range_add,List.range_add]
 simp[Nat.add_assoc,Function.comp_def]
theorem jga{M:Md}{m:Nat}{z:Str}(hl:∀ j<m,(z77 M j).any (λp=>decide (p.1=z))=false):cellOf M m z=none:=by
 unfold cellOf
 exact List.find?_eq_none.mpr λj hj=>by rw[hl j (List.mem_range.mp hj)];exact Bool.false_ne_true
theorem zxm(h:zbk K a vs H Q E):zgw K a (λ_=>E) (zfj Q) (zbn ["self","name","cell","value"] vs) H:=by
 obtain⟨X,cs,tks,M,z,rfl,T4,I,q⟩:=h
 obtain⟨dx,ho⟩:=I.ob
 push_cast[zgw,↓zp0]
 refine⟨_,_,ho,zdi (by decide +kernel),X,cs,tks,M,rfl,T4,I,λl xs H1 s1 el hl hx=> ?_⟩
 refine⟨l,rfl,⟨_,SqL.of el⟩,z87 (xs:=xs) (λi σ H'=>(Same H H'/\Same H1 H'/\∀ j<i,(z77 M j).any (λp=>decide (p.1=z))=false)/\∃ x y,σ=[some (.ref X.S.st),some (.str z),x,y]) ⟨⟨s1,Same.refl _,λj hj=>absurd hj (Nat.not_lt_zero _)⟩,_,_,rfl⟩ (λi σ H' _ ⟨⟨_,s,_⟩,_⟩=>SqL.of (s _ _ el)) (λi x σ H' t hxi ⟨⟨sH,s,lo⟩,y1,y2,ez⟩ ht=> ?_) (λσ H' ⟨⟨sH,s,lo⟩,y1,y2,ez⟩=> ?_)⟩
 ·subst ez
  have hi:=(List.getElem?_eq_some_iff.mp hxi).1
  have s2:=s.trans (zah (o:=.tup [.int (i:Int),x]) ht)
  have sH2:=sH.trans (zah (o:=.tup [.int (i:Int),x]) ht)
  have nx:=((hx i x hxi).nmv (I.ok 0 i (by decide) (by rw[hl]at hi;simpa [zbv]using hi))).keep s2.tk
  push_cast[]
  refine⟨_,SqT.of zae,rfl,_,_,rfl,_,_,rfl,rfl,?_⟩
  revert s2 sH2 nx
  generalize upd H' t (.tup [.int (i:Int),x])=H2
  intro s2 sH2 nx
  have next:(z77 M i).any (λp=>decide (p.1=z))=false->Same H H2/\Same H1 H2/\∀ j<i+1,(z77 M j).any (λp=>decide (p.1=z))=false:=λh=>⟨sH2,s2,λj hj=>by
   rcases Nat.lt_or_ge j i with y | y
   ·exact lo j y
   ·rw[show j=i by omega];exact h⟩
  push_cast[↓zpz,↓zpy]
  cases en:z77 M i with
  | none =>
   rw[en]at nx next
   rw[show x=.non from nx]
   push_cast[]
   exact next rfl
  | some p =>
   rw[en]at nx next
   obtain⟨u,rfl,eu⟩:=nx
   rw[if_pos (by simp)]
   refine zgm eu (n:=0) rfl rfl ?_
   push_cast[]
   by_cases hz:p.1=z
   ·rw[if_pos hz]
    have:=q _ sH2
    rw[jf9 (i:=i) (by omega) (by rw[en];simpa using hz) lo]at this
    exact this
   ·rw[if_neg hz]
    exact next (by simpa using hz)
 ·subst ez
  push_cast[↓zp1]
  have:=q _ sH
  rw[jga (by rw[<-hl];exact lo)]at this
  exact this
theorem zz2(h:zbk K a vs H Q E):vs.length=2:=by
 obtain⟨_,_,_,_,_,rfl,_⟩:=h
 rfl
theorem z1w(h:zck K a vs H Q E):ziu K a (λ_=>E) (zfj Q) (zbn ["self"] vs) H:=by
 obtain⟨X,cs,tks,M,rfl,T4,I,q⟩:=h
 obtain⟨dx,ho⟩:=I.ob
 have hz:=I.sz
 have hkm:X.m0<=36:=Nat.mul_le_mul hz.1 hz.2.2.2.1
 push_cast[ziu,↓zuo]
 refine⟨_,_,ho,zdi (by decide +kernel),X,cs,tks,M,rfl,T4,I,λl xs H1 s1 el hl hx=> ?_⟩
 push_cast[]
 refine .inl ⟨⟨_,SqL.of el⟩,jdg (xs:=xs) (zd4 _ (by omega)) (λi σ' ys H'=>H'=H1/\(∃ y0,σ'=[y0])/\ys=(zpe M i).map V.str) ⟨rfl,⟨_,rfl⟩,rfl⟩ (λi σ' ys H' ⟨e,_,ey⟩=>⟨e ▸ SqL.of el,by rw[ey,List.length_map];exact Nat.le_trans (List.length_filterMap_le _ _) (by simp)⟩) (λi x σ' ys H' hi hxi ⟨e,⟨y0,es⟩,ey⟩=> ?_) (λσ' ys H' ⟨e,_,ey⟩ p hp=> ?_)⟩
 ·subst e es
  have nx:=(hx i x hxi).nmv (I.ok 0 i (by decide) (by rw[hl]at hi;simpa [zbv]using hi))
  have nxt:zpe M (i+1)=zpe M i++((z77 M i).map (·.1)).toList:=by
   unfold zpe
   rw[List.range_succ,List.filterMap_append]
   cases e:z77 M i<;>simp[e]
  push_cast[]
  cases en:z77 M i with
  | none =>
   rw[en]at nx nxt
   rw[show x=.non from nx,if_neg (by simp)]
   exact⟨_,by omega,rfl,by omega,by rw[nxt,ey];simp⟩
  | some p =>
   rw[en]at nx nxt
   obtain⟨u,rfl,eu⟩:=nx
   rw[if_pos (by simp)]
   exact⟨λy H4=>y=.str p.1/\H4=H',λy H4 ⟨e1,e2⟩=>⟨_,by omega,rfl,by omega,e2,by rw[nxt,ey,e1];simp⟩,zgm eu (n:=0) rfl rfl ⟨rfl,rfl⟩⟩
 ·subst e
  have sp:=zah (o:=.lst ys) hp
  refine⟨p,zpe M X.m0,rfl,by rw[<-hl,<-ey];exact SqL.of zae,Nat.lt_of_le_of_lt (List.length_filterMap_le _ _) (by simp;omega),λD ks hD pk hs=> ?_⟩
  exact q D ks _ (s1.free (sp.free hD)) ((s1.trans sp).trans (zah hD)) zae pk hs
theorem z3x(h:zck K a vs H Q E):vs.length=1:=by
 obtain⟨_,_,_,_,rfl,_⟩:=h
 rfl
theorem zkn(h:za3 K a vs H Q E):zc8 K a (λ_=>E) (zfj Q) (zbn ["self","new","given"] vs) H:=by
 obtain⟨X,cs,tks,M,z,gl,zs,rfl,T4,I,eg,hl,hy,q,q1,q2⟩:=h
 obtain⟨dx,ho⟩:=I.ob
 push_cast[zc8,↓zi6]
 refine .inl ⟨⟨_,SqL.of eg⟩,jfa (xs:=zs.map V.str) (zd4 _ (by rw[List.length_map];omega)) (λi ys H'=>Same H H'/\ys=((zs.take i).map zbe).map V.bl) ⟨Same.refl _,rfl⟩ (λi ys H' _ ⟨s,_⟩=>SqL.of (s _ _ eg)) (λi x ys H' hxi hyl ⟨s,ey⟩=> ?_) (λys H' hyl ⟨s,ey⟩ p hp=> ?_)⟩
 ·rw[List.getElem?_map,Option.map_eq_some_iff]at hxi
  obtain⟨x',hx',rfl⟩:=hxi
  push_cast[z4n]
  refine⟨x',rfl,hy x' (List.mem_of_getElem? hx'),λH2 s2=>⟨s.trans s2,?_⟩⟩
  rw[List.take_add_one,hx',ey]
  simp
 ·rw[List.length_map,List.take_length]at ey
  have sp:=zah (o:=.lst ys) hp
  have s2:=s.trans sp
  refine⟨p,zs.map zbe,rfl,by rw[<-ey];exact SqL.of zae,?_⟩
  rw[List.all_map,Function.id_comp]
  revert s2
  generalize upd H' p (.lst ys)=H2
  intro s2
  cases hb:zs.all zbe with
  | false =>
   push_cast[↓zi5]
   exact⟨by decide,q1 hb _ s2⟩
  | true =>
   push_cast[↓zi8]
   refine⟨_,_,s2 _ _ ho,zdi (by decide +kernel),X,cs,tks,M,z,rfl,T4,I.same s2,λH3 s3=> ?_⟩
   have s4:=s2.trans s3
   cases hc:cellOf M X.m0 z with
   | none =>
    push_cast[jfu]
    exact q hb hc _ s4
   | some k =>
    push_cast[jfu,↓zi7]
    exact⟨by decide,q2 hb ⟨k,hc⟩ _ s4⟩
theorem zkx(h:za3 K a vs H Q E):vs.length=3:=by
 obtain⟨_,_,_,_,_,_,_,rfl,_⟩:=h
 rfl
theorem jh8{S:SA}{dx db gp mm mi lt ou:Addr}{mth:Str}{P:V->Prop}(TS:z6e K a)(ho:H S.st=some (.ins (a "Store") dx (sf S.lp S.A.b S.tk)))(eb:H S.A.b=some (.ins (a "Hold") db (bf gp mm mi lt ou)))(hm:(bf gp mm mi lt ou).lookup mth=none)(p:P (.ref S.A.b)) :
  ∃ x x1 x2,H S.st=some (.ins x x1 x2)/\Cls K x/\NoAttr K x "book"/\∃ v,x2.lookup ("book":Str)=some v/\∃ b,v=.ref b/\∃ y y1,H b=some (.ins (a "Hold") y y1)/\y1.lookup mth=none/\P v:=⟨_,_,_,ho,TS.cl,TS.n2,_,jf8,_,rfl,_,_,eb,hm,p⟩
theorem jgl{S:SA}{dx dl:Addr}{n r c w:Int}{mth:Str}{P:V->Prop}(TS:z6e K a)(ho:H S.st=some (.ins (a "Store") dx (sf S.lp S.A.b S.tk)))(el:H S.lp=some (.ins (a "Layout") dl (lf n r c w)))(hm:(lf n r c w).lookup mth=none)(p:P (.ref S.lp)) :
  ∃ x x1 x2,H S.st=some (.ins x x1 x2)/\Cls K x/\NoAttr K x "plan"/\∃ v,x2.lookup ("plan":Str)=some v/\∃ b,v=.ref b/\∃ y y1,H b=some (.ins (a "Layout") y y1)/\y1.lookup mth=none/\P v:=⟨_,_,_,ho,TS.cl,TS.n1,_,jf7,_,rfl,_,_,el,hm,p⟩
section
variable{p:Addr}{n r c w k:Nat}
theorem lNA(TL:z65 K a)(L:LayAt a H p n r c w)(q:znx (0+k / w) (k % w) Q H):za5 K a [.ref p,.int k] H Q E:=⟨p,n,r,c,w,k,rfl,TL,L,q⟩
theorem lRA(TL:z65 K a)(L:LayAt a H p n r c w)(q:znx (n+k / w) (k % w) Q H):zat K a [.ref p,.int k] H Q E:=⟨p,n,r,c,w,k,rfl,TL,L,q⟩
theorem lPA(TL:z65 K a)(L:LayAt a H p n r c w)(q:znx (n+r+k / w) (k % w) Q H):zbg K a [.ref p,.int k] H Q E:=⟨p,n,r,c,w,k,rfl,TL,L,q⟩
theorem lRM(TL:z65 K a)(L:LayAt a H p n r c w)(q:znx (n+r+c+k / w) (k % w) Q H):za1 K a [.ref p,.int k] H Q E:=⟨p,n,r,c,w,k,rfl,TL,L,q⟩
theorem lPM(TL:z65 K a)(L:LayAt a H p n r c w)(q:znx (n+r+c+r+k / w) (k % w) Q H):zax K a [.ref p,.int k] H Q E:=⟨p,n,r,c,w,k,rfl,TL,L,q⟩
end
theorem z6g{f g:Nat->Bool}:∀ {l:List Nat},(∀ k∈l,f k=g k)->l.find? f=l.find? g
 | [],_=>rfl
 | k::l,h=>by
  rw[List.find?_cons,List.find?_cons,h k List.mem_cons_self,z6g λk' hk'=>h k' (List.mem_cons_of_mem _ hk')]
theorem jgb{f g:Nat->Bool}{m:Nat}(h:∀ k<m,f k=g k):z67 f m=z67 g m:=by
 unfold z67
 rw[z6g λk hk=>h k (List.mem_range.mp hk)]
section
variable{X:SX}{cs:List Ch}{tks:List (Key × V)}{M:Md}
theorem SM.free(I:X.at a H cs tks M){kind:Nat}(hk:kind<3):z67 (z9d cs X.rows X.n X.r X.c X.w kind) (zbv X.n X.r X.c X.w kind)=jfw M kind (zbv X.n X.r X.c X.w kind):=jgb λk hkm=>by
 obtain⟨v,ev,rv⟩:=I.val (by omega:kind<5) hkm
 have ok:=I.ok kind k (by omega) hkm
 unfold z9d
 rw[ev]
 show z66 kind v=zi1 kind (M kind k)
 cases e:M kind k with
 | no=>rw[e]at rv;rw[show v=.non from rv];simp[z66,zi1]
 | nm z r=>rw[e]at rv;obtain⟨t,rfl,_⟩:=rv;simp[z66,zi1]
 | mk i =>
  rw[e]at rv;rw[show v=.int i from rv]
  simp[z66,zi1]
 | rc m ps=>rw[e]at rv;obtain⟨t,u,rfl,_⟩:=rv;simp[z66,zi1]
 | tx z=>rw[e]at rv;rw[show v=.str z from rv];simp[z66,zi1]
theorem z3y{m cell:Nat}{z:Str}(h:cellOf M m z=some cell):cell<m/\∃ k,M 0 cell=.nm z k:=by
 unfold cellOf at h
 have h1:=List.mem_range.mp (List.mem_of_find?_eq_some h)
 have h2:=List.find?_some h
 unfold z77 at h2
 refine⟨h1,?_⟩
 cases e:M 0 cell with
 | nm z' k =>
  rw[e]at h2
  simp at h2
  exact⟨k,by rw[h2]⟩
 | _=>rw[e]at h2;simp at h2
theorem z7h{kind:Nat}(T4:TS4 K a)(I:X.at a H cs tks M)(hk:kind<3)(q:∀ k:Nat,jfw M kind (zbv X.n X.r X.c X.w kind)=k->k<zbv X.n X.r X.c X.w kind->∀ H',Same H H'->Q (.int k) H')(qe:jfw M kind (zbv X.n X.r X.c X.w kind)= -1->z2d a H "NoRoom" E):z68 kind K a X.S.lp X.S.A.b H Q E:=by
 obtain⟨T,TP,TL,TS⟩:=T4
 obtain⟨z1,z2,z3,z4,z5⟩:=I.sz
 refine⟨X.S.A,X.n,X.r,X.c,X.w,X.rows,X.nn,cs,X.outs,rfl,T,TP,TL,I.ly,z1,z2,z3,z4,I.bk,z5,λi j v hv=>jf4 I.gd hv,λk e H' s=> ?_,λe H' s=> ?_⟩
 ·rw[I.free hk]at e
  exact q k e (jna e) H' s
 ·rw[I.free hk]at e
  exact qe e H' s
end
theorem zu4(h:zap K a vs H Q E):zgg K a (λ_=>E) (zfj Q) (zbn ["self","record"] vs) H:=by
 obtain⟨X,cs,tks,M,rec,rfl,⟨T,TP,TL,TS⟩,I,hr,q⟩:=h
 obtain⟨dx,ho⟩:=I.ob
 obtain⟨dl,el⟩:=I.ly.ob
 obtain⟨db,eb⟩:=I.bk.bk.ob
 have hm:rec<zbv X.n X.r X.c X.w 3:=by simpa [zbv]using hr
 push_cast[zgg,↓zo0]
 refine jh8 TS (ho) (eb) (zlo (by decide +kernel)) (jgl TS (ho) (el) (zgn (by decide +kernel)) (lRA TL (I.ly) λu hu=> ?_))
 have s2:=zah (o:=.tup [.int (X.n+(rec:Int) / X.w),.int ((rec:Int) % X.w)]) hu
 refine⟨X.S.A,X.w,X.rows,X.nn,cs,X.outs,u,(zij X.n X.r X.c X.w 3 rec:Nat),(rec % X.w:Nat),rfl,T,TP,I.bk.same s2,by rw[zae];simp[zij],λ_ v H3 ev s3=> ?_,λz=>absurd (I.onPl (kind:=3) (by decide) hm) z⟩
 have s4:=s2.trans s3
 exact q v H3 ((I.rp 3 rec v (by decide) hm ev).keep s4.tk) s4
theorem zxn(h:zap K a vs H Q E):vs.length=2:=by
 obtain⟨_,_,_,_,_,rfl,_⟩:=h
 rfl
theorem zr0(h:zau K a vs H Q E):zfq K a (λ_=>E) (zfj Q) (zbn ["self","name","cell"] vs) H:=by
 obtain⟨X,cs,tks,M,z,rfl,T4,I,q,qe⟩:=h
 obtain⟨dx,ho⟩:=I.ob
 push_cast[zfq,↓zne]
 refine⟨_,_,ho,zdi (by decide +kernel),X,cs,tks,M,z,rfl,T4,I,λH1 s1=> ?_⟩
 push_cast[↓zng]
 cases e:cellOf M X.m0 z with
 | none =>
  push_cast[jfu,↓znf]
  exact⟨by decide,qe e _ s1⟩
 | some cell =>
  push_cast[jfu,↓znh]
  obtain⟨hc,k,ek⟩:=z3y e
  refine⟨_,_,s1 _ _ ho,zdi (by decide +kernel),X,cs,tks,M,rfl,T4,I.same s1,λl xs H2 s2 el hl hx=> ?_⟩
  have hcl:cell<xs.length:=by rw[hl];exact hc
  have ex:=List.getElem?_eq_getElem hcl
  have rx:=hx cell _ ex
  rw[ek]at rx
  obtain⟨t,et,et2⟩:=rx
  exact ztp (SqL.of el) rfl ex (by rw[et];exact zgm et2 (n:=1) rfl rfl (q cell k e hc ek _ (s1.trans s2)))
theorem zu5(h:zau K a vs H Q E):vs.length=2:=by
 obtain⟨_,_,_,_,_,rfl,_⟩:=h
 rfl
theorem z9z{X:SX}{cs:List Ch}{tks:List (Key × V)}{M:Md}{cell rec need:Nat}{z:Str}{nl:Addr}{ns:List Int}{H2:Hp}(T4:TS4 K a)(I:X.at a H cs tks M)(hc:cell<X.m0)(hcs:cs.length<980)(hz:PyData.strOk z=true)(s:Same H H2)(en:H2 nl=some (.lst (ns.map V.int)))(hl:ns.length<=60)(kn:∀ x∈ns,known cs x)
  (q:jnr X a H cs tks (M.put 0 cell (.nm z rec)) Q) :
  zgk K a (λ_=>E) (λ_=>E) (zfj Q) [some (.ref X.S.st),some (.int cell),some (.str z),some (.int rec),some (.int need),some (.ref nl)] H2:=by
 have T4':=T4
 obtain⟨T,TP,TL,TS⟩:=T4
 obtain⟨dx,ho⟩:=I.ob
 obtain⟨dl,el⟩:=I.ly.ob
 obtain⟨db,eb⟩:=I.bk.bk.ob
 have hm:cell<zbv X.n X.r X.c X.w 0:=by simpa [zbv]using hc
 push_cast[↓znd]
 refine jh8 TS (s _ _ ho) (s _ _ eb) (zlo (by decide +kernel)) (jgl TS (s _ _ ho) (s _ _ el) (zgn (by decide +kernel)) (lNA TL (I.ly.same s) λu hu=> ?_))
 have s2:=s.trans (zah (o:=.tup [.int (0+(cell:Int) / X.w),.int ((cell:Int) % X.w)]) hu)
 have eu:upd H2 u (.tup [.int (0+(cell:Int) / X.w),.int ((cell:Int) % X.w)]) u=some (.tup [.int (zij X.n X.r X.c X.w 0 cell:Nat),.int (cell % X.w:Nat)]):=by rw[zae];simp[zij]
 have en2:=zah (o:=.tup [.int (0+(cell:Int) / X.w),.int ((cell:Int) % X.w)]) hu _ _ en
 revert s2 eu en2
 generalize upd H2 u (.tup [.int (0+(cell:Int) / X.w),.int ((cell:Int) % X.w)])=H3
 intro s2 eu en2
 push_cast[]
 refine⟨by decide,λt ht=> ?_⟩
 have st:=zah (o:=.tup [V.str z,V.int rec]) ht
 have s4:=s2.trans st
 have et:upd H3 t (.tup [V.str z,V.int rec]) t=some (.tup [V.str z,V.int rec]):=zae
 refine zgt T4' (I.same s4) (kind:=0) (x:=.nm z rec) (by decide) hm (st _ _ eu) (st _ _ en2) hl (by omega) kn ⟨_,et,by simp,λv hv=> ?_⟩ ⟨t,rfl,et⟩ trivial λch H' I' sb=>q ch H' I' λb o e n=>sb _ _ (s4 _ _ e) n
 simp only[List.mem_cons,List.not_mem_nil,or_false]at hv
 rcases hv with rfl | rfl
 ·exact hz
 ·trivial
theorem zr1(h:zbm K a vs H Q E):zfp K a (λ_=>E) (zfj Q) (zbn ["self","cell","name","record","need","needs"] vs) H:=by
 obtain⟨X,cs,tks,M,cell,rec,need,z,rfl,T4,I,hc,hn,hcs,hz,q⟩:=h
 obtain⟨T,TP,TL,TS⟩:=T4
 obtain⟨dx,ho⟩:=I.ob
 push_cast[zfp,↓zna,↓znc]
 refine⟨by decide,λnl hnl=> ?_⟩
 have s1:=zah (o:=.lst [V.int need]) hnl
 refine⟨_,_,_,s1 _ _ ho,TS.cl,TS.n3,_,jon,X.S.tk,rfl,_,dS (s1 _ _ I.tk),?_⟩
 have e1:upd H nl (.lst [V.int need]) nl=some (.lst [V.int need]):=zae
 have kn:known cs (need:Int):=⟨by omega,by omega⟩
 cases hv:zre tks (.inr z)with
 | none =>
  rw[if_neg (by simp)]
  exact z9z (ns:=[(need:Int)]) ⟨T,TP,TL,TS⟩ I hc hcs hz s1 e1 (by simp) (λx hx=>by rw[List.mem_singleton.mp hx];exact kn) q
 | some v =>
  obtain⟨k,rfl,hk⟩:=I.tv z v hv
  rw[if_pos (by simp)]
  push_cast[↓znb]
  refine⟨.inl ⟨rfl,_,SqL.of e1⟩,_,_,_,s1 _ _ ho,TS.cl,TS.n3,_,jon,X.S.tk,rfl,_,dS' (s1 _ _ I.tk) hv,nl,_,_,rfl,rfl,e1,(by show 1<sizeLine;decide),?_⟩
  rw[zmx]
  refine z9z (ns:=[(need:Int),(k:Int)]) ⟨T,TP,TL,TS⟩ I hc hcs hz (zah hnl) zae (by simp) (λx hx=> ?_) q
  simp only[List.mem_cons,List.not_mem_nil,or_false]at hx
  rcases hx with rfl | rfl
  ·exact kn
  ·exact⟨by omega,by omega⟩
theorem zu6(h:zbm K a vs H Q E):vs.length=5:=by
 obtain⟨_,_,_,_,_,_,_,_,rfl,_⟩:=h
 rfl
theorem jgc{n:Nat}{H:Hp}(ps:List Nat):∀ v∈zks ps,GoodV (n+1) H v:=λv hv=>by
 obtain⟨p,_,rfl⟩:=List.mem_map.mp hv
 trivial
theorem jbg{H:Hp}{t u:Addr}{m:Nat}{ps:List Nat}(h1:H t=some (.tup [.int m,.ref u]))(h2:H u=some (.tup (zks ps)))(hl:ps.length<=100):GoodV 4 H (.ref t):=⟨_,h1,by simp,λv hv=>by
 simp only[List.mem_cons,List.not_mem_nil,or_false]at hv
 rcases hv with rfl | rfl
 ·trivial
 ·exact⟨_,h2,by simp[zks];exact hl,jgc ps⟩⟩
theorem zxo(h:zbl K a vs H Q E):zgx K a (λ_=>E) (zfj Q) (zbn ["self","record","more","needs","value"] vs) H:=by
 obtain⟨X,cs,tks,M,rec,m,m',more,ps,nl,ns,rfl,T4,I,hr,eM,hm',hps,en,hl,kn,hcs,q⟩:=h
 have T4':=T4
 obtain⟨T,TP,TL,TS⟩:=T4
 obtain⟨dx,ho⟩:=I.ob
 obtain⟨dl,el⟩:=I.ly.ob
 obtain⟨db,eb⟩:=I.bk.bk.ob
 have hm:rec<zbv X.n X.r X.c X.w 3:=by simpa [zbv]using hr
 push_cast[zgx,↓zp2]
 refine⟨_,_,ho,zdi (by decide +kernel),X,cs,tks,M,rec,rfl,T4',I,hr,λv H1 rv s=> ?_⟩
 rw[eM]at rv
 obtain⟨t0,u0,rfl,et0,eu0⟩:=rv
 push_cast[↓zp3]
 refine jh8 TS (s _ _ ho) (s _ _ eb) (zlo (by decide +kernel)) (jgl TS (s _ _ ho) (s _ _ el) (zgn (by decide +kernel)) (lRA TL (I.ly.same s) λu hu=> ?_))
 have sa:=zah (o:=.tup [.int (X.n+(rec:Int) / X.w),.int ((rec:Int) % X.w)]) hu
 have eu:upd H1 u (.tup [.int (X.n+(rec:Int) / X.w),.int ((rec:Int) % X.w)]) u=some (.tup [.int (zij X.n X.r X.c X.w 3 rec:Nat),.int (rec % X.w:Nat)]):=by rw[zae];simp[zij]
 revert sa eu
 generalize upd H1 u (.tup [.int (X.n+(rec:Int) / X.w),.int ((rec:Int) % X.w)])=H2
 intro sa eu
 refine zgm (sa _ _ et0) (n:=0) rfl rfl ?_
 push_cast[]
 refine zgm (sa _ _ et0) (n:=1) rfl rfl ⟨by decide,λt ht=> ?_⟩
 rw[hm']
 have st:=zah (o:=.tup [V.int m',V.ref u0]) ht
 have s4:=(s.trans sa).trans st
 have e1:upd H2 t (.tup [V.int m',V.ref u0]) t=some (.tup [V.int m',V.ref u0]):=zae
 have e2:=st _ _ (sa _ _ eu0)
 exact zgt T4' (I.same s4) (kind:=3) (x:=.rc m' ps) (by decide) hm (st _ _ eu) (s4 _ _ en) hl (by omega) kn (jbg e1 e2 hps) ⟨t,u0,rfl,e1,e2⟩ trivial λch H' I' sb=>q ch H' I' λb o e n=>sb _ _ (s4 _ _ e) n
theorem zz3(h:zbl K a vs H Q E):vs.length=4:=by
 obtain⟨_,_,_,_,_,_,_,_,_,_,_,rfl,_⟩:=h
 rfl
theorem zxp(h:zb0 K a vs H Q E):zgy K a (λ_=>E) (zfj Q) (zbn ["self","record","pieces","needs"] vs) H:=by
 obtain⟨X,cs,tks,M,rec,m,ps,ps',pl,nl,ns,rfl,T4,I,hr,eM,epl,hps,en,hl,kn,hcs,q⟩:=h
 have T4':=T4
 obtain⟨T,TP,TL,TS⟩:=T4
 obtain⟨dx,ho⟩:=I.ob
 obtain⟨dl,el⟩:=I.ly.ob
 obtain⟨db,eb⟩:=I.bk.bk.ob
 have hm:rec<zbv X.n X.r X.c X.w 3:=by simpa [zbv]using hr
 push_cast[zgy,↓zp4]
 refine jh8 TS (ho) (eb) (zlo (by decide +kernel)) (jgl TS (ho) (el) (zgn (by decide +kernel)) (lRA TL (I.ly) λu hu=> ?_))
 have sa:=zah (o:=.tup [.int (X.n+(rec:Int) / X.w),.int ((rec:Int) % X.w)]) hu
 have eu:upd H u (.tup [.int (X.n+(rec:Int) / X.w),.int ((rec:Int) % X.w)]) u=some (.tup [.int (zij X.n X.r X.c X.w 3 rec:Nat),.int (rec % X.w:Nat)]):=by rw[zae];simp[zij]
 revert sa eu
 generalize upd H u (.tup [.int (X.n+(rec:Int) / X.w),.int ((rec:Int) % X.w)])=H2
 intro sa eu
 push_cast[]
 refine⟨_,_,sa _ _ ho,zdi (by decide +kernel),X,cs,tks,M,rec,rfl,T4',I.same sa,hr,λv H3 rv s3=> ?_⟩
 rw[eM]at rv
 obtain⟨t0,u0,rfl,et0,eu0⟩:=rv
 refine zgm et0 (n:=0) rfl rfl ?_
 push_cast[]
 refine⟨by decide,λt ht=> ?_⟩
 have st:=zah (o:=.tup [V.int m,V.ref pl]) ht
 have s4:=(sa.trans s3).trans st
 have e1:upd H3 t (.tup [V.int m,V.ref pl]) t=some (.tup [V.int m,V.ref pl]):=zae
 have e2:=s4 _ _ epl
 exact zgt T4' (I.same s4) (kind:=3) (x:=.rc m ps') (by decide) hm (st _ _ (s3 _ _ eu)) (s4 _ _ en) hl (by omega) kn (jbg e1 e2 hps) ⟨t,pl,rfl,e1,e2⟩ trivial λch H' I' sb=>q ch H' I' λb o e n=>sb _ _ (s4 _ _ e) n
theorem zz4(h:zb0 K a vs H Q E):vs.length=4:=by
 obtain⟨_,_,_,_,_,_,_,_,_,_,_,rfl,_⟩:=h
 rfl
theorem z3z{α β γ :Type}{F: α -> β ->Prop}{G: α -> γ ->Prop}{f: β -> γ}:∀ {l:List α} {m:List β},Paired F l m->(∀ x y,F x y->G x (f y))->Paired G l (m.map f)
 | _,_,.nil,_=>.nil
 | _,_,.cons h t,k=>.cons (k _ _ h) (z3z t k)
theorem jcl{te:TE}{cap:List Nat}{σ:St}{b:Addr}{xs:List V}(hn:xs.length<=sizeLine)(Pv:Nat->List V->Hp->Prop)(h0:Pv 0 [] H)(hq:∀ i ys H,i<=xs.length->Pv i ys H->SqT K H b xs)
  (hs:∀ i x ys H,xs[i]? =some x->ys.length=i->Pv i ys H->te (some x::z4n cap σ) H λy H2=>Pv (i+1) (ys++[y]) H2)
  (hd:∀ ys H,ys.length=xs.length->Pv xs.length ys H->∀ p,H p=none->Q (.ref p) (upd H p (.lst ys))) :
  zx4 (Itt K b) (zaz 0) zju te 1 cap σ H Q:=by
 refine⟨λi m σ' ys H=>m=xs.length - i/\i<=xs.length/\ys.length=i/\(∃ x0,σ'=x0::z4n cap σ)/\Pv i ys H,⟨xs.length,by simp,Nat.zero_le _,rfl,⟨none,rfl⟩,h0⟩,?_⟩
 rintro i m σ' ys H ⟨rfl,hi,hl,⟨x0,rfl⟩,p⟩
 have q:=hq i ys H hi p
 by_cases hlt:i<xs.length
 ·refine .inr ⟨⟨xs,xs[i],q,by simp[hlt]⟩,by omega,λx H' y=> ?_⟩
  obtain⟨e,y⟩:=y
  subst e
  have hx:=y xs q
  simp only[zaz,zju,if_true]
  refine⟨_,λy H4 q=>⟨xs.length - (i+1),by omega,rfl,hlt,?_,⟨_,rfl⟩,q⟩,hs i x ys _ hx hl p⟩
  rw[List.length_append,List.length_singleton,hl]
 ·have e:i=xs.length:=by omega
  subst e
  exact .inl ⟨⟨xs,q,Nat.le_refl _⟩,hd ys H hl p⟩
section
variable{X:SX}{cs:List Ch}{tks:List (Key × V)}{M:Md}
theorem SM.lput{l:Addr}{xs ys:List V}(I:X.at a H cs tks M)(e:H l=some (.lst xs))(f:¬ X.S.A.F l):X.at a (upd H l (.lst ys)) cs tks M:=by
 have s:SameBut (· =l) H (upd H l (.lst ys)):=λy o ey n=>by rw[zal n];exact ey
 have g:∀ x,x=l->zx7 (H x):=λx hx=>by rw[hx];exact z2y e
 have tk:zkm H (upd H l (.lst ys)):=zxl s g
 obtain⟨⟨dx,e1⟩,e2,e3,e4,e5,e6,e7,e8,e9,e10,e11⟩:=I
 obtain⟨dl,el⟩:=e2.ob
 exact⟨⟨dx,s _ _ e1 (zix e1 e (by intro z;cases z))⟩,e2.sb s (zix el e (by intro z;cases z)),e3.sb s g λx hx=>by rw[hx];exact f,s _ _ e4 (zix e4 e (by intro z;cases z)),e5,e6,e7,e8,e9.keep tk,λkind k v h1 h2 hv=>(e10 kind k v h1 h2 hv).keep tk,e11⟩
theorem SM.taken{z:Str}{k:Nat}(I:X.at a H cs tks M)(hk:k<cs.length)(hl:tks.length<cs.length):X.at a (upd H X.S.tk (.dK (zx0 tks (.inr z) (.int k)))) cs (zx0 tks (.inr z) (.int k)) M:=by
 have s:SameBut (· =X.S.tk) H (upd H X.S.tk (.dK (zx0 tks (.inr z) (.int k)))):=λy o ey n=>by rw[zal n];exact ey
 have g:∀ x,x=X.S.tk->zx7 (H x):=λx hx=>by rw[hx];exact jft I.tk
 have tk:zkm H (upd H X.S.tk (.dK (zx0 tks (.inr z) (.int k)))):=zxl s g
 obtain⟨⟨dx,e1⟩,e2,e3,e4,e5,e6,e7,e8,e9,e10,e11⟩:=I
 obtain⟨dl,el⟩:=e2.ob
 refine⟨⟨dx,s _ _ e1 (zix e1 e4 (by intro z;cases z))⟩,e2.sb s (zix el e4 (by intro z;cases z)),e3.sb s g λx hx=>by rw[hx];exact e7,zae,Nat.le_trans (zmy ..) (by omega),λy v h=> ?_,e7,e8,e9.keep tk,λkind k v h1 h2 hv=>(e10 kind k v h1 h2 hv).keep tk,e11⟩
 rw[jbv]at h
 split at h
 ·cases h
  exact⟨k,rfl,hk⟩
 ·exact e6 y v h
end
theorem zq4(h:zbj K a vs H Q E):ze6 K a (λ_=>E) (zfj Q) (zbn ["self","name","needs","gone"] vs) H:=by
 obtain⟨X,cs,tks,M,cell,z,nl,ns,rfl,T4,I,ec,hc,en,hl,kn,hcs,q⟩:=h
 have T4':=T4
 obtain⟨T,TP,TL,TS⟩:=T4
 obtain⟨dx,ho⟩:=I.ob
 obtain⟨dl,el⟩:=I.ly.ob
 obtain⟨db,eb⟩:=I.bk.bk.ob
 have hm:cell<zbv X.n X.r X.c X.w 0:=by simpa [zbv]using hc
 push_cast[ze6,↓zmq]
 refine⟨_,_,_,ho,TS.cl,TS.n2,_,jf8,X.S.A.b,rfl,_,_,eb,zlo (by decide +kernel),_,_,_,ho,TS.cl,TS.n1,_,jf7,X.S.lp,rfl,_,_,el,zgn (by decide +kernel),_,_,ho,zdi (by decide +kernel),X,cs,tks,M,z,rfl,T4',I,λH1 s1=> ?_⟩
 rw[ec]
 refine⟨X.S.lp,X.n,X.r,X.c,X.w,cell,rfl,TL,I.ly.same s1,λu hu=> ?_⟩
 have sa:=zah (o:=.tup [.int (0+(cell:Int) / X.w),.int ((cell:Int) % X.w)]) hu
 have eu:upd H1 u (.tup [.int (0+(cell:Int) / X.w),.int ((cell:Int) % X.w)]) u=some (.tup [.int (zij X.n X.r X.c X.w 0 cell:Nat),.int (cell % X.w:Nat)]):=by rw[zae];simp[zij]
 have s2:=s1.trans sa
 revert eu s2
 generalize upd H1 u (.tup [.int (0+(cell:Int) / X.w),.int ((cell:Int) % X.w)])=H2
 intro eu s2
 refine zgt T4' (I.same s2) (kind:=0) (x:=.no) (by decide) hm eu (s2 _ _ en) hl (by omega) kn trivial rfl trivial λch H3 I3 sb=> ?_
 obtain⟨dx3,ho3⟩:=I3.ob
 push_cast[↓zmr,↓zms]
 have tl:=I.tl
 refine⟨_,_,_,ho3,TS.cl,TS.n3,_,jon,X.S.tk,rfl,_,pS I3.tk (by omega),?_⟩
 refine q ch _ (I3.taken (by simp) (by simp;omega)) λy o e n=> ?_
 rw[zal λy=>n (.inr y)]
 exact sb _ _ (s2 _ _ e) λy=>n (.inl y)
theorem zr2(h:zbj K a vs H Q E):vs.length=3:=by
 obtain⟨_,_,_,_,_,_,_,_,rfl,_⟩:=h
 rfl
def drI(a:Ad)(X:SX)(cs:List Ch)(tks:List (Key × V))(M:Md)(rec gone:Nat)(u0 ml:Addr)(pls:List (Nat × Nat))(H6:Hp)(i:Nat)(σ:St)(H':Hp):Prop:=(∃ ex,ex.length=i+1/\X.at a H' (cs++ex) tks ((pls.take i).foldl (λ(M:Md) (y:Nat × Nat)=>M.put y.1 y.2 (.mk 0)) (M.put 3 rec .no))/\H' ml=some (.lst (zks ((List.range (i+1)).map (cs.length+·))))/\SameBut (λx=>X.S.A.F x\/x=ml) H6 H')/\∃ y6,σ=[some (.ref X.S.st),some (.int rec),some (.int gone),some (.ref u0),some (.int cs.length),some (.ref ml),y6]
theorem zo5(h:zbq K a vs H Q E):zev K a (λ_=>E) (zfj Q) (zbn ["self","record","gone","pieces","dropped","made","mark"] vs) H:=by
 obtain⟨X,cs,tks,M,rec,m,gone,ps,rfl,T4,I,hr,eM,hg,hps,hpl,hcs,q⟩:=h
 have T4':=T4
 obtain⟨T,TP,TL,TS⟩:=T4
 obtain⟨dx,ho⟩:=I.ob
 have hm:rec<zbv X.n X.r X.c X.w 3:=by simpa [zbv]using hr
 push_cast[zev,↓zlt]
 refine⟨_,_,ho,zdi (by decide +kernel),X,cs,tks,M,rec,rfl,T4',I,hr,λv H1 rv s=> ?_⟩
 rw[eM]at rv
 obtain⟨t0,u0,rfl,et0,eu0⟩:=rv
 refine zgm et0 (n:=1) rfl rfl ?_
 have I1:=I.same s
 obtain⟨dx1,ho1⟩:=I1.ob
 obtain⟨dl1,el1⟩:=I1.ly.ob
 obtain⟨db1,eb1⟩:=I1.bk.bk.ob
 push_cast[↓zlu]
 refine jh8 TS (ho1) (eb1) (zlo (by decide +kernel)) (jgl TS (ho1) (el1) (zgn (by decide +kernel)) (lRA TL (I1.ly) λu hu=>⟨by decide,λnl hnl=> ?_⟩))
 have sa:=zah (o:=.tup [.int (X.n+(rec:Int) / X.w),.int ((rec:Int) % X.w)]) hu
 have sb:=zah (o:=.lst [V.int gone]) hnl
 have eu:=sb _ _ (show upd H1 u (.tup [.int (X.n+(rec:Int) / X.w),.int ((rec:Int) % X.w)]) u=some (.tup [.int (zij X.n X.r X.c X.w 3 rec:Nat),.int (rec % X.w:Nat)]) by rw[zae];simp[zij])
 have en:upd (upd H1 u (.tup [.int (X.n+(rec:Int) / X.w),.int ((rec:Int) % X.w)])) nl (.lst [V.int gone]) nl=some (.lst ([(gone:Int)].map V.int)):=zae
 have s2:=sa.trans sb
 revert eu en s2
 generalize upd (upd H1 u (.tup [.int (X.n+(rec:Int) / X.w),.int ((rec:Int) % X.w)])) nl (.lst [V.int gone])=H2
 clear sa sb
 intro eu en s2
 refine zgt T4' (I1.same s2) (kind:=3) (x:=.no) (by decide) hm eu en (by simp) (by omega) (λx hx=>by rw[List.mem_singleton.mp hx];exact⟨by omega,by omega⟩) trivial rfl trivial λch H3 I3 sb3=> ?_
 push_cast[↓zlv]
 refine⟨by decide,λml hml=> ?_⟩
 have k3:zkm H2 H3:=zxl sb3 λx hx=>(I1.same s2).bk.loose hx
 have fml:¬ X.S.A.F ml:=I3.bk.off hml
 have sm:=zah (o:=.lst [V.int cs.length]) hml
 have I4:=I3.same sm
 have eu4:=sm _ _ (k3 _ _ (s2 _ _ eu0))
 have em4:upd H3 ml (.lst [V.int cs.length]) ml=some (.lst [V.int cs.length]):=zae
 have sb4:SameBut X.S.A.F H (upd H3 ml (.lst [V.int cs.length])):=λy o e n=>sm _ _ (sb3 _ _ (s2 _ _ (s _ _ e)) n)
 have hmlH:H ml=none:=by
  cases e:H ml with
  | none=>rfl
  | some o=>have:=sb3 _ _ (s2 _ _ (s _ _ e)) fml;rw[hml]at this;cases this
 revert I4 eu4 em4 sb4
 clear sm k3 en eu
 generalize upd H3 ml (.lst [V.int cs.length])=H4
 intro I4 eu4 em4 sb4
 obtain⟨dx4,ho4⟩:=I4.ob
 obtain⟨dl4,el4⟩:=I4.ly.ob
 have hlen:(cs++[ch]).length=cs.length+1:=by simp
 push_cast[↓zlx]
 refine .inr ⟨⟨_,SqT.of eu4⟩,jcl (xs:=zks ps) (zd4 _ (by simp[zks];omega)) (λi ys H'=>Same H4 H'/\∃ us:List Addr,ys=us.map V.ref/\Paired (λu p=>H' u=some (.tup [.int (zij X.n X.r X.c X.w 2 p:Nat),.int (p % X.w:Nat)])) us (ps.take i)) ⟨Same.refl _,[],rfl,.nil⟩ (λi ys H' _ ⟨s',_⟩=>SqT.of (s' _ _ eu4)) (λi x ys H' hx hyl ⟨s',us,ey,pu⟩=> ?_) (λys H' hyl ⟨s',us,ey,pu⟩ lc hlc=> ?_)⟩
 ·unfold zks at hx
  rw[List.getElem?_map,Option.map_eq_some_iff]at hx
  obtain⟨p,ep,rfl⟩:=hx
  push_cast[z4n]
  refine⟨_,_,_,s' _ _ ho4,TS.cl,TS.n1,_,jf7,X.S.lp,rfl,_,_,s' _ _ el4,zgn (by decide +kernel),X.S.lp,X.n,X.r,X.c,X.w,p,rfl,TL,I4.ly.same s',λu' hu'=> ?_⟩
  have su:=zah (o:=.tup [.int (X.n+X.r+X.c+X.r+(p:Int) / X.w),.int ((p:Int) % X.w)]) hu'
  refine⟨s'.trans su,us++[u'],by rw[ey,List.map_append];rfl,?_⟩
  rw[List.take_add_one,ep]
  exact Paired.snoc (Paired.mapP pu λt r z=>su _ _ z) (by rw[zae];simp[zij])
 ·rw[show(zks ps).length=ps.length by simp[zks],List.take_length]at pu
  subst ey
  have sc:=zah (o:=.lst (us.map V.ref)) hlc
  have s5:=s'.trans sc
  refine jgl TS (s5 _ _ ho4) (s5 _ _ el4) (zgn (by decide +kernel)) (lRM TL (I4.ly.same s5) λur hur=>⟨by decide,λlr hlr=>.inl ?_⟩)
  have sd:=zah (o:=.tup [.int (X.n+X.r+X.c+(rec:Int) / X.w),.int ((rec:Int) % X.w)]) hur
  have se:=zah (o:=.lst [V.ref ur]) hlr
  refine⟨lc,lr,_,_,rfl,rfl,se _ _ (sd _ _ zae),zae,zd4 _ (by have:=pu.length;simp;omega),λl2 hl2=> ?_⟩
  have sf':=zah (o:=.lst (us.map V.ref++[V.ref ur])) hl2
  have sg:=(sd.trans se).trans sf'
  have er:upd (upd (upd (upd H' lc (.lst (us.map V.ref))) ur (.tup [.int (X.n+X.r+X.c+(rec:Int) / X.w),.int ((rec:Int) % X.w)])) lr (.lst [V.ref ur])) l2 (.lst (us.map V.ref++[V.ref ur])) ur=some (.tup [.int (zij X.n X.r X.c X.w 1 rec:Nat),.int (rec % X.w:Nat)]):=(se.trans sf') _ _ (by rw[zae];simp[zij])
  have el2:upd (upd (upd (upd H' lc (.lst (us.map V.ref))) ur (.tup [.int (X.n+X.r+X.c+(rec:Int) / X.w),.int ((rec:Int) % X.w)])) lr (.lst [V.ref ur])) l2 (.lst (us.map V.ref++[V.ref ur])) l2=some (.lst ((us++[ur]).map V.ref)):=by rw[zae];simp
  have hl2F:¬ X.S.A.F l2:=by
   have:=((I4.same s5).same (sd.trans se)).bk.off hl2
   exact this
  have nlm:l2≠ml:=(zay (se _ _ (sd _ _ (s5 _ _ em4))) hl2).symm
  have s6:=s5.trans sg
  have PP:Paired (λu (y:Nat × Nat)=>upd (upd (upd (upd H' lc (.lst (us.map V.ref))) ur (.tup [.int (X.n+X.r+X.c+(rec:Int) / X.w),.int ((rec:Int) % X.w)])) lr (.lst [V.ref ur])) l2 (.lst (us.map V.ref++[V.ref ur])) u=some (.tup [.int (zij X.n X.r X.c X.w y.1 y.2:Nat),.int (y.2 % X.w:Nat)])) (us++[ur]) (ps.map (λp=>(2,p))++[(1,rec)]) :=
   Paired.snoc (z3z pu λu p z=>sg _ _ (sc _ _ z)) er
  revert s6 el2 PP
  clear er sg sf' se sd s5
  generalize upd (upd (upd (upd H' lc (.lst (us.map V.ref))) ur (.tup [.int (X.n+X.r+X.c+(rec:Int) / X.w),.int ((rec:Int) % X.w)])) lr (.lst [V.ref ur])) l2 (.lst (us.map V.ref++[V.ref ur]))=H6
  intro el2 s6 PP
  generalize us++[ur]=vs at el2 PP
  have hall:∀ y∈ps.map (λp=>(2,p))++[(1,rec)],(y.1=1\/y.1=2)/\y.2<zbv X.n X.r X.c X.w y.1:=λy hy=>by
   rcases List.mem_append.mp hy with hy | hy
   ·obtain⟨p,hp,rfl⟩:=List.mem_map.mp hy
    exact⟨.inr rfl,by simpa [zbv]using hps p hp⟩
   ·rw[List.mem_singleton.mp hy]
    exact⟨.inl rfl,by simpa [zbv]using hr⟩
  have hyl:(ps.map (λp=>((2:Nat),p))++[(1,rec)]).length=ps.length+1:=by simp
  have hfin:(ps.map (λp=>(2,p))++[(1,rec)]).foldl (λ(M:Md) (y:Nat × Nat)=>M.put y.1 y.2 (.mk 0)) (M.put 3 rec .no)=((M.put 3 rec .no).unmark ps).put 1 rec (.mk 0):=by
   rw[List.foldl_append,List.foldl_map];rfl
  revert hall hyl hfin PP
  generalize ps.map (λp=>((2:Nat),p))++[(1,rec)]=pls
  intro PP hall hyl hfin
  refine⟨l2,rfl,.inl ⟨⟨_,SqL.of el2⟩,z2u (xs:=vs.map V.ref) (drI a X cs tks M rec gone u0 ml pls H6)
   ⟨⟨[ch],rfl,I4.same s6,by rw[s6 _ _ em4];simp[zks,List.range_succ],λy o e _=>e⟩,_,rfl⟩ (λi σ H' _ ⟨⟨_,_,_,_,sb'⟩,_⟩=>SqL.of (sb' _ _ el2 ?_)) (λi x σ H7 hx ⟨⟨ex,hxl,I7,em7,sb7⟩,y6,ez⟩=> ?_) (λσ H7 ⟨⟨ex,hxl,I7,em7,sb7⟩,y6,ez⟩=> ?_)⟩⟩
  ·rintro (y | y)
   ·exact hl2F y
   ·exact nlm y
  ·subst ez
   have hi:=(List.getElem?_eq_some_iff.mp hx).1
   rw[List.length_map]at hi
   have hip:i<pls.length:=by rw[<-PP.length];exact hi
   have ey:=List.getElem?_eq_getElem hip
   obtain⟨u',eu',hu'⟩:=zmc PP ey
   rw[List.getElem?_map,eu']at hx
   cases hx
   obtain⟨hk12,hky⟩:=hall _ (List.mem_of_getElem? ey)
   have etk:pls.take (i+1)=pls.take i++[pls[i]]:=by rw[List.take_add_one,ey];rfl
   revert etk hk12 hky hu'
   generalize pls[i]=y
   intro hu' hk12 hky etk
   obtain⟨dx7,ho7⟩:=I7.ob
   obtain⟨db7,eb7⟩:=I7.bk.bk.ob
   push_cast[↓zlw]
   have k67:∀ b xs,H6 b=some (.tup xs)->H7 b=some (.tup xs):=λb xs e=>sb7 _ _ e λz=>z.elim (λz=>((I4.same s6).bk.loose z).1 _ e) λz=>by rw[z,s6 _ _ em4]at e;cases e
   refine⟨.inl ⟨rfl,_,SqL.of em7⟩,_,_,_,ho7,TS.cl,TS.n2,_,jf8,X.S.A.b,rfl,_,_,eb7,zlo (by decide +kernel),by decide,λn8 hn8=> ?_⟩
   have s8:=zah (o:=.lst [V.int cs.length]) hn8
   refine zgt (ns:=[(cs.length:Int)]) T4' (I7.same s8) (kind:=y.1) (x:=.mk 0) (by omega) hky (s8 _ _ (k67 _ _ hu')) zae (by simp) (by simp;omega) (λx hx=>by rw[List.mem_singleton.mp hx];exact⟨by omega,by simp;omega⟩) trivial rfl (by rcases hk12 with z | z<;>rw[z]<;>exact Nat.zero_le _) λch9 H9 I9 sb9=> ?_
   have em9:=sb9 _ _ (s8 _ _ em7) fml
   refine⟨ml,_,_,rfl,rfl,em9,Nat.lt_of_lt_of_le (show(zks ((List.range (i+1)).map (cs.length+·))).length<1000 by simp[zks];omega) (by decide),?_⟩
   refine⟨⟨ex++[ch9],by simp[hxl],by have:=I9.lput (ys:=zks ((List.range (i+1)).map (cs.length+·))++[V.int ((cs++ex).length:Nat)]) em9 fml;rw[etk,List.foldl_append,<-List.append_assoc];exact this,by rw[zae];simp[zks,List.range_succ,hxl],λb o e n=> ?_⟩,_,rfl⟩
   rw[zal λz=>n (.inr z)]
   exact sb9 _ _ (s8 _ _ (sb7 _ _ e n)) λz=>n (.inl z)
  ·subst ez
   push_cast[↓zly]
   have hvl:=PP.length
   rw[List.length_map,hvl,hyl]at hxl em7
   rw[List.length_map,hvl,List.take_length,hfin]at I7
   refine q ex ml H7 hmlH em7 hxl I7 λy o e n=> ?_
   exact sb7 _ _ (s6 _ _ (sb4 _ _ e n)) λy'=>y'.elim n λz=>by rw[z,hmlH]at e;cases e
theorem zq5(h:zbq K a vs H Q E):vs.length=3:=by
 obtain⟨_,_,_,_,_,_,_,_,rfl,_⟩:=h
 rfl
theorem z30{X:SX}{cs:List Ch}{tks:List (Key × V)}{M:Md}{H':Hp}{l:Addr}(I:X.at a H' cs tks M)(sb:SameBut (λx=>X.S.A.F x\/x=X.S.tk) H H')(hl:H' l=none):H l=none:=by
 cases e:H l with
 | none=>rfl
 | some o =>
  have:=sb _ _ e λz=>z.elim (I.bk.off hl) λz=>by rw[z,I.tk]at hl;cases hl
  rw[hl]at this
  cases this
theorem z31(h:zc5 K a vs H Q E):zj2 K a (λ_=>E) (zfj Q) (zbn ["self","name","record","cell","mark","stands"] vs) H:=by
 obtain⟨X,cs,tks,M,z,rfl,T4,I,hzl,hcs,q,q1,q2,q3⟩:=h
 have T4':=T4
 obtain⟨dx,ho⟩:=I.ob
 have hm1:zbv X.n X.r X.c X.w 1=X.r * X.w:=by simp[zbv]
 have hm0:zbv X.n X.r X.c X.w 0=X.m0:=by simp[zbv]
 have hm3:zbv X.n X.r X.c X.w 3=X.r * X.w:=by simp[zbv]
 push_cast[zj2,↓zv8]
 refine⟨_,_,ho,zdi (by decide +kernel),by decide,λgl hgl=> ?_⟩
 have s1:=zah (o:=.lst [V.str z]) hgl
 refine⟨X,cs,tks,M,z,gl,[z],rfl,T4,I.same s1,zae,by simp,λy hy=>by rw[List.mem_singleton.mp hy];exact hzl,λhb hc H2 s2=> ?_,λhb H2 s2=>q1 (by simpa using hb) _ (s1.trans s2),λhb hc H2 s2=>q2 (by simpa using hb) hc _ (s1.trans s2)⟩
 have hb:zbe z=true:=by simpa using hb
 have s12:=s1.trans s2
 clear s1 s2 hgl
 obtain⟨T,TP,TL,TS⟩:=T4
 push_cast[↓zv9]
 refine⟨_,_,_,s12 _ _ ho,TS.cl,TS.n1,_,jf7,_,_,_,s12 _ _ ho,TS.cl,TS.n2,_,jf8,X.S.lp,X.S.A.b,rfl,z7h T4' (I.same s12) (by decide) (λrec er hrl H3 s3=> ?_) λer H3 s3=>q3 hb hc (.inl (by rw[<-hm1];exact er)) _ (s12.trans s3)⟩
 rw[hm1]at er hrl
 have s13:=s12.trans s3
 clear s12 s3
 push_cast[↓zwa]
 refine⟨_,_,_,s13 _ _ ho,TS.cl,TS.n1,_,jf7,_,_,_,s13 _ _ ho,TS.cl,TS.n2,_,jf8,X.S.lp,X.S.A.b,rfl,z7h T4' (I.same s13) (by decide) (λcell ec hcl H4 s4=> ?_) λer H3 s3=>q3 hb hc (.inr (by rw[<-hm0];exact er)) _ (s13.trans s3)⟩
 rw[hm0]at ec hcl
 have s14:=s13.trans s4
 have I4:=I.same s14
 clear s13 s4
 obtain⟨dx4,ho4⟩:=I4.ob
 obtain⟨dl4,el4⟩:=I4.ly.ob
 obtain⟨db4,eb4⟩:=I4.bk.bk.ob
 push_cast[↓zwb]
 refine jh8 TS (ho4) (eb4) (zlo (by decide +kernel)) (jgl TS (ho4) (el4) (zgn (by decide +kernel)) (lRM TL (I4.ly) λu hu=>⟨by decide,λl0 hl0=> ?_⟩))
 have sa:=zah (o:=.tup [.int (X.n+X.r+X.c+(rec:Int) / X.w),.int ((rec:Int) % X.w)]) hu
 have sb:=zah (o:=.lst []) hl0
 have eu:=sb _ _ (show upd H4 u (.tup [.int (X.n+X.r+X.c+(rec:Int) / X.w),.int ((rec:Int) % X.w)]) u=some (.tup [.int (zij X.n X.r X.c X.w 1 rec:Nat),.int (rec % X.w:Nat)]) by rw[zae];simp[zij])
 have el0:upd (upd H4 u (.tup [.int (X.n+X.r+X.c+(rec:Int) / X.w),.int ((rec:Int) % X.w)])) l0 (.lst []) l0=some (.lst (([]:List Int).map V.int)):=zae
 have s5:=sa.trans sb
 revert eu el0 s5
 clear sa sb
 generalize upd (upd H4 u (.tup [.int (X.n+X.r+X.c+(rec:Int) / X.w),.int ((rec:Int) % X.w)])) l0 (.lst [])=H5
 intro eu el0 s5
 refine zgt T4' (I4.same s5) (kind:=1) (x:=.mk 1) (by decide) (by rw[hm1];exact hrl) eu el0 (by simp) (by omega) (λx hx=>by cases hx) trivial rfl (Nat.le_refl _) λc1 H6 I6 sb6=> ?_
 obtain⟨dx6,ho6⟩:=I6.ob
 obtain⟨dl6,el6⟩:=I6.ly.ob
 obtain⟨db6,eb6⟩:=I6.bk.bk.ob
 push_cast[↓zwc]
 refine jh8 TS (ho6) (eb6) (zlo (by decide +kernel)) (jgl TS (ho6) (el6) (zgn (by decide +kernel)) (lRA TL (I6.ly) λu2 hu2=> ?_))
 push_cast[]
 refine⟨by decide,λe6 he6=>⟨by decide,λt6 ht6=>⟨by decide,λl6 hl6=> ?_⟩⟩⟩
 have sa:=zah (o:=.tup [.int (X.n+(rec:Int) / X.w),.int ((rec:Int) % X.w)]) hu2
 have sb:=zah (o:=.tup []) he6
 have sc:=zah (o:=.tup [.int 1,.ref e6]) ht6
 have sd:=zah (o:=.lst [.int cs.length]) hl6
 have s67:=((sa.trans sb).trans sc).trans sd
 have f1:=sd _ _ (sc _ _ (sb _ _ (show upd H6 u2 (.tup [.int (X.n+(rec:Int) / X.w),.int ((rec:Int) % X.w)]) u2=some (.tup [.int (zij X.n X.r X.c X.w 3 rec:Nat),.int (rec % X.w:Nat)]) by rw[zae];simp[zij])))
 have f2:=sd _ _ (sc _ _ (zae (H:=upd H6 u2 (.tup [.int (X.n+(rec:Int) / X.w),.int ((rec:Int) % X.w)])) (a:=e6) (o:=.tup [])))
 have f3:=sd _ _ (zae (H:=upd (upd H6 u2 (.tup [.int (X.n+(rec:Int) / X.w),.int ((rec:Int) % X.w)])) e6 (.tup [])) (a:=t6) (o:=.tup [.int 1,.ref e6]))
 have f4:=zae (H:=upd (upd (upd H6 u2 (.tup [.int (X.n+(rec:Int) / X.w),.int ((rec:Int) % X.w)])) e6 (.tup [])) t6 (.tup [.int 1,.ref e6])) (a:=l6) (o:=.lst [.int cs.length])
 revert s67 f1 f2 f3 f4
 generalize upd (upd (upd (upd H6 u2 (.tup [.int (X.n+(rec:Int) / X.w),.int ((rec:Int) % X.w)])) e6 (.tup [])) t6 (.tup [.int 1,.ref e6])) l6 (.lst [.int cs.length])=H7
 clear sa sb sc sd
 intro s67 f1 f2 f3 f4
 refine zgt (ns:=[(cs.length:Int)]) T4' (I6.same s67) (kind:=3) (x:=.rc 1 []) (by decide) (by rw[hm3];exact hrl) f1 f4 (by simp) (by simp;omega) (λx hx=>by rw[List.mem_singleton.mp hx];exact⟨by omega,by simp;omega⟩) (jbg (ps:=[]) f3 f2 (by simp)) ⟨t6,e6,rfl,f3,f2⟩ trivial λc2 H8 I8 sb8=> ?_
 obtain⟨dx8,ho8⟩:=I8.ob
 push_cast[↓zwd]
 have hlen:(cs++[c1]).length=cs.length+1:=by simp
 rw[hlen]
 refine⟨_,_,ho8,zdi (by decide +kernel),X,_,tks,_,cell,rec,cs.length+1,z,rfl,T4',I8,hcl,by simp,by simp;omega,z7g hb,λc3 H9 I9 sb9=>⟨by decide,λl hl=> ?_⟩⟩
 have sl:=zah (o:=.lst [V.int cs.length,V.int (cs.length+1:Nat),V.int ((cs++[c1]++[c2]).length:Nat)]) hl
 have sbH:SameBut (λx=>X.S.A.F x\/x=X.S.tk) H H9:=λy o e n=>sb9 _ _ (sb8 _ _ (s67 _ _ (sb6 _ _ (s5 _ _ (s14 _ _ e)) λz=>n (.inl z))) λz=>n (.inl z)) λz=>n (.inl z)
 exact q hb hc rec cell er ec hrl hcl [c1,c2,c3] _ l _ rfl (z30 I9 sbH hl) (by rw[zae];simp[zks,List.range_succ]) (by have:=I9.same sl;simpa using this) λy o e n=>sl _ _ (sbH _ _ e n)
theorem z44(h:zc5 K a vs H Q E):vs.length=2:=by
 obtain⟨_,_,_,_,_,rfl,_⟩:=h
 rfl
theorem z32(h:zb2 K a vs H Q E):zj3 K a (λ_=>E) (zfj Q) (zbn ["self","old","new","record","cell","more"] vs) H:=by
 obtain⟨X,cs,tks,M,y,z,rfl,T4,I,hyl,hzl,hcs,q,q1,q2,q3,q4⟩:=h
 have T4':=T4
 obtain⟨dx,ho⟩:=I.ob
 have hm0:zbv X.n X.r X.c X.w 0=X.m0:=by simp[zbv]
 push_cast[zj3,↓zwe]
 refine⟨_,_,ho,zdi (by decide +kernel),by decide,λgl hgl=> ?_⟩
 have s1:=zah (o:=.lst [V.str y,V.str z]) hgl
 refine⟨X,cs,tks,M,z,gl,[y,z],rfl,T4,I.same s1,zae,by simp,λx hx=> ?_,λhb hc H2 s2=> ?_,λhb H2 s2=>q1 (by simpa using hb) _ (s1.trans s2),λhb hc H2 s2=> ?_⟩
 ·simp only[List.mem_cons,List.not_mem_nil,or_false]at hx
  rcases hx with rfl | rfl
  ·exact hyl
  ·exact hzl
 ·have hb:zbe y=true/\zbe z=true:=by simpa using hb
  have s12:=s1.trans s2
  clear s1 s2 hgl
  obtain⟨T,TP,TL,TS⟩:=T4
  push_cast[↓zwf]
  refine⟨_,_,s12 _ _ ho,zdi (by decide +kernel),X,cs,tks,M,y,rfl,T4',I.same s12,λold rec eo hol eM H3 s3=> ?_,λeo H3 s3=>q3 hb.1 hb.2 hc eo _ (s12.trans s3)⟩
  have s13:=s12.trans s3
  clear s12 s3
  push_cast[↓zwg]
  refine⟨_,_,_,s13 _ _ ho,TS.cl,TS.n1,_,jf7,_,_,_,s13 _ _ ho,TS.cl,TS.n2,_,jf8,X.S.lp,X.S.A.b,rfl,z7h T4' (I.same s13) (by decide) (λcell ec hcl H4 s4=> ?_) λer H3 s3=>q4 hb.1 hb.2 hc ⟨old,eo⟩ (by rw[<-hm0];exact er) _ (s13.trans s3)⟩
  rw[hm0]at ec hcl
  obtain⟨hr,m,ps,eR,hps,q⟩:=q hb.1 hb.2 hc old rec cell eo hol eM
  have s14:=s13.trans s4
  have I4:=I.same s14
  push_cast[↓zwh]
  refine⟨_,_,s14 _ _ ho,zdi (by decide +kernel),by decide,λl0 hl0=> ?_⟩
  have s5:=zah (o:=.lst []) hl0
  refine⟨X,cs,tks,M,rec,m,m+1,1,ps,l0,[],rfl,T4',I4.same s5,hr,eR,by omega,hps,zae,by simp,(λx hx=>by cases hx),by omega,λc1 H6 I6 sb6=> ?_⟩
  obtain⟨dx6,ho6⟩:=I6.ob
  push_cast[↓zwi]
  refine⟨_,_,ho6,zdi (by decide +kernel),X,_,tks,_,cell,rec,cs.length,z,rfl,T4',I6,hcl,by simp,by simp;omega,z7g hb.2,λc2 H7 I7 sb7=>⟨by decide,λl hl=> ?_⟩⟩
  have sl:=zah (o:=.lst [V.int cs.length,V.int ((cs++[c1]).length:Nat)]) hl
  have sbH:SameBut (λx=>X.S.A.F x\/x=X.S.tk) H H7:=λy o e n=>sb7 _ _ (sb6 _ _ (s5 _ _ (s14 _ _ e)) λz=>n (.inl z)) λz=>n (.inl z)
  exact q ec hcl [c1,c2] _ l _ rfl (z30 I7 sbH hl) (by rw[zae];simp[zks,List.range_succ]) (by have:=I7.same sl;simpa using this) λy o e n=>sl _ _ (sbH _ _ e n)
 ·have hb:zbe y=true/\zbe z=true:=by simpa using hb
  exact q2 hb.1 hb.2 hc _ (s1.trans s2)
theorem z45(h:zb2 K a vs H Q E):vs.length=3:=by
 obtain⟨_,_,_,_,_,_,rfl,_⟩:=h
 rfl
theorem jgd(n d:Nat):zks ((List.range (d+1)).map (n+·))=[V.int n]++zks ((List.range d).map (n+1+·)):=by
 rw[List.range_succ_eq_map]
 simp[zks,Nat.add_assoc,Nat.add_comm 1]
theorem z46(h:zdu K a vs H Q E):zlf K a (λ_=>E) (zfj Q) (zbn ["self","name","record","gone"] vs) H:=by
 obtain⟨X,cs,tks,M,z,rfl,T4,I,hcs,q,q1⟩:=h
 obtain⟨dx,ho⟩:=I.ob
 push_cast[zlf,↓zy2]
 refine⟨_,_,ho,zdi (by decide +kernel),X,cs,tks,M,z,rfl,T4,I,λcell rec ec hcl eM H1 s1=> ?_,λeo H3 s3=>q1 eo _ s3⟩
 obtain⟨hr,m,ps,eR,hps,hpl,q2,q3⟩:=q cell rec ec hcl eM
 have I1:=I.same s1
 push_cast[↓zy3]
 refine⟨_,_,s1 _ _ ho,zdi (by decide +kernel),by decide,λl0 hl0=> ?_⟩
 have s2:=zah (o:=.lst []) hl0
 refine⟨X,cs,tks,M,cell,z,l0,[],rfl,T4,I1.same s2,ec,hcl,zae,by simp,(λx hx=>by cases hx),by omega,λc1 H3 I3 sb3=> ?_⟩
 obtain⟨dx3,ho3⟩:=I3.ob
 have sb:SameBut (λx=>X.S.A.F x\/x=X.S.tk) H H3:=λy o e n=>sb3 _ _ (s2 _ _ (s1 _ _ e)) n
 have eR':(M.put 0 cell .no) 3 rec=.rc m ps:=by unfold Md.put;rw[if_neg (by omega)];exact eR
 push_cast[↓zy5]
 refine⟨_,_,ho3,zdi (by decide +kernel),X,_,_,_,rec,rfl,T4,I3,hr,λv H4 rv s4=> ?_⟩
 rw[eR']at rv
 obtain⟨t0,u0,rfl,et0,eu0⟩:=rv
 have I4:=I3.same s4
 refine zgm et0 (n:=0) rfl rfl ?_
 push_cast[]
 split
 ·rename_i hm
  push_cast[↓zy4]
  refine⟨_,_,s4 _ _ ho3,zdi (by decide +kernel),by decide,λl5 hl5=> ?_⟩
  have s5:=zah (o:=.lst [V.int cs.length]) hl5
  refine⟨X,_,_,_,rec,m,m - 1,-1,ps,l5,[(cs.length:Int)],rfl,T4,I4.same s5,hr,eR',by omega,by omega,zae,by simp,(λx hx=>by rw[List.mem_singleton.mp hx];exact⟨by omega,by simp;omega⟩),by simp;omega,λc2 H6 I6 sb6=>⟨by decide,λl hl=> ?_⟩⟩
  have sl:=zah (o:=.lst [V.int cs.length,V.int ((cs++[c1]).length:Nat)]) hl
  have sbH:SameBut (λx=>X.S.A.F x\/x=X.S.tk) H H6:=λy o e n=>sb6 _ _ (s5 _ _ (s4 _ _ (sb _ _ e n))) λz=>n (.inl z)
  exact q2 (by omega) [c1,c2] _ l _ rfl (z30 I6 sbH hl) (by rw[zae];simp[zks,List.range_succ]) (by have:=I6.same sl;simpa using this) λy o e n=>sl _ _ (sbH _ _ e n)
 ·rename_i hm
  push_cast[↓zy6]
  refine⟨by decide,λl5 hl5=> ?_⟩
  have s5:=zah (o:=.lst [V.int cs.length]) hl5
  have I5:=I4.same s5
  refine⟨_,_,s5 _ _ (s4 _ _ ho3),zdi (by decide +kernel),X,_,_,_,rec,m,cs.length,ps,rfl,T4,I5,hr,eR',by simp,hps,hpl,by simp;omega,λex l H6 hl6 el6 hex I6 sb6=>.inl ?_⟩
  have f5:¬ X.S.A.F l5:=I4.bk.off hl5
  refine⟨l5,l,_,_,rfl,rfl,sb6 _ _ zae f5,el6,zd4 _ (by simp[zks];omega),λl7 hl7=> ?_⟩
  have sl:=zah (o:=.lst ([V.int cs.length]++zks ((List.range (ps.length+2)).map ((cs++[c1]).length+·)))) hl7
  have sbH:SameBut (λx=>X.S.A.F x\/x=X.S.tk) H H6:=λy o e n=>sb6 _ _ (s5 _ _ (s4 _ _ (sb _ _ e n))) λz=>n (.inl z)
  exact q3 (by omega) (c1::ex) _ l7 _ (by simp[hex]) (z30 I6 sbH hl7) (by rw[zae,jgd cs.length (ps.length+2)];simp) (by have:=I6.same sl;simpa using this) λy o e n=>sl _ _ (sbH _ _ e n)
theorem z7i(h:zdu K a vs H Q E):vs.length=2:=by
 obtain⟨_,_,_,_,_,rfl,_⟩:=h
 rfl
theorem cat_tup{b d:Addr}{xs ys:List V}(h1:H b=some (.tup xs))(h2:H d=some (.tup ys))(hy:ys≠[])(hl:xs.length+ys.length<=1000)(q:∀ p H',Same H H'->H' p=some (.tup (xs++ys))->Q (.ref p) H'):zcy K (.ref b) (.ref d) H Q:=by
 rw[je9]
 by_cases hx:xs=[]
 ·subst hx
  exact .inr (.inr ⟨b,d,ys,rfl,rfl,SqT.of h1,SqT.of h2,q d H (Same.refl _) h2⟩)
 ·exact .inr (.inl ⟨b,d,xs,ys,rfl,rfl,SqT.of h1,SqT.of h2,hx,zd4 _ (by omega),λe=>absurd e hy,λ_ p hp=>q p _ (zah hp) zae⟩)
theorem z47(h:zcv K a vs H Q E):zlg K a (λ_=>E) (zfj Q) (zbn ["self","name","text","record","piece","mark","filled"] vs) H:=by
 obtain⟨X,cs,tks,M,z,t,rfl,T4,I,htl,hts,hcs,q,q1,q2,q3⟩:=h
 have T4':=T4
 obtain⟨dx,ho⟩:=I.ob
 have hm2:zbv X.n X.r X.c X.w 2=X.c * X.w:=by simp[zbv]
 have hm4:zbv X.n X.r X.c X.w 4=X.c * X.w:=by simp[zbv]
 push_cast[zlg,↓zy7]
 refine⟨_,_,ho,zdi (by decide +kernel),X,cs,tks,M,z,rfl,T4,I,λcell rec ec hcl eM H1 s1=> ?_,λeo H3 s3=>q1 eo _ s3⟩
 obtain⟨T,TP,TL,TS⟩:=T4
 push_cast[↓zy9]
 refine⟨t,rfl,htl,λH2 s2=> ?_⟩
 have s12:=s1.trans s2
 cases hb:ztr t with
 | false =>
  push_cast[↓zy8]
  exact⟨by decide,q2 ⟨cell,ec⟩ hb _ s12⟩
 | true =>
  push_cast[↓zza]
  refine⟨_,_,_,s12 _ _ ho,TS.cl,TS.n1,_,jf7,_,_,_,s12 _ _ ho,TS.cl,TS.n2,_,jf8,X.S.lp,X.S.A.b,rfl,z7h T4' (I.same s12) (by decide) (λp ep hpl H4 s4=> ?_) λer H3 s3=>q3 ⟨cell,ec⟩ hb (by rw[<-hm2];exact er) _ (s12.trans s3)⟩
  rw[hm2]at ep hpl
  obtain⟨hr,m,ps,eR,hps,q⟩:=q cell rec ec hcl eM hb p ep hpl
  have s14:=s12.trans s4
  have I4:=I.same s14
  clear s1 s2 s12 s4
  obtain⟨dx4,ho4⟩:=I4.ob
  obtain⟨dl4,el4⟩:=I4.ly.ob
  obtain⟨db4,eb4⟩:=I4.bk.bk.ob
  push_cast[↓zzb]
  refine jh8 TS (ho4) (eb4) (zlo (by decide +kernel)) (jgl TS (ho4) (el4) (zgn (by decide +kernel)) (lPM TL (I4.ly) λu hu=>⟨by decide,λl0 hl0=> ?_⟩))
  have sa:=zah (o:=.tup [.int (X.n+X.r+X.c+X.r+(p:Int) / X.w),.int ((p:Int) % X.w)]) hu
  have sb:=zah (o:=.lst []) hl0
  have eu:=sb _ _ (show upd H4 u (.tup [.int (X.n+X.r+X.c+X.r+(p:Int) / X.w),.int ((p:Int) % X.w)]) u=some (.tup [.int (zij X.n X.r X.c X.w 2 p:Nat),.int (p % X.w:Nat)]) by rw[zae];simp[zij])
  have el0:upd (upd H4 u (.tup [.int (X.n+X.r+X.c+X.r+(p:Int) / X.w),.int ((p:Int) % X.w)])) l0 (.lst []) l0=some (.lst (([]:List Int).map V.int)):=zae
  have s5:=sa.trans sb
  revert eu el0 s5
  clear sa sb
  generalize upd (upd H4 u (.tup [.int (X.n+X.r+X.c+X.r+(p:Int) / X.w),.int ((p:Int) % X.w)])) l0 (.lst [])=H5
  intro eu el0 s5
  refine zgt T4' (I4.same s5) (kind:=2) (x:=.mk 1) (by decide) (by rw[hm2];exact hpl) eu el0 (by simp) (by omega) (λx hx=>by cases hx) trivial rfl (Nat.le_refl _) λc1 H6 I6 sb6=> ?_
  obtain⟨dx6,ho6⟩:=I6.ob
  obtain⟨dl6,el6⟩:=I6.ly.ob
  obtain⟨db6,eb6⟩:=I6.bk.bk.ob
  push_cast[↓zzc]
  refine jh8 TS (ho6) (eb6) (zlo (by decide +kernel)) (jgl TS (ho6) (el6) (zgn (by decide +kernel)) (lPA TL (I6.ly) λu2 hu2=>⟨by decide,λl6 hl6=> ?_⟩))
  have sa:=zah (o:=.tup [.int (X.n+X.r+(p:Int) / X.w),.int ((p:Int) % X.w)]) hu2
  have sb:=zah (o:=.lst [.int cs.length]) hl6
  have f1:=sb _ _ (show upd H6 u2 (.tup [.int (X.n+X.r+(p:Int) / X.w),.int ((p:Int) % X.w)]) u2=some (.tup [.int (zij X.n X.r X.c X.w 4 p:Nat),.int (p % X.w:Nat)]) by rw[zae];simp[zij])
  have f4:=zae (H:=upd H6 u2 (.tup [.int (X.n+X.r+(p:Int) / X.w),.int ((p:Int) % X.w)])) (a:=l6) (o:=.lst [.int cs.length])
  have s67:=sa.trans sb
  revert s67 f1 f4
  generalize upd (upd H6 u2 (.tup [.int (X.n+X.r+(p:Int) / X.w),.int ((p:Int) % X.w)])) l6 (.lst [.int cs.length])=H7
  clear sa sb
  intro f1 f4 s67
  refine zgt (ns:=[(cs.length:Int)]) T4' (I6.same s67) (kind:=4) (x:=.tx t) (by decide) (by rw[hm4];exact hpl) f1 f4 (by simp) (by simp;omega) (λx hx=>by rw[List.mem_singleton.mp hx];exact⟨by omega,by simp;omega⟩) hts rfl trivial λc2 H8 I8 sb8=> ?_
  obtain⟨dx8,ho8⟩:=I8.ob
  have eR':((M.put 2 p (.mk 1)).put 4 p (.tx t)) 3 rec=.rc m ps:=by unfold Md.put;rw[if_neg (by omega),if_neg (by omega)];exact eR
  push_cast[↓zzd]
  refine⟨_,_,ho8,zdi (by decide +kernel),_,_,ho8,zdi (by decide +kernel),X,_,tks,_,rec,rfl,T4',I8,hr,λv H9 rv s9=> ?_⟩
  rw[eR']at rv
  obtain⟨t0,u0,rfl,et0,eu0⟩:=rv
  have hlen:(cs++[c1]).length=cs.length+1:=by simp
  refine zgm et0 (n:=1) rfl rfl ⟨by decide,λt9 ht9=> ?_⟩
  have sa:=zah (o:=.tup [V.int p]) ht9
  refine cat_tup (sa _ _ eu0) zae (by simp) (by simp[zks];omega) λpp H10 s10 epp=>⟨by decide,λl10 hl10=> ?_⟩
  have s11:=(s9.trans sa).trans s10
  have sc:=zah (o:=.lst [V.int ((cs++[c1]).length:Nat)]) hl10
  have s12:=s11.trans sc
  refine⟨X,_,tks,_,rec,m,ps,ps++[p],pp,l10,[((cs++[c1]).length:Int)],rfl,T4',I8.same s12,hr,eR',sc _ _ (by rw[epp];simp[zks]),by simp;omega,zae,by simp,(λx hx=>by rw[List.mem_singleton.mp hx];exact⟨by omega,by simp⟩),by simp;omega,λc3 H13 I13 sb13=>⟨by decide,λl hl=> ?_⟩⟩
  have sl:=zah (o:=.lst [V.int cs.length,V.int ((cs++[c1]).length:Nat),V.int ((cs++[c1]++[c2]).length:Nat)]) hl
  have sbH:SameBut (λx=>X.S.A.F x\/x=X.S.tk) H H13:=λy o e n=>sb13 _ _ (s12 _ _ (sb8 _ _ (s67 _ _ (sb6 _ _ (s5 _ _ (s14 _ _ e)) λz=>n (.inl z))) λz=>n (.inl z))) λz=>n (.inl z)
  exact q [c1,c2,c3] _ l _ rfl (z30 I13 sbH hl) (by rw[zae];simp[zks,List.range_succ]) (by have:=I13.same sl;simpa using this) λy o e n=>sl _ _ (sbH _ _ e n)
theorem z7j(h:zcv K a vs H Q E):vs.length=3:=by
 obtain⟨_,_,_,_,_,_,rfl,_⟩:=h
 rfl
theorem z1x(h:zcl K a vs H Q E):ziv K a (λ_=>E) (zfj Q) (zbn ["self","name","pieces"] vs) H:=by
 obtain⟨X,cs,tks,M,z,rfl,T4,I,q,q1⟩:=h
 have T4':=T4
 obtain⟨T,TP,TL,TS⟩:=T4
 obtain⟨dx,ho⟩:=I.ob
 obtain⟨dl,el⟩:=I.ly.ob
 obtain⟨db,eb⟩:=I.bk.bk.ob
 push_cast[ziv,↓zup]
 refine⟨_,_,ho,zdi (by decide +kernel),_,_,ho,zdi (by decide +kernel),X,cs,tks,M,z,rfl,T4',I,λcell rec ec hcl eM H1 s1=> ?_,λeo H3 s3=>q1 eo _ s3⟩
 obtain⟨hr,m,ps,eR,hps,ts,pt,q⟩:=q cell rec ec hcl eM
 refine⟨X,cs,tks,M,rec,rfl,T4',I.same s1,hr,λv H2 rv s2=> ?_⟩
 rw[eR]at rv
 obtain⟨t0,u0,rfl,et0,eu0⟩:=rv
 refine zgm et0 (n:=1) rfl rfl ?_
 have s12:=s1.trans s2
 push_cast[↓zuq]
 refine .inr ⟨⟨_,SqT.of eu0⟩,jcl (xs:=zks ps) (zd4 _ (by simp[zks];omega)) (λi ys H'=>Same H2 H'/\ys=(ts.take i).map V.str) ⟨Same.refl _,rfl⟩ (λi ys H' _ ⟨s',_⟩=>SqT.of (s' _ _ eu0)) (λi x ys H' hx hyl ⟨s',ey⟩=> ?_) (λys H' hyl ⟨s',ey⟩ lc hlc=> ?_)⟩
 ·unfold zks at hx
  rw[List.getElem?_map,Option.map_eq_some_iff]at hx
  obtain⟨p,ep,rfl⟩:=hx
  have hti:i<ts.length:=by have:=(List.getElem?_eq_some_iff.mp ep).1;have:=pt.length;omega
  have eti:=List.getElem?_eq_getElem hti
  obtain⟨p',ep',hpc,eP⟩:=zmc pt eti
  rw[ep]at ep'
  cases ep'
  have hm:p<zbv X.n X.r X.c X.w 4:=by simpa [zbv]using hpc
  have sH:=s12.trans s'
  have I':=I.same sH
  push_cast[z4n]
  refine⟨_,_,_,sH _ _ ho,TS.cl,TS.n2,_,jf8,X.S.A.b,rfl,_,_,sH _ _ eb,zlo (by decide +kernel),_,_,_,sH _ _ ho,TS.cl,TS.n1,_,jf7,X.S.lp,rfl,_,_,sH _ _ el,zgn (by decide +kernel),X.S.lp,X.n,X.r,X.c,X.w,p,rfl,TL,I'.ly,λu' hu'=> ?_⟩
  have su:=zah (o:=.tup [.int (X.n+X.r+(p:Int) / X.w),.int ((p:Int) % X.w)]) hu'
  refine⟨X.S.A,X.w,X.rows,X.nn,cs,X.outs,u',(zij X.n X.r X.c X.w 4 p:Nat),(p % X.w:Nat),rfl,T,TP,I'.bk.same su,by rw[zae];simp[zij],λ_ v H3 ev s3=> ?_,λz=>absurd (I.onPl (kind:=4) (by decide) hm) z⟩
  have rv:=I.rp 4 p v (by decide) hm ev
  rw[eP]at rv
  rw[show v=.str ts[i]from rv]
  refine⟨(s'.trans su).trans s3,?_⟩
  rw[List.take_add_one,eti,ey,List.map_append]
  rfl
 ·have hl:(zks ps).length=ts.length:=by rw[<-pt.length];simp[zks]
  rw[hl,List.take_length]at ey
  subst ey
  have sl:=zah (o:=.lst (ts.map V.str)) hlc
  exact q lc _ (s12.free (s'.free hlc)) ((s12.trans s').trans sl) zae
theorem z33(h:zcl K a vs H Q E):vs.length=2:=by
 obtain⟨_,_,_,_,_,rfl,_⟩:=h
 rfl
theorem z34(h:zca K a vs H Q E):zj4 K a (λ_=>E) (zfj Q) (zbn ["self","name","at","record","pieces","without"] vs) H:=by
 obtain⟨X,cs,tks,M,z,x,rfl,T4,I,q,q1⟩:=h
 obtain⟨dx,ho⟩:=I.ob
 push_cast[zj4,↓zwj]
 refine⟨_,_,ho,zdi (by decide +kernel),X,cs,tks,M,z,rfl,T4,I,λcell rec ec hcl eM H1 s1=> ?_,λeo H3 s3=>q1 eo _ s3⟩
 obtain⟨hr,m,ps,eR,hps,hx,q⟩:=q cell rec ec hcl eM
 push_cast[↓zwk]
 refine⟨_,_,s1 _ _ ho,zdi (by decide +kernel),X,cs,tks,M,rec,rfl,T4,I.same s1,hr,λv H2 rv s2=> ?_⟩
 rw[eR]at rv
 obtain⟨t0,u0,rfl,et0,eu0⟩:=rv
 refine zgm et0 (n:=1) rfl rfl ?_
 push_cast[↓zwm,↓zwl]
 have fin:=q _ (s1.trans s2)
 split
 ·refine⟨ps.length,.inr ⟨_,SqT.of eu0,by simp[zks]⟩,?_⟩
  rw[if_pos (by omega)]
  exact⟨by decide,fin⟩
 ·exact⟨by decide,fin⟩
theorem z48(h:zca K a vs H Q E):vs.length=3:=by
 obtain⟨_,_,_,_,_,_,rfl,_⟩:=h
 rfl
theorem z35(h:zcq K a vs H Q E):zj5 K a (λ_=>E) (zfj Q) (zbn ["self","old","new","linked","record","gone"] vs) H:=by
 obtain⟨X,cs,tks,M,y,z,rfl,T4,I,hyl,hzl,hcs,hb,q⟩:=h
 obtain⟨dx,ho⟩:=I.ob
 have no:zbe y=true->zbe z=true->False:=λh1 h2=>by rw[h1,h2]at hb;cases hb
 push_cast[zj5,↓zwn]
 exact⟨_,_,ho,zdi (by decide +kernel),X,cs,tks,M,y,z,rfl,T4,I,hyl,hzl,hcs,λh1 h2=>(no h1 h2).elim,λ_=>q,λh1 h2=>(no h1 h2).elim,λh1 h2=>(no h1 h2).elim,λh1 h2=>(no h1 h2).elim⟩
theorem z49(h:zcq K a vs H Q E):vs.length=3:=by
 obtain⟨_,_,_,_,_,_,rfl,_⟩:=h
 rfl
theorem z1y(h:zc6 K a vs H Q E):zir K a (λ_=>E) (zfj Q) (zbn ["self","block"] vs) H:=by
 obtain⟨X,cs,tks,M,x,rfl,⟨T,TP,TL,TS⟩,I,hx,q⟩:=h
 obtain⟨dx,ho⟩:=I.ob
 obtain⟨db,eb⟩:=I.bk.bk.ob
 push_cast[zir,↓zuh]
 refine⟨_,_,_,ho,TS.cl,TS.n2,_,jf8,X.S.A.b,rfl,_,_,eb,zlo (by decide +kernel),X.S.A,X.w,X.rows,X.nn,cs,X.outs,x,rfl,T,TP,I.bk,hx,q _ (Same.refl _)⟩
theorem z36(h:zc6 K a vs H Q E):vs.length=2:=by
 obtain⟨_,_,_,_,_,rfl,_⟩:=h
 rfl
section
variable{X:SX}{M:Md}{z t:Str}{rec cell m p:Nat}{ps:List Nat}
theorem zli{k j:Nat}{x:CV}:(M.put k j x) k j=x:=by unfold Md.put;rw[if_pos ⟨rfl,rfl⟩]
theorem zcb{k j i l:Nat}{x:CV}(h:i≠k):(M.put k j x) i l=M i l:=by unfold Md.put;rw[if_neg λy=>h y.1]
theorem zxq{k j i l:Nat}{x:CV}(h:l≠j):(M.put k j x) i l=M i l:=by unfold Md.put;rw[if_neg λy=>h y.2]
theorem zjc:∀ {ps:List Nat} {M:Md} {i j:Nat},(M.unmark ps) i j=if i=2/\j∈ps then .mk 0 else M i j
 | [],M,i,j=>by simp[Md.unmark]
 | p::ps,M,i,j=>by
  show((M.put 2 p (.mk 0)).unmark ps) i j=_
  rw[zjc]
  by_cases h:i=2/\j∈ps
  ·rw[if_pos h,if_pos ⟨h.1,List.mem_cons_of_mem _ h.2⟩]
  ·rw[if_neg h]
   by_cases h2:i=2/\j=p
   ·rw[h2.1,h2.2,zli,if_pos ⟨rfl,List.mem_cons_self⟩]
   ·rw[if_neg λy=>by
     rcases List.mem_cons.mp y.2 with z | z
     ·exact h2 ⟨y.1,z⟩
     ·exact h ⟨y.1,z⟩]
    unfold Md.put
    rw[if_neg h2]
theorem z2f{f:Nat->Bool}{m k:Nat}(h:z67 f m=k):f k=true:=by
 unfold z67 at h
 cases e:(List.range m).find? f with
 | none=>rw[e]at h;simp at h
 | some k' =>
  rw[e]at h
  have:=List.find?_some e
  have:k'=k:=by simp at h;omega
  subst this
  assumption
def nmB(rec:Nat):CV->Bool
 | .nm _ r=>decide (r=rec)
 | _=>false
theorem ztk{k:Nat}:ldB M rec k=nmB rec (M 0 k):=by
 unfold ldB
 cases M 0 k<;>rfl
theorem z90{f g:Nat->Bool}{i:Nat}(h:∀ k,k≠i->f k=g k):∀ {m:Nat},i<m->(List.range m).countP g+(if f i=true then 1 else 0)=(List.range m).countP f+(if g i=true then 1 else 0)
 | 0,hi=>absurd hi (Nat.not_lt_zero _)
 | m+1,hi=>by
  rw[List.range_succ,List.countP_append,List.countP_append]
  by_cases e:i=m
  ·subst e
   have:(List.range i).countP g=(List.range i).countP f:=List.countP_congr λk hk=>by rw[h k (by have:=List.mem_range.mp hk;omega)]
   rw[this]
   simp only[List.countP_singleton]
   omega
  ·have ih:=z90 h (m:=m) (by omega)
   have:f m=g m:=h m λy=>e y.symm
   simp only[List.countP_singleton,this]
   omega
theorem z7k{x:CV}{rec' m:Nat}(hc:cell<m):zkt (M.put 0 cell x) m rec'+(if nmB rec' (M 0 cell)=true then 1 else 0)=zkt M m rec'+(if nmB rec' x=true then 1 else 0):=by
 have:=z90 (f:=ldB M rec') (g:=ldB (M.put 0 cell x) rec') (i:=cell) (λk hk=>by rw[ztk,ztk,zxq hk]) hc
 rw[ztk,ztk,zli]at this
 exact this
theorem z7l{kind k rec' m:Nat}{x:CV}(h:kind≠0):zkt (M.put kind k x) m rec'=zkt M m rec':=by
 unfold zkt
 refine List.countP_congr λj _=> ?_
 rw[ztk,ztk,zcb λy=>h y.symm]
theorem jdl{rec' m:Nat}:zkt (M.unmark ps) m rec'=zkt M m rec':=by
 unfold zkt
 refine List.countP_congr λj _=> ?_
 rw[ztk,ztk,zjc,if_neg (by omega)]
theorem jh9{rec' m:Nat}(h:zkt M m rec'=0){k:Nat}(hk:k<m){y:Str}:M 0 k≠.nm y rec':=λe=>by
 have:=List.countP_eq_zero.mp h k (List.mem_range.mpr hk)
 rw[ztk,e]at this
 simp[nmB]at this
theorem jge(h:zi1 0 (M 0 cell)=true):nmB rec (M 0 cell)=false:=by
 cases e:M 0 cell<;>rw[e]at h<;>simp[zi1,nmB]at h ⊢
theorem Snd.stand(S:Snd X M)(hr:rec<X.r * X.w)(fr:zi1 1 (M 1 rec)=true){m:Nat}{ps:List Nat}:M 3 rec≠.rc m ps:=λe=>by
 have:=(S.m4 rec m ps hr e).2.2
 rw[this]at fr
 simp[zi1]at fr
theorem Snd.make(S:Snd X M)(hz:zbe z=true)(hr:rec<X.r * X.w)(hc:cell<X.m0)(fr:zi1 1 (M 1 rec)=true)(fc:zi1 0 (M 0 cell)=true):Snd X (((M.put 1 rec (.mk 1)).put 3 rec (.rc 1 [])).put 0 cell (.nm z rec)):=by
 have nl:zkt M X.m0 rec=0:=List.countP_eq_zero.mpr λk hk=>by
  rw[ztk]
  intro h
  cases e:M 0 k with
  | nm y r' =>
   rw[e]at h
   have hr':r'=rec:=by simpa [nmB]using h
   subst hr'
   obtain⟨_,_,m,ps,e3⟩:=S.m1 k y r' (List.mem_range.mp hk) e
   exact S.stand hr fr e3
  | _=>rw[e]at h;simp[nmB]at h
 have at3:∀ {r':Nat},r'≠rec->(((M.put 1 rec (.mk 1)).put 3 rec (.rc 1 [])).put 0 cell (.nm z rec)) 3 r'=M 3 r':=λh=>by rw[zcb (by decide),zxq h,zcb (by decide)]
 have at3':(((M.put 1 rec (.mk 1)).put 3 rec (.rc 1 [])).put 0 cell (.nm z rec)) 3 rec=.rc 1 []:=by rw[zcb (by decide),zli]
 have ld:∀ {r':Nat},zkt (((M.put 1 rec (.mk 1)).put 3 rec (.rc 1 [])).put 0 cell (.nm z rec)) X.m0 r'=zkt M X.m0 r'+if rec=r' then 1 else 0:=λ{r'}=>by
  have:=z7k (M:=(M.put 1 rec (.mk 1)).put 3 rec (.rc 1 [])) (x:=.nm z rec) (rec':=r') hc
  rw[z7l (kind:=3) (by decide),z7l (kind:=1) (by decide),zcb (by decide),zcb (by decide),jge fc]at this
  simpa [nmB]using this
 refine⟨λk y r' hk e=> ?_,λr' m ps hr' e=> ?_,λr' m ps hr' e=> ?_,λr1 r2 m m' ps ps' p h1 h2 hne e1 e2 hp=> ?_⟩
 ·by_cases hkc:k=cell
  ·subst hkc
   rw[zli]at e
   cases e
   exact⟨hz,hr,1,[],at3'⟩
  ·rw[zxq hkc,zcb (by decide),zcb (by decide)]at e
   obtain⟨h1,h2,m,ps,h3⟩:=S.m1 k y r' hk e
   have:r'≠rec:=λy=>S.stand hr fr (y ▸ h3)
   exact⟨h1,h2,m,ps,by rw[at3 this];exact h3⟩
 ·rw[ld]
  by_cases h:r'=rec
  ·subst h
   rw[at3']at e
   cases e
   rw[nl,if_pos rfl]
  ·rw[at3 h]at e
   rw[if_neg λy=>h y.symm]
   exact S.m3 r' m ps hr' e
 ·by_cases h:r'=rec
  ·subst h
   rw[at3']at e
   cases e
   exact⟨List.nodup_nil,(λp hp=>by cases hp),by rw[zcb (by decide),zcb (by decide),zli]⟩
  ·rw[at3 h]at e
   obtain⟨h1,h2,h3⟩:=S.m4 r' m ps hr' e
   exact⟨h1,λp hp=>by rw[zcb (by decide),zcb (by decide),zcb (by decide),zcb (by decide),zcb (by decide),zcb (by decide)];exact h2 p hp,by rw[zcb (by decide),zcb (by decide),zxq h];exact h3⟩
 ·by_cases h:r1=rec
  ·subst h
   rw[at3']at e1
   cases e1
   cases hp
  ·by_cases h':r2=rec
   ·subst h'
    rw[at3']at e2
    cases e2
    intro hp;cases hp
   ·rw[at3 h]at e1
    rw[at3 h']at e2
    exact S.m5 r1 r2 m m' ps ps' p h1 h2 hne e1 e2 hp
theorem Snd.link(S:Snd X M)(hz:zbe z=true)(hr:rec<X.r * X.w)(hc:cell<X.m0)(e3:M 3 rec=.rc m ps)(fc:zi1 0 (M 0 cell)=true):Snd X ((M.put 3 rec (.rc (m+1) ps)).put 0 cell (.nm z rec)):=by
 have at3:∀ {r':Nat},r'≠rec->((M.put 3 rec (.rc (m+1) ps)).put 0 cell (.nm z rec)) 3 r'=M 3 r':=λh=>by rw[zcb (by decide),zxq h]
 have at3':((M.put 3 rec (.rc (m+1) ps)).put 0 cell (.nm z rec)) 3 rec=.rc (m+1) ps:=by rw[zcb (by decide),zli]
 have ld:∀ {r':Nat},zkt ((M.put 3 rec (.rc (m+1) ps)).put 0 cell (.nm z rec)) X.m0 r'=zkt M X.m0 r'+if rec=r' then 1 else 0:=λ{r'}=>by
  have:=z7k (M:=M.put 3 rec (.rc (m+1) ps)) (x:=.nm z rec) (rec':=r') hc
  rw[z7l (kind:=3) (by decide),zcb (by decide),jge fc]at this
  simpa [nmB]using this
 have old:∀ {r' m':Nat} {ps':List Nat},((M.put 3 rec (.rc (m+1) ps)).put 0 cell (.nm z rec)) 3 r'=.rc m' ps'->∃ m0,M 3 r'=.rc m0 ps'/\m'=m0+if rec=r' then 1 else 0:=λ{r' m' ps'} e=>by
  by_cases h:r'=rec
  ·subst h
   rw[at3']at e
   cases e
   exact⟨m,e3,by rw[if_pos rfl]⟩
  ·rw[at3 h]at e
   exact⟨m',e,by rw[if_neg λy=>h y.symm];rfl⟩
 refine⟨λk y r' hk e=> ?_,λr' m ps hr' e=> ?_,λr' m ps hr' e=> ?_,λr1 r2 m m' ps ps' p h1 h2 hne e1 e2 hp=> ?_⟩
 ·have st:∀ {r'},(∃ m ps,M 3 r'=.rc m ps)->∃ m' ps',((M.put 3 rec (.rc (m+1) ps)).put 0 cell (.nm z rec)) 3 r'=.rc m' ps':=λ{r'} ⟨m',ps',e'⟩=>by
   by_cases h:r'=rec
   ·exact⟨_,_,by rw[h];exact at3'⟩
   ·exact⟨m',ps',by rw[at3 h];exact e'⟩
  by_cases hkc:k=cell
  ·subst hkc
   rw[zli]at e
   cases e
   exact⟨hz,hr,st ⟨m,ps,e3⟩⟩
  ·rw[zxq hkc,zcb (by decide)]at e
   obtain⟨h1,h2,h3⟩:=S.m1 k y r' hk e
   exact⟨h1,h2,st h3⟩
 ·obtain⟨m0,e0,em⟩:=old e
  rw[ld,em,S.m3 r' m0 ps hr' e0]
 ·obtain⟨m0,e0,em⟩:=old e
  obtain⟨h1,h2,h3⟩:=S.m4 r' m0 ps hr' e0
  exact⟨h1,λp hp=>by rw[zcb (by decide),zcb (by decide),zcb (by decide),zcb (by decide)];exact h2 p hp,by rw[zcb (by decide),zcb (by decide)];exact h3⟩
 ·obtain⟨m1,f1,_⟩:=old e1
  obtain⟨m2,f2,_⟩:=old e2
  exact S.m5 r1 r2 m1 m2 ps ps' p h1 h2 hne f1 f2 hp
end
section
variable{X:SX}{M:Md}{z t:Str}{rec cell m p:Nat}{ps:List Nat}
theorem ji1(e:M 0 cell=.nm z rec){r':Nat}:nmB r' (M 0 cell)=decide (rec=r'):=by rw[e];rfl
theorem Snd.cutOne(S:Snd X M)(hr:rec<X.r * X.w)(hc:cell<X.m0)(e0:M 0 cell=.nm z rec)(e3:M 3 rec=.rc m ps)(hm:1<m):Snd X ((M.put 0 cell .no).put 3 rec (.rc (m - 1) ps)):=by
 have at3:∀ {r':Nat},r'≠rec->((M.put 0 cell .no).put 3 rec (.rc (m - 1) ps)) 3 r'=M 3 r':=λh=>by rw[zxq h,zcb (by decide)]
 have at3':((M.put 0 cell .no).put 3 rec (.rc (m - 1) ps)) 3 rec=.rc (m - 1) ps:=zli
 have ld:∀ {r':Nat},zkt ((M.put 0 cell .no).put 3 rec (.rc (m - 1) ps)) X.m0 r'+(if rec=r' then 1 else 0)=zkt M X.m0 r':=λ{r'}=>by
  rw[z7l (kind:=3) (by decide)]
  have:=z7k (M:=M) (x:=.no) (rec':=r') hc
  rw[ji1 e0]at this
  simpa [nmB]using this
 have old:∀ {r' m':Nat} {ps':List Nat},((M.put 0 cell .no).put 3 rec (.rc (m - 1) ps)) 3 r'=.rc m' ps'->∃ m0,M 3 r'=.rc m0 ps'/\m'+(if rec=r' then 1 else 0)=m0:=λ{r' m' ps'} e=>by
  by_cases h:r'=rec
  ·subst h
   rw[at3']at e
   cases e
   exact⟨m,e3,by rw[if_pos rfl];omega⟩
  ·rw[at3 h]at e
   exact⟨m',e,by rw[if_neg λy=>h y.symm];rfl⟩
 refine⟨λk y r' hk e=> ?_,λr' m ps hr' e=> ?_,λr' m ps hr' e=> ?_,λr1 r2 m m' ps ps' p h1 h2 hne e1 e2 hp=> ?_⟩
 ·rw[zcb (by decide)]at e
  by_cases hkc:k=cell
  ·subst hkc
   rw[zli]at e
   cases e
  ·rw[zxq hkc]at e
   obtain⟨h1,h2,m',ps',h3⟩:=S.m1 k y r' hk e
   refine⟨h1,h2,?_⟩
   by_cases h:r'=rec
   ·exact⟨_,_,by rw[h];exact at3'⟩
   ·exact⟨m',ps',by rw[at3 h];exact h3⟩
 ·obtain⟨m0,f0,em⟩:=old e
  have h1:=S.m3 r' m0 ps hr' f0
  have h2:=@ld r'
  omega
 ·obtain⟨m0,f0,em⟩:=old e
  obtain⟨h1,h2,h3⟩:=S.m4 r' m0 ps hr' f0
  exact⟨h1,λp hp=>by rw[zcb (by decide),zcb (by decide),zcb (by decide),zcb (by decide)];exact h2 p hp,by rw[zcb (by decide),zcb (by decide)];exact h3⟩
 ·obtain⟨m1,f1,_⟩:=old e1
  obtain⟨m2,f2,_⟩:=old e2
  exact S.m5 r1 r2 m1 m2 ps ps' p h1 h2 hne f1 f2 hp
theorem Snd.cutAll(S:Snd X M)(hr:rec<X.r * X.w)(hc:cell<X.m0)(e0:M 0 cell=.nm z rec)(e3:M 3 rec=.rc m ps)(hm:m<=1):Snd X ((((M.put 0 cell .no).put 3 rec .no).unmark ps).put 1 rec (.mk 0)):=by
 have at0:∀ {k},((((M.put 0 cell .no).put 3 rec .no).unmark ps).put 1 rec (.mk 0)) 0 k=(M.put 0 cell .no) 0 k:=λ{k}=>by rw[zcb (by decide),zjc,if_neg (by omega),zcb (by decide)]
 have at3:∀ {r':Nat},r'≠rec->((((M.put 0 cell .no).put 3 rec .no).unmark ps).put 1 rec (.mk 0)) 3 r'=M 3 r':=λh=>by rw[zcb (by decide),zjc,if_neg (by omega),zxq h,zcb (by decide)]
 have at3':((((M.put 0 cell .no).put 3 rec .no).unmark ps).put 1 rec (.mk 0)) 3 rec=.no:=by rw[zcb (by decide),zjc,if_neg (by omega),zli]
 have at2:∀ {p},¬ p∈ps->((((M.put 0 cell .no).put 3 rec .no).unmark ps).put 1 rec (.mk 0)) 2 p=M 2 p:=λh=>by rw[zcb (by decide),zjc,if_neg λy=>h y.2,zcb (by decide),zcb (by decide)]
 have at4:∀ {p},((((M.put 0 cell .no).put 3 rec .no).unmark ps).put 1 rec (.mk 0)) 4 p=M 4 p:=λ{p}=>by rw[zcb (by decide),zjc,if_neg (by omega),zcb (by decide),zcb (by decide)]
 have at1:∀ {r':Nat},r'≠rec->((((M.put 0 cell .no).put 3 rec .no).unmark ps).put 1 rec (.mk 0)) 1 r'=M 1 r':=λh=>by rw[zxq h,zjc,if_neg (by omega),zcb (by decide),zcb (by decide)]
 have ld:∀ {r':Nat},zkt ((((M.put 0 cell .no).put 3 rec .no).unmark ps).put 1 rec (.mk 0)) X.m0 r'+(if rec=r' then 1 else 0)=zkt M X.m0 r':=λ{r'}=>by
  rw[z7l (kind:=1) (by decide),jdl,z7l (kind:=3) (by decide)]
  have:=z7k (M:=M) (x:=.no) (rec':=r') hc
  rw[ji1 e0]at this
  simpa [nmB]using this
 have l0:zkt ((((M.put 0 cell .no).put 3 rec .no).unmark ps).put 1 rec (.mk 0)) X.m0 rec=0:=by
  have h1:=S.m3 rec m ps hr e3
  have h2:=@ld rec
  rw[if_pos rfl]at h2
  omega
 have old:∀ {r' m':Nat} {ps':List Nat},((((M.put 0 cell .no).put 3 rec .no).unmark ps).put 1 rec (.mk 0)) 3 r'=.rc m' ps'->r'≠rec/\M 3 r'=.rc m' ps':=λ{r' m' ps'} e=>by
  have h:r'≠rec:=λh=>by rw[h,at3']at e;cases e
  exact⟨h,by rw[at3 h]at e;exact e⟩
 refine⟨λk y r' hk e=> ?_,λr' m' ps' hr' e=> ?_,λr' m' ps' hr' e=> ?_,λr1 r2 m1 m2 ps1 ps2 p h1 h2 hne e1 e2 hp=> ?_⟩
 ·have hne:r'≠rec:=λh=>by rw[h]at e;exact jh9 l0 hk e
  rw[at0]at e
  by_cases hkc:k=cell
  ·subst hkc
   rw[zli]at e
   cases e
  ·rw[zxq hkc]at e
   obtain⟨h1,h2,m',ps',h3⟩:=S.m1 k y r' hk e
   exact⟨h1,h2,m',ps',by rw[at3 hne];exact h3⟩
 ·obtain⟨hne,f0⟩:=old e
  have h1:=S.m3 r' m' ps' hr' f0
  have h2:=@ld r'
  rw[if_neg λy=>hne y.symm]at h2
  omega
 ·obtain⟨hne,f0⟩:=old e
  obtain⟨h1,h2,h3⟩:=S.m4 r' m' ps' hr' f0
  refine⟨h1,λp hp=> ?_,by rw[at1 hne];exact h3⟩
  rw[at2 (S.m5 r' rec m' m ps' ps p hr' hr hne f0 e3 hp),at4]
  exact h2 p hp
 ·obtain⟨_,f1⟩:=old e1
  obtain⟨_,f2⟩:=old e2
  exact S.m5 r1 r2 m1 m2 ps1 ps2 p h1 h2 hne f1 f2 hp
theorem Snd.unused(S:Snd X M)(fp:zi1 2 (M 2 p)=true){r' m':Nat}{ps':List Nat}(hr:r'<X.r * X.w)(e:M 3 r'=.rc m' ps'):¬ p∈ps':=λhp=>by
 have:=((S.m4 r' m' ps' hr e).2.1 p hp).2.1
 rw[this]at fp
 simp[zi1]at fp
theorem Snd.putp(S:Snd X M)(hr:rec<X.r * X.w)(hp:p<X.c * X.w)(ht:PyData.strOk t=true)(e3:M 3 rec=.rc m ps)(fp:zi1 2 (M 2 p)=true):Snd X (((M.put 2 p (.mk 1)).put 4 p (.tx t)).put 3 rec (.rc m (ps++[p]))):=by
 have at3:∀ {r':Nat},r'≠rec->(((M.put 2 p (.mk 1)).put 4 p (.tx t)).put 3 rec (.rc m (ps++[p]))) 3 r'=M 3 r':=λh=>by rw[zxq h,zcb (by decide),zcb (by decide)]
 have at3':(((M.put 2 p (.mk 1)).put 4 p (.tx t)).put 3 rec (.rc m (ps++[p]))) 3 rec=.rc m (ps++[p]):=zli
 have at1:∀ {r':Nat},(((M.put 2 p (.mk 1)).put 4 p (.tx t)).put 3 rec (.rc m (ps++[p]))) 1 r'=M 1 r':=λ{r'}=>by rw[zcb (by decide),zcb (by decide),zcb (by decide)]
 have at24:∀ {p'},p'≠p->(((M.put 2 p (.mk 1)).put 4 p (.tx t)).put 3 rec (.rc m (ps++[p]))) 2 p'=M 2 p'/\(((M.put 2 p (.mk 1)).put 4 p (.tx t)).put 3 rec (.rc m (ps++[p]))) 4 p'=M 4 p':=λh=>⟨by rw[zcb (by decide),zcb (by decide),zxq h],by rw[zcb (by decide),zxq h,zcb (by decide)]⟩
 have at2p:(((M.put 2 p (.mk 1)).put 4 p (.tx t)).put 3 rec (.rc m (ps++[p]))) 2 p=.mk 1:=by rw[zcb (by decide),zcb (by decide),zli]
 have at4p:(((M.put 2 p (.mk 1)).put 4 p (.tx t)).put 3 rec (.rc m (ps++[p]))) 4 p=.tx t:=by rw[zcb (by decide),zli]
 have ld:∀ {r':Nat},zkt (((M.put 2 p (.mk 1)).put 4 p (.tx t)).put 3 rec (.rc m (ps++[p]))) X.m0 r'=zkt M X.m0 r':=λ{r'}=>by rw[z7l (by decide),z7l (by decide),z7l (by decide)]
 have old:∀ {r' m':Nat} {ps':List Nat},(((M.put 2 p (.mk 1)).put 4 p (.tx t)).put 3 rec (.rc m (ps++[p]))) 3 r'=.rc m' ps'->∃ ps0,M 3 r'=.rc m' ps0/\((r'=rec/\ps'=ps0++[p])\/(r'≠rec/\ps'=ps0)):=λ{r' m' ps'} e=>by
  by_cases h:r'=rec
  ·subst h
   rw[at3']at e
   cases e
   exact⟨ps,e3,.inl ⟨rfl,rfl⟩⟩
  ·rw[at3 h]at e
   exact⟨ps',e,.inr ⟨h,rfl⟩⟩
 refine⟨λk y r' hk e=> ?_,λr' m' ps' hr' e=> ?_,λr' m' ps' hr' e=> ?_,λr1 r2 m1 m2 ps1 ps2 x h1 h2 hne e1 e2 hx=> ?_⟩
 ·rw[zcb (by decide),zcb (by decide),zcb (by decide)]at e
  obtain⟨h1,h2,m',ps',h3⟩:=S.m1 k y r' hk e
  refine⟨h1,h2,?_⟩
  by_cases h:r'=rec
  ·exact⟨_,_,by rw[h];exact at3'⟩
  ·exact⟨m',ps',by rw[at3 h];exact h3⟩
 ·obtain⟨ps0,f0,_⟩:=old e
  rw[ld]
  exact S.m3 r' m' ps0 hr' f0
 ·obtain⟨ps0,f0,hc⟩:=old e
  obtain⟨h1,h2,h3⟩:=S.m4 r' m' ps0 hr' f0
  have hno:=S.unused fp hr' f0
  have hall:∀ x∈ps0,x<X.c * X.w/\(((M.put 2 p (.mk 1)).put 4 p (.tx t)).put 3 rec (.rc m (ps++[p]))) 2 x=.mk 1/\∃ t',(((M.put 2 p (.mk 1)).put 4 p (.tx t)).put 3 rec (.rc m (ps++[p]))) 4 x=.tx t'/\PyData.strOk t'=true:=λx hx=>by
   have hxp:x≠p:=λy=>hno (y ▸ hx)
   rw[(at24 hxp).1,(at24 hxp).2]
   exact h2 x hx
  refine⟨?_,?_,by rw[at1];exact h3⟩
  ·rcases hc with⟨_,rfl⟩ | ⟨_,rfl⟩
   ·exact List.nodup_append.mpr ⟨h1,List.nodup_cons.mpr ⟨List.not_mem_nil,List.nodup_nil⟩,λx hx y hy=>by rw[List.mem_singleton.mp hy];exact λz=>hno (z ▸ hx)⟩
   ·exact h1
  ·rcases hc with⟨_,rfl⟩ | ⟨_,rfl⟩
   ·intro x hx
    rcases List.mem_append.mp hx with hx | hx
    ·exact hall x hx
    ·rw[List.mem_singleton.mp hx]
     exact⟨hp,at2p,t,at4p,ht⟩
   ·exact hall
 ·obtain⟨q1,f1,c1⟩:=old e1
  obtain⟨q2,f2,c2⟩:=old e2
  have n1:=S.unused fp h1 f1
  have n2:=S.unused fp h2 f2
  rcases c1 with⟨ha,rfl⟩ | ⟨ha,rfl⟩
  ·rcases c2 with⟨hb,rfl⟩ | ⟨hb,rfl⟩
   ·exact absurd (ha.trans hb.symm) hne
   ·rcases List.mem_append.mp hx with hx | hx
    ·exact S.m5 r1 r2 m1 m2 q1 _ x h1 h2 hne f1 f2 hx
    ·rw[List.mem_singleton.mp hx];exact n2
  ·rcases c2 with⟨hb,rfl⟩ | ⟨hb,rfl⟩
   ·intro hx2
    rcases List.mem_append.mp hx2 with hx2 | hx2
    ·exact S.m5 r1 r2 m1 m2 _ q2 x h1 h2 hne f1 f2 hx hx2
    ·rw[List.mem_singleton.mp hx2]at hx;exact n1 hx
   ·exact S.m5 r1 r2 m1 m2 _ _ x h1 h2 hne f1 f2 hx
theorem Snd.few(S:Snd X M)(hr:rec<X.r * X.w)(e3:M 3 rec=.rc m ps):ps.length<=X.c * X.w:=by
 obtain⟨h1,h2,_⟩:=S.m4 rec m ps hr e3
 have:=List.Nodup.length_le_of_subset (l₂:=List.range (X.c * X.w)) h1 λp hp=>List.mem_range.mpr (h2 p hp).1
 simpa using this
end
theorem jkv:∀ i:Fin 26,(Str.ofString "abcdefghijklmnopqrstuvwxyz").cps.toList[i.val]? =some (97+i.val):=by decide +kernel
theorem jnb{i:Int}{n:Nat}{Q:VK}(hi:i=n)(hn:n<26)(q:Q (.str ⟨#[97+n]⟩) H):zht K (.str (Str.ofString "abcdefghijklmnopqrstuvwxyz")) (.int i) H Q:=jf6 hi (by decide +kernel) (jkv ⟨n,hn⟩) q
theorem jia{x:Int}{Q:VK}(q:∀ n:Nat,n<26->Q (.str ⟨#[97+n]⟩) H):zht K (.str (Str.ofString "abcdefghijklmnopqrstuvwxyz")) (.int (x % 26)) H Q:=by
 obtain⟨b,eb,hb⟩:=znr x (n:=26) (by omega)
 rw[show((26:Nat):Int)=26 from rfl]at eb
 rw[eb]
 exact jnb rfl hb (q b hb)
theorem z2g(x y:Str):(x++y).cps.toList=x.cps.toList++y.cps.toList:=by
 show(x.cps++y.cps).toList=_
 simp
theorem z2h(z:Str):z.cps.toList.length=z.length:=by simp[Str.length]
theorem joo{z:Str}{k:Nat}(h:k<=z.length):(Txt.slice z none (some (k:Int))).cps.toList=z.cps.toList.take k:=by
 rw[eq_of_beq (slice_closes_to (x:=z) (j:=(k:Int)) ⟨by omega,by rw[z2h];omega⟩)]
 simp
theorem jkw{z:Str}{k:Nat}(h:k<=z.length):(Txt.slice z (some (k:Int)) none).cps.toList=z.cps.toList.drop k:=by
 rw[eq_of_beq (slice_closes_from (x:=z) (i:=(k:Int)) ⟨by omega,by rw[z2h];omega⟩)]
 have:((z.cps.toList.length:Int) - k).toNat=(z.cps.toList.drop k).length:=by rw[List.length_drop];omega
 simp only[Int.toNat_natCast,this,List.take_length]
def Lts(z:Str)(n:Nat):Prop:=z.cps.toList.length=n/\z.cps.toList.all zm3=true
theorem Lts.len{z:Str}{n:Nat}(h:Lts z n):z.length=n:=by rw[<-z2h];exact h.1
theorem Lts.cat{x y:Str}{n m:Nat}(h:Lts x n)(h':Lts y m):Lts (x++y) (n+m):=by
 unfold Lts
 rw[z2g,List.length_append,List.all_append,h.1,h'.1,h.2,h'.2]
 exact⟨rfl,rfl⟩
theorem Lts.one{n:Nat}(h:n<26):Lts ⟨#[97+n]⟩ 1:=⟨rfl,by simp[zm3];omega⟩
theorem Lts.to{z:Str}{n k:Nat}(h:Lts z n)(hk:k<=n):Lts (Txt.slice z none (some (k:Int))) k:=by
 unfold Lts
 rw[joo (by rw[h.len];exact hk)]
 refine⟨by rw[List.length_take,h.1];omega,?_⟩
 rw[List.all_eq_true]
 exact λc hc=>List.all_eq_true.mp h.2 c (List.mem_of_mem_take hc)
theorem Lts.from{z:Str}{n k:Nat}(h:Lts z n)(hk:k<=n):Lts (Txt.slice z (some (k:Int)) none) (n - k):=by
 unfold Lts
 rw[jkw (by rw[h.len];exact hk)]
 refine⟨by rw[List.length_drop,h.1],?_⟩
 rw[List.all_eq_true]
 exact λc hc=>List.all_eq_true.mp h.2 c (List.mem_of_mem_drop hc)
theorem Lts.name{z:Str}{n:Nat}(h:Lts z n)(h1:1<=n)(h8:n<=8):zbe z=true:=by
 unfold zbe
 rw[h.len,h.2]
 simp
 omega
theorem z2i{z:Str}(h:zbe z=true):Lts z z.length/\1<=z.length/\z.length<=8:=by
 unfold zbe at h
 simp only[Bool.and_eq_true,decide_eq_true_eq]at h
 exact⟨⟨z2h z,h.2⟩,h.1.1,h.1.2⟩
theorem z5a(h:zex K a vs H Q E):zk4 K a (λ_=>E) (zfj Q) (zbn ["cell","letters","base","rest","k","at","first","last","turned"] vs) H:=by
 obtain⟨x,rfl,q⟩:=h
 push_cast[zk4,↓zyd,↓zye,↓zyf,↓zyi]
 obtain⟨m,em,hm⟩:∃ m:Nat,1+x % 6=m/\1<=m/\m<=6:=⟨(1+x % 6).toNat,by omega,by omega⟩
 rw[em,Int.toNat_natCast]
 refine⟨⟨by decide,by decide⟩,by omega,by omega,jc7 (λi σ H'=>∃ (p:Str) (rest:Int),H'=H/\Lts p i/\∃ y,σ=[some (.int x),some (.str (Str.ofString "abcdefghijklmnopqrstuvwxyz")),some (.str p),some (.int rest),y,none,none,none,none]) ⟨Str.ofString "",_,rfl,⟨by decide +kernel,by decide +kernel⟩,_,rfl⟩ (λi σ H' hi ⟨p,rest,e,hp,y,ez⟩=> ?_) (λσ H' ⟨p,rest,e,hp,y,ez⟩=> ?_)⟩
 ·subst e ez
  push_cast[↓zyg,↓zyh]
  have:=hp.len
  refine⟨.inl ⟨by omega,by omega⟩,⟨by decide,by decide⟩,.inl ⟨by omega,by omega⟩,jia λn hn=> ?_⟩
  push_cast[]
  have h1:=(Lts.one hn).len
  exact⟨zd4 _ (by omega),⟨by decide,by decide⟩,.inl ⟨by omega,by omega⟩,_,hp.cat (Lts.one hn),rfl⟩
 ·subst e ez
  have hpl:=hp.len
  push_cast[↓zyj]
  refine⟨⟨by decide,by decide⟩,m,⟨zd4 _ (by omega),hpl.symm⟩,by omega,?_⟩
  obtain⟨at',eat,hat⟩:=znr (x / 7) (n:=m) (by omega)
  rw[eat]
  push_cast[↓zyk]
  refine⟨⟨by decide,by decide⟩,jia λn1 hn1=> ?_⟩
  push_cast[↓zyl]
  refine⟨⟨by decide,by decide⟩,⟨by decide,by decide⟩,jia λn2 hn2=> ?_⟩
  push_cast[↓zvp]
  refine⟨rfl,jm8 (n:=at') rfl (by omega) (by omega) λc=>⟨_,_,rfl,rfl,?_⟩⟩
  push_cast[]
  refine⟨⟨by decide,by decide⟩,jia λn3 hn3=> ?_⟩
  push_cast[↓zvq]
  have l1:=Lts.one hn1
  have l2:=Lts.one hn2
  have l3:=Lts.one hn3
  have lt:=hp.to (k:=at') (by omega)
  have lf:=hp.from (k:=at'+1) (by omega)
  have d1:=l1.len
  have d2:=l2.len
  have d3:=l3.len
  have d4:=lt.len
  have d5:=lf.len
  have ea:((at':Nat):Int)+1=((at'+1:Nat):Int):=by omega
  rw[ea]
  have e1:=hp.cat l2
  have e2:=l1.cat hp
  have e3:=(lt.cat l3).cat lf
  have e4:=(hp.cat l2).cat l1
  refine⟨zd4 _ (by omega),zd4 _ (by omega),zd4 _ (by omega),zd4 _ (by omega),zd4 _ (by omega),zd4 _ (by rw[zjk];omega),zd4 _ (by omega),zd4 _ (by rw[zjk];omega),by decide,λl hl=> ?_⟩
  refine q l [p,p++(⟨#[97+n2]⟩:Str),(⟨#[97+n1]⟩:Str)++p,Txt.slice p none (some (at':Int))++(⟨#[97+n3]⟩:Str)++Txt.slice p (some ((at'+1:Nat):Int)) none,p++(⟨#[97+n2]⟩:Str)++(⟨#[97+n1]⟩:Str)] _ hl (zah hl) (by rw[zae];rfl) rfl λz hz=> ?_
  simp only[List.mem_cons,List.not_mem_nil,or_false]at hz
  rcases hz with rfl | rfl | rfl | rfl | rfl
  ·exact hp.name (by omega) (by omega)
  ·exact e1.name (by omega) (by omega)
  ·exact e2.name (by omega) (by omega)
  ·exact e3.name (by omega) (by omega)
  ·exact e4.name (by omega) (by omega)
theorem z7m(h:zex K a vs H Q E):vs.length=1:=by
 obtain⟨_,rfl,_⟩:=h
 rfl
def zxr:Str:=Str.ofString " !\"#$&'()*+,-./0123456789:;<=>?@ABCDEFGHIJKLMNOPQRSTUVWXYZ[\\]^_`"++Str.ofString "abcdefghijklmnopqrstuvwxyz{|}~"
theorem jib:∀ i:Fin 94,∃ c,zxr.cps.toList[i.val]? =some c/\c<1114112:=by
 have h:∀ i:Fin 94,zxr.cps.toList[i.val]? =some (zxr.cps.toList[i.val]!)/\zxr.cps.toList[i.val]! <1114112:=by decide +kernel
 exact λi=>⟨_,(h i).1,(h i).2⟩
theorem jbh(h:zi2 K a vs H Q E):zvw K a (λ_=>E) (zfj Q) (zbn ["cell"] vs) H:=by
 obtain⟨x,rfl,q⟩:=h
 push_cast[zvw,↓z4s,↓z4t,↓z4u]
 refine⟨⟨by decide,by decide⟩,?_⟩
 split
 ·exact q _
 ·exact q _
theorem jdm(h:zi2 K a vs H Q E):vs.length=1:=by
 obtain⟨_,rfl,_⟩:=h
 rfl
theorem jcm:∀ l:List Str,(∀ x∈l,x.length=1)->(l.map (·.length)).sum=l.length
 | [],_=>rfl
 | x::r,h=>by
  rw[List.map_cons,List.sum_cons,jcm r λy hy=>h y (List.mem_cons_of_mem _ hy),h x List.mem_cons_self,List.length_cons]
  omega
theorem jgf{g:Str}(hg:PyData.strOk g=true):∀ (l:List Str) (acc:Array Nat),(acc.all λx=>decide (x<1114112))=true->(∀ z∈l,PyData.strOk z=true)->((l.foldl (λacc p=>acc++g.cps++p.cps) acc).all λx=>decide (x<1114112))=true
 | [],acc,h,_=>h
 | z::l,acc,h,hz=>by
  rw[List.foldl_cons]
  refine jgf hg l _ ?_ λy hy=>hz y (List.mem_cons_of_mem _ hy)
  have h1:(g.cps.all λx=>decide (x<1114112))=true:=hg
  have h2:(z.cps.all λx=>decide (x<1114112))=true:=hz z List.mem_cons_self
  rw[Array.all_append,Array.all_append,h,h1,h2,Bool.true_and,Bool.true_and]
theorem jkx{g:Str}{l:List Str}(hg:PyData.strOk g=true)(h:∀ z∈l,PyData.strOk z=true):PyData.strOk (Txt.join g l)=true:=by
 unfold PyData.strOk Txt.join Builtin.Str.glued
 cases l with
 | nil=>show((Str.empty.cps).all λx=>decide (x<1114112))=true;decide +kernel
 | cons z l=>exact jgf hg l z.cps (h z List.mem_cons_self) λy hy=>h y (List.mem_cons_of_mem _ hy)
theorem z7n(h:zfv K a vs H Q E):zm7 K a (λ_=>E) (zfj Q) (zbn ["cell","signs","many","step","wide"] vs) H:=by
 obtain⟨x,rfl,q⟩:=h
 have tail:∀ m:Nat,m<=40->zm4 K a (λ_=>E) (λ_=>E) { nx:=zby (zm5 K a (λ_=>E) (λ_=>E)) (zm6 K a (λ_=>E) (λ_=>E)) (zfj Q),rt:=Q } [some (.int x),some (.str zxr),some (.int m),none,none] H:=λm hm=>by
  push_cast[↓z0t,↓z0u,↓z0v]
  refine⟨⟨by decide,by decide⟩,⟨by decide,by decide⟩,rfl,by omega,by omega,?_⟩
  refine zmb (zd4 _ (by omega)) (λi ys H'=>H'=H/\∃ zs:List Str,ys=zs.map V.str/\∀ z∈zs,z.length=1/\PyData.strOk z=true) ⟨rfl,[],rfl,by simp⟩ (λi ys H' hi hl ⟨e1,zs,e2,e3⟩=> ?_) (λys H' hl ⟨e1,zs,e2,e3⟩ p hp=> ?_)
  ·subst e1
   push_cast[z4n]
   obtain⟨b,eb,hb⟩:=znr (x / 3+(1+x / 19 % 93) * ((0+(i:Int)) / (1+x / 7 % 3))) (n:=94) (by omega)
   obtain⟨c,hc,hco⟩:=jib ⟨b,hb⟩
   have hd:(0+(i:Int)) / (1+x / 7 % 3)<=40/\0<=(0+(i:Int)) / (1+x / 7 % 3):=by
    have h1:0<1+x / 7 % 3:=by omega
    refine⟨?_,Int.ediv_nonneg (by omega) (by omega)⟩
    exact Int.le_trans (Int.ediv_le_self _ (by omega)) (by omega)
   refine⟨⟨by decide,by decide⟩,⟨by omega,by omega⟩,.inl ⟨by omega,by omega⟩,?_⟩
   rw[show((94:Nat):Int)=94 from rfl]at eb
   rw[eb]
   refine jf6 rfl (by decide +kernel) hc ⟨rfl,zs++[⟨#[c]⟩],by rw[e2,List.map_append];rfl,λz hz=> ?_⟩
   rcases List.mem_append.mp hz with hz | hz
   ·exact e3 z hz
   ·rw[List.mem_singleton.mp hz]
    exact⟨rfl,by simp[PyData.strOk];exact hco⟩
  ·subst e1
   have hl2:zs.length=m:=by rw[<-hl,e2,List.length_map]
   refine⟨_,p,zs,rfl,rfl,by rw[<-e2];exact SqL.of zae,by decide,by rw[jcm zs λz hz=>(e3 z hz).1];omega,q _ _ ?_ ?_ (zah hp)⟩
   ·rw[W.KT.join_ones zs λz hz=>(e3 z hz).1,hl2];exact hm
   ·exact jkx (by decide +kernel) λz hz=>(e3 z hz).2
 push_cast[zm7,↓z0o,↓z0p,↓z0q,↓z0s,↓z0r]
 refine⟨by decide +kernel,⟨by decide,by decide⟩,?_⟩
 split
 ·obtain⟨m,em,hm⟩:∃ m:Nat,40 - x / 40 % 2=m/\m<=40:=⟨(40 - x / 40 % 2).toNat,by omega,by omega⟩
  rw[em]
  exact⟨⟨by decide,by decide⟩,tail m hm⟩
 ·obtain⟨m,em,hm⟩:∃ m:Nat,1+x % 5=m/\m<=40:=⟨(1+x % 5).toNat,by omega,by omega⟩
  rw[em]
  exact tail m hm
theorem z91(h:zfv K a vs H Q E):vs.length=1:=by
 obtain⟨_,rfl,_⟩:=h
 rfl
theorem jbi{z y:Str}{k c:Nat}(hy:y.cps.toList=[c])(hc:zm3 c=false):zbe (Txt.slice z none (some (k:Int))++y++Txt.slice z (some (k:Int)) none)=false:=by
 unfold zbe
 rw[z2g,z2g,hy]
 simp[hc]
theorem zz5(h:zcr K a vs H Q E):zhk K a (λ_=>E) (zfj Q) (zbn ["cell","name","at","some"] vs) H:=by
 obtain⟨x,z,rfl,hz,q⟩:=h
 obtain⟨lz,h1,h8⟩:=z2i hz
 unfold zhk
 rw[je1,zrp]
 simp only[↓je3,↓jiu,↓jl0,↓jiv,↓jb3,↓je5,zbn,List.map_cons,List.map_nil,List.length_cons,List.length_nil,Nat.reduceAdd,Nat.reduceSub,List.reduceReplicate,List.cons_append,List.nil_append,↓jl6,↓jl7,List.getElem?_cons_zero,List.getElem?_cons_succ,Option.join_some,↓jml]
 simp only[zgd,ze2,↓jod,↓jiw,exists_eq_left',exists_and_left]
 refine⟨⟨by decide,by decide⟩,z.length,⟨zd4 _ (by omega),rfl⟩,?_⟩
 rw[je8,jod]
 obtain⟨k,ek,hk⟩:=znr (x / 7) (n:=z.length+1) (by omega)
 have e1:((z.length:Nat):Int)+1=((z.length+1:Nat):Int):=by omega
 rw[e1,ek]
 refine⟨by omega,?_⟩
 have lt:=(lz.to (k:=k) (by omega)).len
 have lf:=(lz.from (k:=k) (by omega)).len
 rw[jb4]
 push_cast[↓zrq]
 have hA:(Str.ofString "A").length=1:=by decide +kernel
 have h0:(Str.ofString "0").length=1:=by decide +kernel
 have hD:(Str.ofString "-").length=1:=by decide +kernel
 have hS:(Str.ofString " ").length=1:=by decide +kernel
 refine⟨zd4 _ (by omega),zd4 _ (by omega),zd4 _ (by omega),zd4 _ (by rw[zjk];omega),zd4 _ (by omega),zd4 _ (by omega),zd4 _ (by omega),zd4 _ (by rw[zjk];omega),by decide,λl1 hl1=> ?_⟩
 have s1:=zah (o:=.lst [V.str (Str.ofString ""),V.str (Str.ofString " "),V.str (Str.ofString "abcdefghi"),V.str (Txt.slice z none (some (k:Int))++Str.ofString "A"++Txt.slice z (some (k:Int)) none),V.str (Txt.slice z none (some (k:Int))++Str.ofString "0"++Txt.slice z (some (k:Int)) none)]) hl1
 have e1:upd H l1 (.lst [V.str (Str.ofString ""),V.str (Str.ofString " "),V.str (Str.ofString "abcdefghi"),V.str (Txt.slice z none (some (k:Int))++Str.ofString "A"++Txt.slice z (some (k:Int)) none),V.str (Txt.slice z none (some (k:Int))++Str.ofString "0"++Txt.slice z (some (k:Int)) none)]) l1=some (.lst ([Str.ofString "",Str.ofString " ",Str.ofString "abcdefghi",Txt.slice z none (some (k:Int))++Str.ofString "A"++Txt.slice z (some (k:Int)) none,Txt.slice z none (some (k:Int))++Str.ofString "0"++Txt.slice z (some (k:Int)) none].map V.str)):=zae
 have b1:∀ y∈[Str.ofString "",Str.ofString " ",Str.ofString "abcdefghi",Txt.slice z none (some (k:Int))++Str.ofString "A"++Txt.slice z (some (k:Int)) none,Txt.slice z none (some (k:Int))++Str.ofString "0"++Txt.slice z (some (k:Int)) none],zbe y=false/\y.length<=20:=λy hy=>by
  simp only[List.mem_cons,List.not_mem_nil,or_false]at hy
  rcases hy with rfl | rfl | rfl | rfl | rfl
  ·exact⟨by decide +kernel,by decide +kernel⟩
  ·exact⟨by decide +kernel,by decide +kernel⟩
  ·exact⟨by decide +kernel,by decide +kernel⟩
  ·exact⟨jbi (c:=65) (by decide +kernel) (by decide +kernel),by rw[zjk,zjk];omega⟩
  ·exact⟨jbi (c:=48) (by decide +kernel) (by decide +kernel),by rw[zjk,zjk];omega⟩
 have f1:[Str.ofString "",Str.ofString " ",Str.ofString "abcdefghi",Txt.slice z none (some (k:Int))++Str.ofString "A"++Txt.slice z (some (k:Int)) none,Txt.slice z none (some (k:Int))++Str.ofString "0"++Txt.slice z (some (k:Int)) none].length=5:=rfl
 revert s1 e1 b1 f1
 generalize [Str.ofString "",Str.ofString " ",Str.ofString "abcdefghi",Txt.slice z none (some (k:Int))++Str.ofString "A"++Txt.slice z (some (k:Int)) none,Txt.slice z none (some (k:Int))++Str.ofString "0"++Txt.slice z (some (k:Int)) none]=five
 generalize upd H l1 (.lst [V.str (Str.ofString ""),V.str (Str.ofString " "),V.str (Str.ofString "abcdefghi"),V.str (Txt.slice z none (some (k:Int))++Str.ofString "A"++Txt.slice z (some (k:Int)) none),V.str (Txt.slice z none (some (k:Int))++Str.ofString "0"++Txt.slice z (some (k:Int)) none)])=H1
 intro s1 e1 b1 f1
 push_cast[↓zrr]
 refine⟨zd4 _ (by omega),zd4 _ (by omega),zd4 _ (by omega),zd4 _ (by rw[zjk];omega),zd4 _ (by omega),by decide,λl2 hl2=>.inl ?_⟩
 have s2:=zah (o:=.lst [V.str (Txt.slice z none (some (k:Int))++Str.ofString "-"++Txt.slice z (some (k:Int)) none),V.str (z++Str.ofString " ")]) hl2
 refine⟨l1,l2,_,_,rfl,rfl,s2 _ _ e1,zae,zd4 _ (by simp[f1]),λl3 hl3=> ?_⟩
 have s3:=zah (o:=.lst (five.map V.str++[V.str (Txt.slice z none (some (k:Int))++Str.ofString "-"++Txt.slice z (some (k:Int)) none),V.str (z++Str.ofString " ")])) hl3
 have sa:=(s1.trans s2).trans s3
 have es:five.map V.str++[V.str (Txt.slice z none (some (k:Int))++Str.ofString "-"++Txt.slice z (some (k:Int)) none),V.str (z++Str.ofString " ")]=(five++[Txt.slice z none (some (k:Int))++Str.ofString "-"++Txt.slice z (some (k:Int)) none,z++Str.ofString " "]).map V.str:=by simp
 obtain⟨j,ej,hj⟩:=znr x (n:=7) (by omega)
 rw[show((7:Nat):Int)=7 from rfl]at ej
 rw[ej]
 have hjl:j<(five++[Txt.slice z none (some (k:Int))++Str.ofString "-"++Txt.slice z (some (k:Int)) none,z++Str.ofString " "]).length:=by simp[f1];omega
 have ey:=List.getElem?_eq_getElem hjl
 have hy:=List.mem_of_getElem? ey
 refine ztp (SqL.of zae) rfl (by rw[es,List.getElem?_map,ey];rfl) ?_
 revert hy
 generalize (five++[Txt.slice z none (some (k:Int))++Str.ofString "-"++Txt.slice z (some (k:Int)) none,z++Str.ofString " "])[j]=y
 intro hy
 have hb:zbe y=false/\y.length<=20:=by
  rcases List.mem_append.mp hy with hy | hy
  ·exact b1 y hy
  ·simp only[List.mem_cons,List.not_mem_nil,or_false]at hy
   rcases hy with rfl | rfl
   ·exact⟨jbi (c:=45) (by decide +kernel) (by decide +kernel),by rw[zjk,zjk];omega⟩
   ·refine⟨?_,by rw[zjk];omega⟩
    unfold zbe
    rw[z2g,List.all_append,show(Str.ofString " ").cps.toList.all zm3=false by decide +kernel]
    simp
 exact q y _ hb.1 hb.2 sa
theorem z1z(h:zcr K a vs H Q E):vs.length=2:=by
 obtain⟨_,_,rfl,_⟩:=h
 rfl
theorem jic{c A B:Prop}[Decidable c](h:c)(x:A):if c then A else B:=by rw[if_pos h];exact x
theorem jdn{c A B:Prop}[Decidable c](h:¬ c)(x:B):if c then A else B:=by rw[if_neg h];exact x
theorem z7o(h:zfw K a vs H Q E):znn K a (λ_=>E) (zfj Q) (zbn ["store","kind","one","other","cell","refused"] vs) H:=by
 obtain⟨X,cs,tks,M,kind,y,z,x,rfl,T4,TD,I,hcs,hk,hy,hz,q⟩:=h
 obtain⟨dx,ho⟩:=I.st.ob
 obtain⟨ly,_,hy8⟩:=z2i hy
 obtain⟨lz,_,hz8⟩:=z2i hz
 have six:=I.six
 push_cast[znn,↓z1a,↓zzi]
 have fin:∀ (v:Str) (H':Hp),Same H H'->zgs K a (λ_=>E) (λ_=>E) (zfj Q) [some (.ref X.S.st),some (.int kind),some (.str y),some (.str z),some (.int x),some (.str v)] H':=λv H' s=>by
  push_cast[↓zmu]
  exact q _ cs tks M H' ⟨I.st.same s,I.sd,six⟩ (by omega) (Same.sb s)
 have bad:∀ c:String,(c="NoName"\/c="Twice"\/c="NoPiece"\/c="NoRoom")->∀ H',Same H H'->zsa (λcls=>W.exmOne K cls (.ref (a "NoName"))) (zl2 K a (λ_=>E) λ_=>E) (zsa (λcls=>W.exmOne K cls (.ref (a "Twice"))) (zl1 K a (λ_=>E) λ_=>E) (zsa (λcls=>W.exmOne K cls (.ref (a "NoPiece"))) (zl0 K a (λ_=>E) λ_=>E) (zsa (λcls=>W.exmOne K cls (.ref (a "NoRoom"))) (zlz K a (λ_=>E) λ_=>E) jc2))) (.ref (a c)) { nx:=zgs K a (λ_=>E) (λ_=>E) (zfj Q),rt:=Q } [some (.ref X.S.st),some (.int kind),some (.str y),some (.str z),some (.int x),some (.str (Str.ofString ""))] H':=λc hc H' s=>by
  rcases hc with rfl | rfl | rfl | rfl
  ·refine .inl ⟨TD.n1,?_⟩
   push_cast[↓zzh]
   exact fin _ _ s
  ·refine .inr ⟨TD.t1,.inl ⟨TD.t2,?_⟩⟩
   push_cast[↓zzg]
   exact fin _ _ s
  ·refine .inr ⟨TD.p1,.inr ⟨TD.p2,.inl ⟨TD.p3,?_⟩⟩⟩
   push_cast[↓zzf]
   exact fin _ _ s
  ·refine .inr ⟨TD.r1,.inr ⟨TD.r2,.inr ⟨TD.r3,.inl ⟨TD.r4,?_⟩⟩⟩⟩
   push_cast[↓zze]
   exact fin _ _ s
 have good:∀ {ex:List Ch} {tks':List (Key × V)} {M':Md} {H':Hp} {d:Nat},ex.length=d->d<=9->X.at a H' (cs++ex) tks' M'->Snd X M'->SameBut (λx=>X.S.A.F x\/x=X.S.tk) H H'->zgs K a (λ_=>E) (λ_=>E) (zfj Q) [some (.ref X.S.st),some (.int kind),some (.str y),some (.str z),some (.int x),some (.str (Str.ofString ""))] H':=λ{ex tks' M' H' d} h1 h2 I' S' sb=>by
  push_cast[↓zmu]
  exact q _ (cs++ex) tks' M' H' ⟨I',S',six⟩ (by simp;omega) sb
 rcases hk with rfl | rfl | rfl | rfl
 ·push_cast[↓zgh]
  refine jic (by decide) ?_
  push_cast[↓z1b]
  refine⟨_,_,ho,zdi (by decide +kernel),X,cs,tks,M,y,rfl,T4,I.st,by omega,by omega,λ_ hc rec cell er ec hr hcl ex tks' v H' hl _ _ I' sb=> ?_,λ_ H' s=>bad _ (.inl rfl) H' s,λ_ _ H' s=>bad _ (.inr (.inl rfl)) H' s,λ_ _ _ H' s=>bad _ (.inr (.inr (.inr rfl))) H' s⟩
  exact good hl (by omega) I' (I.sd.make hy hr hcl (z2f er) (z2f ec)) sb
 ·push_cast[↓zgh]
  refine jdn (by decide) ?_
  push_cast[↓zh9]
  refine jic (by decide) ?_
  push_cast[↓z1c]
  refine⟨_,_,ho,zdi (by decide +kernel),X,cs,tks,M,y,z,rfl,T4,I.st,by omega,by omega,by omega,λ_ _ hc old rec cell eo hol e0=> ?_,λ_ H' s=>bad _ (.inl rfl) H' s,λ_ _ _ H' s=>bad _ (.inr (.inl rfl)) H' s,λ_ _ _ _ H' s=>bad _ (.inl rfl) H' s,λ_ _ _ _ _ H' s=>bad _ (.inr (.inr (.inr rfl))) H' s⟩
  obtain⟨_,hr,m,ps,e3⟩:=I.sd.m1 old y rec hol e0
  have:=I.sd.few hr e3
  exact⟨hr,m,ps,e3,by omega,λec hcl ex tks' v H' hl _ _ I' sb=>good hl (by omega) I' (I.sd.link hz hr hcl e3 (z2f ec)) sb⟩
 ·push_cast[↓zgh]
  refine jdn (by decide) ?_
  push_cast[↓zh9]
  refine jdn (by decide) ?_
  push_cast[↓zmt]
  refine jic (by decide) ?_
  push_cast[↓z1d]
  refine⟨_,_,ho,zdi (by decide +kernel),X,cs,tks,M,y,rfl,T4,I.st,by omega,λcell rec ec hcl e0=> ?_,λ_ H' s=>bad _ (.inl rfl) H' s⟩
  obtain⟨_,hr,m,ps,e3⟩:=I.sd.m1 cell y rec hcl e0
  have hf:=I.sd.few hr e3
  exact⟨hr,m,ps,e3,λp hp=>((I.sd.m4 rec m ps hr e3).2.1 p hp).1,by omega,λhm ex tks' v H' hl _ _ I' sb=>good hl (by omega) I' (I.sd.cutOne hr hcl e0 e3 hm) sb,λhm ex tks' v H' hl _ _ I' sb=>good hl (by omega) I' (I.sd.cutAll hr hcl e0 e3 hm) sb⟩
 ·push_cast[↓zgh]
  refine jdn (by decide) ?_
  push_cast[↓zh9]
  refine jdn (by decide) ?_
  push_cast[↓zmt]
  refine jdn (by decide) ?_
  push_cast[↓z1f]
  refine jic (by decide) ?_
  push_cast[↓z1e]
  refine⟨_,_,ho,zdi (by decide +kernel),x,rfl,λt H1 htl hts s1=> ?_⟩
  refine⟨X,cs,tks,M,y,t,rfl,T4,I.st.same s1,by omega,hts,by omega,λcell rec ec hcl e0 _ p ep hp=> ?_,λ_ H' s=>bad _ (.inl rfl) H' (s1.trans s),λ_ _ H' s=>bad _ (.inr (.inr (.inl rfl))) H' (s1.trans s),λ_ _ _ H' s=>bad _ (.inr (.inr (.inr rfl))) H' (s1.trans s)⟩
  obtain⟨_,hr,m,ps,e3⟩:=I.sd.m1 cell y rec hcl e0
  have hf:=I.sd.few hr e3
  exact⟨hr,m,ps,e3,by omega,λex tks' v H' hl _ _ I' sb=>good hl (by omega) I' (I.sd.putp hr hp hts e3 (z2f ep)) λb o e n=>sb _ _ (s1 _ _ e) n⟩
theorem z92(h:zfw K a vs H Q E):vs.length=5:=by
 obtain⟨_,_,_,_,_,_,_,_,rfl,_⟩:=h
 rfl
theorem Snd.noBad{X:SX}{M:Md}{y:Str}(S:Snd X M)(h:zbe y=false):cellOf M X.m0 y=none:=by
 cases e:cellOf M X.m0 y with
 | none=>rfl
 | some cell =>
  obtain⟨hc,k,ek⟩:=z3y e
  have:=(S.m1 cell y k hc ek).1
  rw[h]at this
  cases this
theorem z5b(h:zey K a vs H Q E):zlh K a (λ_=>E) (zfj Q) (zbn ["store","kind","bad","name","cell","blocks"] vs) H:=by
 obtain⟨X,cs,tks,M,kind,y,z,x,rfl,T4,I,hcs,hk,hy,hyl,hz,q⟩:=h
 obtain⟨dx,ho⟩:=I.st.ob
 obtain⟨lz,_,hz8⟩:=z2i hz
 have six:=I.six
 have nb:=I.sd.noBad hy
 have noc:∀ {cell:Nat},¬ cellOf M X.m0 y=some cell:=λe=>by rw[nb]at e;cases e
 have hyz:(zbe y && zbe z)=false:=by rw[hy];rfl
 have hzy:(zbe z && zbe y)=false:=by rw[hy,hz];rfl
 have no1:¬ zbe y=true:=by rw[hy];simp
 have qN:kind≠8->kind≠9->kind≠11->z2d a H "NoName" E:=λh1 h2 h3=>by
  have e:zlp X M z kind="NoName":=by unfold zlp;rw[if_neg h3,if_neg λy=>y.1.elim h1 h2]
  rw[e]at q
  exact q
 push_cast[zlh,↓zxc]
 split
 ·rename_i h
  have q:=qN (by omega) (by omega) (by omega)
  push_cast[↓zzj]
  exact⟨_,_,ho,zdi (by decide +kernel),X,cs,tks,M,y,rfl,T4,I.st,by omega,by omega,λh=>absurd h no1,λ_=>q,λh=>absurd h no1,λh=>absurd h no1⟩
 rename_i h0
 push_cast[↓zxb]
 split
 ·rename_i h
  have q:=qN (by omega) (by omega) (by omega)
  push_cast[↓zzk]
  exact⟨_,_,ho,zdi (by decide +kernel),X,cs,tks,M,y,z,rfl,T4,I.st,by omega,by omega,by omega,λh=>absurd h no1,λ_=>q,λh=>absurd h no1,λh=>absurd h no1,λh=>absurd h no1⟩
 rename_i h1
 push_cast[↓zxa]
 split
 ·rename_i h
  have q:=qN (by omega) (by omega) (by omega)
  push_cast[↓zzl]
  exact⟨_,_,ho,zdi (by decide +kernel),X,cs,tks,M,z,y,rfl,T4,I.st,by omega,by omega,by omega,λ_ h=>absurd h no1,λ_=>q,λ_ h=>absurd h no1,λ_ h=>absurd h no1,λ_ h=>absurd h no1⟩
 rename_i h2
 push_cast[↓zw9]
 split
 ·rename_i h
  have q:=qN (by omega) (by omega) (by omega)
  push_cast[↓zzm]
  exact⟨_,_,ho,zdi (by decide +kernel),X,cs,tks,M,y,rfl,T4,I.st,by omega,λ_ _ e=>absurd e noc,λ_=>q⟩
 rename_i h3
 push_cast[↓zw8]
 split
 ·rename_i h
  have q:=qN (by omega) (by omega) (by omega)
  push_cast[↓zzn]
  exact⟨_,_,ho,zdi (by decide +kernel),X,cs,tks,M,y,_,rfl,T4,I.st,by decide +kernel,by decide +kernel,by omega,λ_ _ e=>absurd e noc,λ_=>q,λ⟨_,e⟩=>absurd e noc,λ⟨_,e⟩=>absurd e noc⟩
 rename_i h4
 push_cast[↓zw7]
 split
 ·rename_i h
  have q:=qN (by omega) (by omega) (by omega)
  push_cast[↓zzo]
  exact⟨_,_,ho,zdi (by decide +kernel),X,cs,tks,M,y,_,rfl,T4,I.st,λ_ _ e=>absurd e noc,λ_=>q⟩
 rename_i h5
 push_cast[↓zw6]
 split
 ·rename_i h
  have q:=qN (by omega) (by omega) (by omega)
  push_cast[↓zzp]
  exact⟨_,_,ho,zdi (by decide +kernel),X,cs,tks,M,z,y,rfl,T4,I.st,by omega,by omega,by omega,hzy,q⟩
 rename_i h6
 push_cast[↓zw5]
 split
 ·rename_i h
  have q:=qN (by omega) (by omega) (by omega)
  push_cast[↓zzq]
  exact⟨_,_,ho,zdi (by decide +kernel),X,cs,tks,M,y,rfl,T4,I.st,λ_ _ e=>absurd e noc,λ_=>q⟩
 rename_i h7
 push_cast[↓zw4]
 split
 ·rename_i h
  have q:=qN (by omega) (by omega) (by omega)
  push_cast[↓zzr]
  exact⟨_,_,ho,zdi (by decide +kernel),X,cs,tks,M,y,z,rfl,T4,I.st,by omega,by omega,by omega,hyz,q⟩
 rename_i h10
 push_cast[↓zw3]
 split
 ·rename_i h
  have h:kind=11:=by omega
  subst h
  replace q:z2d a H "NoBlock" E:=by simpa [zlp]using q
  push_cast[↓zwy,↓zwz]
  have cp:jnh 10 30:=⟨by decide,by decide,by decide⟩
  have cd:0<(10:Int) ^ 30:=by decide
  obtain⟨T,TP,TL,TS⟩:=T4
  obtain⟨dl,el⟩:=I.st.ly.ob
  refine⟨_,_,ho,zdi (by decide +kernel),X.S.st,dx,X.S.lp,X.S.A.b,X.S.tk,rfl,TS,ho,X.S.lp,rfl,_,_,el,zgn (by decide +kernel),X.S.lp,X.n,X.r,X.c,X.w,rfl,TL,I.st.ly,?_⟩
  push_cast[]
  have hrl:=I.st.sz.2.2.2.2
  refine⟨_,_,ho,zdi (by decide +kernel),cp,cd,cp,cd,by decide,λl hl=>⟨⟨by decide,by decide⟩,?_⟩⟩
  have s1:=zah (o:=.lst [V.int (-1 - x % 10 ^ 30),V.int ((X.n:Int)+X.r+X.c+X.r+X.c+x % 10 ^ 30)]) hl
  have hn:=Int.emod_nonneg x (b:=(10:Int) ^ 30) (by decide)
  revert s1 hn
  generalize x % 10 ^ 30=w
  intro s1 hn
  have fin:∀ u:Int,(u<0\/(X.rows.length:Int)<=u)->zc6 K a [.ref X.S.st,.int u] (upd H l (.lst [V.int (-1 - w),V.int ((X.n:Int)+X.r+X.c+X.r+X.c+w)])) (λx H1=>Q V.non H1) E:=λu hu=>⟨X,cs,tks,M,u,rfl,⟨T,TP,TL,TS⟩,I.st.same s1,hu,λH' s=>q H' (s1.trans s)⟩
  rcases(by omega:x / 3 % 2=0\/x / 3 % 2=1)with e | e<;>rw[e]
  ·exact ztp (SqL.of zae) (n:=0) rfl rfl (fin _ (by omega))
  ·exact ztp (SqL.of zae) (n:=1) rfl rfl (fin _ (by omega))
 rename_i h11
 push_cast[↓zw2]
 split
 ·rename_i h
  have h:kind=8:=by omega
  subst h
  push_cast[↓zw0]
  have qn:cellOf M X.m0 z=none->z2d a H "NoName" E:=λe=>by simpa [zlp,e]using q
  have qp:(∃ k,cellOf M X.m0 z=some k)->z2d a H "NoPiece" E:=λ⟨k,e⟩=>by simpa [zlp,e]using q
  refine⟨_,_,ho,zdi (by decide +kernel),by decide +kernel,by decide,λl hl=> ?_⟩
  have s1:=zah (o:=.lst [V.str (Str.ofString ""),V.str (jk1 (Str.ofString "-") 41)]) hl
  have fin:∀ t:Str,t.length<=1000->PyData.strOk t=true->ztr t=false->zcv K a [.ref X.S.st,.str z,.str t] (upd H l (.lst [V.str (Str.ofString ""),V.str (jk1 (Str.ofString "-") 41)])) (λx H1=>Q V.non H1) E:=λt h1 h2 h3=>⟨X,cs,tks,M,z,t,rfl,T4,I.st.same s1,h1,h2,by omega,λ_ _ _ _ _ h=>absurd h (by rw[h3];simp),λe H' s=>qn e H' (s1.trans s),λe _ H' s=>qp e H' (s1.trans s),λ_ h=>absurd h (by rw[h3];simp)⟩
  rcases(by omega:x % 2=0\/x % 2=1)with e | e<;>rw[e]
  ·exact ztp (SqL.of zae) (n:=0) rfl rfl (fin _ (by decide +kernel) (by decide +kernel) (by decide +kernel))
  ·exact ztp (SqL.of zae) (n:=1) rfl rfl (fin _ (by decide +kernel) (by decide +kernel) (by decide +kernel))
 rename_i h8
 have h:kind=9:=by omega
 subst h
 push_cast[↓zw1]
 have qn:cellOf M X.m0 z=none->z2d a H "NoName" E:=λe=>by simpa [zlp,e]using q
 have qp:(∃ k,cellOf M X.m0 z=some k)->z2d a H "NoPiece" E:=λ⟨k,e⟩=>by simpa [zlp,e]using q
 have cp:jnh 10 30:=⟨by decide,by decide,by decide⟩
 have cd:0<(10:Int) ^ 30:=by decide
 refine⟨_,_,ho,zdi (by decide +kernel),cp,cd,cp,cd,by decide,λl hl=>⟨⟨by decide,by decide⟩,?_⟩⟩
 have s1:=zah (o:=.lst [V.int (-1 - x % 10 ^ 30),V.int (6+x % 10 ^ 30)]) hl
 have hn:=Int.emod_nonneg x (b:=(10:Int) ^ 30) (by decide)
 revert s1 hn
 generalize x % 10 ^ 30=w
 intro s1 hn
 have fin:∀ u:Int,(u<0\/6<=u)->zca K a [.ref X.S.st,.str z,.int u] (upd H l (.lst [V.int (-1 - w),V.int (6+w)])) (λx H1=>Q V.non H1) E:=λu hu=>⟨X,cs,tks,M,z,u,rfl,T4,I.st.same s1,λcell rec ec hcl e0=>by
  obtain⟨_,hr,m,ps,e3⟩:=I.sd.m1 cell z rec hcl e0
  have hf:=I.sd.few hr e3
  exact⟨hr,m,ps,e3,by omega,by omega,λH' s=>qp ⟨cell,ec⟩ H' (s1.trans s)⟩,λe H' s=>qn e H' (s1.trans s)⟩
 rcases(by omega:x / 3 % 2=0\/x / 3 % 2=1)with e | e<;>rw[e]
 ·exact ztp (SqL.of zae) (n:=0) rfl rfl (fin _ (by omega))
 ·exact ztp (SqL.of zae) (n:=1) rfl rfl (fin _ (by omega))
theorem z7p(h:zey K a vs H Q E):vs.length=5:=by
 obtain⟨_,_,_,_,_,_,_,_,rfl,_⟩:=h
 rfl
theorem jgg(X:SX)(M:Md)(z:Str)(kind:Nat):zlp X M z kind="NoName"\/zlp X M z kind="NoPiece"\/zlp X M z kind="NoBlock":=by
 unfold zlp
 split
 ·exact .inr (.inr rfl)
 ·split
  ·exact .inr (.inl rfl)
  ·exact .inl rfl
theorem z10(h:zc7 K a vs H Q E):ziw K a (λ_=>E) (zfj Q) (zbn ["store","kind","bad","name","cell","due","kinds","right","other","e"] vs) H:=by
 obtain⟨X,cs,tks,M,kind,y,z,x,rfl,T4,T,I,hcs,hk,hy,hyl,hz,q⟩:=h
 push_cast[ziw,↓zur,↓zus,↓zut,↓zuy,↓zuu]
 refine⟨by decide,λl0 hl0=> ?_⟩
 have s0:=zah (o:=.lst []) hl0
 refine⟨X,cs,tks,M,kind,y,z,x,rfl,T4,⟨I.st.same s0,I.sd,I.six⟩,hcs,hk,hy,hyl,hz,λH1 s1=> ?_⟩
 have s01:=s0.trans s1
 have fin:∀ (c:String) (b1 b2 b3:Bool),TE1 K a c b1 b2 b3->(decide (Str.ofString c=Str.ofString "NoName")=b1/\decide (Str.ofString c=Str.ofString "NoPiece")=b2/\decide (Str.ofString c=Str.ofString "NoBlock")=b3)->z6s (λcls=>W.exmOne K cls (.ref (a "HoldError"))) 9 (zby (zjg K a (λ_=>E) λ_=>E) (zby (zjh K a (λ_=>E) λ_=>E) (zji K a (λ_=>E) λ_=>E))) jc2 (.ref (a c)) { nx:=zjj K a (λ_=>E) (λ_=>E) (zfj Q),rt:=Q } [some (.ref X.S.st),some (.int kind),some (.str y),some (.str z),some (.int x),some (.str (Str.ofString c)),some (.ref l0),some (.bl false),some (.bl false),none] H1:=λc b1 b2 b3 TE hd=>by
  refine .inl ⟨TE.hit,λe he=> ?_⟩
  have se:=zah (o:=.ext (z4l e (.ref (a c)))) he
  have ty:∀ {H':Hp},Same (upd H1 e (.ext (z4l e (.ref (a c))))) H'->TyX K H' (.ref e) (.ref (a c)):=λs=>.inr ⟨e,a c,rfl,rfl,s _ _ zae,TE.ec⟩
  push_cast[↓zuv]
  refine zrh (ty (Same.refl _)) (.own _) TE.i1 (zrh (ty (Same.refl _)) (.own _) TE.i2 (zrh (ty (Same.refl _)) (.own _) TE.i3 ⟨by decide,λl1 hl1=> ?_⟩))
  have s1':=zah (o:=.lst [V.bl b1,V.bl b2,V.bl b3]) hl1
  push_cast[↓zuw]
  refine⟨by decide,λu hu=> ?_⟩
  have su:=zah (o:=.tup [V.ref (a "NoChange"),V.ref (a "NoRoom"),V.ref (a "NoRow"),V.ref (a "NotSound"),V.ref (a "Twice")]) hu
  refine jc8 (ty (s1'.trans su)) (SqT.of zae) (.cons (.own _) (.cons (.own _) (.cons (.own _) (.cons (.own _) (.cons (.own _) .nil))))) TE.no ?_
  push_cast[↓zux]
  refine zrh (ty (s1'.trans su)) (.ty _) TE.iv ?_
  push_cast[↓zuz]
  refine⟨by decide,λp hp=> ?_⟩
  rw[hd.1,hd.2.1,hd.2.2]
  have sp:=zah (o:=.lst [V.bl b1,V.bl b2,V.bl b3]) hp
  have db:∀ {X:Hp} {b:Bool},Dat K X 1 (.bl b) (.bool b):=λ{X b}=>⟨.bl b,rfl,Nat.zero_le _⟩
  exact jiz (n:=2) (by decide) (Dat.lst (SqL.of (sp _ _ (su _ _ zae))) (.cons db (.cons db (.cons db .nil)))) (Dat.lst (SqL.of zae) (.cons db (.cons db (.cons db .nil)))) (q _ ((((s01.trans se).trans s1').trans su).trans sp))
 rcases jgg X M z kind with e | e | e<;>rw[e]
 ·exact fin _ _ _ _ T.n (by decide +kernel)
 ·exact fin _ _ _ _ T.p (by decide +kernel)
 ·exact fin _ _ _ _ T.b (by decide +kernel)
theorem z37(h:zc7 K a vs H Q E):vs.length=6:=by
 obtain⟨_,_,_,_,_,_,_,_,rfl,_⟩:=h
 rfl
theorem jcn{M:Md}:∀ {ps:List Nat} {P:Nat->Str->Prop},(∀ p∈ps,∃ t,P p t)->∃ ts,Paired P ps ts
 | [],_,_=>⟨[],.nil⟩
 | p::ps,P,h=>by
  obtain⟨t,ht⟩:=h p List.mem_cons_self
  obtain⟨ts,hts⟩:=jcn (M:=M) λq hq=>h q (List.mem_cons_of_mem _ hq)
  exact⟨t::ts,.cons ht hts⟩
theorem z7q(h:ze3 K a vs H Q E):znm K a (λ_=>E) (zfj Q) (zbn ["store","name","texts","told","kept"] vs) H:=by
 obtain⟨X,cs,tks,M,z,rfl,T4,TD,I,q⟩:=h
 have T4':=T4
 obtain⟨T,TP,TL,TS⟩:=T4
 obtain⟨dx,ho⟩:=I.st.ob
 obtain⟨db,eb⟩:=I.st.bk.bk.ob
 have six:=I.six
 have hsz:=I.st.bk.bk.sz
 have tail:∀ (v:V) (o:Option (List Str)) (H1:Hp),Same H H1->TxtOf X M z o->(match o with
  | none=>v=.non
  | some ts=>∃ l2,v=.ref l2/\H1 l2=some (.lst (ts.map V.str)))->zni K a (λ_=>E) (λ_=>E) { nx:=zby (znj K a (λ_=>E) λ_=>E) (zby (znk K a (λ_=>E) λ_=>E) (znl K a (λ_=>E) λ_=>E)) (zfj Q),rt:=Q } [some (.ref X.S.st),some (.str z),some v,none,none] H1:=λv o H1 s1 hto hv=>by
  push_cast[↓z06]
  refine⟨_,_,s1 _ _ ho,zdi (by decide +kernel),X.S.st,dx,X.S.lp,X.S.A.b,X.S.tk,rfl,TS,s1 _ _ ho,X.S.A.b,rfl,_,_,s1 _ _ eb,zlo (by decide +kernel),X.S.A,X.w,X.rows,X.nn,cs,X.outs,rfl,T,I.st.bk.same s1,λl3 H2 hl3 s2 e3=> ?_⟩
  push_cast[↓z07]
  refine⟨_,.inl (SqL.of e3),λl hl=> ?_⟩
  have sl:=zah (o:=.lst (zks (z20 cs.length X.outs))) hl
  have n3:l3≠l:=zay e3 hl
  push_cast[↓z08]
  refine⟨.inl ⟨rfl,_,SqL.of (sl _ _ e3)⟩,l3,_,rfl,rfl,sl _ _ e3,?_⟩
  have s4:Same H1 (upd (upd H2 l (.lst (zks (z20 cs.length X.outs)))) l3 (.lst [])):=λb o e=>by
   rw[zal (zay e hl3)]
   exact sl _ _ (s2 _ _ e)
  have e4:upd (upd H2 l (.lst (zks (z20 cs.length X.outs)))) l3 (.lst []) l=some (.lst (zks (z20 cs.length X.outs))):=by rw[zal n3.symm,zae]
  revert s4 e4
  generalize upd (upd H2 l (.lst (zks (z20 cs.length X.outs)))) l3 (.lst [])=H4
  intro s4 e4
  have s14:=s1.trans s4
  push_cast[↓z09]
  refine⟨_,_,s14 _ _ ho,zdi (by decide +kernel),X,cs,tks,M,rfl,T4',I.st.same s14,λl1 ks H5 hl1 s5 e5 pk hk=> ?_⟩
  have s15:=s14.trans s5
  refine⟨_,_,s15 _ _ ho,zdi (by decide +kernel),X.S.st,dx,X.S.lp,X.S.A.b,X.S.tk,rfl,TS,s15 _ _ ho,X.S.A.b,rfl,_,_,s15 _ _ eb,zlo (by decide +kernel),X.S.A,X.w,X.rows,X.nn,cs,X.outs,rfl,T,I.st.bk.same s15,λl6 H6 hl6 s6 e6=> ?_⟩
  have dn:Paired (Dat K H6 1) (zks (z20 cs.length X.outs)) (((z20 cs.length X.outs).map λ(k:Nat)=>(k:Int)).map PyData.int):=by
   rw[z9v]
   exact z64 _
  refine jiz (n:=2) (by decide) (Dat.lst (SqL.of e6) dn) (Dat.lst (SqL.of (s6 _ _ (s5 _ _ e4))) dn) ⟨by decide,λt ht=> ?_⟩
  have st:=zah (o:=.tup [V.ref l1,v,V.ref l,V.bl true]) ht
  have s7:=s6.trans st
  refine q t _ ⟨l1,l,ks,v,o,zae,s7 _ _ e5,pk,hk,hto,?_,s7 _ _ (s5 _ _ e4)⟩ (s15.trans s7)
  cases o with
  | none=>exact hv
  | some ts =>
   obtain⟨l2,rfl,e2⟩:=hv
   exact⟨l2,rfl,s7 _ _ (s5 _ _ (s4 _ _ e2))⟩
 push_cast[znm,↓z02,↓z05,↓z03]
 refine⟨_,_,ho,zdi (by decide +kernel),X,cs,tks,M,z,rfl,T4',I.st,λcell rec ec hcl e0=> ?_,λec H1 s1=>.inl ⟨TD.n1,?_⟩⟩
 ·obtain⟨_,hr,m,ps,e3⟩:=I.sd.m1 cell z rec hcl e0
  have hf:=I.sd.few hr e3
  obtain⟨_,h2,_⟩:=I.sd.m4 rec m ps hr e3
  obtain⟨ts,hts⟩:=jcn (M:=M) (P:=λp t=>p<X.c * X.w/\M 4 p=.tx t/\PyData.strOk t=true) λp hp=>by
   obtain⟨h3,_,t,h4,h5⟩:=h2 p hp
   exact⟨t,h3,h4,h5⟩
  refine⟨hr,m,ps,e3,by omega,ts,Paired.mapP hts λp t h=>⟨h.1,h.2.1⟩,λl H1 hl s1 el=> ?_⟩
  exact tail (.ref l) (some ts) H1 s1 ⟨cell,rec,m,ps,ec,e0,e3,Paired.mapP hts λp t h=>h.2⟩ ⟨l,rfl,el⟩
 ·push_cast[↓z04]
  exact tail .non none H1 s1 ec rfl
theorem z93(h:ze3 K a vs H Q E):vs.length=2:=by
 obtain⟨_,_,_,_,_,rfl,_⟩:=h
 rfl
theorem LookAt.same{X:SX}{cs:List Ch}{M:Md}{z:Str}{H H':Hp}{t:Addr}(L:LookAt X cs M z H t)(s:Same H H'):LookAt X cs M z H' t:=by
 obtain⟨l1,l3,ks,v,o,e1,e2,pk,hk,ho,hv,e3⟩:=L
 refine⟨l1,l3,ks,v,o,s _ _ e1,s _ _ e2,pk,hk,ho,?_,s _ _ e3⟩
 cases o with
 | none=>exact hv
 | some ts =>
  obtain⟨l2,rfl,e⟩:=hv
  exact⟨l2,rfl,s _ _ e⟩
theorem z94{M:Md}{P:Nat->Str->Prop}(hP:∀ p t t',P p t->P p t'->t=t'):∀ {ps:List Nat} {ts ts':List Str},Paired P ps ts->Paired P ps ts'->ts=ts'
 | _,_,_,.nil,.nil=>rfl
 | _,_,_,.cons h t,.cons h' t'=>by rw[hP _ _ _ h h',z94 (M:=M) hP t t']
theorem TxtOf.uniq{X:SX}{M:Md}{z:Str}{o o':Option (List Str)}(h:TxtOf X M z o)(h':TxtOf X M z o'):o=o':=by
 cases o with
 | none =>
  cases o' with
  | none=>rfl
  | some ts =>
   obtain⟨_,_,_,_,e,_⟩:=h'
   rw[show cellOf M X.m0 z=none from h]at e
   cases e
 | some ts =>
  cases o' with
  | none =>
   obtain⟨_,_,_,_,e,_⟩:=h
   rw[show cellOf M X.m0 z=none from h']at e
   cases e
  | some ts' =>
   obtain⟨c,r,m,ps,e,e0,e3,p⟩:=h
   obtain⟨c',r',m',ps',e',e0',e3',p'⟩:=h'
   rw[e]at e'
   cases e'
   rw[e0]at e0'
   cases e0'
   rw[e3]at e3'
   cases e3'
   rw[z94 (M:=M) (λp t t' h h'=>by have:=h.1.symm.trans h'.1;cases this;rfl) p p']
theorem jid{X:SX}{M:Md}(S:Snd X M):∀ z∈zpe M X.m0,zbe z=true:=λz hz=>by
 unfold zpe at hz
 obtain⟨k,hk,e⟩:=List.mem_filterMap.mp hz
 cases en:z77 M k with
 | none=>rw[en]at e;cases e
 | some p =>
  rw[en]at e
  cases e
  unfold z77 at en
  cases ec:M 0 k with
  | nm y r =>
   rw[ec]at en
   cases en
   exact(S.m1 k y r (List.mem_range.mp hk) ec).1
  | _=>rw[ec]at en;cases en
theorem jgh{X:SX}{M:Md}{z:Str}:z∈zpe M X.m0↔(cellOf M X.m0 z).isSome=true:=by
 unfold zpe cellOf
 rw[List.find?_isSome,List.mem_filterMap]
 refine exists_congr λk=>and_congr Iff.rfl ?_
 cases z77 M k with
 | none=>simp
 | some p=>simp
theorem zxs{n:Nat}:∀ {l:List Str},(∀ z∈l,PyData.strOk z=true)->Paired (Dat K H n) (l.map V.str) (l.map PyData.str)
 | [],_=>.nil
 | z::r,h=>.cons ⟨.str z,h z List.mem_cons_self,Nat.zero_le _⟩ (zxs λy hy=>h y (List.mem_cons_of_mem _ hy))
theorem z95{P:Nat->Str->Prop}(hP:∀ p t,P p t->PyData.strOk t=true):∀ {ps:List Nat} {ts:List Str},Paired P ps ts->∀ t∈ts,PyData.strOk t=true
 | _,_,.nil,t,h=>by cases h
 | _,_,.cons h r,t,ht=>by
  rcases List.mem_cons.mp ht with rfl | ht
  ·exact hP _ _ h
  ·exact z95 hP r t ht
theorem jie{X:SX}{cs:List Ch}{M:Md}{z:Str}(S:Snd X M){t t':Addr}(L:LookAt X cs M z H t)(L':LookAt X cs M z H t'):∃ d,Dat K H 5 (.ref t) d/\Dat K H 5 (.ref t') d:=by
 obtain⟨l1,l3,ks,v,o,e1,e2,pk,hk,ho,hv,e3⟩:=L
 obtain⟨l1',l3',ks',v',o',e1',e2',pk',hk',ho',hv',e3'⟩:=L'
 have:=z9a hk hk' (pk.trans pk'.symm)
 subst this
 have:=ho.uniq ho'
 subst this
 have okk:∀ z∈ks,PyData.strOk z=true:=λz hz=>z7g (jid S z (pk.mem_iff.mp hz))
 have dn:Paired (Dat K H 3) (zks (z20 cs.length X.outs)) (((z20 cs.length X.outs).map λ(k:Nat)=>(k:Int)).map PyData.int):=by
  rw[z9v]
  exact z64 _
 have dv:∃ d,Dat K H 4 v d/\Dat K H 4 v' d:=by
  cases o with
  | none =>
   rw[show v=.non from hv,show v'=.non from hv']
   exact⟨_,Dat.non,Dat.non⟩
  | some ts =>
   obtain⟨l2,rfl,e⟩:=hv
   obtain⟨l2',rfl,e'⟩:=hv'
   obtain⟨_,_,_,_,_,_,_,p⟩:=ho
   have ok:=z95 (λp t h=>h.2) p
   exact⟨_,Dat.lst (SqL.of e) (zxs ok),Dat.lst (SqL.of e') (zxs ok)⟩
 obtain⟨dv,d1,d2⟩:=dv
 have db:Dat K H 4 (.bl true) (.bool true):=⟨.bl true,rfl,Nat.zero_le _⟩
 exact⟨_,Dat.tup (SqT.of e1) (.cons (Dat.lst (SqL.of e2) (zxs okk)) (.cons d1 (.cons (Dat.lst (SqL.of e3) dn) (.cons db .nil)))),Dat.tup (SqT.of e1') (.cons (Dat.lst (SqL.of e2') (zxs okk)) (.cons d2 (.cons (Dat.lst (SqL.of e3') dn) (.cons db .nil))))⟩
theorem jco{z:Str}:∀ {ks:List Str},inV (.str z) (ks.map V.str)=decide (z∈ks)
 | []=>by simp[inV]
 | k::ks=>by
  have ih:=jco (z:=z) (ks:=ks)
  unfold inV at ih ⊢
  rw[List.map_cons,List.any_cons,ih,Bool.eq_iff_iff]
  simp[eqV]
  exact or_congr ⟨λh=>h.symm,λh=>h.symm⟩ Iff.rfl
theorem jif(ns:List Int)(lo hi:Option Int):∃ ms:List Int,jg1 (ns.map V.int) lo hi=ms.map V.int/\ms.length<=ns.length:=by
 unfold jg1
 rw[<-List.map_drop,<-List.map_take]
 exact⟨_,rfl,by simp;omega⟩
theorem ji2{X:SX}{cs:List Ch}{tks:List (Key × V)}{M:Md}{s nl:Addr}{cell:Int}{z:Str}{kind:Nat}{y8:Option V}{D:Ends}(T4:TS4 K a)(TX:TX4 K a)(J:K4 a H X cs tks M)(hcs:cs.length<850)(hz:zbe z=true)(hk:kind<12)(hD:∀ y8' H9,Same H H9->D.nx [some (.ref s),some (.int cell),some (.ref X.S.lp),some (.ref X.S.st),some (.ref nl),some (.str z),some (.int kind),some (.str (Str.ofString (zlp X M z kind))),y8'] H9) :
  zxd K a (λ_=>E) (λ_=>E) { nx:=zby (zxe K a (λ_=>E) λ_=>E) (zby (zxf K a (λ_=>E) λ_=>E) (zxg K a (λ_=>E) λ_=>E)) D,rt:=D.rt,bk:=D.bk,ct:=D.ct } [some (.ref s),some (.int cell),some (.ref X.S.lp),some (.ref X.S.st),some (.ref nl),some (.str z),some (.int kind),some (.str (Str.ofString (zlp X M z kind))),y8] H:=by
 have J':∀ {H':Hp},Same H H'->K4 a H' X cs tks M:=λs=>⟨J.st.same s,J.sd,J.six⟩
 push_cast[↓z9n]
 refine⟨X,cs,tks,M,z,rfl,T4,TX.d,J,λt H1 L1 s1=> ?_⟩
 push_cast[↓z9o]
 refine⟨⟨by decide,by decide⟩,_,z,rfl,hz,λy H2 hy hyl s2=> ?_⟩
 have s12:=s1.trans s2
 refine⟨⟨by decide,by decide⟩,X,cs,tks,M,kind,y,z,_,rfl,T4,TX,J' s12,hcs,hk,hy,hyl,hz,λH3 s3=> ?_⟩
 have s13:=s12.trans s3
 have L3:=L1.same (s2.trans s3)
 push_cast[↓z9p]
 obtain⟨l1,l3,ks,v,o,e1,_⟩:=L3
 refine zgm e1 (n:=3) rfl rfl ?_
 push_cast[]
 refine⟨X,cs,tks,M,z,rfl,T4,TX.d,J' s13,λt' H4 L4 s4=> ?_⟩
 obtain⟨d,d1,d2⟩:=jie (K:=K) J.sd L4 (L1.same ((s2.trans s3).trans s4))
 refine jmq (n:=5) (by decide) d1 d2 ?_
 have s14:=s13.trans s4
 push_cast[↓z9q]
 refine⟨⟨by decide,by decide⟩,_,z,rfl,hz,λy2 H5 hy2 hyl2 s5=> ?_⟩
 have s15:=s14.trans s5
 refine⟨⟨by decide,by decide⟩,X,cs,tks,M,kind,y2,z,_,rfl,T4,TX,J' s15,hcs,hk,hy2,hyl2,hz,λH6 s6=> ?_⟩
 push_cast[]
 exact hD _ _ (s15.trans s6)
theorem jgi{X:SX}{cs:List Ch}{tks:List (Key × V)}{M:Md}{s nl:Addr}{cell:Int}{z:Str}{kind:Nat}{y8:Option V}{D:Ends}{d:String}(T4:TS4 K a)(TX:TX4 K a)(J:K4 a H X cs tks M)(hcs:cs.length<850)(hz:zbe z=true)(hk:kind<12)(hd:kind≠11->d=zlp X M z kind)(hD:∀ y7 y8' H9,Same H H9->D.nx [some (.ref s),some (.int cell),some (.ref X.S.lp),some (.ref X.S.st),some (.ref nl),some (.str z),some (.int kind),y7,y8'] H9) :
  z3g K a (λ_=>E) (λ_=>E) { nx:=zby (zxd K a (λ_=>E) λ_=>E) (zby (zxe K a (λ_=>E) λ_=>E) (zby (zxf K a (λ_=>E) λ_=>E) (zxg K a (λ_=>E) λ_=>E))) D,rt:=D.rt,bk:=D.bk,ct:=D.ct } [some (.ref s),some (.int cell),some (.ref X.S.lp),some (.ref X.S.st),some (.ref nl),some (.str z),some (.int kind),some (.str (Str.ofString d)),y8] H:=by
 push_cast[↓z9m,↓z9l]
 split
 ·rename_i h
  have h:kind=11:=by omega
  have e:zlp X M z kind="NoBlock":=by unfold zlp;rw[if_pos h]
  have:=ji2 (E:=E) (D:=D) (s:=s) (nl:=nl) (cell:=cell) (y8:=y8) T4 TX J hcs hz hk λy8' H9 s9=>hD _ y8' H9 s9
  rw[e]at this
  exact this
 ·rename_i h
  rw[hd (by omega)]
  exact ji2 (D:=D) T4 TX J hcs hz hk λy8' H9 s9=>hD _ y8' H9 s9
def jop(a:Ad)(X:SX)(s nl r0:Addr)(zs:List Str)(ms:List Int)(i:Nat)(σ:St)(H':Hp):Prop:=(∃ cs tks M,K4 a H' X cs tks M/\cs.length<=9 * i/\H' nl=some (.lst (zs.map V.str))/\H' r0=some (.lst (ms.map V.int)))/\∃ y1 y5 y6 y7 y8,σ=[some (.ref s),y1,some (.ref X.S.lp),some (.ref X.S.st),some (.ref nl),y5,y6,y7,y8]
theorem jig(h:z6f K a vs H Q E):jck K a (λ_=>E) (zfj Q) (zbn ["script","cell","layout","store","names","name","kind","due","ahead"] vs) H:=by
 obtain⟨s,ns,rfl,T4,TX,hs,hl,q⟩:=h
 have T4':=T4
 obtain⟨T,TP,TL,TS⟩:=T4
 push_cast[jck,↓ja5,↓zx8]
 refine⟨ns,0,rfl,hs,by omega,?_⟩
 generalize z2z ns 0=x
 obtain⟨n,en,hn⟩:∃ n:Nat,1+x % 2=n/\1<=n/\n<=2:=⟨(1+x % 2).toNat,by omega,by omega⟩
 obtain⟨r,er,hr⟩:∃ n:Nat,1+x / 2 % 2=n/\1<=n/\n<=2:=⟨(1+x / 2 % 2).toNat,by omega,by omega⟩
 obtain⟨c,ec,hc⟩:∃ n:Nat,1+x / 4 % 2=n/\1<=n/\n<=2:=⟨(1+x / 4 % 2).toNat,by omega,by omega⟩
 obtain⟨w,ew,hw⟩:∃ n:Nat,1+x / 8 % 3=n/\1<=n/\n<=3:=⟨(1+x / 8 % 3).toNat,by omega,by omega⟩
 push_cast[↓ja6,en,er,ec,ew]
 refine⟨⟨by decide,by decide⟩,⟨by decide,by decide⟩,⟨by decide,by decide⟩,λlp dl hlp hdl ndl=> ?_⟩
 have s0:Same H (upd (upd H dl (.own lp)) lp (.ins (a "Layout") dl [])):=(zah hdl).trans (zah (by rw[zal ndl.symm];exact hlp))
 refine⟨lp,dl,n,r,c,w,rfl,TL,zae,by omega,by omega,by omega,hw.1,by omega,λH2 L2 sb2=>⟨rfl,?_⟩⟩
 have s2:Same H H2:=λy o e=>sb2 _ _ (s0 _ _ e) (zay e hlp)
 clear s0 sb2
 obtain⟨dl2,el⟩:=L2.ob
 push_cast[↓ja7]
 refine⟨_,_,el,zgn (by decide +kernel),lp,n,r,c,w,rfl,TL,TP,L2,λgp cl H3 hgp hcl P3 s3 st dst hst hdst ndst=> ?_⟩
 have s4:Same H3 (upd (upd H3 dst (.own st)) st (.ins (a "Store") dst [])):=(zah hdst).trans (zah (by rw[zal ndst.symm];exact hst))
 have hN:∀ r'∈List.replicate (n+r+c+r+c) (List.replicate w V.non),∀ v∈r',v=.non:=λr' hr' v hv=>by
  rw[List.eq_of_mem_replicate hr']at hv
  exact List.eq_of_mem_replicate hv
 refine⟨st,dst,lp,gp,cl,n,r,c,w,_,0,λ_ _=>.no,rfl,T4',zae,(L2.same s3).same s4,P3.same s4,⟨by omega,by omega,by omega,by omega,by simp⟩,(λr' hr' v hv=>by rw[hN r' hr' v hv];trivial),λkind k v h1 hk hv=> ?_,λ_ _ _ _=>trivial,λS H5 e1 e2 e3 e4 off htk I sb5=>⟨rfl,?_⟩⟩
 ·unfold zhx at hv
  have:zes [] (zij n r c w kind k:Nat) (k % w:Nat)=none:=rfl
  rw[this]at hv
  obtain⟨r',er',ev⟩:=Option.bind_eq_some_iff.mp hv
  exact hN r' (List.mem_of_getElem? er') v (List.mem_of_getElem? ev)
 subst e1 e2
 have s35:Same H3 H5:=λy o e=>sb5 _ _ (s4 _ _ e) (zay e hst)
 have s25:Same H2 H5:=s3.trans s35
 obtain⟨X,eX⟩:∃ X:SX,X=⟨S,n,r,c,w,List.replicate (n+r+c+r+c) (List.replicate w V.non),0,λ_=>false⟩:=⟨_,rfl⟩
 have I5:K4 a H5 X [] [] (λ_ _=>.no):=by
  subst eX
  exact⟨I,⟨λk z rec _ e=>(by cases e),λrec m ps _ e=>(by cases e),λrec m ps _ e=>(by cases e),λrec rec' m m' ps ps' p _ _ _ e=>(by cases e)⟩,Nat.le_trans (Nat.mul_le_mul hc.2 hw.2) (by decide)⟩
 have hst5:S.st=X.S.st/\S.lp=X.S.lp:=by subst eX;exact⟨rfl,rfl⟩
 have hs5:=s25.seq (s2.seq hs)
 rw[hst5.1,hst5.2]
 clear hN eX I off sb5 htk s35 s4 hst5
 push_cast[↓ja8]
 refine⟨⟨by decide,by decide⟩,x / 24,rfl,λnl zs H6 hnl s6 enl hz5 hzs=> ?_⟩
 push_cast[↓z9s]
 refine jph (s6.seq hs5) λr0 hr0=> ?_
 obtain⟨ms,ems,hms⟩:=jif ns (some 1) none
 rw[ems]
 have s7:=zah (o:=.lst (ms.map V.int)) hr0
 have I7:K4 a (upd H6 r0 (.lst (ms.map V.int))) X [] [] (λ_ _=>.no):=⟨(I5.st.same s6).same s7,I5.sd,I5.six⟩
 have e7:upd H6 r0 (.lst (ms.map V.int)) r0=some (.lst (ms.map V.int)):=zae
 have n7:=s7 _ _ enl
 have f1:¬ X.S.A.F nl:=I5.st.bk.off hnl
 have f2:¬ X.S.A.F r0:=(I5.st.same s6).bk.off hr0
 have f3:nl≠X.S.tk:=λy=>by rw[y,I5.st.tk]at hnl;cases hnl
 have f4:r0≠X.S.tk:=λy=>by rw[y,(I5.st.same s6).tk]at hr0;cases hr0
 revert I7 e7 n7
 generalize upd H6 r0 (.lst (ms.map V.int))=H7
 intro I7 e7 n7
 refine⟨r0,rfl,.inl ⟨⟨_,SqL.of e7⟩,z2u (xs:=ms.map V.int) (jop a X s nl r0 zs ms) ⟨⟨_,_,_,I7,Nat.zero_le _,n7,e7⟩,_,_,_,_,_,rfl⟩ (λi σ H' _ ⟨⟨_,_,_,_,_,_,e⟩,_⟩=>SqL.of e) (λi v σ H' hx ⟨⟨cs,tks,M,J,hcs,nJ,eJ⟩,y1,y5,y6,y7,y8,ez⟩=> ?_) (λσ H' ⟨⟨cs,tks,M,J,hcs,nJ,eJ⟩,y1,y5,y6,y7,y8,ez⟩=> ?_)⟩⟩
 ·subst ez
  have hi:=(List.getElem?_eq_some_iff.mp hx).1
  rw[List.length_map]at hi
  obtain⟨cell,_,rfl⟩:=List.mem_map.mp (List.mem_of_getElem? hx)
  have nm:∀ {H':Hp} {u:Int} {Q:VK},H' nl=some (.lst (zs.map V.str))->(∀ z,zbe z=true->Q (.str z) H')->zht K (.ref nl) (.int (u % 5)) H' Q:=λ{H' u Q} e q=>by
   obtain⟨b,eb,hb⟩:=znr u (n:=5) (by omega)
   rw[show((5:Nat):Int)=5 from rfl]at eb
   have hbl:b<zs.length:=by omega
   have ez:=List.getElem?_eq_getElem hbl
   rw[eb]
   exact ztp (SqL.of e) rfl (by rw[List.getElem?_map,ez];rfl) (q _ (hzs _ (List.mem_of_getElem? ez)))
  push_cast[↓ja9]
  refine⟨⟨by decide,by decide⟩,nm nJ λz hz=> ?_⟩
  push_cast[↓jbc,↓jba,↓jbb]
  split
  ·refine⟨by decide,λl4 hl4=>⟨⟨by decide,by decide⟩,?_⟩⟩
   have s4:=zah (o:=.lst [V.int 0,V.int 2,V.int 3,V.int 4]) hl4
   obtain⟨kind,ek,hk⟩:∃ kind:Nat,([V.int 0,V.int 2,V.int 3,V.int 4])[(cell / 30 % 4).toNat]? =some (.int kind)/\(kind=0\/kind=2\/kind=3\/kind=4):=by
    rcases(by omega:cell / 30 % 4=0\/cell / 30 % 4=1\/cell / 30 % 4=2\/cell / 30 % 4=3)with e | e | e | e<;>rw[e]
    ·exact⟨0,rfl,.inl rfl⟩
    ·exact⟨2,rfl,.inr (.inl rfl)⟩
    ·exact⟨3,rfl,.inr (.inr (.inl rfl))⟩
    ·exact⟨4,rfl,.inr (.inr (.inr rfl))⟩
   refine ztp (SqL.of zae) (n:=(cell / 30 % 4).toNat) (by omega) ek ⟨⟨by decide,by decide⟩,nm (s4 _ _ nJ) λz2 hz2=>⟨⟨by decide,by decide⟩,?_⟩⟩
   refine⟨X,cs,tks,M,kind,z,z2,_,rfl,T4',TX.d,⟨J.st.same s4,J.sd,J.six⟩,by omega,hk,hz,hz2,λv cs' tks' M' H8 J8 hl8 sb8=> ?_⟩
   exact⟨⟨cs',tks',M',J8,by omega,sb8 _ _ (s4 _ _ nJ) λy=>y.elim f1 f3,sb8 _ _ (s4 _ _ eJ) λy=>y.elim f2 f4⟩,_,_,_,_,_,rfl⟩
  ·obtain⟨kind,ekd,hkd⟩:=znr (cell / 30) (n:=12) (by omega)
   rw[show((12:Nat):Int)=12 from rfl]at ekd
   push_cast[↓jbd,↓z9f,↓z9j]
   rw[ekd]
   refine⟨⟨by decide,by decide⟩,by decide,λp hp=>⟨p,_,rfl,.inr (SqT.of zae),rfl,rfl,?_⟩⟩
   have sp:=zah (o:=.tup [V.int 8,V.int 9]) hp
   have J8:K4 a (upd H' p (.tup [V.int 8,V.int 9])) X cs tks M:=⟨J.st.same sp,J.sd,J.six⟩
   have n8:=sp _ _ nJ
   have e8:=sp _ _ eJ
   revert J8 n8 e8
   generalize upd H' p (.tup [V.int 8,V.int 9])=H8
   intro J8 n8 e8
   have nx:∀ {y7 y8':Option V} {H9:Hp},Same H8 H9->(∃ cs tks M,K4 a H9 X cs tks M/\cs.length<=9 * (i+1)/\H9 nl=some (.lst (zs.map V.str))/\H9 r0=some (.lst (ms.map V.int))):=λs9=>⟨cs,tks,M,⟨J8.st.same s9,J8.sd,J8.six⟩,by omega,s9 _ _ n8,s9 _ _ e8⟩
   refine⟨_,rfl,?_⟩
   have hin:inV (V.int kind) [V.int 8,V.int 9]=decide (kind=8\/kind=9):=by
    rw[Bool.eq_iff_iff]
    simp[inV,eqV]
    omega
   by_cases h89:kind=8\/kind=9
   ·rw[if_pos (by rw[hin];exact decide_eq_true h89)]
    obtain⟨dx8,ho8⟩:=J8.st.ob
    refine⟨_,_,ho8,zdi (by decide +kernel),X,cs,tks,M,rfl,T4',J8.st,λl ks H9 hl9 s9 el9 pk hks=> ?_⟩
    have J9:K4 a H9 X cs tks M:=⟨J8.st.same s9,J8.sd,J8.six⟩
    refine⟨l,_,rfl,.inl (SqL.of el9),rfl,List.all_eq_true.mpr λv hv=>(by obtain⟨y,_,rfl⟩:=List.mem_map.mp hv;rfl),_,rfl,?_⟩
    have hin2:inV (V.str z) (ks.map V.str)=(cellOf M X.m0 z).isSome:=by
     rw[jco,Bool.eq_iff_iff,decide_eq_true_iff,pk.mem_iff,jgh]
    by_cases hcz:(cellOf M X.m0 z).isSome=true
    ·rw[if_pos (by rw[hin2];exact hcz)]
     push_cast[↓z9h]
     exact jgi (d:="NoPiece") T4' TX J9 (by omega) hz hkd (λh11=>by unfold zlp;rw[if_neg h11,if_pos ⟨h89,hcz⟩]) λy7 y8' H10 s10=>⟨nx (y7:=y7) (y8':=y8') (s9.trans s10),_,_,_,_,_,rfl⟩
    ·rw[if_neg (by rw[hin2];exact hcz)]
     exact jgi (d:="NoName") T4' TX J9 (by omega) hz hkd (λh11=>by unfold zlp;rw[if_neg h11,if_neg λy=>hcz y.2]) λy7 y8' H10 s10=>⟨nx (y7:=y7) (y8':=y8') (s9.trans s10),_,_,_,_,_,rfl⟩
   ·rw[if_neg (by rw[hin];simpa using h89)]
    exact jgi (d:="NoName") T4' TX J8 (by omega) hz hkd (λh11=>by unfold zlp;rw[if_neg h11,if_neg λy=>h89 y.1]) λy7 y8' H9 s9=>⟨nx (y7:=y7) (y8':=y8') s9,_,_,_,_,_,rfl⟩
 ·subst ez
  push_cast[↓z9u]
  exact q _
theorem jky(h:z6f K a vs H Q E):vs.length=1:=by
 obtain⟨_,_,rfl,_⟩:=h
 rfl
end
end L2
namespace L2
def top(i:Nat):Stmt:=PySem.Challenge.pw_holdback_k44_deeds_refused.main.body.getD i (.Pass ⟨0,0,0,0⟩)
structure Txt(K:W.Frag)(mg:Str->Option Value)(a:Ad):Prop where
 c_Change:Cls K (a "Change")
 c_Hold:Cls K (a "Hold")
 c_Layout:Cls K (a "Layout")
 c_Plank:Cls K (a "Plank")
 c_Store:Cls K (a "Store")
 r_HoldError:mg "HoldError"=some (.ref (a "HoldError"))
 g_HoldError:GV mg "HoldError" (.ref (a "HoldError"))
 x_HoldError:Exc K (a "HoldError")
 g_MOST_LETTERS:GV mg "MOST_LETTERS" (.int 8)
 g_MOST_PIECE_SIGNS:GV mg "MOST_PIECE_SIGNS" (.int 40)
 r_NoBlock:mg "NoBlock"=some (.ref (a "NoBlock"))
 g_NoBlock:GV mg "NoBlock" (.ref (a "NoBlock"))
 x_NoBlock:Exc K (a "NoBlock")
 r_NoChange:mg "NoChange"=some (.ref (a "NoChange"))
 g_NoChange:GV mg "NoChange" (.ref (a "NoChange"))
 x_NoChange:Exc K (a "NoChange")
 r_NoName:mg "NoName"=some (.ref (a "NoName"))
 g_NoName:GV mg "NoName" (.ref (a "NoName"))
 x_NoName:Exc K (a "NoName")
 r_NoPiece:mg "NoPiece"=some (.ref (a "NoPiece"))
 g_NoPiece:GV mg "NoPiece" (.ref (a "NoPiece"))
 x_NoPiece:Exc K (a "NoPiece")
 r_NoRoom:mg "NoRoom"=some (.ref (a "NoRoom"))
 g_NoRoom:GV mg "NoRoom" (.ref (a "NoRoom"))
 x_NoRoom:Exc K (a "NoRoom")
 r_NoRow:mg "NoRow"=some (.ref (a "NoRow"))
 g_NoRow:GV mg "NoRow" (.ref (a "NoRow"))
 x_NoRow:Exc K (a "NoRow")
 r_NotSound:mg "NotSound"=some (.ref (a "NotSound"))
 g_NotSound:GV mg "NotSound" (.ref (a "NotSound"))
 x_NotSound:Exc K (a "NotSound")
 g_PERCENT:GV mg "PERCENT" (.int 37)
 r_Twice:mg "Twice"=some (.ref (a "Twice"))
 g_Twice:GV mg "Twice" (.ref (a "Twice"))
 x_Twice:Exc K (a "Twice")
 b_ValueError:mg "ValueError"=none
 b_all:mg "all"=none
 b_dict:mg "dict"=none
 b_enumerate:mg "enumerate"=none
 b_isinstance:mg "isinstance"=none
 b_len:mg "len"=none
 b_list:mg "list"=none
 b_ord:mg "ord"=none
 b_range:mg "range"=none
 b_set:mg "set"=none
 b_sorted:mg "sorted"=none
 b_tuple:mg "tuple"=none
def zgi(sp:Sp)(rd:(St->XK)->TS)(N:List Str):Prop:=∀ (vs:List V) (H:Hp) (Q:VK) (E:XK),sp vs H Q E->rd (λ_=>E) { nx:=λ_ H'=>Q .non H',rt:=Q } (zbn N vs) H
def zb4(sp:Sp)(k:Nat):Prop:=∀ (vs:List V) (H:Hp) (Q:VK) (E:XK),sp vs H Q E->vs.length=k
section
variable{P:Program}{w:World}{K:W.Frag}{mg:Str->Option Value}{base:Heap}{a:Ad}{f:Addr}{fd:FuncData}
abbrev ze7:Stmt:=za9 (top 12) 0
theorem z5c:zaq ["self","place","value","needs"] ["self","place","value","needs"] (zab ze7):=⟨rfl,rfl,rfl,by decide +kernel,rfl,by decide +kernel,by decide +kernel⟩
theorem z5d(T:Txt K mg a)(F:Fun K "__init__" "Change.__init__" ze7 f fd)
  (R:zgi (zdr K a) (zik K a) ["self","place","value","needs"]) (L:zb4 (zdr K a) 4) :
  FnOk P w K mg base (cxE P w) 1 f fd ["self","place","value","needs"] (zdr K a):=by
 refine F.okE z5c L (λcdv A outer s H vs Q E hr h=> ?_)
 have hx:XOk (zfi (cxE P w) P w K mg base ["self","place","value","needs"] "Change.__init__" (zab ze7) f cdv A outer s H E) (λ_=>E):=za8
 exact⟨zik K a (λ_=>E),(zaf (zhv (pvr 0) (pvr 1) rfl)
   (zaf (zhv (pvr 0) (pvr 2) rfl)
   (zag (zhv (pvr 0) (pvr 3) rfl)))),R vs H Q E h⟩
abbrev zdv:Stmt:=za9 (top 13) 4
theorem z38:zaq ["self"] ["self"] (zab zdv):=⟨rfl,rfl,rfl,by decide +kernel,rfl,by decide +kernel,by decide +kernel⟩
theorem z39(T:Txt K mg a)(F:Fun K "waiting" "Book.waiting" zdv f fd)
  (R:zgi (zcp K a) (zhg K a) ["self"]) (L:zb4 (zcp K a) 1) :
  FnOk P w K mg base (cxE P w) 1 f fd ["self"] (zcp K a):=by
 refine F.okE z38 L (λcdv A outer s H vs Q E hr h=> ?_)
 have hx:XOk (zfi (cxE P w) P w K mg base ["self"] "Book.waiting" (zab zdv) f cdv A outer s H E) (λ_=>E):=za8
 exact⟨zhg K a (λ_=>E),(zag (zbb (zkd (tn:=["number"]) (cn:=["self"]) (cap:=[0]) (zky (outer:=zab zdv) (N:=["self"]) rfl rfl (by decide +kernel)) rfl (zhb rfl T.b_range (zaa (zcm zfh rfl T.b_len (by rfl) (zaa (zas (pvr 0) rfl) zad)) zad)) (λ_ _ _ _ _ _=>(zc9 (i:=0) (show(["number","self"]:List Str).Nodup from by decide +kernel) rfl (Or.inl rfl))) (λ_ _ _ _ _ _=>(jen (z2k (zo8 (zx1 hr) (pvr 0) (zas (pvr 1) rfl)) (by with_unfolding_all rfl)))) (λ_ _ _ _ _ _=>(pvr 0))))),R vs H Q E h⟩
abbrev zbr:Stmt:=za9 (top 13) 10
theorem zhr:zaq ["self","numbers","number"] ["self","numbers"] (zab zbr):=⟨rfl,rfl,rfl,by decide +kernel,rfl,by decide +kernel,by decide +kernel⟩
theorem zns(T:Txt K mg a)(F:Fun K "ask_for_changes" "Book.ask_for_changes" zbr f fd)
  (R:zgi (zbh K a) (zdm K a) ["self","numbers","number"]) (L:zb4 (zbh K a) 2) :
  FnOk P w K mg base (cxE P w) 1 f fd ["self","numbers"] (zbh K a):=by
 refine F.okE zhr L (λcdv A outer s H vs Q E hr h=> ?_)
 have hx:XOk (zfi (cxE P w) P w K mg base ["self","numbers","number"] "Book.ask_for_changes" (zab zbr) f cdv A outer s H E) (λ_=>E):=za8
 exact⟨zdm K a (λ_=>E),(zag (zr9 hx.po rfl (zpb (pvr 1)) (zc9 (i:=2) zhr.nd rfl (Or.inl rfl)) (zag (zd6 (zr8 (zvc zma z0d zaj (pvr 2) (zcm zfh rfl T.b_len (by rfl) (zaa (zas (pvr 0) rfl) zad)))) (zag (zih hx T.x_NoChange rfl T.r_NoChange (zaa zch zad))) zcz)))),R vs H Q E h⟩
abbrev zf1:Stmt:=top 14
theorem z7r:zaq ["needs","ahead"] ["needs","ahead"] (zab zf1):=⟨rfl,rfl,rfl,by decide +kernel,rfl,by decide +kernel,by decide +kernel⟩
theorem z7s(T:Txt K mg a)(F:Fun K "needs_with" "needs_with" zf1 f fd)
  (R:zgi (zea K a) (zhh K a) ["needs","ahead"]) (L:zb4 (zea K a) 2) :
  FnOk P w K mg base (cxE P w) 1 f fd ["needs","ahead"] (zea K a):=by
 refine F.okE z7r L (λcdv A outer s H vs Q E hr h=> ?_)
 have hx:XOk (zfi (cxE P w) P w K mg base ["needs","ahead"] "needs_with" (zab zf1) f cdv A outer s H E) (λ_=>E):=za8
 exact⟨zhh K a (λ_=>E),(zaf (zd6 (zbt jbs (pvr 1) ziy (zcu _)) (zag (zbb (zhc zto rfl T.b_tuple (by rfl) (zaa (z6a rfl rfl T.b_sorted rfl T.b_set (pvr 0)) zad)))) zcz)
   (zag (zbb (zhc zto rfl T.b_tuple (by rfl) (zaa (z6a rfl rfl T.b_sorted rfl T.b_set (zav zbc (zhc zrg rfl T.b_list (by rfl) (zaa (pvr 0) zad)) (zcf (zaa (pvr 1) zad)))) zad))))),R vs H Q E h⟩
abbrev zel:Stmt:=za9 (top 16) 2
theorem zq6:zaq ["self","number","gone","need"] ["self","number","gone"] (zab zel):=⟨rfl,rfl,rfl,by decide +kernel,rfl,by decide +kernel,by decide +kernel⟩
theorem z4a(T:Txt K mg a)(F:Fun K "lack_of" "Hold.lack_of" zel f fd)
  (R:zgi (zdb K a) (zkg K a) ["self","number","gone","need"]) (L:zb4 (zdb K a) 3) :
  FnOk P w K mg base (cxE P w) 1 f fd ["self","number","gone"] (zdb K a):=by
 refine F.okE zq6 L (λcdv A outer s H vs Q E hr h=> ?_)
 have hx:XOk (zfi (cxE P w) P w K mg base ["self","number","gone","need"] "Hold.lack_of" (zab zel) f cdv A outer s H E) (λ_=>E):=za8
 exact⟨zkg K a (λ_=>E),(zaf (zr9 hx.po rfl (zpb (zas (zdk zbs (zas (pvr 0) rfl) (pvr 1) (λ_ _=>rfl)) rfl)) (zc9 (i:=3) zq6.nd rfl (Or.inl rfl)) (zag (zd6 (PW.pt (jbo (z2k (zo8 (zx1 hr) (pvr 3) (zas (pvr 0) rfl)) (by with_unfolding_all rfl)) (z6i (z2k (zo8 (zx1 hr) (pvr 3) (pvr 2)) (by with_unfolding_all rfl))))) (zag (zbb (pvr 3))) zcz)))
   (zag (zbb ziy))),R vs H Q E h⟩
abbrev zdf:Stmt:=za9 (top 16) 3
theorem zia:zaq ["self","values","block","laid","number"] ["self","values","block"] (zab zdf):=⟨rfl,rfl,rfl,by decide +kernel,rfl,by decide +kernel,by decide +kernel⟩
theorem zz6(T:Txt K mg a)(F:Fun K "laid_over" "Hold.laid_over" zdf f fd)
  (R:zgi (zcg K a) (zh8 K a) ["self","values","block","laid","number"]) (L:zb4 (zcg K a) 3) :
  FnOk P w K mg base (cxE P w) 1 f fd ["self","values","block"] (zcg K a):=by
 refine F.okE zia L (λcdv A outer s H vs Q E hr h=> ?_)
 have hx:XOk (zfi (cxE P w) P w K mg base ["self","values","block","laid","number"] "Hold.laid_over" (zab zdf) f cdv A outer s H E) (λ_=>E):=za8
 exact⟨zh8 K a (λ_=>E),(zaf (za2 (i:=3) zia.nd rfl (Or.inl rfl) (zhc zrg rfl T.b_list (by rfl) (zaa (pvr 1) zad)))
   (zaf (zr9 hx.po rfl (zpb (zdk zbs (zas (pvr 0) rfl) (pvr 2) (λ_ _=>rfl))) (zc9 (i:=4) zia.nd rfl (Or.inl rfl)) (zag (zd6 (z2k (jis (zx1 hr) (pvr 4) (zas (pvr 0) rfl)) (by with_unfolding_all rfl)) (zag (jik (zas (zdk zbs (zas (pvr 0) rfl) (pvr 4) (λ_ _=>rfl)) rfl) (jij (pvr 3) (zdk zbs (zas (zdk zbs (zas (pvr 0) rfl) (pvr 4) (λ_ _=>rfl)) rfl) zaj (λ_ _=>rfl)) jey))) zcz)))
   (zag (zbb (pvr 3))))),R vs H Q E h⟩
abbrev zko:Stmt:=top 19
theorem jdo:zaq ["sign"] ["sign"] (zab zko):=⟨rfl,rfl,rfl,by decide +kernel,rfl,by decide +kernel,by decide +kernel⟩
theorem jdp(T:Txt K mg a)(F:Fun K "is_sign" "is_sign" zko f fd)
  (R:zgi (zg4 K a) (zrj K a) ["sign"]) (L:zb4 (zg4 K a) 1) :
  FnOk P w K mg base (cxE P w) 1 f fd ["sign"] (zg4 K a):=by
 refine F.okE jdo L (λcdv A outer s H vs Q E hr h=> ?_)
 have hx:XOk (zfi (cxE P w) P w K mg base ["sign"] "is_sign" (zab zko) f cdv A outer s H E) (λ_=>E):=za8
 exact⟨zrj K a (λ_=>E),(zag (zbb (z8b (z2b zma zma zch (pvr 0) zch) (jbp (zxy (jes hr.units) (zcm jfb rfl T.b_ord (by rfl) (zaa (pvr 0) zad)) (z2s T.g_PERCENT rfl) (zcu _)))))),R vs H Q E h⟩
abbrev zjd:Stmt:=top 23
theorem jdq:zaq ["thing"] ["thing"] (zab zjd):=⟨rfl,rfl,rfl,by decide +kernel,rfl,by decide +kernel,by decide +kernel⟩
theorem jdr(T:Txt K mg a)(F:Fun K "is_name" "is_name" zjd f fd)
  (R:zgi (zg5 K a) (zrk K a) ["thing"]) (L:zb4 (zg5 K a) 1) :
  FnOk P w K mg base (cxE P w) 1 f fd ["thing"] (zg5 K a):=by
 refine F.okE jdq L (λcdv A outer s H vs Q E hr h=> ?_)
 have hx:XOk (zfi (cxE P w) P w K mg base ["thing"] "is_name" (zab zjd) f cdv A outer s H E) (λ_=>E):=za8
 exact⟨zrk K a (λ_=>E),(zag (zbb (z8b (z2b zma zma zaj (zcm zfh rfl T.b_len (by rfl) (zaa (pvr 0) zad)) (z2s T.g_MOST_LETTERS rfl)) (jbp (zcm (z2v rfl) rfl T.b_all (by rfl) (zaa (zkd (tn:=["sign"]) (cn:=[]) (cap:=[]) (zky (outer:=zab zjd) (N:=["thing"]) rfl rfl (by decide +kernel)) rfl (jiy (pvr 0)) (λ_ _ _ _ _ _=>(zc9 (i:=0) (show(["sign"]:List Str).Nodup from by decide +kernel) rfl (Or.inl rfl))) (λ_ _ _ _ _ _=>zjf) (λ_ _ _ _ _ _=>(z2b zma zma zch (pvr 0) zch))) zad)))))),R vs H Q E h⟩
abbrev zem:Stmt:=za9 (top 30) 11
theorem z4b:zaq ["self"] ["self"] (zab zem):=⟨rfl,rfl,rfl,by decide +kernel,rfl,by decide +kernel,by decide +kernel⟩
theorem z4c(T:Txt K mg a)(F:Fun K "layout" "Store.layout" zem f fd)
  (R:zgi (zdd K a) (zhi K a) ["self"]) (L:zb4 (zdd K a) 1) :
  FnOk P w K mg base (cxE P w) 1 f fd ["self"] (zdd K a):=by
 refine F.okE z4b L (λcdv A outer s H vs Q E hr h=> ?_)
 have hx:XOk (zfi (cxE P w) P w K mg base ["self"] "Store.layout" (zab zem) f cdv A outer s H E) (λ_=>E):=za8
 exact⟨zhi K a (λ_=>E),(zag (zbb (zas (pvr 0) rfl))),R vs H Q E h⟩
abbrev zf2:Stmt:=za9 (top 30) 12
theorem z7t:zaq ["self"] ["self"] (zab zf2):=⟨rfl,rfl,rfl,by decide +kernel,rfl,by decide +kernel,by decide +kernel⟩
theorem z7u(T:Txt K mg a)(F:Fun K "hold" "Store.hold" zf2 f fd)
  (R:zgi (zdl K a) (zjw K a) ["self"]) (L:zb4 (zdl K a) 1) :
  FnOk P w K mg base (cxE P w) 1 f fd ["self"] (zdl K a):=by
 refine F.okE z7t L (λcdv A outer s H vs Q E hr h=> ?_)
 have hx:XOk (zfi (cxE P w) P w K mg base ["self"] "Store.hold" (zab zf2) f cdv A outer s H E) (λ_=>E):=za8
 exact⟨zjw K a (λ_=>E),(zag (zbb (zas (pvr 0) rfl))),R vs H Q E h⟩
abbrev zez:Stmt:=za9 (top 32) 0
theorem z7v:zaq ["self","blocks","cells"] ["self","blocks","cells"] (zab zez):=⟨rfl,rfl,rfl,by decide +kernel,rfl,by decide +kernel,by decide +kernel⟩
theorem z7w(T:Txt K mg a)(F:Fun K "__init__" "Plank.__init__" zez f fd)
  (R:zgi (zd8 K a) (zjx K a) ["self","blocks","cells"]) (L:zb4 (zd8 K a) 3) :
  FnOk P w K mg base (cxE P w) 1 f fd ["self","blocks","cells"] (zd8 K a):=by
 refine F.okE z7v L (λcdv A outer s H vs Q E hr h=> ?_)
 have hx:XOk (zfi (cxE P w) P w K mg base ["self","blocks","cells"] "Plank.__init__" (zab zez) f cdv A outer s H E) (λ_=>E):=za8
 exact⟨zjx K a (λ_=>E),(zaf (zhv (pvr 0) (zkd (tn:=["block"]) (cn:=["cells"]) (cap:=[2]) (zky (outer:=zab zez) (N:=["self","blocks","cells"]) rfl rfl (by decide +kernel)) rfl (zhb rfl T.b_range (zaa (pvr 1) zad)) (λ_ _ _ _ _ _=>(zc9 (i:=0) (show(["block","cells"]:List Str).Nodup from by decide +kernel) rfl (Or.inl rfl))) (λ_ _ _ _ _ _=>zjf) (λ_ _ _ _ _ _=>(zav zmz (ziz (zaa ziy zad)) (pvr 1)))) rfl)
   (zaf (zhv (pvr 0) (pvr 2) rfl)
   (zag (zhv (pvr 0) zaj rfl)))),R vs H Q E h⟩
abbrev zen:Stmt:=za9 (top 32) 1
theorem z4d:zaq ["self"] ["self"] (zab zen):=⟨rfl,rfl,rfl,by decide +kernel,rfl,by decide +kernel,by decide +kernel⟩
theorem z4e(T:Txt K mg a)(F:Fun K "blocks" "Plank.blocks" zen f fd)
  (R:zgi (zb9 K a) (zhj K a) ["self"]) (L:zb4 (zb9 K a) 1) :
  FnOk P w K mg base (cxE P w) 1 f fd ["self"] (zb9 K a):=by
 refine F.okE z4d L (λcdv A outer s H vs Q E hr h=> ?_)
 have hx:XOk (zfi (cxE P w) P w K mg base ["self"] "Plank.blocks" (zab zen) f cdv A outer s H E) (λ_=>E):=za8
 exact⟨zhj K a (λ_=>E),(zag (zbb (zcm zfh rfl T.b_len (by rfl) (zaa (zas (pvr 0) rfl) zad)))),R vs H Q E h⟩
abbrev ze8:Stmt:=za9 (top 32) 2
theorem z5e:zaq ["self"] ["self"] (zab ze8):=⟨rfl,rfl,rfl,by decide +kernel,rfl,by decide +kernel,by decide +kernel⟩
theorem z5f(T:Txt K mg a)(F:Fun K "cells" "Plank.cells" ze8 f fd)
  (R:zgi (zdo K a) (zil K a) ["self"]) (L:zb4 (zdo K a) 1) :
  FnOk P w K mg base (cxE P w) 1 f fd ["self"] (zdo K a):=by
 refine F.okE z5e L (λcdv A outer s H vs Q E hr h=> ?_)
 have hx:XOk (zfi (cxE P w) P w K mg base ["self"] "Plank.cells" (zab ze8) f cdv A outer s H E) (λ_=>E):=za8
 exact⟨zil K a (λ_=>E),(zag (zbb (zas (pvr 0) rfl))),R vs H Q E h⟩
abbrev zbw:Stmt:=za9 (top 32) 6
theorem zo6:zaq ["self","block"] ["self","block"] (zab zbw):=⟨rfl,rfl,rfl,by decide +kernel,rfl,by decide +kernel,by decide +kernel⟩
theorem zo7(T:Txt K mg a)(F:Fun K "ask_for_block" "Plank.ask_for_block" zbw f fd)
  (R:zgi (za4 K a) (zd3 K a) ["self","block"]) (L:zb4 (za4 K a) 2) :
  FnOk P w K mg base (cxE P w) 1 f fd ["self","block"] (za4 K a):=by
 refine F.okE zo6 L (λcdv A outer s H vs Q E hr h=> ?_)
 have hx:XOk (zfi (cxE P w) P w K mg base ["self","block"] "Plank.ask_for_block" (zab zbw) f cdv A outer s H E) (λ_=>E):=za8
 exact⟨zd3 K a (λ_=>E),(zag (zd6 (zr8 (zvc zma z0d zaj (pvr 1) (zcm zfh rfl T.b_len (by rfl) (zaa (zas (pvr 0) rfl) zad)))) (zag (zih hx T.x_NoBlock rfl T.r_NoBlock (zaa zch zad))) zcz)),R vs H Q E h⟩
abbrev ze9:Stmt:=za9 (top 34) 0
theorem z5g:zaq ["self","names","records","pieces","cells"] ["self","names","records","pieces","cells"] (zab ze9):=⟨rfl,rfl,rfl,by decide +kernel,rfl,by decide +kernel,by decide +kernel⟩
theorem z5h(T:Txt K mg a)(F:Fun K "__init__" "Layout.__init__" ze9 f fd)
  (R:zgi (zdq K a) (zim K a) ["self","names","records","pieces","cells"]) (L:zb4 (zdq K a) 5) :
  FnOk P w K mg base (cxE P w) 1 f fd ["self","names","records","pieces","cells"] (zdq K a):=by
 refine F.okE z5g L (λcdv A outer s H vs Q E hr h=> ?_)
 have hx:XOk (zfi (cxE P w) P w K mg base ["self","names","records","pieces","cells"] "Layout.__init__" (zab ze9) f cdv A outer s H E) (λ_=>E):=za8
 exact⟨zim K a (λ_=>E),(zaf (zhv (pvr 0) (pvr 1) rfl)
   (zaf (zhv (pvr 0) (pvr 2) rfl)
   (zaf (zhv (pvr 0) (pvr 3) rfl)
   (zag (zhv (pvr 0) (pvr 4) rfl))))),R vs H Q E h⟩
abbrev zdy:Stmt:=za9 (top 34) 6
theorem z11:zaq ["self"] ["self"] (zab zdy):=⟨rfl,rfl,rfl,by decide +kernel,rfl,by decide +kernel,by decide +kernel⟩
theorem z12(T:Txt K mg a)(F:Fun K "counts" "Layout.counts" zdy f fd)
  (R:zgi (zbd K a) (zgu K a) ["self"]) (L:zb4 (zbd K a) 1) :
  FnOk P w K mg base (cxE P w) 1 f fd ["self"] (zbd K a):=by
 refine F.okE z11 L (λcdv A outer s H vs Q E hr h=> ?_)
 have hx:XOk (zfi (cxE P w) P w K mg base ["self"] "Layout.counts" (zab zdy) f cdv A outer s H E) (λ_=>E):=za8
 exact⟨zgu K a (λ_=>E),(zag (zbb (ziz (zaa (zav zmz (zas (pvr 0) rfl) (zas (pvr 0) rfl)) (zaa (zav zmz (zas (pvr 0) rfl) (zas (pvr 0) rfl)) (zaa (zav zmz (zas (pvr 0) rfl) (zas (pvr 0) rfl)) zad)))))),R vs H Q E h⟩
abbrev za6:Stmt:=za9 (top 34) 9
theorem zib:zaq ["self"] ["self"] (zab za6):=⟨rfl,rfl,rfl,by decide +kernel,rfl,by decide +kernel,by decide +kernel⟩
theorem zic(T:Txt K mg a)(F:Fun K "blocks_ahead_of_marks" "Layout.blocks_ahead_of_marks" za6 f fd)
  (R:zgi (zak K a) (zb3 K a) ["self"]) (L:zb4 (zak K a) 1) :
  FnOk P w K mg base (cxE P w) 1 f fd ["self"] (zak K a):=by
 refine F.okE zib L (λcdv A outer s H vs Q E hr h=> ?_)
 have hx:XOk (zfi (cxE P w) P w K mg base ["self"] "Layout.blocks_ahead_of_marks" (zab za6) f cdv A outer s H E) (λ_=>E):=za8
 exact⟨zb3 K a (λ_=>E),(zag (zbb (zav zbc (zav zbc (zas (pvr 0) rfl) (zas (pvr 0) rfl)) (zas (pvr 0) rfl)))),R vs H Q E h⟩
abbrev zcd:Stmt:=za9 (top 34) 10
theorem zr3:zaq ["self","block","k"] ["self","block","k"] (zab zcd):=⟨rfl,rfl,rfl,by decide +kernel,rfl,by decide +kernel,by decide +kernel⟩
theorem zr4(T:Txt K mg a)(F:Fun K "place_from" "Layout.place_from" zcd f fd)
  (R:zgi (zar K a) (zet K a) ["self","block","k"]) (L:zb4 (zar K a) 3) :
  FnOk P w K mg base (cxE P w) 1 f fd ["self","block","k"] (zar K a):=by
 refine F.okE zr3 L (λcdv A outer s H vs Q E hr h=> ?_)
 have hx:XOk (zfi (cxE P w) P w K mg base ["self","block","k"] "Layout.place_from" (zab zcd) f cdv A outer s H E) (λ_=>E):=za8
 exact⟨zet K a (λ_=>E),(zag (zbb (ziz (zaa (zav zbc (pvr 1) (zav zb8 (pvr 2) (zas (pvr 0) rfl))) (zaa (zav zcx (pvr 2) (zas (pvr 0) rfl)) zad))))),R vs H Q E h⟩
abbrev zfa:Stmt:=top 36
theorem z5i:zaq ["script","k"] ["script","k"] (zab zfa):=⟨rfl,rfl,rfl,by decide +kernel,rfl,by decide +kernel,by decide +kernel⟩
theorem z5j(T:Txt K mg a)(F:Fun K "_law_cell_at" "_law_cell_at" zfa f fd)
  (R:zgi (zci K a) (zin K a) ["script","k"]) (L:zb4 (zci K a) 2) :
  FnOk P w K mg base (cxE P w) 1 f fd ["script","k"] (zci K a):=by
 refine F.okE z5i L (λcdv A outer s H vs Q E hr h=> ?_)
 have hx:XOk (zfi (cxE P w) P w K mg base ["script","k"] "_law_cell_at" (zab zfa) f cdv A outer s H E) (λ_=>E):=za8
 exact⟨zin K a (λ_=>E),(zaf (zd6 (zbt z0d (pvr 1) (zcm zfh rfl T.b_len (by rfl) (zaa (pvr 0) zad)) (zcu _)) (zag (zbb (zdk zbs (pvr 0) (pvr 1) (λ_ _=>rfl)))) zcz)
   (zag (zbb zaj))),R vs H Q E h⟩
abbrev zgz:Stmt:=top 37
theorem zde:zaq ["cell","letters","base","rest","k","at","first","last","turned"] ["cell"] (zab zgz):=⟨rfl,rfl,rfl,by decide +kernel,rfl,by decide +kernel,by decide +kernel⟩
theorem z96(T:Txt K mg a)(F:Fun K "_law_names" "_law_names" zgz f fd)
  (R:zgi (zex K a) (zk4 K a) ["cell","letters","base","rest","k","at","first","last","turned"]) (L:zb4 (zex K a) 1) :
  FnOk P w K mg base (cxE P w) 1 f fd ["cell"] (zex K a):=by
 refine F.okE zde L (λcdv A outer s H vs Q E hr h=> ?_)
 have hx:XOk (zfi (cxE P w) P w K mg base ["cell","letters","base","rest","k","at","first","last","turned"] "_law_names" (zab zgz) f cdv A outer s H E) (λ_=>E):=za8
 exact⟨zk4 K a (λ_=>E),(zaf (za2 (i:=1) zde.nd rfl (Or.inl rfl) zch)
   (zaf (za2 (i:=2) zde.nd rfl (Or.inl rfl) zch)
   (zaf (za2 (i:=3) zde.nd rfl (Or.inl rfl) (zav zb8 (pvr 0) zaj))
   (zaf (zr9 hx.po rfl (zhb rfl T.b_range (zaa (zav zbc zaj (zav zcx (pvr 0) zaj)) zad)) (zc9 (i:=4) zde.nd rfl (Or.inl rfl)) (zaf (za2 (i:=2) zde.nd rfl (Or.inl rfl) (zav zbc (pvr 2) (zdk zbs (pvr 1) (zav zcx (zav zbc (pvr 3) (zav zmz (zav zmz zaj (pvr 4)) (zav zcx (zav zb8 (pvr 3) zaj) zaj))) zaj) (λ_ _=>rfl))))
   (zag (za2 (i:=3) zde.nd rfl (Or.inl rfl) (zav zbc (zav zb8 (pvr 3) zaj) (zav zmz zaj (pvr 4)))))))
   (zaf (za2 (i:=5) zde.nd rfl (Or.inl rfl) (zav zcx (zav zb8 (pvr 0) zaj) (zcm zfh rfl T.b_len (by rfl) (zaa (pvr 2) zad))))
   (zaf (za2 (i:=6) zde.nd rfl (Or.inl rfl) (zdk zbs (pvr 1) (zav zcx (zav zb8 (pvr 0) zaj) zaj) (λ_ _=>rfl)))
   (zaf (za2 (i:=7) zde.nd rfl (Or.inl rfl) (zdk zbs (pvr 1) (zav zcx (zav zbc (zav zbc (zav zb8 (pvr 0) zaj) zaj) (zav zcx (zav zb8 (pvr 0) zaj) zaj)) zaj) (λ_ _=>rfl)))
   (zaf (za2 (i:=8) zde.nd rfl (Or.inl rfl) (zdk zbs (pvr 1) (zav zcx (zav zbc (zav zbc (z8l PySem.F.plainAttrs_str PySem.F.slot_str_find PySem.F.type_str_find jkn (pvr 1) (zaa (zdk zbs (pvr 2) (pvr 5) (λ_ _=>rfl)) zad)) zaj) (zav zcx (zav zb8 (pvr 0) zaj) zaj)) zaj) (λ_ _=>rfl)))
   (zag (zbb (zcf (zaa (pvr 2) (zaa (zav zbc (pvr 2) (pvr 7)) (zaa (zav zbc (pvr 6) (pvr 2)) (zaa (zav zbc (zav zbc (zhd zpa (pvr 2) zkb (zkc (pvr 5))) (pvr 8)) (zhd zpa (pvr 2) (zkc (zav zbc (pvr 5) zaj)) zkb)) (zaa (zav zbc (zav zbc (pvr 2) (pvr 7)) (pvr 6)) zad)))))))))))))))),R vs H Q E h⟩
abbrev zg8:Stmt:=top 38
theorem zg0:zaq ["cell","signs","many","step","wide"] ["cell"] (zab zg8):=⟨rfl,rfl,rfl,by decide +kernel,rfl,by decide +kernel,by decide +kernel⟩
theorem jbj(T:Txt K mg a)(F:Fun K "_law_text" "_law_text" zg8 f fd)
  (R:zgi (zfv K a) (zm7 K a) ["cell","signs","many","step","wide"]) (L:zb4 (zfv K a) 1) :
  FnOk P w K mg base (cxE P w) 1 f fd ["cell"] (zfv K a):=by
 refine F.okE zg0 L (λcdv A outer s H vs Q E hr h=> ?_)
 have hx:XOk (zfi (cxE P w) P w K mg base ["cell","signs","many","step","wide"] "_law_text" (zab zg8) f cdv A outer s H E) (λ_=>E):=za8
 exact⟨zm7 K a (λ_=>E),(zaf (za2 (i:=1) zg0.nd rfl (Or.inr rfl) zch)
   (zaf (za2 (i:=1) zg0.nd rfl (Or.inr rfl) (zav zbc (pvr 1) zch))
   (zaf (za2 (i:=2) zg0.nd rfl (Or.inl rfl) (zav zbc zaj (zav zcx (pvr 0) zaj)))
   (zaf (zd6 (zbt (zfk hr.units) (zav zcx (zav zb8 (pvr 0) zaj) zaj) zaj (zcu _)) (zag (za2 (i:=2) zg0.nd rfl (Or.inl rfl) (zav z8d zaj (zav zcx (zav zb8 (pvr 0) zaj) zaj)))) zcz)
   (zaf (za2 (i:=3) zg0.nd rfl (Or.inr rfl) (zav zbc zaj (zav zcx (zav zb8 (pvr 0) zaj) zaj)))
   (zaf (za2 (i:=4) zg0.nd rfl (Or.inr rfl) (zav zbc zaj (zav zcx (zav zb8 (pvr 0) zaj) zaj)))
   (zag (zbb (z8l PySem.F.plainAttrs_str PySem.F.slot_str_join PySem.F.type_str_join jkm zch (zaa (zkd (tn:=["j"]) (cn:=["signs","cell","step","wide"]) (cap:=[1,0,3,4]) (zky (outer:=zab zg8) (N:=["cell","signs","many","step","wide"]) rfl rfl (by decide +kernel)) rfl (zhb rfl T.b_range (zaa (pvr 2) zad)) (λ_ _ _ _ _ _=>(zc9 (i:=0) (show(["j","signs","cell","step","wide"]:List Str).Nodup from by decide +kernel) rfl (Or.inl rfl))) (λ_ _ _ _ _ _=>zjf) (λ_ _ _ _ _ _=>(zdk zbs (pvr 1) (zav zcx (zav zbc (zav zb8 (pvr 2) zaj) (zav zmz (pvr 3) (zav zb8 (pvr 0) (pvr 4)))) zaj) (λ_ _=>rfl)))) zad)))))))))),R vs H Q E h⟩
abbrev znt:Stmt:=top 39
theorem jgj:zaq ["cell"] ["cell"] (zab znt):=⟨rfl,rfl,rfl,by decide +kernel,rfl,by decide +kernel,by decide +kernel⟩
theorem jgk(T:Txt K mg a)(F:Fun K "_law_at" "_law_at" znt f fd)
  (R:zgi (zi2 K a) (zvw K a) ["cell"]) (L:zb4 (zi2 K a) 1) :
  FnOk P w K mg base (cxE P w) 1 f fd ["cell"] (zi2 K a):=by
 refine F.okE jgj L (λcdv A outer s H vs Q E hr h=> ?_)
 have hx:XOk (zfi (cxE P w) P w K mg base ["cell"] "_law_at" (zab znt) f cdv A outer s H E) (λ_=>E):=za8
 exact⟨zvw K a (λ_=>E),(zaf (zd6 (zbt (zfk hr.units) (zav zcx (zav zb8 (pvr 0) zaj) zaj) zaj (zcu _)) (zag (zbb (zav z8d (zav zcx (pvr 0) zaj) zaj))) zcz)
   (zag (zbb (zav z8d (zav zcx (pvr 0) zaj) zaj)))),R vs H Q E h⟩
abbrev zeo:Stmt:=top 41
theorem zkp:zaq ["cell","name","at","some"] ["cell","name"] (zab zeo):=⟨rfl,rfl,rfl,by decide +kernel,rfl,by decide +kernel,by decide +kernel⟩
theorem z4f(T:Txt K mg a)(F:Fun K "_law_bad_name" "_law_bad_name" zeo f fd)
  (R:zgi (zcr K a) (zhk K a) ["cell","name","at","some"]) (L:zb4 (zcr K a) 2) :
  FnOk P w K mg base (cxE P w) 1 f fd ["cell","name"] (zcr K a):=by
 refine F.okE zkp L (λcdv A outer s H vs Q E hr h=> ?_)
 have hx:XOk (zfi (cxE P w) P w K mg base ["cell","name","at","some"] "_law_bad_name" (zab zeo) f cdv A outer s H E) (λ_=>E):=za8
 exact⟨zhk K a (λ_=>E),(zaf (za2 (i:=2) zkp.nd rfl (Or.inl rfl) (zav zcx (zav zb8 (pvr 0) zaj) (zav zbc (zcm zfh rfl T.b_len (by rfl) (zaa (pvr 1) zad)) zaj)))
   (zaf (za2 (i:=3) zkp.nd rfl (Or.inl rfl) (zcf (zaa zch (zaa zch (zaa zch (zaa (zav zbc (zav zbc (zhd zpa (pvr 1) zkb (zkc (pvr 2))) zch) (zhd zpa (pvr 1) (zkc (pvr 2)) zkb)) (zaa (zav zbc (zav zbc (zhd zpa (pvr 1) zkb (zkc (pvr 2))) zch) (zhd zpa (pvr 1) (zkc (pvr 2)) zkb)) zad)))))))
   (zag (zbb (zdk zbs (zav zbc (pvr 3) (zcf (zaa (zav zbc (zav zbc (zhd zpa (pvr 1) zkb (zkc (pvr 2))) zch) (zhd zpa (pvr 1) (zkc (pvr 2)) zkb)) (zaa (zav zbc (pvr 1) zch) zad)))) (zav zcx (pvr 0) zaj) (λ_ _=>rfl)))))),R vs H Q E h⟩
abbrev zf3:Stmt:=za9 (top 13) 0
theorem z97:zaq ["self","plank"] ["self","plank"] (zab zf3):=⟨rfl,rfl,rfl,by decide +kernel,rfl,by decide +kernel,by decide +kernel⟩
theorem z98(T:Txt K mg a)(F:Fun K "__init__" "Book.__init__" zf3 f fd)(m_Plank_blocks:zcw P w K mg base (a "Plank") 1 "blocks" ["self"] (zb9 K a))
  (R:zgi (zd9 K a) (zk5 K a) ["self","plank"]) (L:zb4 (zd9 K a) 2) :
  FnOk P w K mg base (cxE P w) 2 f fd ["self","plank"] (zd9 K a):=by
 refine F.okE z97 L (λcdv A outer s H vs Q E hr h=> ?_)
 have hx:XOk (zfi (cxE P w) P w K mg base ["self","plank"] "Book.__init__" (zab zf3) f cdv A outer s H E) (λ_=>E):=za8
 exact⟨zk5 K a (λ_=>E),(zaf (zhv (pvr 0) (pvr 1) rfl)
   (zaf (zhv (pvr 0) (zcf zad) rfl)
   (zaf (zhv (pvr 0) (zkd (tn:=["block"]) (cn:=[]) (cap:=[]) (zky (outer:=zab zf3) (N:=["self","plank"]) rfl rfl (by decide +kernel)) rfl (zhb rfl T.b_range (zaa (zbu (pvr 1) T.c_Plank m_Plank_blocks (hr.mono (by decide)) hx.passes) zad)) (λ_ _ _ _ _ _=>(zc9 (i:=0) (show(["block"]:List Str).Nodup from by decide +kernel) rfl (Or.inl rfl))) (λ_ _ _ _ _ _=>zjf) (λ_ _ _ _ _ _=>(zcf zad))) rfl)
   (zaf (zhv (pvr 0) jg7 rfl)
   (zag (zhv (pvr 0) z6q rfl)))))),R vs H Q E h⟩
abbrev zb5:Stmt:=za9 (top 13) 9
theorem zq7:zaq ["self","place"] ["self","place"] (zab zb5):=⟨rfl,rfl,rfl,by decide +kernel,rfl,by decide +kernel,by decide +kernel⟩
theorem zq8(T:Txt K mg a)(F:Fun K "ask_for_place" "Book.ask_for_place" zb5 f fd)(m_Plank_cells:zcw P w K mg base (a "Plank") 1 "cells" ["self"] (zdo K a))(m_Plank_blocks:zcw P w K mg base (a "Plank") 1 "blocks" ["self"] (zb9 K a))
  (R:zgi (zbo K a) (zef K a) ["self","place"]) (L:zb4 (zbo K a) 2) :
  FnOk P w K mg base (cxE P w) 2 f fd ["self","place"] (zbo K a):=by
 refine F.okE zq7 L (λcdv A outer s H vs Q E hr h=> ?_)
 have hx:XOk (zfi (cxE P w) P w K mg base ["self","place"] "Book.ask_for_place" (zab zb5) f cdv A outer s H E) (λ_=>E):=za8
 exact⟨zef K a (λ_=>E),(zag (zd6 (PW.pt (jla (zr8 (zvc zma z0d zaj (zdk zbs (pvr 1) zaj (λ_ _=>rfl)) (zbu (zas (pvr 0) rfl) T.c_Plank m_Plank_blocks (hr.mono (by decide)) hx.passes))) (jih (zr8 (zvc zma z0d zaj (zdk zbs (pvr 1) zaj (λ_ _=>rfl)) (zbu (zas (pvr 0) rfl) T.c_Plank m_Plank_cells (hr.mono (by decide)) hx.passes)))))) (zag (zih hx T.x_NoBlock rfl T.r_NoBlock (zaa zch zad))) zcz)),R vs H Q E h⟩
abbrev zep:Stmt:=za9 (top 16) 1
theorem zew:zaq ["self","block","taken","gone","out","held","number","lack"] ["self","block","taken"] (zab zep):=⟨rfl,rfl,rfl,by decide +kernel,rfl,by decide +kernel,by decide +kernel⟩
theorem z4g(T:Txt K mg a)(F:Fun K "outcome" "Hold.outcome" zep f fd)(m_Hold_lack_of:zcw P w K mg base (a "Hold") 1 "lack_of" ["self","number","gone"] (zdb K a))
  (R:zgi (zdc K a) (zkj K a) ["self","block","taken","gone","out","held","number","lack"]) (L:zb4 (zdc K a) 3) :
  FnOk P w K mg base (cxE P w) 2 f fd ["self","block","taken"] (zdc K a):=by
 refine F.okE zew L (λcdv A outer s H vs Q E hr h=> ?_)
 have hx:XOk (zfi (cxE P w) P w K mg base ["self","block","taken","gone","out","held","number","lack"] "Hold.outcome" (zab zep) f cdv A outer s H E) (λ_=>E):=za8
 exact⟨zkj K a (λ_=>E),(zaf (za2 (i:=3) zew.nd rfl (Or.inl rfl) (zhc jde rfl T.b_dict (by rfl) (zaa (pvr 2) zad)))
   (zaf (za2 (i:=4) zew.nd rfl (Or.inl rfl) (zcf zad))
   (zaf (za2 (i:=5) zew.nd rfl (Or.inl rfl) (zcf zad))
   (zaf (zr9 hx.po rfl (zpb (zdk zbs (zas (pvr 0) rfl) (pvr 1) (λ_ _=>rfl))) (zc9 (i:=6) zew.nd rfl (Or.inl rfl)) (zag (zd6 (PW.pt (jbo (z2k (zo8 (zx1 hr) (pvr 6) (zas (pvr 0) rfl)) (by with_unfolding_all rfl)) (z6i (z2k (zo8 (zx1 hr) (pvr 6) (pvr 3)) (by with_unfolding_all rfl))))) (zaf (za2 (i:=7) zew.nd rfl (Or.inl rfl) (zai (pvr 0) T.c_Hold m_Hold_lack_of (hr.mono (by decide)) hx.passes (zaa (pvr 6) (zaa (pvr 3) zad))))
   (zag (zd6 (zbt jbs (pvr 7) ziy (zcu _)) (zaf (z6p (zx1 hr) (pvr 3) (pvr 6) z79 rfl)
   (zag (zb1 (z8l PySem.F.plainAttrs_list PySem.F.slot_list_append PySem.F.type_list_append zl8 (pvr 4) (zaa (pvr 6) zad))))) (zag (zb1 (z8l PySem.F.plainAttrs_list PySem.F.slot_list_append PySem.F.type_list_append zl8 (pvr 5) (zaa (ziz (zaa (pvr 6) (zaa (pvr 7) zad))) zad))))))) zcz)))
   (zag (zbb (ziz (zaa (pvr 4) (zaa (pvr 5) zad))))))))),R vs H Q E h⟩
abbrev zg9:Stmt:=top 24
theorem jbk:zaq ["thing"] ["thing"] (zab zg9):=⟨rfl,rfl,rfl,by decide +kernel,rfl,by decide +kernel,by decide +kernel⟩
theorem jbl(T:Txt K mg a)(F:Fun K "is_piece" "is_piece" zg9 f fd)(c_is_sign:Cal P w K mg base (1) "is_sign" ["sign"] (zg4 K a))
  (R:zgi (zfu K a) (zm8 K a) ["thing"]) (L:zb4 (zfu K a) 1) :
  FnOk P w K mg base (cxE P w) 2 f fd ["thing"] (zfu K a):=by
 refine F.okE jbk L (λcdv A outer s H vs Q E hr h=> ?_)
 have hx:XOk (zfi (cxE P w) P w K mg base ["thing"] "is_piece" (zab zg9) f cdv A outer s H E) (λ_=>E):=za8
 exact⟨zm8 K a (λ_=>E),(zag (zbb (z8b (z2b zma zma zaj (zcm zfh rfl T.b_len (by rfl) (zaa (pvr 0) zad)) (z2s T.g_MOST_PIECE_SIGNS rfl)) (jbp (zcm (z2v rfl) rfl T.b_all (by rfl) (zaa (zkd (tn:=["sign"]) (cn:=[]) (cap:=[]) (zky (outer:=zab zg9) (N:=["thing"]) rfl rfl (by decide +kernel)) rfl (jiy (pvr 0)) (λ_ _ _ _ _ _=>(zc9 (i:=0) (show(["sign"]:List Str).Nodup from by decide +kernel) rfl (Or.inl rfl))) (λ_ _ _ _ _ _=>zjf) (λ_ _ _ _ _ _=>(zcn c_is_sign (hr.mono (by decide)) zlm rfl (zaa (pvr 0) zad)))) zad)))))),R vs H Q E h⟩
abbrev zf4:Stmt:=za9 (top 32) 4
theorem z7x:zaq ["self","block"] ["self","block"] (zab zf4):=⟨rfl,rfl,rfl,by decide +kernel,rfl,by decide +kernel,by decide +kernel⟩
theorem z7y(T:Txt K mg a)(F:Fun K "read" "Plank.read" zf4 f fd)(m_Plank_ask_for_block:zcw P w K mg base (a "Plank") 1 "ask_for_block" ["self","block"] (za4 K a))
  (R:zgi (zc4 K a) (zjy K a) ["self","block"]) (L:zb4 (zc4 K a) 2) :
  FnOk P w K mg base (cxE P w) 2 f fd ["self","block"] (zc4 K a):=by
 refine F.okE z7x L (λcdv A outer s H vs Q E hr h=> ?_)
 have hx:XOk (zfi (cxE P w) P w K mg base ["self","block"] "Plank.read" (zab zf4) f cdv A outer s H E) (λ_=>E):=za8
 exact⟨zjy K a (λ_=>E),(zaf (zb1 (zai (pvr 0) T.c_Plank m_Plank_ask_for_block (hr.mono (by decide)) hx.passes (zaa (pvr 1) zad)))
   (zag (zbb (zhc zrg rfl T.b_list (by rfl) (zaa (zdk zbs (zas (pvr 0) rfl) (pvr 1) (λ_ _=>rfl)) zad))))),R vs H Q E h⟩
abbrev zfb:Stmt:=za9 (top 32) 5
theorem z5k:zaq ["self","block","values"] ["self","block","values"] (zab zfb):=⟨rfl,rfl,rfl,by decide +kernel,rfl,by decide +kernel,by decide +kernel⟩
theorem z5l(T:Txt K mg a)(F:Fun K "write" "Plank.write" zfb f fd)(m_Plank_ask_for_block:zcw P w K mg base (a "Plank") 1 "ask_for_block" ["self","block"] (za4 K a))
  (R:zgi (zdp K a) (zlr K a) ["self","block","values"]) (L:zb4 (zdp K a) 3) :
  FnOk P w K mg base (cxE P w) 2 f fd ["self","block","values"] (zdp K a):=by
 refine F.okE z5k L (λcdv A outer s H vs Q E hr h=> ?_)
 have hx:XOk (zfi (cxE P w) P w K mg base ["self","block","values"] "Plank.write" (zab zfb) f cdv A outer s H E) (λ_=>E):=za8
 exact⟨zlr K a (λ_=>E),(zaf (zb1 (zai (pvr 0) T.c_Plank m_Plank_ask_for_block (hr.mono (by decide)) hx.passes (zaa (pvr 1) zad)))
   (zaf (zd6 (zbt (jes hr.units) (zcm zfh rfl T.b_len (by rfl) (zaa (pvr 2) zad)) (zas (pvr 0) rfl) (zcu _)) (zag (zih hx T.x_NoBlock rfl T.r_NoBlock (zaa zch zad))) zcz)
   (zaf (jik (zhc zto rfl T.b_tuple (by rfl) (zaa (pvr 2) zad)) (jij (zas (pvr 0) rfl) (pvr 1) jey))
   (zag (jd7 (pvr 0) zaj jlf))))),R vs H Q E h⟩
abbrev zdg:Stmt:=za9 (top 34) 1
theorem zz7:zaq ["self","k"] ["self","k"] (zab zdg):=⟨rfl,rfl,rfl,by decide +kernel,rfl,by decide +kernel,by decide +kernel⟩
theorem zz8(T:Txt K mg a)(F:Fun K "name_at" "Layout.name_at" zdg f fd)(m_Layout_place_from:zcw P w K mg base (a "Layout") 1 "place_from" ["self","block","k"] (zar K a))
  (R:zgi (za5 K a) (zgf K a) ["self","k"]) (L:zb4 (za5 K a) 2) :
  FnOk P w K mg base (cxE P w) 2 f fd ["self","k"] (za5 K a):=by
 refine F.okE zz7 L (λcdv A outer s H vs Q E hr h=> ?_)
 have hx:XOk (zfi (cxE P w) P w K mg base ["self","k"] "Layout.name_at" (zab zdg) f cdv A outer s H E) (λ_=>E):=za8
 exact⟨zgf K a (λ_=>E),(zag (zbb (zai (pvr 0) T.c_Layout m_Layout_place_from (hr.mono (by decide)) hx.passes (zaa zaj (zaa (pvr 1) zad))))),R vs H Q E h⟩
abbrev zcs:Stmt:=za9 (top 34) 2
theorem zu7:zaq ["self","k"] ["self","k"] (zab zcs):=⟨rfl,rfl,rfl,by decide +kernel,rfl,by decide +kernel,by decide +kernel⟩
theorem zu8(T:Txt K mg a)(F:Fun K "record_at" "Layout.record_at" zcs f fd)(m_Layout_place_from:zcw P w K mg base (a "Layout") 1 "place_from" ["self","block","k"] (zar K a))
  (R:zgi (zat K a) (ze4 K a) ["self","k"]) (L:zb4 (zat K a) 2) :
  FnOk P w K mg base (cxE P w) 2 f fd ["self","k"] (zat K a):=by
 refine F.okE zu7 L (λcdv A outer s H vs Q E hr h=> ?_)
 have hx:XOk (zfi (cxE P w) P w K mg base ["self","k"] "Layout.record_at" (zab zcs) f cdv A outer s H E) (λ_=>E):=za8
 exact⟨ze4 K a (λ_=>E),(zag (zbb (zai (pvr 0) T.c_Layout m_Layout_place_from (hr.mono (by decide)) hx.passes (zaa (zas (pvr 0) rfl) (zaa (pvr 1) zad))))),R vs H Q E h⟩
abbrev zc0:Stmt:=za9 (top 34) 3
theorem zxt:zaq ["self","k"] ["self","k"] (zab zc0):=⟨rfl,rfl,rfl,by decide +kernel,rfl,by decide +kernel,by decide +kernel⟩
theorem zxu(T:Txt K mg a)(F:Fun K "piece_at" "Layout.piece_at" zc0 f fd)(m_Layout_place_from:zcw P w K mg base (a "Layout") 1 "place_from" ["self","block","k"] (zar K a))
  (R:zgi (zbg K a) (zfo K a) ["self","k"]) (L:zb4 (zbg K a) 2) :
  FnOk P w K mg base (cxE P w) 2 f fd ["self","k"] (zbg K a):=by
 refine F.okE zxt L (λcdv A outer s H vs Q E hr h=> ?_)
 have hx:XOk (zfi (cxE P w) P w K mg base ["self","k"] "Layout.piece_at" (zab zc0) f cdv A outer s H E) (λ_=>E):=za8
 exact⟨zfo K a (λ_=>E),(zag (zbb (zai (pvr 0) T.c_Layout m_Layout_place_from (hr.mono (by decide)) hx.passes (zaa (zav zbc (zas (pvr 0) rfl) (zas (pvr 0) rfl)) (zaa (pvr 1) zad))))),R vs H Q E h⟩
abbrev zb6:Stmt:=za9 (top 34) 4
theorem zq9:zaq ["self","k"] ["self","k"] (zab zb6):=⟨rfl,rfl,rfl,by decide +kernel,rfl,by decide +kernel,by decide +kernel⟩
theorem zra(T:Txt K mg a)(F:Fun K "record_mark" "Layout.record_mark" zb6 f fd)(m_Layout_place_from:zcw P w K mg base (a "Layout") 1 "place_from" ["self","block","k"] (zar K a))(m_Layout_blocks_ahead_of_marks:zcw P w K mg base (a "Layout") 1 "blocks_ahead_of_marks" ["self"] (zak K a))
  (R:zgi (za1 K a) (zeg K a) ["self","k"]) (L:zb4 (za1 K a) 2) :
  FnOk P w K mg base (cxE P w) 2 f fd ["self","k"] (za1 K a):=by
 refine F.okE zq9 L (λcdv A outer s H vs Q E hr h=> ?_)
 have hx:XOk (zfi (cxE P w) P w K mg base ["self","k"] "Layout.record_mark" (zab zb6) f cdv A outer s H E) (λ_=>E):=za8
 exact⟨zeg K a (λ_=>E),(zag (zbb (zai (pvr 0) T.c_Layout m_Layout_place_from (hr.mono (by decide)) hx.passes (zaa (zbu (pvr 0) T.c_Layout m_Layout_blocks_ahead_of_marks (hr.mono (by decide)) hx.passes) (zaa (pvr 1) zad))))),R vs H Q E h⟩
abbrev zce:Stmt:=za9 (top 34) 5
theorem zr5:zaq ["self","k"] ["self","k"] (zab zce):=⟨rfl,rfl,rfl,by decide +kernel,rfl,by decide +kernel,by decide +kernel⟩
theorem zr6(T:Txt K mg a)(F:Fun K "piece_mark" "Layout.piece_mark" zce f fd)(m_Layout_place_from:zcw P w K mg base (a "Layout") 1 "place_from" ["self","block","k"] (zar K a))(m_Layout_blocks_ahead_of_marks:zcw P w K mg base (a "Layout") 1 "blocks_ahead_of_marks" ["self"] (zak K a))
  (R:zgi (zax K a) (zeu K a) ["self","k"]) (L:zb4 (zax K a) 2) :
  FnOk P w K mg base (cxE P w) 2 f fd ["self","k"] (zax K a):=by
 refine F.okE zr5 L (λcdv A outer s H vs Q E hr h=> ?_)
 have hx:XOk (zfi (cxE P w) P w K mg base ["self","k"] "Layout.piece_mark" (zab zce) f cdv A outer s H E) (λ_=>E):=za8
 exact⟨zeu K a (λ_=>E),(zag (zbb (zai (pvr 0) T.c_Layout m_Layout_place_from (hr.mono (by decide)) hx.passes (zaa (zav zbc (zbu (pvr 0) T.c_Layout m_Layout_blocks_ahead_of_marks (hr.mono (by decide)) hx.passes) (zas (pvr 0) rfl)) (zaa (pvr 1) zad))))),R vs H Q E h⟩
abbrev zdz:Stmt:=za9 (top 34) 7
theorem z13:zaq ["self"] ["self"] (zab zdz):=⟨rfl,rfl,rfl,by decide +kernel,rfl,by decide +kernel,by decide +kernel⟩
theorem z14(T:Txt K mg a)(F:Fun K "blocks" "Layout.blocks" zdz f fd)(m_Layout_blocks_ahead_of_marks:zcw P w K mg base (a "Layout") 1 "blocks_ahead_of_marks" ["self"] (zak K a))
  (R:zgi (zbz K a) (zgv K a) ["self"]) (L:zb4 (zbz K a) 1) :
  FnOk P w K mg base (cxE P w) 2 f fd ["self"] (zbz K a):=by
 refine F.okE z13 L (λcdv A outer s H vs Q E hr h=> ?_)
 have hx:XOk (zfi (cxE P w) P w K mg base ["self"] "Layout.blocks" (zab zdz) f cdv A outer s H E) (λ_=>E):=za8
 exact⟨zgv K a (λ_=>E),(zag (zbb (zav zbc (zav zbc (zbu (pvr 0) T.c_Layout m_Layout_blocks_ahead_of_marks (hr.mono (by decide)) hx.passes) (zas (pvr 0) rfl)) (zas (pvr 0) rfl)))),R vs H Q E h⟩
abbrev zfc:Stmt:=za9 (top 13) 3
theorem z5m:zaq ["self","place"] ["self","place"] (zab zfc):=⟨rfl,rfl,rfl,by decide +kernel,rfl,by decide +kernel,by decide +kernel⟩
theorem z5n(T:Txt K mg a)(F:Fun K "newest" "Book.newest" zfc f fd)(m_Hold_ask_for_place:zcw P w K mg base (a "Hold") 2 "ask_for_place" ["self","place"] (zbo K a))
  (R:zgi (zcj K a) (zio K a) ["self","place"]) (L:zb4 (zcj K a) 2) :
  FnOk P w K mg base (cxE P w) 3 f fd ["self","place"] (zcj K a):=by
 refine F.okE z5m L (λcdv A outer s H vs Q E hr h=> ?_)
 have hx:XOk (zfi (cxE P w) P w K mg base ["self","place"] "Book.newest" (zab zfc) f cdv A outer s H E) (λ_=>E):=za8
 exact⟨zio K a (λ_=>E),(zaf (zb1 (zai (pvr 0) T.c_Hold m_Hold_ask_for_place (hr.mono (by decide)) hx.passes (zaa (pvr 1) zad)))
   (zag (zbb (jg8 (zx1 hr) (zas (pvr 0) rfl) (pvr 1) ⟨rfl,rfl,rfl,rfl⟩)))),R vs H Q E h⟩
abbrev zf5:Stmt:=za9 (top 16) 0
theorem zj6:zaq ["self","block","values","told","number"] ["self","block"] (zab zf5):=⟨rfl,rfl,rfl,by decide +kernel,rfl,by decide +kernel,by decide +kernel⟩
theorem z7z(T:Txt K mg a)(F:Fun K "write" "Hold.write" zf5 f fd)(m_Plank_read:zcw P w K mg base (a "Plank") 2 "read" ["self","block"] (zc4 K a))(m_Hold_outcome:zcw P w K mg base (a "Hold") 2 "outcome" ["self","block","taken"] (zdc K a))(m_Plank_write:zcw P w K mg base (a "Plank") 2 "write" ["self","block","values"] (zdp K a))(m_Hold_laid_over:zcw P w K mg base (a "Hold") 1 "laid_over" ["self","values","block"] (zcg K a))
  (R:zgi (zeb K a) (zjz K a) ["self","block","values","told","number"]) (L:zb4 (zeb K a) 2) :
  FnOk P w K mg base (cxE P w) 3 f fd ["self","block"] (zeb K a):=by
 refine F.okE zj6 L (λcdv A outer s H vs Q E hr h=> ?_)
 have hx:XOk (zfi (cxE P w) P w K mg base ["self","block","values","told","number"] "Hold.write" (zab zf5) f cdv A outer s H E) (λ_=>E):=za8
 exact⟨zjz K a (λ_=>E),(zaf (za2 (i:=2) zj6.nd rfl (Or.inl rfl) (zai (zas (pvr 0) rfl) T.c_Plank m_Plank_read (hr.mono (by decide)) hx.passes (zaa (pvr 1) zad)))
   (zaf (za2 (i:=3) zj6.nd rfl (Or.inl rfl) (zai (pvr 0) T.c_Hold m_Hold_outcome (hr.mono (by decide)) hx.passes (zaa (pvr 1) (zaa z6q zad))))
   (zaf (zr9 hx.po rfl (zpb (zdk zbs (pvr 3) zaj (λ_ _=>rfl))) (zc9 (i:=4) zj6.nd rfl (Or.inl rfl)) (zag (z6p (zx1 hr) (zas (pvr 0) rfl) (pvr 4) z79 rfl)))
   (zaf (zb1 (zai (zas (pvr 0) rfl) T.c_Plank m_Plank_write (hr.mono (by decide)) hx.passes (zaa (pvr 1) (zaa (zai (pvr 0) T.c_Hold m_Hold_laid_over (hr.mono (by decide)) hx.passes (zaa (pvr 2) (zaa (pvr 1) zad))) zad))))
   (zag (zbb (pvr 3))))))),R vs H Q E h⟩
abbrev zeq:Stmt:=za9 (top 34) 8
theorem z4h:zaq ["self"] ["self"] (zab zeq):=⟨rfl,rfl,rfl,by decide +kernel,rfl,by decide +kernel,by decide +kernel⟩
theorem z4i(T:Txt K mg a)(F:Fun K "plank" "Layout.plank" zeq f fd)(m_Layout_blocks:zcw P w K mg base (a "Layout") 2 "blocks" ["self"] (zbz K a))(n_Plank:jk0 P w K mg base (a "Plank") 1 "Plank" ["self","blocks","cells"] (zd8 K a))
  (R:zgi (zda K a) (zho K a) ["self"]) (L:zb4 (zda K a) 1) :
  FnOk P w K mg base (cxE P w) 3 f fd ["self"] (zda K a):=by
 refine F.okE z4h L (λcdv A outer s H vs Q E hr h=> ?_)
 have hx:XOk (zfi (cxE P w) P w K mg base ["self"] "Layout.plank" (zab zeq) f cdv A outer s H E) (λ_=>E):=za8
 exact⟨zho K a (λ_=>E),(zag (zbb (zvf n_Plank (hr.mono (by decide)) hx.passes rfl (zaa (zbu (pvr 0) T.c_Layout m_Layout_blocks (hr.mono (by decide)) hx.passes) (zaa (zas (pvr 0) rfl) zad))))),R vs H Q E h⟩
abbrev zfd:Stmt:=za9 (top 13) 1
theorem zl4:zaq ["self","place","value","needs","ahead","number"] ["self","place","value","needs"] (zab zfd):=⟨rfl,rfl,rfl,by decide +kernel,rfl,by decide +kernel,by decide +kernel⟩
theorem z5o(T:Txt K mg a)(F:Fun K "change" "Book.change" zfd f fd)(m_Hold_newest:zcw P w K mg base (a "Hold") 3 "newest" ["self","place"] (zcj K a))(m_Hold_ask_for_changes:zcw P w K mg base (a "Hold") 1 "ask_for_changes" ["self","numbers"] (zbh K a))(c_needs_with:Cal P w K mg base (1) "needs_with" ["needs","ahead"] (zea K a))(n_Change:jk0 P w K mg base (a "Change") 1 "Change" ["self","place","value","needs"] (zdr K a))
  (R:zgi (zao K a) (ziq K a) ["self","place","value","needs","ahead","number"]) (L:zb4 (zao K a) 4) :
  FnOk P w K mg base (cxE P w) 4 f fd ["self","place","value","needs"] (zao K a):=by
 refine F.okE zl4 L (λcdv A outer s H vs Q E hr h=> ?_)
 have hx:XOk (zfi (cxE P w) P w K mg base ["self","place","value","needs","ahead","number"] "Book.change" (zab zfd) f cdv A outer s H E) (λ_=>E):=za8
 exact⟨ziq K a (λ_=>E),(zaf (za2 (i:=4) zl4.nd rfl (Or.inl rfl) (zai (pvr 0) T.c_Hold m_Hold_newest (hr.mono (by decide)) hx.passes (zaa (pvr 1) zad)))
   (zaf (zb1 (zai (pvr 0) T.c_Hold m_Hold_ask_for_changes (hr.mono (by decide)) hx.passes (zaa (pvr 3) zad)))
   (zaf (za2 (i:=5) zl4.nd rfl (Or.inl rfl) (zcm zfh rfl T.b_len (by rfl) (zaa (zas (pvr 0) rfl) zad)))
   (zaf (zb1 (z8l PySem.F.plainAttrs_list PySem.F.slot_list_append PySem.F.type_list_append zl8 (zas (pvr 0) rfl) (zaa (zvf n_Change (hr.mono (by decide)) hx.passes rfl (zaa (pvr 1) (zaa (pvr 2) (zaa (zcn c_needs_with (hr.mono (by decide)) hx.passes rfl (zaa (pvr 3) (zaa (pvr 4) zad))) zad)))) zad)))
   (zaf (zb1 (z8l PySem.F.plainAttrs_list PySem.F.slot_list_append PySem.F.type_list_append zl8 (zdk zbs (zas (pvr 0) rfl) (zdk zbs (pvr 1) zaj (λ_ _=>rfl)) (λ_ _=>rfl)) (zaa (pvr 5) zad)))
   (zaf (z6p (zx1 hr) (zas (pvr 0) rfl) (pvr 1) (pvr 5) rfl)
   (zag (zbb (pvr 5))))))))),R vs H Q E h⟩
abbrev zer:Stmt:=za9 (top 13) 2
theorem zrb:zaq ["self","place","number"] ["self","place"] (zab zer):=⟨rfl,rfl,rfl,by decide +kernel,rfl,by decide +kernel,by decide +kernel⟩
theorem z4j(T:Txt K mg a)(F:Fun K "in_hand" "Book.in_hand" zer f fd)(m_Hold_newest:zcw P w K mg base (a "Hold") 3 "newest" ["self","place"] (zcj K a))(m_Plank_read:zcw P w K mg base (a "Plank") 2 "read" ["self","block"] (zc4 K a))
  (R:zgi (zbi K a) (zhp K a) ["self","place","number"]) (L:zb4 (zbi K a) 2) :
  FnOk P w K mg base (cxE P w) 4 f fd ["self","place"] (zbi K a):=by
 refine F.okE zrb L (λcdv A outer s H vs Q E hr h=> ?_)
 have hx:XOk (zfi (cxE P w) P w K mg base ["self","place","number"] "Book.in_hand" (zab zer) f cdv A outer s H E) (λ_=>E):=za8
 exact⟨zhp K a (λ_=>E),(zaf (za2 (i:=2) zrb.nd rfl (Or.inl rfl) (zai (pvr 0) T.c_Hold m_Hold_newest (hr.mono (by decide)) hx.passes (zaa (pvr 1) zad)))
   (zaf (zd6 (zbt jbs (pvr 2) ziy (zcu _)) (zag (zbb (zdk zbs (zai (zas (pvr 0) rfl) T.c_Plank m_Plank_read (hr.mono (by decide)) hx.passes (zaa (zdk zbs (pvr 1) zaj (λ_ _=>rfl)) zad)) (zdk zbs (pvr 1) zaj (λ_ _=>rfl)) (λ_ _=>rfl)))) zcz)
   (zag (zbb (zas (zdk zbs (zas (pvr 0) rfl) (pvr 2) (λ_ _=>rfl)) rfl))))),R vs H Q E h⟩
abbrev zf6:Stmt:=za9 (top 30) 0
theorem z70:zaq ["self","layout","plank"] ["self","layout","plank"] (zab zf6):=⟨rfl,rfl,rfl,by decide +kernel,rfl,by decide +kernel,by decide +kernel⟩
theorem z71(T:Txt K mg a)(F:Fun K "__init__" "Store.__init__" zf6 f fd)(n_Hold:jk0 P w K mg base (a "Hold") 2 "Hold" ["self","plank"] (zd9 K a))
  (R:zgi (zed K a) (zj0 K a) ["self","layout","plank"]) (L:zb4 (zed K a) 3) :
  FnOk P w K mg base (cxE P w) 4 f fd ["self","layout","plank"] (zed K a):=by
 refine F.okE z70 L (λcdv A outer s H vs Q E hr h=> ?_)
 have hx:XOk (zfi (cxE P w) P w K mg base ["self","layout","plank"] "Store.__init__" (zab zf6) f cdv A outer s H E) (λ_=>E):=za8
 exact⟨zj0 K a (λ_=>E),(zaf (zhv (pvr 0) (pvr 1) rfl)
   (zaf (zhv (pvr 0) (zvf n_Hold (hr.mono (by decide)) hx.passes rfl (zaa (pvr 2) zad)) rfl)
   (zag (zhv (pvr 0) z6q rfl)))),R vs H Q E h⟩
abbrev zfe:Stmt:=za9 (top 30) 10
theorem z5p:zaq ["self","block"] ["self","block"] (zab zfe):=⟨rfl,rfl,rfl,by decide +kernel,rfl,by decide +kernel,by decide +kernel⟩
theorem z5q(T:Txt K mg a)(F:Fun K "write" "Store.write" zfe f fd)(m_Hold_write:zcw P w K mg base (a "Hold") 3 "write" ["self","block"] (zeb K a))
  (R:zgi (zc6 K a) (zir K a) ["self","block"]) (L:zb4 (zc6 K a) 2) :
  FnOk P w K mg base (cxE P w) 4 f fd ["self","block"] (zc6 K a):=by
 refine F.okE z5p L (λcdv A outer s H vs Q E hr h=> ?_)
 have hx:XOk (zfi (cxE P w) P w K mg base ["self","block"] "Store.write" (zab zfe) f cdv A outer s H E) (λ_=>E):=za8
 exact⟨zir K a (λ_=>E),(zag (zbb (zai (zas (pvr 0) rfl) T.c_Hold m_Hold_write (hr.mono (by decide)) hx.passes (zaa (pvr 1) zad)))),R vs H Q E h⟩
abbrev zff:Stmt:=top 28
theorem zl5:zaq ["hold","places","values","k","place"] ["hold","places","values"] (zab zff):=⟨rfl,rfl,rfl,by decide +kernel,rfl,by decide +kernel,by decide +kernel⟩
theorem z5r(T:Txt K mg a)(F:Fun K "lowest_with" "lowest_with" zff f fd)(m_Hold_in_hand:zcw P w K mg base (a "Hold") 4 "in_hand" ["self","place"] (zbi K a))
  (R:zgi (zbp K a) (zis K a) ["hold","places","values","k","place"]) (L:zb4 (zbp K a) 3) :
  FnOk P w K mg base (cxE P w) 5 f fd ["hold","places","values"] (zbp K a):=by
 refine F.okE zl5 L (λcdv A outer s H vs Q E hr h=> ?_)
 have hx:XOk (zfi (cxE P w) P w K mg base ["hold","places","values","k","place"] "lowest_with" (zab zff) f cdv A outer s H E) (λ_=>E):=za8
 exact⟨zis K a (λ_=>E),(zaf (zr9 hx.po rfl (jfr rfl T.b_enumerate (zaa (pvr 1) zad)) (jii rfl (z2a (zc9 (i:=3) zl5.nd rfl (Or.inl rfl)) (z2a (zc9 (i:=4) zl5.nd rfl (Or.inl rfl)) jdy))) (zag (zd6 (zbt (jmr hr.units) (zai (pvr 0) T.c_Hold m_Hold_in_hand (hr.mono (by decide)) hx.passes (zaa (pvr 4) zad)) (pvr 2) (by with_unfolding_all rfl)) (zag (zbb (pvr 3))) zcz)))
   (zag (zih hx T.x_NoRoom rfl T.r_NoRoom (zaa zch zad)))),R vs H Q E h⟩
abbrev zb7:Stmt:=za9 (top 30) 16
theorem zu9:zaq ["self"] ["self"] (zab zb7):=⟨rfl,rfl,rfl,by decide +kernel,rfl,by decide +kernel,by decide +kernel⟩
theorem zva(T:Txt K mg a)(F:Fun K "name_cells" "Store.name_cells" zb7 f fd)(m_Layout_counts:zcw P w K mg base (a "Layout") 1 "counts" ["self"] (zbd K a))(m_Hold_in_hand:zcw P w K mg base (a "Hold") 4 "in_hand" ["self","place"] (zbi K a))(m_Layout_name_at:zcw P w K mg base (a "Layout") 2 "name_at" ["self","k"] (za5 K a))
  (R:zgi (zba K a) (ze5 K a) ["self"]) (L:zb4 (zba K a) 1) :
  FnOk P w K mg base (cxE P w) 5 f fd ["self"] (zba K a):=by
 refine F.okE zu9 L (λcdv A outer s H vs Q E hr h=> ?_)
 have hx:XOk (zfi (cxE P w) P w K mg base ["self"] "Store.name_cells" (zab zb7) f cdv A outer s H E) (λ_=>E):=za8
 exact⟨ze5 K a (λ_=>E),(zag (zbb (zkd (tn:=["k"]) (cn:=["self"]) (cap:=[0]) (zky (outer:=zab zb7) (N:=["self"]) rfl rfl (by decide +kernel)) rfl (zhb rfl T.b_range (zaa (zdk zbs (zbu (zas (pvr 0) rfl) T.c_Layout m_Layout_counts (hr.mono (by decide)) hx.passes) zaj (λ_ _=>rfl)) zad)) (λ_ _ _ _ _ _=>(zc9 (i:=0) (show(["k","self"]:List Str).Nodup from by decide +kernel) rfl (Or.inl rfl))) (λ_ _ _ _ _ _=>zjf) (λ_ _ _ _ _ _=>(zai (zas (pvr 1) rfl) T.c_Hold m_Hold_in_hand (hr.mono (by decide)) zlm (zaa (zai (zas (pvr 1) rfl) T.c_Layout m_Layout_name_at (hr.mono (by decide)) zlm (zaa (pvr 0) zad)) zad)))))),R vs H Q E h⟩
abbrev zdh:Stmt:=za9 (top 30) 17
theorem zz9:zaq ["self","record"] ["self","record"] (zab zdh):=⟨rfl,rfl,rfl,by decide +kernel,rfl,by decide +kernel,by decide +kernel⟩
theorem z0a(T:Txt K mg a)(F:Fun K "standing" "Store.standing" zdh f fd)(m_Hold_in_hand:zcw P w K mg base (a "Hold") 4 "in_hand" ["self","place"] (zbi K a))(m_Layout_record_at:zcw P w K mg base (a "Layout") 2 "record_at" ["self","k"] (zat K a))
  (R:zgi (zap K a) (zgg K a) ["self","record"]) (L:zb4 (zap K a) 2) :
  FnOk P w K mg base (cxE P w) 5 f fd ["self","record"] (zap K a):=by
 refine F.okE zz9 L (λcdv A outer s H vs Q E hr h=> ?_)
 have hx:XOk (zfi (cxE P w) P w K mg base ["self","record"] "Store.standing" (zab zdh) f cdv A outer s H E) (λ_=>E):=za8
 exact⟨zgg K a (λ_=>E),(zag (zbb (zai (zas (pvr 0) rfl) T.c_Hold m_Hold_in_hand (hr.mono (by decide)) hx.passes (zaa (zai (zas (pvr 0) rfl) T.c_Layout m_Layout_record_at (hr.mono (by decide)) hx.passes (zaa (pvr 1) zad)) zad)))),R vs H Q E h⟩
abbrev zc1:Stmt:=za9 (top 30) 18
theorem zlj:zaq ["self","cell","name","record","need","needs"] ["self","cell","name","record","need"] (zab zc1):=⟨rfl,rfl,rfl,by decide +kernel,rfl,by decide +kernel,by decide +kernel⟩
theorem zxv(T:Txt K mg a)(F:Fun K "fill_cell" "Store.fill_cell" zc1 f fd)(m_Hold_change:zcw P w K mg base (a "Hold") 4 "change" ["self","place","value","needs"] (zao K a))(m_Layout_name_at:zcw P w K mg base (a "Layout") 2 "name_at" ["self","k"] (za5 K a))
  (R:zgi (zbm K a) (zfp K a) ["self","cell","name","record","need","needs"]) (L:zb4 (zbm K a) 5) :
  FnOk P w K mg base (cxE P w) 5 f fd ["self","cell","name","record","need"] (zbm K a):=by
 refine F.okE zlj L (λcdv A outer s H vs Q E hr h=> ?_)
 have hx:XOk (zfi (cxE P w) P w K mg base ["self","cell","name","record","need","needs"] "Store.fill_cell" (zab zc1) f cdv A outer s H E) (λ_=>E):=za8
 exact⟨zfp K a (λ_=>E),(zaf (za2 (i:=5) zlj.nd rfl (Or.inl rfl) (zcf (zaa (pvr 4) zad)))
   (zaf (zd6 (z2k (jis (zx1 hr) (pvr 2) (zas (pvr 0) rfl)) (by with_unfolding_all rfl)) (zag (zb1 (z8l PySem.F.plainAttrs_list PySem.F.slot_list_append PySem.F.type_list_append zl8 (pvr 5) (zaa (jjn (zx1 hr) (zas (pvr 0) rfl) (pvr 2) (λ_ _=>rfl)) zad)))) zcz)
   (zag (zbb (zai (zas (pvr 0) rfl) T.c_Hold m_Hold_change (hr.mono (by decide)) hx.passes (zaa (zai (zas (pvr 0) rfl) T.c_Layout m_Layout_name_at (hr.mono (by decide)) hx.passes (zaa (pvr 1) zad)) (zaa (ziz (zaa (pvr 2) (zaa (pvr 3) zad))) (zaa (pvr 5) zad)))))))),R vs H Q E h⟩
abbrev zf7:Stmt:=top 25
theorem z0i:zaq ["layout","hold","places"] ["layout","hold"] (zab zf7):=⟨rfl,rfl,rfl,by decide +kernel,rfl,by decide +kernel,by decide +kernel⟩
theorem z99(T:Txt K mg a)(F:Fun K "free_name" "free_name" zf7 f fd)(m_Layout_counts:zcw P w K mg base (a "Layout") 1 "counts" ["self"] (zbd K a))(m_Layout_name_at:zcw P w K mg base (a "Layout") 2 "name_at" ["self","k"] (za5 K a))(c_lowest_with:Cal P w K mg base (5) "lowest_with" ["hold","places","values"] (zbp K a))
  (R:zgi (zds K a) (zk7 K a) ["layout","hold","places"]) (L:zb4 (zds K a) 2) :
  FnOk P w K mg base (cxE P w) 6 f fd ["layout","hold"] (zds K a):=by
 refine F.okE z0i L (λcdv A outer s H vs Q E hr h=> ?_)
 have hx:XOk (zfi (cxE P w) P w K mg base ["layout","hold","places"] "free_name" (zab zf7) f cdv A outer s H E) (λ_=>E):=za8
 exact⟨zk7 K a (λ_=>E),(zaf (jao (i:=2) (tn:=["k"]) (cn:=["layout"]) (cap:=[0]) (zky (outer:=zab zf7) (N:=["layout","hold","places"]) rfl rfl (by decide +kernel)) rfl z0i.nd rfl rfl (zhb rfl T.b_range (zaa (zdk zbs (zbu (pvr 0) T.c_Layout m_Layout_counts (hr.mono (by decide)) hx.passes) zaj (λ_ _=>rfl)) zad)) (λ_ _ _ _ _ _=>(zc9 (i:=0) (show(["k","layout"]:List Str).Nodup from by decide +kernel) rfl (Or.inl rfl))) (λ_ _ _ _ _ _=>zjf) (λ_ _ _ _ _ _=>(zai (pvr 1) T.c_Layout m_Layout_name_at (hr.mono (by decide)) zlm (zaa (pvr 0) zad))))
   (zag (zbb (zcn c_lowest_with (hr.mono (by decide)) hx.passes rfl (zaa (pvr 1) (zaa (pvr 2) (zaa (ziz (zaa ziy zad)) zad))))))),R vs H Q E h⟩
abbrev zeh:Stmt:=top 26
theorem ztl:zaq ["layout","hold","marks"] ["layout","hold"] (zab zeh):=⟨rfl,rfl,rfl,by decide +kernel,rfl,by decide +kernel,by decide +kernel⟩
theorem z5s(T:Txt K mg a)(F:Fun K "free_record" "free_record" zeh f fd)(m_Layout_counts:zcw P w K mg base (a "Layout") 1 "counts" ["self"] (zbd K a))(m_Layout_record_mark:zcw P w K mg base (a "Layout") 2 "record_mark" ["self","k"] (za1 K a))(c_lowest_with:Cal P w K mg base (5) "lowest_with" ["hold","places","values"] (zbp K a))
  (R:zgi (zdt K a) (zit K a) ["layout","hold","marks"]) (L:zb4 (zdt K a) 2) :
  FnOk P w K mg base (cxE P w) 6 f fd ["layout","hold"] (zdt K a):=by
 refine F.okE ztl L (λcdv A outer s H vs Q E hr h=> ?_)
 have hx:XOk (zfi (cxE P w) P w K mg base ["layout","hold","marks"] "free_record" (zab zeh) f cdv A outer s H E) (λ_=>E):=za8
 exact⟨zit K a (λ_=>E),(zaf (jao (i:=2) (tn:=["k"]) (cn:=["layout"]) (cap:=[0]) (zky (outer:=zab zeh) (N:=["layout","hold","marks"]) rfl rfl (by decide +kernel)) rfl ztl.nd rfl rfl (zhb rfl T.b_range (zaa (zdk zbs (zbu (pvr 0) T.c_Layout m_Layout_counts (hr.mono (by decide)) hx.passes) zaj (λ_ _=>rfl)) zad)) (λ_ _ _ _ _ _=>(zc9 (i:=0) (show(["k","layout"]:List Str).Nodup from by decide +kernel) rfl (Or.inl rfl))) (λ_ _ _ _ _ _=>zjf) (λ_ _ _ _ _ _=>(zai (pvr 1) T.c_Layout m_Layout_record_mark (hr.mono (by decide)) zlm (zaa (pvr 0) zad))))
   (zag (zbb (zcn c_lowest_with (hr.mono (by decide)) hx.passes rfl (zaa (pvr 1) (zaa (pvr 2) (zaa (ziz (zaa ziy (zaa zaj zad))) zad))))))),R vs H Q E h⟩
abbrev ze0:Stmt:=top 27
theorem zxw:zaq ["layout","hold","marks"] ["layout","hold"] (zab ze0):=⟨rfl,rfl,rfl,by decide +kernel,rfl,by decide +kernel,by decide +kernel⟩
theorem z72(T:Txt K mg a)(F:Fun K "free_piece" "free_piece" ze0 f fd)(m_Layout_counts:zcw P w K mg base (a "Layout") 1 "counts" ["self"] (zbd K a))(m_Layout_piece_mark:zcw P w K mg base (a "Layout") 2 "piece_mark" ["self","k"] (zax K a))(c_lowest_with:Cal P w K mg base (5) "lowest_with" ["hold","places","values"] (zbp K a))
  (R:zgi (zec K a) (zj1 K a) ["layout","hold","marks"]) (L:zb4 (zec K a) 2) :
  FnOk P w K mg base (cxE P w) 6 f fd ["layout","hold"] (zec K a):=by
 refine F.okE zxw L (λcdv A outer s H vs Q E hr h=> ?_)
 have hx:XOk (zfi (cxE P w) P w K mg base ["layout","hold","marks"] "free_piece" (zab ze0) f cdv A outer s H E) (λ_=>E):=za8
 exact⟨zj1 K a (λ_=>E),(zaf (jao (i:=2) (tn:=["k"]) (cn:=["layout"]) (cap:=[0]) (zky (outer:=zab ze0) (N:=["layout","hold","marks"]) rfl rfl (by decide +kernel)) rfl zxw.nd rfl rfl (zhb rfl T.b_range (zaa (zdk zbs (zbu (pvr 0) T.c_Layout m_Layout_counts (hr.mono (by decide)) hx.passes) zaj (λ_ _=>rfl)) zad)) (λ_ _ _ _ _ _=>(zc9 (i:=0) (show(["k","layout"]:List Str).Nodup from by decide +kernel) rfl (Or.inl rfl))) (λ_ _ _ _ _ _=>zjf) (λ_ _ _ _ _ _=>(zai (pvr 1) T.c_Layout m_Layout_piece_mark (hr.mono (by decide)) zlm (zaa (pvr 0) zad))))
   (zag (zbb (zcn c_lowest_with (hr.mono (by decide)) hx.passes rfl (zaa (pvr 1) (zaa (pvr 2) (zaa (ziz (zaa ziy (zaa zaj zad))) zad))))))),R vs H Q E h⟩
abbrev zei:Stmt:=za9 (top 30) 7
theorem z5t:zaq ["self"] ["self"] (zab zei):=⟨rfl,rfl,rfl,by decide +kernel,rfl,by decide +kernel,by decide +kernel⟩
theorem z5u(T:Txt K mg a)(F:Fun K "names" "Store.names" zei f fd)(m_Store_name_cells:zcw P w K mg base (a "Store") 5 "name_cells" ["self"] (zba K a))
  (R:zgi (zck K a) (ziu K a) ["self"]) (L:zb4 (zck K a) 1) :
  FnOk P w K mg base (cxE P w) 6 f fd ["self"] (zck K a):=by
 refine F.okE z5t L (λcdv A outer s H vs Q E hr h=> ?_)
 have hx:XOk (zfi (cxE P w) P w K mg base ["self"] "Store.names" (zab zei) f cdv A outer s H E) (λ_=>E):=za8
 exact⟨ziu K a (λ_=>E),(zag (zbb (zcm (z89 rfl) rfl T.b_sorted (by rfl) (zaa (zkd (tn:=["value"]) (cn:=[]) (cap:=[]) (zky (outer:=zab zei) (N:=["self"]) rfl rfl (by decide +kernel)) rfl (zpb (zbu (pvr 0) T.c_Store m_Store_name_cells (hr.mono (by decide)) hx.passes)) (λ_ _ _ _ _ _=>(zc9 (i:=0) (show(["value"]:List Str).Nodup from by decide +kernel) rfl (Or.inl rfl))) (λ_ _ _ _ _ _=>(jen (zbt jai (pvr 0) ziy (zcu _)))) (λ_ _ _ _ _ _=>(zdk zbs (pvr 0) zaj (λ_ _=>rfl)))) zad)))),R vs H Q E h⟩
abbrev zd0:Stmt:=za9 (top 30) 15
theorem zjl:zaq ["self","name","cell","value"] ["self","name"] (zab zd0):=⟨rfl,rfl,rfl,by decide +kernel,rfl,by decide +kernel,by decide +kernel⟩
theorem z15(T:Txt K mg a)(F:Fun K "cell_of" "Store.cell_of" zd0 f fd)(m_Store_name_cells:zcw P w K mg base (a "Store") 5 "name_cells" ["self"] (zba K a))
  (R:zgi (zbk K a) (zgw K a) ["self","name","cell","value"]) (L:zb4 (zbk K a) 2) :
  FnOk P w K mg base (cxE P w) 6 f fd ["self","name"] (zbk K a):=by
 refine F.okE zjl L (λcdv A outer s H vs Q E hr h=> ?_)
 have hx:XOk (zfi (cxE P w) P w K mg base ["self","name","cell","value"] "Store.cell_of" (zab zd0) f cdv A outer s H E) (λ_=>E):=za8
 exact⟨zgw K a (λ_=>E),(zaf (zr9 hx.po rfl (jfr rfl T.b_enumerate (zaa (zbu (pvr 0) T.c_Store m_Store_name_cells (hr.mono (by decide)) hx.passes) zad)) (jii rfl (z2a (zc9 (i:=2) zjl.nd rfl (Or.inl rfl)) (z2a (zc9 (i:=3) zjl.nd rfl (Or.inl rfl)) jdy))) (zag (zd6 (PW.pt (jbo (zbt jai (pvr 3) ziy (zcu _)) (z6i (zbt (zfk hr.units) (zdk zbs (pvr 3) zaj (λ_ _=>rfl)) (pvr 1) (zcu _))))) (zag (zbb (pvr 2))) zcz)))
   (zag (zbb ziy))),R vs H Q E h⟩
abbrev zd1:Stmt:=za9 (top 30) 20
theorem zox:zaq ["self","record","more","needs","value"] ["self","record","more","needs"] (zab zd1):=⟨rfl,rfl,rfl,by decide +kernel,rfl,by decide +kernel,by decide +kernel⟩
theorem z16(T:Txt K mg a)(F:Fun K "recount" "Store.recount" zd1 f fd)(m_Store_standing:zcw P w K mg base (a "Store") 5 "standing" ["self","record"] (zap K a))(m_Hold_change:zcw P w K mg base (a "Hold") 4 "change" ["self","place","value","needs"] (zao K a))(m_Layout_record_at:zcw P w K mg base (a "Layout") 2 "record_at" ["self","k"] (zat K a))
  (R:zgi (zbl K a) (zgx K a) ["self","record","more","needs","value"]) (L:zb4 (zbl K a) 4) :
  FnOk P w K mg base (cxE P w) 6 f fd ["self","record","more","needs"] (zbl K a):=by
 refine F.okE zox L (λcdv A outer s H vs Q E hr h=> ?_)
 have hx:XOk (zfi (cxE P w) P w K mg base ["self","record","more","needs","value"] "Store.recount" (zab zd1) f cdv A outer s H E) (λ_=>E):=za8
 exact⟨zgx K a (λ_=>E),(zaf (za2 (i:=4) zox.nd rfl (Or.inl rfl) (zai (pvr 0) T.c_Store m_Store_standing (hr.mono (by decide)) hx.passes (zaa (pvr 1) zad)))
   (zag (zbb (zai (zas (pvr 0) rfl) T.c_Hold m_Hold_change (hr.mono (by decide)) hx.passes (zaa (zai (zas (pvr 0) rfl) T.c_Layout m_Layout_record_at (hr.mono (by decide)) hx.passes (zaa (pvr 1) zad)) (zaa (ziz (zaa (zav zbc (zdk zbs (pvr 4) zaj (λ_ _=>rfl)) (pvr 2)) (zaa (zdk zbs (pvr 4) zaj (λ_ _=>rfl)) zad))) (zaa (pvr 3) zad))))))),R vs H Q E h⟩
abbrev zd2:Stmt:=za9 (top 30) 21
theorem z17:zaq ["self","record","pieces","needs"] ["self","record","pieces","needs"] (zab zd2):=⟨rfl,rfl,rfl,by decide +kernel,rfl,by decide +kernel,by decide +kernel⟩
theorem z18(T:Txt K mg a)(F:Fun K "regroup" "Store.regroup" zd2 f fd)(m_Hold_change:zcw P w K mg base (a "Hold") 4 "change" ["self","place","value","needs"] (zao K a))(m_Store_standing:zcw P w K mg base (a "Store") 5 "standing" ["self","record"] (zap K a))(m_Layout_record_at:zcw P w K mg base (a "Layout") 2 "record_at" ["self","k"] (zat K a))
  (R:zgi (zb0 K a) (zgy K a) ["self","record","pieces","needs"]) (L:zb4 (zb0 K a) 4) :
  FnOk P w K mg base (cxE P w) 6 f fd ["self","record","pieces","needs"] (zb0 K a):=by
 refine F.okE z17 L (λcdv A outer s H vs Q E hr h=> ?_)
 have hx:XOk (zfi (cxE P w) P w K mg base ["self","record","pieces","needs"] "Store.regroup" (zab zd2) f cdv A outer s H E) (λ_=>E):=za8
 exact⟨zgy K a (λ_=>E),(zag (zbb (zai (zas (pvr 0) rfl) T.c_Hold m_Hold_change (hr.mono (by decide)) hx.passes (zaa (zai (zas (pvr 0) rfl) T.c_Layout m_Layout_record_at (hr.mono (by decide)) hx.passes (zaa (pvr 1) zad)) (zaa (ziz (zaa (zdk zbs (zai (pvr 0) T.c_Store m_Store_standing (hr.mono (by decide)) hx.passes (zaa (pvr 1) zad)) zaj (λ_ _=>rfl)) (zaa (pvr 2) zad))) (zaa (pvr 3) zad)))))),R vs H Q E h⟩
abbrev zbx:Stmt:=za9 (top 30) 22
theorem zdj:zaq ["self","record","gone","pieces","dropped","made","mark"] ["self","record","gone"] (zab zbx):=⟨rfl,rfl,rfl,by decide +kernel,rfl,by decide +kernel,by decide +kernel⟩
theorem zr7(T:Txt K mg a)(F:Fun K "drop_record" "Store.drop_record" zbx f fd)(m_Store_standing:zcw P w K mg base (a "Store") 5 "standing" ["self","record"] (zap K a))(m_Hold_change:zcw P w K mg base (a "Hold") 4 "change" ["self","place","value","needs"] (zao K a))(m_Layout_record_at:zcw P w K mg base (a "Layout") 2 "record_at" ["self","k"] (zat K a))(m_Layout_piece_mark:zcw P w K mg base (a "Layout") 2 "piece_mark" ["self","k"] (zax K a))(m_Layout_record_mark:zcw P w K mg base (a "Layout") 2 "record_mark" ["self","k"] (za1 K a))
  (R:zgi (zbq K a) (zev K a) ["self","record","gone","pieces","dropped","made","mark"]) (L:zb4 (zbq K a) 3) :
  FnOk P w K mg base (cxE P w) 6 f fd ["self","record","gone"] (zbq K a):=by
 refine F.okE zdj L (λcdv A outer s H vs Q E hr h=> ?_)
 have hx:XOk (zfi (cxE P w) P w K mg base ["self","record","gone","pieces","dropped","made","mark"] "Store.drop_record" (zab zbx) f cdv A outer s H E) (λ_=>E):=za8
 exact⟨zev K a (λ_=>E),(zaf (za2 (i:=3) zdj.nd rfl (Or.inl rfl) (zdk zbs (zai (pvr 0) T.c_Store m_Store_standing (hr.mono (by decide)) hx.passes (zaa (pvr 1) zad)) zaj (λ_ _=>rfl)))
   (zaf (za2 (i:=4) zdj.nd rfl (Or.inl rfl) (zai (zas (pvr 0) rfl) T.c_Hold m_Hold_change (hr.mono (by decide)) hx.passes (zaa (zai (zas (pvr 0) rfl) T.c_Layout m_Layout_record_at (hr.mono (by decide)) hx.passes (zaa (pvr 1) zad)) (zaa ziy (zaa (zcf (zaa (pvr 2) zad)) zad)))))
   (zaf (za2 (i:=5) zdj.nd rfl (Or.inl rfl) (zcf (zaa (pvr 4) zad)))
   (zaf (zr9 hx.po rfl (zpb (zav zbc (zkd (tn:=["piece"]) (cn:=["self"]) (cap:=[0]) (zky (outer:=zab zbx) (N:=["self","record","gone","pieces","dropped","made","mark"]) rfl rfl (by decide +kernel)) rfl (zpb (pvr 3)) (λ_ _ _ _ _ _=>(zc9 (i:=0) (show(["piece","self"]:List Str).Nodup from by decide +kernel) rfl (Or.inl rfl))) (λ_ _ _ _ _ _=>zjf) (λ_ _ _ _ _ _=>(zai (zas (pvr 1) rfl) T.c_Layout m_Layout_piece_mark (hr.mono (by decide)) zlm (zaa (pvr 0) zad)))) (zcf (zaa (zai (zas (pvr 0) rfl) T.c_Layout m_Layout_record_mark (hr.mono (by decide)) hx.passes (zaa (pvr 1) zad)) zad)))) (zc9 (i:=6) zdj.nd rfl (Or.inl rfl)) (zag (zb1 (z8l PySem.F.plainAttrs_list PySem.F.slot_list_append PySem.F.type_list_append zl8 (pvr 5) (zaa (zai (zas (pvr 0) rfl) T.c_Hold m_Hold_change (hr.mono (by decide)) hx.passes (zaa (pvr 6) (zaa zaj (zaa (zcf (zaa (pvr 4) zad)) zad)))) zad)))))
   (zag (zbb (pvr 5))))))),R vs H Q E h⟩
abbrev zbf:Stmt:=za9 (top 30) 13
theorem zl6:zaq ["self","new","given"] ["self","new","given"] (zab zbf):=⟨rfl,rfl,rfl,by decide +kernel,rfl,by decide +kernel,by decide +kernel⟩
theorem zl7(T:Txt K mg a)(F:Fun K "ask_for_new_name" "Store.ask_for_new_name" zbf f fd)(c_is_name:Cal P w K mg base (1) "is_name" ["thing"] (zg5 K a))(m_Store_cell_of:zcw P w K mg base (a "Store") 6 "cell_of" ["self","name"] (zbk K a))
  (R:zgi (za3 K a) (zc8 K a) ["self","new","given"]) (L:zb4 (za3 K a) 3) :
  FnOk P w K mg base (cxE P w) 7 f fd ["self","new","given"] (za3 K a):=by
 refine F.okE zl6 L (λcdv A outer s H vs Q E hr h=> ?_)
 have hx:XOk (zfi (cxE P w) P w K mg base ["self","new","given"] "Store.ask_for_new_name" (zab zbf) f cdv A outer s H E) (λ_=>E):=za8
 exact⟨zc8 K a (λ_=>E),(zaf (zd6 (zr8 (zvd (zcm (z2v rfl) rfl T.b_all (by rfl) (zaa (zkd (tn:=["text"]) (cn:=[]) (cap:=[]) (zky (outer:=zab zbf) (N:=["self","new","given"]) rfl rfl (by decide +kernel)) rfl (zpb (pvr 2)) (λ_ _ _ _ _ _=>(zc9 (i:=0) (show(["text"]:List Str).Nodup from by decide +kernel) rfl (Or.inl rfl))) (λ_ _ _ _ _ _=>zjf) (λ_ _ _ _ _ _=>(zcn c_is_name (hr.mono (by decide)) zlm rfl (zaa (pvr 0) zad)))) zad)) (λ_=>rfl))) (zag (zih hx T.x_NoName rfl T.r_NoName (zaa zch zad))) zcz)
   (zag (zd6 (zbt jai (zai (pvr 0) T.c_Store m_Store_cell_of (hr.mono (by decide)) hx.passes (zaa (pvr 1) zad)) ziy (zcu _)) (zag (zih hx T.x_Twice rfl T.r_Twice (zaa zch zad))) zcz))),R vs H Q E h⟩
abbrev zc2:Stmt:=za9 (top 30) 14
theorem zlk:zaq ["self","name","cell"] ["self","name"] (zab zc2):=⟨rfl,rfl,rfl,by decide +kernel,rfl,by decide +kernel,by decide +kernel⟩
theorem zxx(T:Txt K mg a)(F:Fun K "record_of" "Store.record_of" zc2 f fd)(m_Store_cell_of:zcw P w K mg base (a "Store") 6 "cell_of" ["self","name"] (zbk K a))(m_Store_name_cells:zcw P w K mg base (a "Store") 5 "name_cells" ["self"] (zba K a))
  (R:zgi (zau K a) (zfq K a) ["self","name","cell"]) (L:zb4 (zau K a) 2) :
  FnOk P w K mg base (cxE P w) 7 f fd ["self","name"] (zau K a):=by
 refine F.okE zlk L (λcdv A outer s H vs Q E hr h=> ?_)
 have hx:XOk (zfi (cxE P w) P w K mg base ["self","name","cell"] "Store.record_of" (zab zc2) f cdv A outer s H E) (λ_=>E):=za8
 exact⟨zfq K a (λ_=>E),(zaf (za2 (i:=2) zlk.nd rfl (Or.inl rfl) (zai (pvr 0) T.c_Store m_Store_cell_of (hr.mono (by decide)) hx.passes (zaa (pvr 1) zad)))
   (zaf (zd6 (zbt jbs (pvr 2) ziy (zcu _)) (zag (zih hx T.x_NoName rfl T.r_NoName (zaa zch zad))) zcz)
   (zag (zbb (zdk zbs (zdk zbs (zbu (pvr 0) T.c_Store m_Store_name_cells (hr.mono (by decide)) hx.passes) (pvr 2) (λ_ _=>rfl)) zaj (λ_ _=>rfl)))))),R vs H Q E h⟩
abbrev zct:Stmt:=za9 (top 30) 19
theorem zkq:zaq ["self","name","needs","gone"] ["self","name","needs"] (zab zct):=⟨rfl,rfl,rfl,by decide +kernel,rfl,by decide +kernel,by decide +kernel⟩
theorem zvb(T:Txt K mg a)(F:Fun K "empty_cell" "Store.empty_cell" zct f fd)(m_Hold_change:zcw P w K mg base (a "Hold") 4 "change" ["self","place","value","needs"] (zao K a))(m_Layout_name_at:zcw P w K mg base (a "Layout") 2 "name_at" ["self","k"] (za5 K a))(m_Store_cell_of:zcw P w K mg base (a "Store") 6 "cell_of" ["self","name"] (zbk K a))
  (R:zgi (zbj K a) (ze6 K a) ["self","name","needs","gone"]) (L:zb4 (zbj K a) 3) :
  FnOk P w K mg base (cxE P w) 7 f fd ["self","name","needs"] (zbj K a):=by
 refine F.okE zkq L (λcdv A outer s H vs Q E hr h=> ?_)
 have hx:XOk (zfi (cxE P w) P w K mg base ["self","name","needs","gone"] "Store.empty_cell" (zab zct) f cdv A outer s H E) (λ_=>E):=za8
 exact⟨ze6 K a (λ_=>E),(zaf (za2 (i:=3) zkq.nd rfl (Or.inl rfl) (zai (zas (pvr 0) rfl) T.c_Hold m_Hold_change (hr.mono (by decide)) hx.passes (zaa (zai (zas (pvr 0) rfl) T.c_Layout m_Layout_name_at (hr.mono (by decide)) hx.passes (zaa (zai (pvr 0) T.c_Store m_Store_cell_of (hr.mono (by decide)) hx.passes (zaa (pvr 1) zad)) zad)) (zaa ziy (zaa (pvr 2) zad)))))
   (zaf (z6p (zx1 hr) (zas (pvr 0) rfl) (pvr 1) (pvr 3) rfl)
   (zag (zbb (pvr 3))))),R vs H Q E h⟩
abbrev zf8:Stmt:=za9 (top 30) 1
theorem zhs:zaq ["self","name","record","cell","mark","stands"] ["self","name"] (zab zf8):=⟨rfl,rfl,rfl,by decide +kernel,rfl,by decide +kernel,by decide +kernel⟩
theorem z73(T:Txt K mg a)(F:Fun K "make" "Store.make" zf8 f fd)(m_Store_ask_for_new_name:zcw P w K mg base (a "Store") 7 "ask_for_new_name" ["self","new","given"] (za3 K a))(c_free_record:Cal P w K mg base (6) "free_record" ["layout","hold"] (zdt K a))(c_free_name:Cal P w K mg base (6) "free_name" ["layout","hold"] (zds K a))(m_Hold_change:zcw P w K mg base (a "Hold") 4 "change" ["self","place","value","needs"] (zao K a))(m_Layout_record_mark:zcw P w K mg base (a "Layout") 2 "record_mark" ["self","k"] (za1 K a))(m_Layout_record_at:zcw P w K mg base (a "Layout") 2 "record_at" ["self","k"] (zat K a))(m_Store_fill_cell:zcw P w K mg base (a "Store") 5 "fill_cell" ["self","cell","name","record","need"] (zbm K a))
  (R:zgi (zc5 K a) (zj2 K a) ["self","name","record","cell","mark","stands"]) (L:zb4 (zc5 K a) 2) :
  FnOk P w K mg base (cxE P w) 8 f fd ["self","name"] (zc5 K a):=by
 refine F.okE zhs L (λcdv A outer s H vs Q E hr h=> ?_)
 have hx:XOk (zfi (cxE P w) P w K mg base ["self","name","record","cell","mark","stands"] "Store.make" (zab zf8) f cdv A outer s H E) (λ_=>E):=za8
 exact⟨zj2 K a (λ_=>E),(zaf (zb1 (zai (pvr 0) T.c_Store m_Store_ask_for_new_name (hr.mono (by decide)) hx.passes (zaa (pvr 1) (zaa (zcf (zaa (pvr 1) zad)) zad))))
   (zaf (za2 (i:=2) zhs.nd rfl (Or.inl rfl) (zcn c_free_record (hr.mono (by decide)) hx.passes rfl (zaa (zas (pvr 0) rfl) (zaa (zas (pvr 0) rfl) zad))))
   (zaf (za2 (i:=3) zhs.nd rfl (Or.inl rfl) (zcn c_free_name (hr.mono (by decide)) hx.passes rfl (zaa (zas (pvr 0) rfl) (zaa (zas (pvr 0) rfl) zad))))
   (zaf (za2 (i:=4) zhs.nd rfl (Or.inl rfl) (zai (zas (pvr 0) rfl) T.c_Hold m_Hold_change (hr.mono (by decide)) hx.passes (zaa (zai (zas (pvr 0) rfl) T.c_Layout m_Layout_record_mark (hr.mono (by decide)) hx.passes (zaa (pvr 2) zad)) (zaa zaj (zaa (zcf zad) zad)))))
   (zaf (za2 (i:=5) zhs.nd rfl (Or.inl rfl) (zai (zas (pvr 0) rfl) T.c_Hold m_Hold_change (hr.mono (by decide)) hx.passes (zaa (zai (zas (pvr 0) rfl) T.c_Layout m_Layout_record_at (hr.mono (by decide)) hx.passes (zaa (pvr 2) zad)) (zaa (ziz (zaa zaj (zaa (ziz zad) zad))) (zaa (zcf (zaa (pvr 4) zad)) zad)))))
   (zag (zbb (zcf (zaa (pvr 4) (zaa (pvr 5) (zaa (zai (pvr 0) T.c_Store m_Store_fill_cell (hr.mono (by decide)) hx.passes (zaa (pvr 3) (zaa (pvr 1) (zaa (pvr 2) (zaa (pvr 5) zad))))) zad))))))))))),R vs H Q E h⟩
abbrev zf9:Stmt:=za9 (top 30) 2
theorem zj7:zaq ["self","old","new","record","cell","more"] ["self","old","new"] (zab zf9):=⟨rfl,rfl,rfl,by decide +kernel,rfl,by decide +kernel,by decide +kernel⟩
theorem z74(T:Txt K mg a)(F:Fun K "link" "Store.link" zf9 f fd)(m_Store_ask_for_new_name:zcw P w K mg base (a "Store") 7 "ask_for_new_name" ["self","new","given"] (za3 K a))(m_Store_record_of:zcw P w K mg base (a "Store") 7 "record_of" ["self","name"] (zau K a))(c_free_name:Cal P w K mg base (6) "free_name" ["layout","hold"] (zds K a))(m_Store_recount:zcw P w K mg base (a "Store") 6 "recount" ["self","record","more","needs"] (zbl K a))(m_Store_fill_cell:zcw P w K mg base (a "Store") 5 "fill_cell" ["self","cell","name","record","need"] (zbm K a))
  (R:zgi (zb2 K a) (zj3 K a) ["self","old","new","record","cell","more"]) (L:zb4 (zb2 K a) 3) :
  FnOk P w K mg base (cxE P w) 8 f fd ["self","old","new"] (zb2 K a):=by
 refine F.okE zj7 L (λcdv A outer s H vs Q E hr h=> ?_)
 have hx:XOk (zfi (cxE P w) P w K mg base ["self","old","new","record","cell","more"] "Store.link" (zab zf9) f cdv A outer s H E) (λ_=>E):=za8
 exact⟨zj3 K a (λ_=>E),(zaf (zb1 (zai (pvr 0) T.c_Store m_Store_ask_for_new_name (hr.mono (by decide)) hx.passes (zaa (pvr 2) (zaa (zcf (zaa (pvr 1) (zaa (pvr 2) zad))) zad))))
   (zaf (za2 (i:=3) zj7.nd rfl (Or.inl rfl) (zai (pvr 0) T.c_Store m_Store_record_of (hr.mono (by decide)) hx.passes (zaa (pvr 1) zad)))
   (zaf (za2 (i:=4) zj7.nd rfl (Or.inl rfl) (zcn c_free_name (hr.mono (by decide)) hx.passes rfl (zaa (zas (pvr 0) rfl) (zaa (zas (pvr 0) rfl) zad))))
   (zaf (za2 (i:=5) zj7.nd rfl (Or.inl rfl) (zai (pvr 0) T.c_Store m_Store_recount (hr.mono (by decide)) hx.passes (zaa (pvr 3) (zaa zaj (zaa (zcf zad) zad)))))
   (zag (zbb (zcf (zaa (pvr 5) (zaa (zai (pvr 0) T.c_Store m_Store_fill_cell (hr.mono (by decide)) hx.passes (zaa (pvr 4) (zaa (pvr 2) (zaa (pvr 3) (zaa (pvr 5) zad))))) zad))))))))),R vs H Q E h⟩
abbrev zg1:Stmt:=za9 (top 30) 3
theorem zrc:zaq ["self","name","record","gone"] ["self","name"] (zab zg1):=⟨rfl,rfl,rfl,by decide +kernel,rfl,by decide +kernel,by decide +kernel⟩
theorem jaa(T:Txt K mg a)(F:Fun K "cut" "Store.cut" zg1 f fd)(m_Store_record_of:zcw P w K mg base (a "Store") 7 "record_of" ["self","name"] (zau K a))(m_Store_empty_cell:zcw P w K mg base (a "Store") 7 "empty_cell" ["self","name","needs"] (zbj K a))(m_Store_standing:zcw P w K mg base (a "Store") 5 "standing" ["self","record"] (zap K a))(m_Store_recount:zcw P w K mg base (a "Store") 6 "recount" ["self","record","more","needs"] (zbl K a))(m_Store_drop_record:zcw P w K mg base (a "Store") 6 "drop_record" ["self","record","gone"] (zbq K a))
  (R:zgi (zdu K a) (zlf K a) ["self","name","record","gone"]) (L:zb4 (zdu K a) 2) :
  FnOk P w K mg base (cxE P w) 8 f fd ["self","name"] (zdu K a):=by
 refine F.okE zrc L (λcdv A outer s H vs Q E hr h=> ?_)
 have hx:XOk (zfi (cxE P w) P w K mg base ["self","name","record","gone"] "Store.cut" (zab zg1) f cdv A outer s H E) (λ_=>E):=za8
 exact⟨zlf K a (λ_=>E),(zaf (za2 (i:=2) zrc.nd rfl (Or.inl rfl) (zai (pvr 0) T.c_Store m_Store_record_of (hr.mono (by decide)) hx.passes (zaa (pvr 1) zad)))
   (zaf (za2 (i:=3) zrc.nd rfl (Or.inl rfl) (zai (pvr 0) T.c_Store m_Store_empty_cell (hr.mono (by decide)) hx.passes (zaa (pvr 1) (zaa (zcf zad) zad))))
   (zaf (zd6 (zbt jlx (zdk zbs (zai (pvr 0) T.c_Store m_Store_standing (hr.mono (by decide)) hx.passes (zaa (pvr 2) zad)) zaj (λ_ _=>rfl)) zaj (zcu _)) (zag (zbb (zcf (zaa (pvr 3) (zaa (zai (pvr 0) T.c_Store m_Store_recount (hr.mono (by decide)) hx.passes (zaa (pvr 2) (zaa (jgs jbr zaj) (zaa (zcf (zaa (pvr 3) zad)) zad)))) zad))))) zcz)
   (zag (zbb (zav zbc (zcf (zaa (pvr 3) zad)) (zai (pvr 0) T.c_Store m_Store_drop_record (hr.mono (by decide)) hx.passes (zaa (pvr 2) (zaa (pvr 3) zad))))))))),R vs H Q E h⟩
abbrev zg2:Stmt:=za9 (top 30) 4
theorem zje:zaq ["self","name","text","record","piece","mark","filled"] ["self","name","text"] (zab zg2):=⟨rfl,rfl,rfl,by decide +kernel,rfl,by decide +kernel,by decide +kernel⟩
theorem jab(T:Txt K mg a)(F:Fun K "put" "Store.put" zg2 f fd)(m_Store_record_of:zcw P w K mg base (a "Store") 7 "record_of" ["self","name"] (zau K a))(c_is_piece:Cal P w K mg base (2) "is_piece" ["thing"] (zfu K a))(c_free_piece:Cal P w K mg base (6) "free_piece" ["layout","hold"] (zec K a))(m_Hold_change:zcw P w K mg base (a "Hold") 4 "change" ["self","place","value","needs"] (zao K a))(m_Layout_piece_mark:zcw P w K mg base (a "Layout") 2 "piece_mark" ["self","k"] (zax K a))(m_Layout_piece_at:zcw P w K mg base (a "Layout") 2 "piece_at" ["self","k"] (zbg K a))(m_Store_regroup:zcw P w K mg base (a "Store") 6 "regroup" ["self","record","pieces","needs"] (zb0 K a))(m_Store_standing:zcw P w K mg base (a "Store") 5 "standing" ["self","record"] (zap K a))
  (R:zgi (zcv K a) (zlg K a) ["self","name","text","record","piece","mark","filled"]) (L:zb4 (zcv K a) 3) :
  FnOk P w K mg base (cxE P w) 8 f fd ["self","name","text"] (zcv K a):=by
 refine F.okE zje L (λcdv A outer s H vs Q E hr h=> ?_)
 have hx:XOk (zfi (cxE P w) P w K mg base ["self","name","text","record","piece","mark","filled"] "Store.put" (zab zg2) f cdv A outer s H E) (λ_=>E):=za8
 exact⟨zlg K a (λ_=>E),(zaf (za2 (i:=3) zje.nd rfl (Or.inl rfl) (zai (pvr 0) T.c_Store m_Store_record_of (hr.mono (by decide)) hx.passes (zaa (pvr 1) zad)))
   (zaf (zd6 (zr8 (zvd (zcn c_is_piece (hr.mono (by decide)) hx.passes rfl (zaa (pvr 2) zad)) (λ_=>rfl))) (zag (zih hx T.x_NoPiece rfl T.r_NoPiece (zaa zch zad))) zcz)
   (zaf (za2 (i:=4) zje.nd rfl (Or.inl rfl) (zcn c_free_piece (hr.mono (by decide)) hx.passes rfl (zaa (zas (pvr 0) rfl) (zaa (zas (pvr 0) rfl) zad))))
   (zaf (za2 (i:=5) zje.nd rfl (Or.inl rfl) (zai (zas (pvr 0) rfl) T.c_Hold m_Hold_change (hr.mono (by decide)) hx.passes (zaa (zai (zas (pvr 0) rfl) T.c_Layout m_Layout_piece_mark (hr.mono (by decide)) hx.passes (zaa (pvr 4) zad)) (zaa zaj (zaa (zcf zad) zad)))))
   (zaf (za2 (i:=6) zje.nd rfl (Or.inl rfl) (zai (zas (pvr 0) rfl) T.c_Hold m_Hold_change (hr.mono (by decide)) hx.passes (zaa (zai (zas (pvr 0) rfl) T.c_Layout m_Layout_piece_at (hr.mono (by decide)) hx.passes (zaa (pvr 4) zad)) (zaa (pvr 2) (zaa (zcf (zaa (pvr 5) zad)) zad)))))
   (zag (zbb (zcf (zaa (pvr 5) (zaa (pvr 6) (zaa (zai (pvr 0) T.c_Store m_Store_regroup (hr.mono (by decide)) hx.passes (zaa (pvr 3) (zaa (zav zbc (zdk zbs (zai (pvr 0) T.c_Store m_Store_standing (hr.mono (by decide)) hx.passes (zaa (pvr 3) zad)) zaj (λ_ _=>rfl)) (ziz (zaa (pvr 4) zad))) (zaa (zcf (zaa (pvr 6) zad)) zad)))) zad))))))))))),R vs H Q E h⟩
abbrev zga:Stmt:=za9 (top 30) 5
theorem zj8:zaq ["self","name","at","record","pieces","without"] ["self","name","at"] (zab zga):=⟨rfl,rfl,rfl,by decide +kernel,rfl,by decide +kernel,by decide +kernel⟩
theorem z75(T:Txt K mg a)(F:Fun K "take" "Store.take" zga f fd)(m_Store_record_of:zcw P w K mg base (a "Store") 7 "record_of" ["self","name"] (zau K a))(m_Store_standing:zcw P w K mg base (a "Store") 5 "standing" ["self","record"] (zap K a))(m_Store_regroup:zcw P w K mg base (a "Store") 6 "regroup" ["self","record","pieces","needs"] (zb0 K a))(m_Hold_change:zcw P w K mg base (a "Hold") 4 "change" ["self","place","value","needs"] (zao K a))(m_Layout_piece_mark:zcw P w K mg base (a "Layout") 2 "piece_mark" ["self","k"] (zax K a))
  (R:zgi (zca K a) (zj4 K a) ["self","name","at","record","pieces","without"]) (L:zb4 (zca K a) 3) :
  FnOk P w K mg base (cxE P w) 8 f fd ["self","name","at"] (zca K a):=by
 refine F.okE zj8 L (λcdv A outer s H vs Q E hr h=> ?_)
 have hx:XOk (zfi (cxE P w) P w K mg base ["self","name","at","record","pieces","without"] "Store.take" (zab zga) f cdv A outer s H E) (λ_=>E):=za8
 exact⟨zj4 K a (λ_=>E),(zaf (za2 (i:=3) zj8.nd rfl (Or.inl rfl) (zai (pvr 0) T.c_Store m_Store_record_of (hr.mono (by decide)) hx.passes (zaa (pvr 1) zad)))
   (zaf (za2 (i:=4) zj8.nd rfl (Or.inl rfl) (zdk zbs (zai (pvr 0) T.c_Store m_Store_standing (hr.mono (by decide)) hx.passes (zaa (pvr 3) zad)) zaj (λ_ _=>rfl)))
   (zaf (zd6 (zr8 (zvc zma z0d zaj (pvr 2) (zcm zfh rfl T.b_len (by rfl) (zaa (pvr 4) zad)))) (zag (zih hx T.x_NoPiece rfl T.r_NoPiece (zaa zch zad))) zcz)
   (zaf (za2 (i:=5) zj8.nd rfl (Or.inl rfl) (zai (pvr 0) T.c_Store m_Store_regroup (hr.mono (by decide)) hx.passes (zaa (pvr 3) (zaa (zav zbc (zhd zpa (pvr 4) zkb (zkc (pvr 2))) (zhd zpa (pvr 4) (zkc (zav zbc (pvr 2) zaj)) zkb)) (zaa (zcf zad) zad)))))
   (zag (zbb (zcf (zaa (pvr 5) (zaa (zai (zas (pvr 0) rfl) T.c_Hold m_Hold_change (hr.mono (by decide)) hx.passes (zaa (zai (zas (pvr 0) rfl) T.c_Layout m_Layout_piece_mark (hr.mono (by decide)) hx.passes (zaa (zdk zbs (pvr 4) (pvr 2) (λ_ _=>rfl)) zad)) (zaa zaj (zaa (zcf (zaa (pvr 5) zad)) zad)))) zad))))))))),R vs H Q E h⟩
abbrev zej:Stmt:=za9 (top 30) 8
theorem ztm:zaq ["self","name","pieces"] ["self","name"] (zab zej):=⟨rfl,rfl,rfl,by decide +kernel,rfl,by decide +kernel,by decide +kernel⟩
theorem z5v(T:Txt K mg a)(F:Fun K "texts" "Store.texts" zej f fd)(m_Store_standing:zcw P w K mg base (a "Store") 5 "standing" ["self","record"] (zap K a))(m_Store_record_of:zcw P w K mg base (a "Store") 7 "record_of" ["self","name"] (zau K a))(m_Hold_in_hand:zcw P w K mg base (a "Hold") 4 "in_hand" ["self","place"] (zbi K a))(m_Layout_piece_at:zcw P w K mg base (a "Layout") 2 "piece_at" ["self","k"] (zbg K a))
  (R:zgi (zcl K a) (ziv K a) ["self","name","pieces"]) (L:zb4 (zcl K a) 2) :
  FnOk P w K mg base (cxE P w) 8 f fd ["self","name"] (zcl K a):=by
 refine F.okE ztm L (λcdv A outer s H vs Q E hr h=> ?_)
 have hx:XOk (zfi (cxE P w) P w K mg base ["self","name","pieces"] "Store.texts" (zab zej) f cdv A outer s H E) (λ_=>E):=za8
 exact⟨ziv K a (λ_=>E),(zaf (za2 (i:=2) ztm.nd rfl (Or.inl rfl) (zdk zbs (zai (pvr 0) T.c_Store m_Store_standing (hr.mono (by decide)) hx.passes (zaa (zai (pvr 0) T.c_Store m_Store_record_of (hr.mono (by decide)) hx.passes (zaa (pvr 1) zad)) zad)) zaj (λ_ _=>rfl)))
   (zag (zbb (zkd (tn:=["piece"]) (cn:=["self"]) (cap:=[0]) (zky (outer:=zab zej) (N:=["self","name","pieces"]) rfl rfl (by decide +kernel)) rfl (zpb (pvr 2)) (λ_ _ _ _ _ _=>(zc9 (i:=0) (show(["piece","self"]:List Str).Nodup from by decide +kernel) rfl (Or.inl rfl))) (λ_ _ _ _ _ _=>zjf) (λ_ _ _ _ _ _=>(zai (zas (pvr 1) rfl) T.c_Hold m_Hold_in_hand (hr.mono (by decide)) zlm (zaa (zai (zas (pvr 1) rfl) T.c_Layout m_Layout_piece_at (hr.mono (by decide)) zlm (zaa (pvr 0) zad)) zad))))))),R vs H Q E h⟩
abbrev zgb:Stmt:=za9 (top 30) 6
theorem zj9:zaq ["self","old","new","linked","record","gone"] ["self","old","new"] (zab zgb):=⟨rfl,rfl,rfl,by decide +kernel,rfl,by decide +kernel,by decide +kernel⟩
theorem z76(T:Txt K mg a)(F:Fun K "move" "Store.move" zgb f fd)(m_Store_link:zcw P w K mg base (a "Store") 8 "link" ["self","old","new"] (zb2 K a))(m_Store_record_of:zcw P w K mg base (a "Store") 7 "record_of" ["self","name"] (zau K a))(m_Store_empty_cell:zcw P w K mg base (a "Store") 7 "empty_cell" ["self","name","needs"] (zbj K a))(m_Store_recount:zcw P w K mg base (a "Store") 6 "recount" ["self","record","more","needs"] (zbl K a))
  (R:zgi (zcq K a) (zj5 K a) ["self","old","new","linked","record","gone"]) (L:zb4 (zcq K a) 3) :
  FnOk P w K mg base (cxE P w) 9 f fd ["self","old","new"] (zcq K a):=by
 refine F.okE zj9 L (λcdv A outer s H vs Q E hr h=> ?_)
 have hx:XOk (zfi (cxE P w) P w K mg base ["self","old","new","linked","record","gone"] "Store.move" (zab zgb) f cdv A outer s H E) (λ_=>E):=za8
 exact⟨zj5 K a (λ_=>E),(zaf (za2 (i:=3) zj9.nd rfl (Or.inl rfl) (zai (pvr 0) T.c_Store m_Store_link (hr.mono (by decide)) hx.passes (zaa (pvr 1) (zaa (pvr 2) zad))))
   (zaf (za2 (i:=4) zj9.nd rfl (Or.inl rfl) (zai (pvr 0) T.c_Store m_Store_record_of (hr.mono (by decide)) hx.passes (zaa (pvr 1) zad)))
   (zaf (za2 (i:=5) zj9.nd rfl (Or.inl rfl) (zai (pvr 0) T.c_Store m_Store_empty_cell (hr.mono (by decide)) hx.passes (zaa (pvr 1) (zaa (zcf (zaa (zdk zbs (pvr 3) zaj (λ_ _=>rfl)) zad)) zad))))
   (zag (zbb (zav zbc (pvr 3) (zcf (zaa (pvr 5) (zaa (zai (pvr 0) T.c_Store m_Store_recount (hr.mono (by decide)) hx.passes (zaa (pvr 4) (zaa (jgs jbr zaj) (zaa (zcf (zaa (pvr 5) zad)) zad)))) zad))))))))),R vs H Q E h⟩
abbrev zid:Stmt:=top 44
theorem zie:zaq ["store","name","texts","told","kept"] ["store","name"] (zab zid):=⟨rfl,rfl,rfl,by decide +kernel,rfl,by decide +kernel,by decide +kernel⟩
theorem jbm(T:Txt K mg a)(F:Fun K "_law_look" "_law_look" zid f fd)(m_Store_texts:zcw P w K mg base (a "Store") 8 "texts" ["self","name"] (zcl K a))(m_Store_hold:zcw P w K mg base (a "Store") 1 "hold" ["self"] (zdl K a))(m_Hold_waiting:zcw P w K mg base (a "Hold") 1 "waiting" ["self"] (zcp K a))(m_Store_names:zcw P w K mg base (a "Store") 6 "names" ["self"] (zck K a))
  (R:zgi (ze3 K a) (znm K a) ["store","name","texts","told","kept"]) (L:zb4 (ze3 K a) 2) :
  FnOk P w K mg base (cxE P w) 9 f fd ["store","name"] (ze3 K a):=by
 refine F.okE zie L (λcdv A outer s H vs Q E hr h=> ?_)
 have hx:XOk (zfi (cxE P w) P w K mg base ["store","name","texts","told","kept"] "_law_look" (zab zid) f cdv A outer s H E) (λ_=>E):=za8
 exact⟨znm K a (λ_=>E),(zaf (za2 (i:=2) zie.nd rfl (Or.inl rfl) ziy)
   (zaf (jer rfl rfl rfl rfl (λE1 _ _ hx1=>(zag (za2 (i:=2) zie.nd rfl (Or.inl rfl) (zai (pvr 0) T.c_Store m_Store_texts (hr.mono (by decide)) hx1.passes (zaa (pvr 1) zad))))) (z2t (zx3 rfl T.r_NoName) (λ_=>(zag (za2 (i:=2) zie.nd rfl (Or.inl rfl) ziy))) jep))
   (zaf (za2 (i:=3) zie.nd rfl (Or.inl rfl) (zbu (zbu (pvr 0) T.c_Store m_Store_hold (hr.mono (by decide)) hx.passes) T.c_Hold m_Hold_waiting (hr.mono (by decide)) hx.passes))
   (zaf (za2 (i:=4) zie.nd rfl (Or.inl rfl) (zhc zrg rfl T.b_list (by rfl) (zaa (pvr 3) zad)))
   (zaf (zb1 (jln PySem.F.plainAttrs_list PySem.F.slot_list_clear PySem.F.type_list_clear jg4 (pvr 3)))
   (zag (zbb (ziz (zaa (zbu (pvr 0) T.c_Store m_Store_names (hr.mono (by decide)) hx.passes) (zaa (pvr 2) (zaa (pvr 4) (zaa (zxy (zfk hr.units) (zbu (zbu (pvr 0) T.c_Store m_Store_hold (hr.mono (by decide)) hx.passes) T.c_Hold m_Hold_waiting (hr.mono (by decide)) hx.passes) (pvr 4) (zcu _)) zad)))))))))))),R vs H Q E h⟩
abbrev zif:Stmt:=top 40
theorem zig:zaq ["store","kind","one","other","cell","refused"] ["store","kind","one","other","cell"] (zab zif):=⟨rfl,rfl,rfl,by decide +kernel,rfl,by decide +kernel,by decide +kernel⟩
theorem jbn(T:Txt K mg a)(F:Fun K "_law_done" "_law_done" zif f fd)(m_Store_make:zcw P w K mg base (a "Store") 8 "make" ["self","name"] (zc5 K a))(m_Store_link:zcw P w K mg base (a "Store") 8 "link" ["self","old","new"] (zb2 K a))(m_Store_cut:zcw P w K mg base (a "Store") 8 "cut" ["self","name"] (zdu K a))(m_Store_put:zcw P w K mg base (a "Store") 8 "put" ["self","name","text"] (zcv K a))(c_law_text:Cal P w K mg base (1) "_law_text" ["cell"] (zfv K a))(m_Store_take:zcw P w K mg base (a "Store") 8 "take" ["self","name","at"] (zca K a))(c_law_at:Cal P w K mg base (1) "_law_at" ["cell"] (zi2 K a))(m_Store_move:zcw P w K mg base (a "Store") 9 "move" ["self","old","new"] (zcq K a))
  (R:zgi (zfw K a) (znn K a) ["store","kind","one","other","cell","refused"]) (L:zb4 (zfw K a) 5) :
  FnOk P w K mg base (cxE P w) 10 f fd ["store","kind","one","other","cell"] (zfw K a):=by
 refine F.okE zig L (λcdv A outer s H vs Q E hr h=> ?_)
 have hx:XOk (zfi (cxE P w) P w K mg base ["store","kind","one","other","cell","refused"] "_law_done" (zab zif) f cdv A outer s H E) (λ_=>E):=za8
 exact⟨znn K a (λ_=>E),(zaf (za2 (i:=5) zig.nd rfl (Or.inl rfl) zch)
   (zaf (jer rfl rfl rfl rfl (λE1 _ _ hx1=>(zag (zd6 (zbt z0d (pvr 1) zaj (zcu _)) (zag (zb1 (zai (pvr 0) T.c_Store m_Store_make (hr.mono (by decide)) hx1.passes (zaa (pvr 2) zad)))) (zag (zd6 (zbt (zfk hr.units) (pvr 1) zaj (zcu _)) (zag (zb1 (zai (pvr 0) T.c_Store m_Store_link (hr.mono (by decide)) hx1.passes (zaa (pvr 2) (zaa (pvr 3) zad))))) (zag (zd6 (zbt (zfk hr.units) (pvr 1) zaj (zcu _)) (zag (zb1 (zai (pvr 0) T.c_Store m_Store_cut (hr.mono (by decide)) hx1.passes (zaa (pvr 2) zad)))) (zag (zd6 (zbt z0d (pvr 1) zaj (zcu _)) (zag (zb1 (zai (pvr 0) T.c_Store m_Store_put (hr.mono (by decide)) hx1.passes (zaa (pvr 2) (zaa (zcn c_law_text (hr.mono (by decide)) hx1.passes rfl (zaa (pvr 4) zad)) zad))))) (zag (zd6 (zbt (zfk hr.units) (pvr 1) zaj (zcu _)) (zag (zb1 (zai (pvr 0) T.c_Store m_Store_take (hr.mono (by decide)) hx1.passes (zaa (pvr 2) (zaa (zcn c_law_at (hr.mono (by decide)) hx1.passes rfl (zaa (pvr 4) zad)) zad))))) (zag (zb1 (zai (pvr 0) T.c_Store m_Store_move (hr.mono (by decide)) hx1.passes (zaa (pvr 2) (zaa (pvr 3) zad)))))))))))))))) (z2t (zx3 rfl T.r_NoName) (λ_=>(zag (za2 (i:=5) zig.nd rfl (Or.inl rfl) zch))) (z2t (zx3 rfl T.r_Twice) (λ_=>(zag (za2 (i:=5) zig.nd rfl (Or.inl rfl) zch))) (z2t (zx3 rfl T.r_NoPiece) (λ_=>(zag (za2 (i:=5) zig.nd rfl (Or.inl rfl) zch))) (z2t (zx3 rfl T.r_NoRoom) (λ_=>(zag (za2 (i:=5) zig.nd rfl (Or.inl rfl) zch))) jep)))))
   (zag (zbb (pvr 5))))),R vs H Q E h⟩
abbrev zg3:Stmt:=top 42
theorem z0j:zaq ["store","kind","bad","name","cell","blocks"] ["store","kind","bad","name","cell"] (zab zg3):=⟨rfl,rfl,rfl,by decide +kernel,rfl,by decide +kernel,by decide +kernel⟩
theorem jac(T:Txt K mg a)(F:Fun K "_law_wrong" "_law_wrong" zg3 f fd)(m_Store_make:zcw P w K mg base (a "Store") 8 "make" ["self","name"] (zc5 K a))(m_Store_link:zcw P w K mg base (a "Store") 8 "link" ["self","old","new"] (zb2 K a))(m_Store_cut:zcw P w K mg base (a "Store") 8 "cut" ["self","name"] (zdu K a))(m_Store_put:zcw P w K mg base (a "Store") 8 "put" ["self","name","text"] (zcv K a))(m_Store_take:zcw P w K mg base (a "Store") 8 "take" ["self","name","at"] (zca K a))(m_Store_move:zcw P w K mg base (a "Store") 9 "move" ["self","old","new"] (zcq K a))(m_Store_texts:zcw P w K mg base (a "Store") 8 "texts" ["self","name"] (zcl K a))(m_Store_layout:zcw P w K mg base (a "Store") 1 "layout" ["self"] (zdd K a))(m_Layout_blocks:zcw P w K mg base (a "Layout") 2 "blocks" ["self"] (zbz K a))(m_Store_write:zcw P w K mg base (a "Store") 4 "write" ["self","block"] (zc6 K a))
  (R:zgi (zey K a) (zlh K a) ["store","kind","bad","name","cell","blocks"]) (L:zb4 (zey K a) 5) :
  FnOk P w K mg base (cxE P w) 10 f fd ["store","kind","bad","name","cell"] (zey K a):=by
 refine F.okE z0j L (λcdv A outer s H vs Q E hr h=> ?_)
 have hx:XOk (zfi (cxE P w) P w K mg base ["store","kind","bad","name","cell","blocks"] "_law_wrong" (zab zg3) f cdv A outer s H E) (λ_=>E):=za8
 exact⟨zlh K a (λ_=>E),(zag (zd6 (zbt (zfk hr.units) (pvr 1) zaj (zcu _)) (zag (zb1 (zai (pvr 0) T.c_Store m_Store_make (hr.mono (by decide)) hx.passes (zaa (pvr 2) zad)))) (zag (zd6 (zbt (zfk hr.units) (pvr 1) zaj (zcu _)) (zag (zb1 (zai (pvr 0) T.c_Store m_Store_link (hr.mono (by decide)) hx.passes (zaa (pvr 2) (zaa (pvr 3) zad))))) (zag (zd6 (zbt (zfk hr.units) (pvr 1) zaj (zcu _)) (zag (zb1 (zai (pvr 0) T.c_Store m_Store_link (hr.mono (by decide)) hx.passes (zaa (pvr 3) (zaa (pvr 2) zad))))) (zag (zd6 (zbt (zfk hr.units) (pvr 1) zaj (zcu _)) (zag (zb1 (zai (pvr 0) T.c_Store m_Store_cut (hr.mono (by decide)) hx.passes (zaa (pvr 2) zad)))) (zag (zd6 (zbt (zfk hr.units) (pvr 1) zaj (zcu _)) (zag (zb1 (zai (pvr 0) T.c_Store m_Store_put (hr.mono (by decide)) hx.passes (zaa (pvr 2) (zaa zch zad))))) (zag (zd6 (zbt (zfk hr.units) (pvr 1) zaj (zcu _)) (zag (zb1 (zai (pvr 0) T.c_Store m_Store_take (hr.mono (by decide)) hx.passes (zaa (pvr 2) (zaa zaj zad))))) (zag (zd6 (zbt (zfk hr.units) (pvr 1) zaj (zcu _)) (zag (zb1 (zai (pvr 0) T.c_Store m_Store_move (hr.mono (by decide)) hx.passes (zaa (pvr 3) (zaa (pvr 2) zad))))) (zag (zd6 (zbt (zfk hr.units) (pvr 1) zaj (zcu _)) (zag (zb1 (zai (pvr 0) T.c_Store m_Store_texts (hr.mono (by decide)) hx.passes (zaa (pvr 2) zad)))) (zag (zd6 (zbt (zfk hr.units) (pvr 1) zaj (zcu _)) (zag (zb1 (zai (pvr 0) T.c_Store m_Store_move (hr.mono (by decide)) hx.passes (zaa (pvr 2) (zaa (pvr 3) zad))))) (zag (zd6 (zbt (zfk hr.units) (pvr 1) zaj (zcu _)) (zaf (za2 (i:=5) z0j.nd rfl (Or.inl rfl) (zbu (zbu (pvr 0) T.c_Store m_Store_layout (hr.mono (by decide)) hx.passes) T.c_Layout m_Layout_blocks (hr.mono (by decide)) hx.passes))
   (zag (zb1 (zai (pvr 0) T.c_Store m_Store_write (hr.mono (by decide)) hx.passes (zaa (zdk zbs (zcf (zaa (zav z8d (jgs jbr zaj) (zav zcx (pvr 4) (zav jbq zaj zaj))) (zaa (zav zbc (pvr 5) (zav zcx (pvr 4) (zav jbq zaj zaj))) zad))) (zav zcx (zav zb8 (pvr 4) zaj) zaj) (λ_ _=>rfl)) zad))))) (zag (zd6 (zbt (zfk hr.units) (pvr 1) zaj (zcu _)) (zag (zb1 (zai (pvr 0) T.c_Store m_Store_put (hr.mono (by decide)) hx.passes (zaa (pvr 3) (zaa (zdk zbs (zcf (zaa zch (zaa (zav zmz zch zaj) zad))) (zav zcx (pvr 4) zaj) (λ_ _=>rfl)) zad))))) (zag (zb1 (zai (pvr 0) T.c_Store m_Store_take (hr.mono (by decide)) hx.passes (zaa (pvr 3) (zaa (zdk zbs (zcf (zaa (zav z8d (jgs jbr zaj) (zav zcx (pvr 4) (zav jbq zaj zaj))) (zaa (zav zbc zaj (zav zcx (pvr 4) (zav jbq zaj zaj))) zad))) (zav zcx (zav zb8 (pvr 4) zaj) zaj) (λ_ _=>rfl)) zad))))))))))))))))))))))))))),R vs H Q E h⟩
abbrev zfg:Stmt:=top 43
theorem zdw:zaq ["store","kind","bad","name","cell","due","kinds","right","other","e"] ["store","kind","bad","name","cell","due"] (zab zfg):=⟨rfl,rfl,rfl,by decide +kernel,rfl,by decide +kernel,by decide +kernel⟩
theorem z5w(T:Txt K mg a)(F:Fun K "_law_refused" "_law_refused" zfg f fd)(c_law_wrong:Cal P w K mg base (10) "_law_wrong" ["store","kind","bad","name","cell"] (zey K a))
  (R:zgi (zc7 K a) (ziw K a) ["store","kind","bad","name","cell","due","kinds","right","other","e"]) (L:zb4 (zc7 K a) 6) :
  FnOk P w K mg base (cxE P w) 11 f fd ["store","kind","bad","name","cell","due"] (zc7 K a):=by
 refine F.okE zdw L (λcdv A outer s H vs Q E hr h=> ?_)
 have hx:XOk (zfi (cxE P w) P w K mg base ["store","kind","bad","name","cell","due","kinds","right","other","e"] "_law_refused" (zab zfg) f cdv A outer s H E) (λ_=>E):=za8
 exact⟨ziw K a (λ_=>E),(zaf (za2 (i:=6) zdw.nd rfl (Or.inl rfl) (zcf zad))
   (zaf (za2 (i:=7) zdw.nd rfl (Or.inl rfl) z79)
   (zaf (za2 (i:=8) zdw.nd rfl (Or.inl rfl) z79)
   (zaf (jer rfl rfl rfl rfl (λE1 _ _ hx1=>(zag (zb1 (zcn c_law_wrong (hr.mono (by decide)) hx1.passes rfl (zaa (pvr 0) (zaa (pvr 1) (zaa (pvr 2) (zaa (pvr 3) (zaa (pvr 4) zad))))))))) (jeq (i:=9) zdw.nd rfl rfl (zx3 rfl T.r_HoldError) (λ_=>(zaf (za2 (i:=6) zdw.nd rfl (Or.inl rfl) (zcf (zaa (zcm zke rfl T.b_isinstance (by rfl) (zaa (pvr 9) (zaa (z2s T.g_NoName rfl) zad))) (zaa (zcm zke rfl T.b_isinstance (by rfl) (zaa (pvr 9) (zaa (z2s T.g_NoPiece rfl) zad))) (zaa (zcm zke rfl T.b_isinstance (by rfl) (zaa (pvr 9) (zaa (z2s T.g_NoBlock rfl) zad))) zad)))))
   (zaf (za2 (i:=8) zdw.nd rfl (Or.inl rfl) (zcm zke rfl T.b_isinstance (by rfl) (zaa (pvr 9) (zaa (ziz (zaa (z2s T.g_NoChange rfl) (zaa (z2s T.g_NoRoom rfl) (zaa (z2s T.g_NoRow rfl) (zaa (z2s T.g_NotSound rfl) (zaa (z2s T.g_Twice rfl) zad)))))) zad))))
   (zag (za2 (i:=7) zdw.nd rfl (Or.inl rfl) (zcm zke rfl T.b_isinstance (by rfl) (zaa (pvr 9) (zaa (ji6 rfl T.b_ValueError (by rfl) rfl) zad)))))))) jep))
   (zag (zbb (z8b (pvr 7) (z8b (jjw (pvr 8)) (jbp (zxy (zfk hr.units) (pvr 6) (zcf (zaa (zxy (zfk hr.units) (pvr 5) zch (zcu _)) (zaa (zxy (zfk hr.units) (pvr 5) zch (zcu _)) (zaa (zxy (zfk hr.units) (pvr 5) zch (zcu _)) zad)))) (zcu _))))))))))),R vs H Q E h⟩
abbrev z5x:Stmt:=top 45
theorem zoy:zaq ["script","cell","layout","store","names","name","kind","due","ahead"] ["script"] (zab z5x):=⟨rfl,rfl,rfl,by decide +kernel,rfl,by decide +kernel,by decide +kernel⟩
theorem jnc(T:Txt K mg a)(F:Fun K "law" "law" z5x f fd)(c_law_cell_at:Cal P w K mg base (1) "_law_cell_at" ["script","k"] (zci K a))(n_Layout:jk0 P w K mg base (a "Layout") 1 "Layout" ["self","names","records","pieces","cells"] (zdq K a))(m_Layout_plank:zcw P w K mg base (a "Layout") 3 "plank" ["self"] (zda K a))(n_Store:jk0 P w K mg base (a "Store") 4 "Store" ["self","layout","plank"] (zed K a))(c_law_names:Cal P w K mg base (1) "_law_names" ["cell"] (zex K a))(c_law_done:Cal P w K mg base (10) "_law_done" ["store","kind","one","other","cell"] (zfw K a))(m_Store_names:zcw P w K mg base (a "Store") 6 "names" ["self"] (zck K a))(c_law_look:Cal P w K mg base (9) "_law_look" ["store","name"] (ze3 K a))(c_law_bad_name:Cal P w K mg base (1) "_law_bad_name" ["cell","name"] (zcr K a))(c_law_refused:Cal P w K mg base (11) "_law_refused" ["store","kind","bad","name","cell","due"] (zc7 K a))
  (R:zgi (z6f K a) (jck K a) ["script","cell","layout","store","names","name","kind","due","ahead"]) (L:zb4 (z6f K a) 1) :
  FnOk P w K mg base (cxE P w) 12 f fd ["script"] (z6f K a):=by
 refine F.okE zoy L (λcdv A outer s H vs Q E hr h=> ?_)
 have hx:XOk (zfi (cxE P w) P w K mg base ["script","cell","layout","store","names","name","kind","due","ahead"] "law" (zab z5x) f cdv A outer s H E) (λ_=>E):=za8
 exact⟨jck K a (λ_=>E),(zaf (za2 (i:=1) zoy.nd rfl (Or.inl rfl) (zcn c_law_cell_at (hr.mono (by decide)) hx.passes rfl (zaa (pvr 0) (zaa zaj zad))))
   (zaf (za2 (i:=2) zoy.nd rfl (Or.inl rfl) (zvf n_Layout (hr.mono (by decide)) hx.passes rfl (zaa (zav zbc zaj (zav zcx (pvr 1) zaj)) (zaa (zav zbc zaj (zav zcx (zav zb8 (pvr 1) zaj) zaj)) (zaa (zav zbc zaj (zav zcx (zav zb8 (pvr 1) zaj) zaj)) (zaa (zav zbc zaj (zav zcx (zav zb8 (pvr 1) zaj) zaj)) zad))))))
   (zaf (za2 (i:=3) zoy.nd rfl (Or.inl rfl) (zvf n_Store (hr.mono (by decide)) hx.passes rfl (zaa (pvr 2) (zaa (zbu (pvr 2) T.c_Layout m_Layout_plank (hr.mono (by decide)) hx.passes) zad))))
   (zaf (za2 (i:=4) zoy.nd rfl (Or.inl rfl) (zcn c_law_names (hr.mono (by decide)) hx.passes rfl (zaa (zav zb8 (pvr 1) zaj) zad)))
   (zaf (zr9 hx.po rfl (zpb (zhd zpa (pvr 0) (zkc zaj) zkb)) (zc9 (i:=1) zoy.nd rfl (Or.inl rfl)) (zaf (za2 (i:=5) zoy.nd rfl (Or.inl rfl) (zdk zbs (pvr 4) (zav zcx (zav zb8 (pvr 1) zaj) zaj) (λ_ _=>rfl)))
   (zaf (zd6 (zbt (zfk hr.units) (zav zcx (pvr 1) zaj) zaj (zcu _)) (zaf (zb1 (zcn c_law_done (hr.mono (by decide)) hx.passes rfl (zaa (pvr 3) (zaa (zdk zbs (zcf (zaa zaj (zaa zaj (zaa zaj (zaa zaj zad))))) (zav zcx (zav zb8 (pvr 1) zaj) zaj) (λ_ _=>rfl)) (zaa (pvr 5) (zaa (zdk zbs (pvr 4) (zav zcx (zav zb8 (pvr 1) zaj) zaj) (λ_ _=>rfl)) (zaa (zav zb8 (pvr 1) zaj) zad)))))))
   (zag jah)) zcz)
   (zaf (za2 (i:=6) zoy.nd rfl (Or.inl rfl) (zav zcx (zav zb8 (pvr 1) zaj) zaj))
   (zaf (za2 (i:=7) zoy.nd rfl (Or.inl rfl) zch)
   (zaf (zd6 (PW.pt (jbo (zbt (jfp hr.units) (pvr 6) (ziz (zaa zaj (zaa zaj zad))) (by with_unfolding_all rfl)) (z6i (zbt (jfp hr.units) (pvr 5) (zbu (pvr 3) T.c_Store m_Store_names (hr.mono (by decide)) hx.passes) (by with_unfolding_all rfl))))) (zag (za2 (i:=7) zoy.nd rfl (Or.inl rfl) zch)) zcz)
   (zaf (zd6 (zbt (zfk hr.units) (pvr 6) zaj (zcu _)) (zag (za2 (i:=7) zoy.nd rfl (Or.inl rfl) zch)) zcz)
   (zaf (za2 (i:=8) zoy.nd rfl (Or.inl rfl) (zcn c_law_look (hr.mono (by decide)) hx.passes rfl (zaa (pvr 3) (zaa (pvr 5) zad))))
   (zaf (zd6 (zr8 (zvd (zcn c_law_refused (hr.mono (by decide)) hx.passes rfl (zaa (pvr 3) (zaa (pvr 6) (zaa (zcn c_law_bad_name (hr.mono (by decide)) hx.passes rfl (zaa (zav zb8 (pvr 1) zaj) (zaa (pvr 5) zad))) (zaa (pvr 5) (zaa (zav zb8 (pvr 1) zaj) (zaa (pvr 7) zad))))))) (λ_=>rfl))) (zag (zbb z79)) zcz)
   (zaf (zd6 (PW.pt (jla (zr8 (zvd (zdk zbs (pvr 8) zaj (λ_ _=>rfl)) (λ_=>rfl))) (jih (zbt (jes hr.units) (zcn c_law_look (hr.mono (by decide)) hx.passes rfl (zaa (pvr 3) (zaa (pvr 5) zad))) (pvr 8) (zcu _))))) (zag (zbb z79)) zcz)
   (zag (zd6 (zr8 (zvd (zcn c_law_refused (hr.mono (by decide)) hx.passes rfl (zaa (pvr 3) (zaa (pvr 6) (zaa (zcn c_law_bad_name (hr.mono (by decide)) hx.passes rfl (zaa (zav zb8 (pvr 1) zaj) (zaa (pvr 5) zad))) (zaa (pvr 5) (zaa (zav zb8 (pvr 1) zaj) (zaa (pvr 7) zad))))))) (λ_=>rfl))) (zag (zbb z79)) zcz))))))))))))
   (zag (zbb z79))))))),R vs H Q E h⟩
end
end L2
namespace L2
theorem joq(qd4 qd5 qd6 qd7 qd8 qd9 qda qdb qdc qdd qde qdf qdg qdh:Addr):∃ a:Ad,a "HoldError"=qd4/\a "NoBlock"=qd5/\a "NoChange"=qd6/\a "NoRoom"=qd7/\a "NoName"=qd8/\a "Twice"=qd9/\a "NoPiece"=qda/\a "NotSound"=qdb/\a "NoRow"=qdc/\a "Change"=qdd/\a "Hold"=qde/\a "Store"=qdf/\a "Plank"=qdg/\a "Layout"=qdh :=
 ⟨λs=>if s="HoldError" then qd4 else if s="NoBlock" then qd5 else if s="NoChange" then qd6 else if s="NoRoom" then qd7 else if s="NoName" then qd8 else if s="Twice" then qd9 else if s="NoPiece" then qda else if s="NotSound" then qdb else if s="NoRow" then qdc else if s="Change" then qdd else if s="Hold" then qde else if s="Store" then qdf else if s="Plank" then qdg else if s="Layout" then qdh else 0,by simp,by simp,by simp,by simp,by simp,by simp,by simp,by simp,by simp,by simp,by simp,by simp,by simp,by simp⟩
theorem us1{α :Type}{P:List α ->Prop}(h:∀ x0,P [x0]):∀ us:List α,us.length=1->P us
 | [],e=>by simp at e
 | [x0],_=>h x0
 | _::_::_,e=>by simp at e
theorem us2{α :Type}{P:List α ->Prop}(h:∀ x0 qbo,P [x0,qbo]):∀ us:List α,us.length=2->P us
 | [],e=>by simp at e
 | [_],e=>by simp at e
 | [x0,qbo],_=>h x0 qbo
 | _::_::_::_,e=>by simp at e
theorem us3{α :Type}{P:List α ->Prop}(h:∀ x0 qbo qbr,P [x0,qbo,qbr]):∀ us:List α,us.length=3->P us
 | [],e=>by simp at e
 | [_],e=>by simp at e
 | [_,_],e=>by simp at e
 | [x0,qbo,qbr],_=>h x0 qbo qbr
 | _::_::_::_::_,e=>by simp at e
theorem us4{α :Type}{P:List α ->Prop}(h:∀ x0 qbo qbr qbs,P [x0,qbo,qbr,qbs]):∀ us:List α,us.length=4->P us
 | [],e=>by simp at e
 | [_],e=>by simp at e
 | [_,_],e=>by simp at e
 | [_,_,_],e=>by simp at e
 | [x0,qbo,qbr,qbs],_=>h x0 qbo qbr qbs
 | _::_::_::_::_::_,e=>by simp at e
theorem us5{α :Type}{P:List α ->Prop}(h:∀ x0 qbo qbr qbs qbt,P [x0,qbo,qbr,qbs,qbt]):∀ us:List α,us.length=5->P us
 | [],e=>by simp at e
 | [_],e=>by simp at e
 | [_,_],e=>by simp at e
 | [_,_,_],e=>by simp at e
 | [_,_,_,_],e=>by simp at e
 | [x0,qbo,qbr,qbs,qbt],_=>h x0 qbo qbr qbs qbt
 | _::_::_::_::_::_::_,e=>by simp at e
theorem us6{α :Type}{P:List α ->Prop}(h:∀ x0 qbo qbr qbs qbt qbu,P [x0,qbo,qbr,qbs,qbt,qbu]):∀ us:List α,us.length=6->P us
 | [],e=>by simp at e
 | [_],e=>by simp at e
 | [_,_],e=>by simp at e
 | [_,_,_],e=>by simp at e
 | [_,_,_,_],e=>by simp at e
 | [_,_,_,_,_],e=>by simp at e
 | [x0,qbo,qbr,qbs,qbt,qbu],_=>h x0 qbo qbr qbs qbt qbu
 | _::_::_::_::_::_::_::_,e=>by simp at e
def spL(K:W.Frag):Sp:=λvs H Q _=>∃ (s:Addr) (ns:List Int),vs=[.ref s]/\SqL K H s (ns.map V.int)/\ns.length<=63/\∀ H',Q (.bl true) H'
theorem all_mk{l:W.OpenLaw}{w:World}{K:W.Frag}{h:Heap}{mg:Str->Option Value}{fa:Addr}{qd4 qd5 qd6 qd7 qd8 qd9 qda qdb qdc qdd qde qdf qdg qdh:Addr}{qdi qdj qdk qdl qdm qdn qdo qdp qdq qdr qds qdt qdu qdv qdw qdx qdy qdz qe0 qe1 qe2 qe3 qe4 qe5 qe6 qe7 qe8 qe9 qea qeb qec qed qee qef qeg qeh qei qej qek qel qem qen qeo qep qeq qer qes qet qeu qev qew qex qey qez qf0 qf1 qf2 qf3 qf4 qf5 qf6 qf7 qf8 qf9 qfa qfb qfc qfd qfe:Addr}{qff qhc qj9 ql6 qn3 qp0:Value}{qqx qsu:Option Addr}{qur:Array (Option Value)}{qfg qhd qja ql7 qn4 qp1:Value}{qqy qsv:Option Addr}{qus:Array (Option Value)}{qfh qhe qjb ql8 qn5 qp2:Value}{qqz qsw:Option Addr}{qut:Array (Option Value)}{qfi qhf qjc ql9 qn6 qp3:Value}{qr0 qsx:Option Addr}{quu:Array (Option Value)}{qfj qhg qjd qla qn7 qp4:Value}{qr1 qsy:Option Addr}{quv:Array (Option Value)}{qfk qhh qje qlb qn8 qp5:Value}{qr2 qsz:Option Addr}{quw:Array (Option Value)}{qfl qhi qjf qlc qn9 qp6:Value}{qr3 qt0:Option Addr}{qux:Array (Option Value)}{qfm qhj qjg qld qna qp7:Value}{qr4 qt1:Option Addr}{quy:Array (Option Value)}{qfn qhk qjh qle qnb qp8:Value}{qr5 qt2:Option Addr}{quz:Array (Option Value)}{qfo qhl qji qlf qnc qp9:Value}{qr6 qt3:Option Addr}{qv0:Array (Option Value)}{qfp qhm qjj qlg qnd qpa:Value}{qr7 qt4:Option Addr}{qv1:Array (Option Value)}{qfq qhn qjk qlh qne qpb:Value}{qr8 qt5:Option Addr}{qv2:Array (Option Value)}{qfr qho qjl qli qnf qpc:Value}{qr9 qt6:Option Addr}{qv3:Array (Option Value)}{qfs qhp qjm qlj qng qpd:Value}{qra qt7:Option Addr}{qv4:Array (Option Value)}{qft qhq qjn qlk qnh qpe:Value}{qrb qt8:Option Addr}{qv5:Array (Option Value)}{qfu qhr qjo qll qni qpf:Value}{qrc qt9:Option Addr}{qv6:Array (Option Value)}{qfv qhs qjp qlm qnj qpg:Value}{qrd qta:Option Addr}{qv7:Array (Option Value)}{qfw qht qjq qln qnk qph:Value}{qre qtb:Option Addr}{qv8:Array (Option Value)}{qfx qhu qjr qlo qnl qpi:Value}{qrf qtc:Option Addr}{qv9:Array (Option Value)}{qfy qhv qjs qlp qnm qpj:Value}{qrg qtd:Option Addr}{qva:Array (Option Value)}{qfz qhw qjt qlq qnn qpk:Value}{qrh qte:Option Addr}{qvb:Array (Option Value)}{qg0 qhx qju qlr qno qpl:Value}{qri qtf:Option Addr}{qvc:Array (Option Value)}{qg1 qhy qjv qls qnp qpm:Value}{qrj qtg:Option Addr}{qvd:Array (Option Value)}{qg2 qhz qjw qlt qnq qpn:Value}{qrk qth:Option Addr}{qve:Array (Option Value)}{qg3 qi0 qjx qlu qnr qpo:Value}{qrl qti:Option Addr}{qvf:Array (Option Value)}{qg4 qi1 qjy qlv qns qpp:Value}{qrm qtj:Option Addr}{qvg:Array (Option Value)}{qg5 qi2 qjz qlw qnt qpq:Value}{qrn qtk:Option Addr}{qvh:Array (Option Value)}{qg6 qi3 qk0 qlx qnu qpr:Value}{qro qtl:Option Addr}{qvi:Array (Option Value)}{qg7 qi4 qk1 qly qnv qps:Value}{qrp qtm:Option Addr}{qvj:Array (Option Value)}{qg8 qi5 qk2 qlz qnw qpt:Value}{qrq qtn:Option Addr}{qvk:Array (Option Value)}{qg9 qi6 qk3 qm0 qnx qpu:Value}{qrr qto:Option Addr}{qvl:Array (Option Value)}{qga qi7 qk4 qm1 qny qpv:Value}{qrs qtp:Option Addr}{qvm:Array (Option Value)}{qgb qi8 qk5 qm2 qnz qpw:Value}{qrt qtq:Option Addr}{qvn:Array (Option Value)}{qgc qi9 qk6 qm3 qo0 qpx:Value}{qru qtr:Option Addr}{qvo:Array (Option Value)}{qgd qia qk7 qm4 qo1 qpy:Value}{qrv qts:Option Addr}{qvp:Array (Option Value)}{qge qib qk8 qm5 qo2 qpz:Value}{qrw qtt:Option Addr}{qvq:Array (Option Value)}{qgf qic qk9 qm6 qo3 qq0:Value}{qrx qtu:Option Addr}{qvr:Array (Option Value)}{qgg qid qka qm7 qo4 qq1:Value}{qry qtv:Option Addr}{qvs:Array (Option Value)}{qgh qie qkb qm8 qo5 qq2:Value}{qrz qtw:Option Addr}{qvt:Array (Option Value)}{qgi qif qkc qm9 qo6 qq3:Value}{qs0 qtx:Option Addr}{qvu:Array (Option Value)}{qgj qig qkd qma qo7 qq4:Value}{qs1 qty:Option Addr}{qvv:Array (Option Value)}{qgk qih qke qmb qo8 qq5:Value}{qs2 qtz:Option Addr}{qvw:Array (Option Value)}{qgl qii qkf qmc qo9 qq6:Value}{qs3 qu0:Option Addr}{qvx:Array (Option Value)}{qgm qij qkg qmd qoa qq7:Value}{qs4 qu1:Option Addr}{qvy:Array (Option Value)}{qgn qik qkh qme qob qq8:Value}{qs5 qu2:Option Addr}{qvz:Array (Option Value)}{qgo qil qki qmf qoc qq9:Value}{qs6 qu3:Option Addr}{qw0:Array (Option Value)}{qgp qim qkj qmg qod qqa:Value}{qs7 qu4:Option Addr}{qw1:Array (Option Value)}{qgq qin qkk qmh qoe qqb:Value}{qs8 qu5:Option Addr}{qw2:Array (Option Value)}{qgr qio qkl qmi qof qqc:Value}{qs9 qu6:Option Addr}{qw3:Array (Option Value)}{qgs qip qkm qmj qog qqd:Value}{qsa qu7:Option Addr}{qw4:Array (Option Value)}{qgt qiq qkn qmk qoh qqe:Value}{qsb qu8:Option Addr}{qw5:Array (Option Value)}{qgu qir qko qml qoi qqf:Value}{qsc qu9:Option Addr}{qw6:Array (Option Value)}{qgv qis qkp qmm qoj qqg:Value}{qsd qua:Option Addr}{qw7:Array (Option Value)}{qgw qit qkq qmn qok qqh:Value}{qse qub:Option Addr}{qw8:Array (Option Value)}{qgx qiu qkr qmo qol qqi:Value}{qsf quc:Option Addr}{qw9:Array (Option Value)}{qgy qiv qks qmp qom qqj:Value}{qsg qud:Option Addr}{qwa:Array (Option Value)}{qgz qiw qkt qmq qon qqk:Value}{qsh que:Option Addr}{qwb:Array (Option Value)}{qh0 qix qku qmr qoo qql:Value}{qsi quf:Option Addr}{qwc:Array (Option Value)}{qh1 qiy qkv qms qop qqm:Value}{qsj qug:Option Addr}{qwd:Array (Option Value)}{qh2 qiz qkw qmt qoq qqn:Value}{qsk quh:Option Addr}{qwe:Array (Option Value)}{qh3 qj0 qkx qmu qor qqo:Value}{qsl qui:Option Addr}{qwf:Array (Option Value)}{qh4 qj1 qky qmv qos qqp:Value}{qsm quj:Option Addr}{qwg:Array (Option Value)}{qh5 qj2 qkz qmw qot qqq:Value}{qsn quk:Option Addr}{qwh:Array (Option Value)}{qh6 qj3 ql0 qmx qou qqr:Value}{qso qul:Option Addr}{qwi:Array (Option Value)}{qh7 qj4 ql1 qmy qov qqs:Value}{qsp qum:Option Addr}{qwj:Array (Option Value)}{qh8 qj5 ql2 qmz qow qqt:Value}{qsq qun:Option Addr}{qwk:Array (Option Value)}{qh9 qj6 ql3 qn0 qox qqu:Value}{qsr quo:Option Addr}{qwl:Array (Option Value)}{qha qj7 ql4 qn1 qoy qqv:Value}{qss qup:Option Addr}{qwm:Array (Option Value)}{qhb qj8 ql5 qn2 qoz qqw:Value}{qst quq:Option Addr}{qwn:Array (Option Value)}{tk_MOST_LETTERS:Tok}{tk_MOST_PIECE_SIGNS:Tok}{tk_PERCENT:Tok}(X:K.In h)(G:h.Ns mainGlobals mg)(hfa:mg "law"=some (.ref fa))
  (q0:W.nsIn K mainGlobals "HoldError"=some (some (.ref qd4)))
  (q1:W.nsIn K mainGlobals "NoBlock"=some (some (.ref qd5)))
  (q2:W.nsIn K mainGlobals "NoChange"=some (some (.ref qd6)))
  (q3:W.nsIn K mainGlobals "NoRoom"=some (some (.ref qd7)))
  (q4:W.nsIn K mainGlobals "NoName"=some (some (.ref qd8)))
  (q5:W.nsIn K mainGlobals "Twice"=some (some (.ref qd9)))
  (q6:W.nsIn K mainGlobals "NoPiece"=some (some (.ref qda)))
  (q7:W.nsIn K mainGlobals "NotSound"=some (some (.ref qdb)))
  (q8:W.nsIn K mainGlobals "NoRow"=some (some (.ref qdc)))
  (q9:W.nsIn K mainGlobals "Change"=some (some (.ref qdd)))
  (qa:W.nsIn K mainGlobals "Hold"=some (some (.ref qde)))
  (qb:W.nsIn K mainGlobals "Store"=some (some (.ref qdf)))
  (qc:W.nsIn K mainGlobals "Plank"=some (some (.ref qdg)))
  (qd:W.nsIn K mainGlobals "Layout"=some (some (.ref qdh)))
  (qe:W.plainGet K qdd Str.empty=true)
  (qf:W.hasDictIn K qdd=true)
  (qg:W.plainOver K qdd=true)
  (qh:W.findIn K (.ref qdd) "__setattr__"=some (some (.builtin "object.__setattr__")))
  (qi:W.plainGet K qde Str.empty=true)
  (qj:W.hasDictIn K qde=true)
  (qk:W.plainOver K qde=true)
  (ql:W.findIn K (.ref qde) "__setattr__"=some (some (.builtin "object.__setattr__")))
  (qm:W.plainGet K qdh Str.empty=true)
  (qn:W.hasDictIn K qdh=true)
  (qo:W.plainOver K qdh=true)
  (qp:W.findIn K (.ref qdh) "__setattr__"=some (some (.builtin "object.__setattr__")))
  (qq:W.plainGet K qdg Str.empty=true)
  (qr:W.hasDictIn K qdg=true)
  (qs:W.plainOver K qdg=true)
  (qt:W.findIn K (.ref qdg) "__setattr__"=some (some (.builtin "object.__setattr__")))
  (qu:W.plainGet K qdf Str.empty=true)
  (qv:W.hasDictIn K qdf=true)
  (qw:W.plainOver K qdf=true)
  (qx:W.findIn K (.ref qdf) "__setattr__"=some (some (.builtin "object.__setattr__")))
  (qy:W.makesIn K qdd=true)
  (qz:W.keepIn K (.ref qdd)=true)
  (q10:W.makesIn K qde=true)
  (q11:W.keepIn K (.ref qde)=true)
  (q12:W.makesIn K qdh=true)
  (q13:W.keepIn K (.ref qdh)=true)
  (q14:W.makesIn K qdg=true)
  (q15:W.keepIn K (.ref qdg)=true)
  (q16:W.makesIn K qdf=true)
  (q17:W.keepIn K (.ref qdf)=true)
  (q18:W.excIn K qd4 [.type "ValueError",.type "Exception",.type "BaseException",.type "object"] "ValueError.__new__"=true)
  (q19:W.nsIn K mainGlobals "MOST_LETTERS"=some (some (.int 8 tk_MOST_LETTERS)))
  (q1a:W.nsIn K mainGlobals "MOST_PIECE_SIGNS"=some (some (.int 40 tk_MOST_PIECE_SIGNS)))
  (q1b:W.excIn K qd5 [.type "ValueError",.type "Exception",.type "BaseException",.type "object"] "ValueError.__new__"=true)
  (q1c:W.excIn K qd6 [.type "ValueError",.type "Exception",.type "BaseException",.type "object"] "ValueError.__new__"=true)
  (q1d:W.excIn K qd8 [.type "ValueError",.type "Exception",.type "BaseException",.type "object"] "ValueError.__new__"=true)
  (q1e:W.excIn K qda [.type "ValueError",.type "Exception",.type "BaseException",.type "object"] "ValueError.__new__"=true)
  (q1f:W.excIn K qd7 [.type "ValueError",.type "Exception",.type "BaseException",.type "object"] "ValueError.__new__"=true)
  (q1g:W.excIn K qdc [.type "ValueError",.type "Exception",.type "BaseException",.type "object"] "ValueError.__new__"=true)
  (q1h:W.excIn K qdb [.type "ValueError",.type "Exception",.type "BaseException",.type "object"] "ValueError.__new__"=true)
  (q1i:W.nsIn K mainGlobals "PERCENT"=some (some (.int 37 tk_PERCENT)))
  (q1j:W.excIn K qd9 [.type "ValueError",.type "Exception",.type "BaseException",.type "object"] "ValueError.__new__"=true)
  (q1k:W.nsIn K mainGlobals "ValueError"=some none)
  (q1l:W.nsIn K mainGlobals "all"=some none)
  (q1m:W.nsIn K mainGlobals "dict"=some none)
  (q1n:W.nsIn K mainGlobals "enumerate"=some none)
  (q1o:W.nsIn K mainGlobals "isinstance"=some none)
  (q1p:W.nsIn K mainGlobals "len"=some none)
  (q1q:W.nsIn K mainGlobals "list"=some none)
  (q1r:W.nsIn K mainGlobals "ord"=some none)
  (q1s:W.nsIn K mainGlobals "range"=some none)
  (q1t:W.nsIn K mainGlobals "set"=some none)
  (q1u:W.nsIn K mainGlobals "sorted"=some none)
  (q1v:W.nsIn K mainGlobals "tuple"=some none)
  (q1w:W.findIn K (.ref qdd) "__init__"=some (some (.ref qdi)))
  (q1x:W.isFn K (.ref qdi)=true)
  (q1y:K.lookup qdi=some ⟨qff,qqx,.func (W.fnOf "__init__" "Change.__init__" (zan ze7) (zam ze7) (zab ze7) .none qhc qj9 ql6 qsu qn3 qp0),qur⟩)
  (q1z:W.codeIn K qn3 "Change.__init__"=true)
  (q20:W.keepIn K (.ref qdi)=true)
  (q21:W.findIn K (.ref qde) "waiting"=some (some (.ref qdj)))
  (q22:W.isFn K (.ref qdj)=true)
  (q23:K.lookup qdj=some ⟨qfg,qqy,.func (W.fnOf "waiting" "Book.waiting" (zan zdv) (zam zdv) (zab zdv) .none qhd qja ql7 qsv qn4 qp1),qus⟩)
  (q24:W.codeIn K qn4 "Book.waiting"=true)
  (q25:W.keepIn K (.ref qdj)=true)
  (q26:W.findIn K (.ref qde) "ask_for_changes"=some (some (.ref qdk)))
  (q27:W.isFn K (.ref qdk)=true)
  (q28:K.lookup qdk=some ⟨qfh,qqz,.func (W.fnOf "ask_for_changes" "Book.ask_for_changes" (zan zbr) (zam zbr) (zab zbr) .none qhe qjb ql8 qsw qn5 qp2),qut⟩)
  (q29:W.codeIn K qn5 "Book.ask_for_changes"=true)
  (q2a:W.keepIn K (.ref qdk)=true)
  (q2b:W.nsIn K mainGlobals "needs_with"=some (some (.ref qdl)))
  (q2c:K.lookup qdl=some ⟨qfi,qr0,.func (W.fnOf "needs_with" "needs_with" (zan zf1) (zam zf1) (zab zf1) .none qhf qjc ql9 qsx qn6 qp3),quu⟩)
  (q2d:W.codeIn K qn6 "needs_with"=true)
  (q2e:W.keepIn K (.ref qdl)=true)
  (q2f:W.findIn K (.ref qde) "lack_of"=some (some (.ref qdm)))
  (q2g:W.isFn K (.ref qdm)=true)
  (q2h:K.lookup qdm=some ⟨qfj,qr1,.func (W.fnOf "lack_of" "Hold.lack_of" (zan zel) (zam zel) (zab zel) .none qhg qjd qla qsy qn7 qp4),quv⟩)
  (q2i:W.codeIn K qn7 "Hold.lack_of"=true)
  (q2j:W.keepIn K (.ref qdm)=true)
  (q2k:W.findIn K (.ref qde) "laid_over"=some (some (.ref qdn)))
  (q2l:W.isFn K (.ref qdn)=true)
  (q2m:K.lookup qdn=some ⟨qfk,qr2,.func (W.fnOf "laid_over" "Hold.laid_over" (zan zdf) (zam zdf) (zab zdf) .none qhh qje qlb qsz qn8 qp5),quw⟩)
  (q2n:W.codeIn K qn8 "Hold.laid_over"=true)
  (q2o:W.keepIn K (.ref qdn)=true)
  (q2p:W.nsIn K mainGlobals "is_sign"=some (some (.ref qdo)))
  (q2q:K.lookup qdo=some ⟨qfl,qr3,.func (W.fnOf "is_sign" "is_sign" (zan zko) (zam zko) (zab zko) .none qhi qjf qlc qt0 qn9 qp6),qux⟩)
  (q2r:W.codeIn K qn9 "is_sign"=true)
  (q2s:W.keepIn K (.ref qdo)=true)
  (q2t:W.nsIn K mainGlobals "is_name"=some (some (.ref qdp)))
  (q2u:K.lookup qdp=some ⟨qfm,qr4,.func (W.fnOf "is_name" "is_name" (zan zjd) (zam zjd) (zab zjd) .none qhj qjg qld qt1 qna qp7),quy⟩)
  (q2v:W.codeIn K qna "is_name"=true)
  (q2w:W.keepIn K (.ref qdp)=true)
  (q2x:W.findIn K (.ref qdf) "layout"=some (some (.ref qdq)))
  (q2y:W.isFn K (.ref qdq)=true)
  (q2z:K.lookup qdq=some ⟨qfn,qr5,.func (W.fnOf "layout" "Store.layout" (zan zem) (zam zem) (zab zem) .none qhk qjh qle qt2 qnb qp8),quz⟩)
  (q30:W.codeIn K qnb "Store.layout"=true)
  (q31:W.keepIn K (.ref qdq)=true)
  (q32:W.findIn K (.ref qdf) "hold"=some (some (.ref qdr)))
  (q33:W.isFn K (.ref qdr)=true)
  (q34:K.lookup qdr=some ⟨qfo,qr6,.func (W.fnOf "hold" "Store.hold" (zan zf2) (zam zf2) (zab zf2) .none qhl qji qlf qt3 qnc qp9),qv0⟩)
  (q35:W.codeIn K qnc "Store.hold"=true)
  (q36:W.keepIn K (.ref qdr)=true)
  (q37:W.findIn K (.ref qdg) "__init__"=some (some (.ref qds)))
  (q38:W.isFn K (.ref qds)=true)
  (q39:K.lookup qds=some ⟨qfp,qr7,.func (W.fnOf "__init__" "Plank.__init__" (zan zez) (zam zez) (zab zez) .none qhm qjj qlg qt4 qnd qpa),qv1⟩)
  (q3a:W.codeIn K qnd "Plank.__init__"=true)
  (q3b:W.keepIn K (.ref qds)=true)
  (q3c:W.findIn K (.ref qdg) "blocks"=some (some (.ref qdt)))
  (q3d:W.isFn K (.ref qdt)=true)
  (q3e:K.lookup qdt=some ⟨qfq,qr8,.func (W.fnOf "blocks" "Plank.blocks" (zan zen) (zam zen) (zab zen) .none qhn qjk qlh qt5 qne qpb),qv2⟩)
  (q3f:W.codeIn K qne "Plank.blocks"=true)
  (q3g:W.keepIn K (.ref qdt)=true)
  (q3h:W.findIn K (.ref qdg) "cells"=some (some (.ref qdu)))
  (q3i:W.isFn K (.ref qdu)=true)
  (q3j:K.lookup qdu=some ⟨qfr,qr9,.func (W.fnOf "cells" "Plank.cells" (zan ze8) (zam ze8) (zab ze8) .none qho qjl qli qt6 qnf qpc),qv3⟩)
  (q3k:W.codeIn K qnf "Plank.cells"=true)
  (q3l:W.keepIn K (.ref qdu)=true)
  (q3m:W.findIn K (.ref qdg) "ask_for_block"=some (some (.ref qdv)))
  (q3n:W.isFn K (.ref qdv)=true)
  (q3o:K.lookup qdv=some ⟨qfs,qra,.func (W.fnOf "ask_for_block" "Plank.ask_for_block" (zan zbw) (zam zbw) (zab zbw) .none qhp qjm qlj qt7 qng qpd),qv4⟩)
  (q3p:W.codeIn K qng "Plank.ask_for_block"=true)
  (q3q:W.keepIn K (.ref qdv)=true)
  (q3r:W.findIn K (.ref qdh) "__init__"=some (some (.ref qdw)))
  (q3s:W.isFn K (.ref qdw)=true)
  (q3t:K.lookup qdw=some ⟨qft,qrb,.func (W.fnOf "__init__" "Layout.__init__" (zan ze9) (zam ze9) (zab ze9) .none qhq qjn qlk qt8 qnh qpe),qv5⟩)
  (q3u:W.codeIn K qnh "Layout.__init__"=true)
  (q3v:W.keepIn K (.ref qdw)=true)
  (q3w:W.findIn K (.ref qdh) "counts"=some (some (.ref qdx)))
  (q3x:W.isFn K (.ref qdx)=true)
  (q3y:K.lookup qdx=some ⟨qfu,qrc,.func (W.fnOf "counts" "Layout.counts" (zan zdy) (zam zdy) (zab zdy) .none qhr qjo qll qt9 qni qpf),qv6⟩)
  (q3z:W.codeIn K qni "Layout.counts"=true)
  (q40:W.keepIn K (.ref qdx)=true)
  (q41:W.findIn K (.ref qdh) "blocks_ahead_of_marks"=some (some (.ref qdy)))
  (q42:W.isFn K (.ref qdy)=true)
  (q43:K.lookup qdy=some ⟨qfv,qrd,.func (W.fnOf "blocks_ahead_of_marks" "Layout.blocks_ahead_of_marks" (zan za6) (zam za6) (zab za6) .none qhs qjp qlm qta qnj qpg),qv7⟩)
  (q44:W.codeIn K qnj "Layout.blocks_ahead_of_marks"=true)
  (q45:W.keepIn K (.ref qdy)=true)
  (q46:W.findIn K (.ref qdh) "place_from"=some (some (.ref qdz)))
  (q47:W.isFn K (.ref qdz)=true)
  (q48:K.lookup qdz=some ⟨qfw,qre,.func (W.fnOf "place_from" "Layout.place_from" (zan zcd) (zam zcd) (zab zcd) .none qht qjq qln qtb qnk qph),qv8⟩)
  (q49:W.codeIn K qnk "Layout.place_from"=true)
  (q4a:W.keepIn K (.ref qdz)=true)
  (q4b:W.nsIn K mainGlobals "_law_cell_at"=some (some (.ref qe0)))
  (q4c:K.lookup qe0=some ⟨qfx,qrf,.func (W.fnOf "_law_cell_at" "_law_cell_at" (zan zfa) (zam zfa) (zab zfa) .none qhu qjr qlo qtc qnl qpi),qv9⟩)
  (q4d:W.codeIn K qnl "_law_cell_at"=true)
  (q4e:W.keepIn K (.ref qe0)=true)
  (q4f:W.nsIn K mainGlobals "_law_names"=some (some (.ref qe1)))
  (q4g:K.lookup qe1=some ⟨qfy,qrg,.func (W.fnOf "_law_names" "_law_names" (zan zgz) (zam zgz) (zab zgz) .none qhv qjs qlp qtd qnm qpj),qva⟩)
  (q4h:W.codeIn K qnm "_law_names"=true)
  (q4i:W.keepIn K (.ref qe1)=true)
  (q4j:W.nsIn K mainGlobals "_law_text"=some (some (.ref qe2)))
  (q4k:K.lookup qe2=some ⟨qfz,qrh,.func (W.fnOf "_law_text" "_law_text" (zan zg8) (zam zg8) (zab zg8) .none qhw qjt qlq qte qnn qpk),qvb⟩)
  (q4l:W.codeIn K qnn "_law_text"=true)
  (q4m:W.keepIn K (.ref qe2)=true)
  (q4n:W.nsIn K mainGlobals "_law_at"=some (some (.ref qe3)))
  (q4o:K.lookup qe3=some ⟨qg0,qri,.func (W.fnOf "_law_at" "_law_at" (zan znt) (zam znt) (zab znt) .none qhx qju qlr qtf qno qpl),qvc⟩)
  (q4p:W.codeIn K qno "_law_at"=true)
  (q4q:W.keepIn K (.ref qe3)=true)
  (q4r:W.nsIn K mainGlobals "_law_bad_name"=some (some (.ref qe4)))
  (q4s:K.lookup qe4=some ⟨qg1,qrj,.func (W.fnOf "_law_bad_name" "_law_bad_name" (zan zeo) (zam zeo) (zab zeo) .none qhy qjv qls qtg qnp qpm),qvd⟩)
  (q4t:W.codeIn K qnp "_law_bad_name"=true)
  (q4u:W.keepIn K (.ref qe4)=true)
  (q4v:W.findIn K (.ref qde) "__init__"=some (some (.ref qe5)))
  (q4w:W.isFn K (.ref qe5)=true)
  (q4x:K.lookup qe5=some ⟨qg2,qrk,.func (W.fnOf "__init__" "Book.__init__" (zan zf3) (zam zf3) (zab zf3) .none qhz qjw qlt qth qnq qpn),qve⟩)
  (q4y:W.codeIn K qnq "Book.__init__"=true)
  (q4z:W.keepIn K (.ref qe5)=true)
  (q50:W.findIn K (.ref qde) "ask_for_place"=some (some (.ref qe6)))
  (q51:W.isFn K (.ref qe6)=true)
  (q52:K.lookup qe6=some ⟨qg3,qrl,.func (W.fnOf "ask_for_place" "Book.ask_for_place" (zan zb5) (zam zb5) (zab zb5) .none qi0 qjx qlu qti qnr qpo),qvf⟩)
  (q53:W.codeIn K qnr "Book.ask_for_place"=true)
  (q54:W.keepIn K (.ref qe6)=true)
  (q55:W.findIn K (.ref qde) "outcome"=some (some (.ref qe7)))
  (q56:W.isFn K (.ref qe7)=true)
  (q57:K.lookup qe7=some ⟨qg4,qrm,.func (W.fnOf "outcome" "Hold.outcome" (zan zep) (zam zep) (zab zep) .none qi1 qjy qlv qtj qns qpp),qvg⟩)
  (q58:W.codeIn K qns "Hold.outcome"=true)
  (q59:W.keepIn K (.ref qe7)=true)
  (q5a:W.nsIn K mainGlobals "is_piece"=some (some (.ref qe8)))
  (q5b:K.lookup qe8=some ⟨qg5,qrn,.func (W.fnOf "is_piece" "is_piece" (zan zg9) (zam zg9) (zab zg9) .none qi2 qjz qlw qtk qnt qpq),qvh⟩)
  (q5c:W.codeIn K qnt "is_piece"=true)
  (q5d:W.keepIn K (.ref qe8)=true)
  (q5e:W.findIn K (.ref qdg) "read"=some (some (.ref qe9)))
  (q5f:W.isFn K (.ref qe9)=true)
  (q5g:K.lookup qe9=some ⟨qg6,qro,.func (W.fnOf "read" "Plank.read" (zan zf4) (zam zf4) (zab zf4) .none qi3 qk0 qlx qtl qnu qpr),qvi⟩)
  (q5h:W.codeIn K qnu "Plank.read"=true)
  (q5i:W.keepIn K (.ref qe9)=true)
  (q5j:W.findIn K (.ref qdg) "write"=some (some (.ref qea)))
  (q5k:W.isFn K (.ref qea)=true)
  (q5l:K.lookup qea=some ⟨qg7,qrp,.func (W.fnOf "write" "Plank.write" (zan zfb) (zam zfb) (zab zfb) .none qi4 qk1 qly qtm qnv qps),qvj⟩)
  (q5m:W.codeIn K qnv "Plank.write"=true)
  (q5n:W.keepIn K (.ref qea)=true)
  (q5o:W.findIn K (.ref qdh) "name_at"=some (some (.ref qeb)))
  (q5p:W.isFn K (.ref qeb)=true)
  (q5q:K.lookup qeb=some ⟨qg8,qrq,.func (W.fnOf "name_at" "Layout.name_at" (zan zdg) (zam zdg) (zab zdg) .none qi5 qk2 qlz qtn qnw qpt),qvk⟩)
  (q5r:W.codeIn K qnw "Layout.name_at"=true)
  (q5s:W.keepIn K (.ref qeb)=true)
  (q5t:W.findIn K (.ref qdh) "record_at"=some (some (.ref qec)))
  (q5u:W.isFn K (.ref qec)=true)
  (q5v:K.lookup qec=some ⟨qg9,qrr,.func (W.fnOf "record_at" "Layout.record_at" (zan zcs) (zam zcs) (zab zcs) .none qi6 qk3 qm0 qto qnx qpu),qvl⟩)
  (q5w:W.codeIn K qnx "Layout.record_at"=true)
  (q5x:W.keepIn K (.ref qec)=true)
  (q5y:W.findIn K (.ref qdh) "piece_at"=some (some (.ref qed)))
  (q5z:W.isFn K (.ref qed)=true)
  (q60:K.lookup qed=some ⟨qga,qrs,.func (W.fnOf "piece_at" "Layout.piece_at" (zan zc0) (zam zc0) (zab zc0) .none qi7 qk4 qm1 qtp qny qpv),qvm⟩)
  (q61:W.codeIn K qny "Layout.piece_at"=true)
  (q62:W.keepIn K (.ref qed)=true)
  (q63:W.findIn K (.ref qdh) "record_mark"=some (some (.ref qee)))
  (q64:W.isFn K (.ref qee)=true)
  (q65:K.lookup qee=some ⟨qgb,qrt,.func (W.fnOf "record_mark" "Layout.record_mark" (zan zb6) (zam zb6) (zab zb6) .none qi8 qk5 qm2 qtq qnz qpw),qvn⟩)
  (q66:W.codeIn K qnz "Layout.record_mark"=true)
  (q67:W.keepIn K (.ref qee)=true)
  (q68:W.findIn K (.ref qdh) "piece_mark"=some (some (.ref qef)))
  (q69:W.isFn K (.ref qef)=true)
  (q6a:K.lookup qef=some ⟨qgc,qru,.func (W.fnOf "piece_mark" "Layout.piece_mark" (zan zce) (zam zce) (zab zce) .none qi9 qk6 qm3 qtr qo0 qpx),qvo⟩)
  (q6b:W.codeIn K qo0 "Layout.piece_mark"=true)
  (q6c:W.keepIn K (.ref qef)=true)
  (q6d:W.findIn K (.ref qdh) "blocks"=some (some (.ref qeg)))
  (q6e:W.isFn K (.ref qeg)=true)
  (q6f:K.lookup qeg=some ⟨qgd,qrv,.func (W.fnOf "blocks" "Layout.blocks" (zan zdz) (zam zdz) (zab zdz) .none qia qk7 qm4 qts qo1 qpy),qvp⟩)
  (q6g:W.codeIn K qo1 "Layout.blocks"=true)
  (q6h:W.keepIn K (.ref qeg)=true)
  (q6i:W.findIn K (.ref qde) "newest"=some (some (.ref qeh)))
  (q6j:W.isFn K (.ref qeh)=true)
  (q6k:K.lookup qeh=some ⟨qge,qrw,.func (W.fnOf "newest" "Book.newest" (zan zfc) (zam zfc) (zab zfc) .none qib qk8 qm5 qtt qo2 qpz),qvq⟩)
  (q6l:W.codeIn K qo2 "Book.newest"=true)
  (q6m:W.keepIn K (.ref qeh)=true)
  (q6n:W.findIn K (.ref qde) "write"=some (some (.ref qei)))
  (q6o:W.isFn K (.ref qei)=true)
  (q6p:K.lookup qei=some ⟨qgf,qrx,.func (W.fnOf "write" "Hold.write" (zan zf5) (zam zf5) (zab zf5) .none qic qk9 qm6 qtu qo3 qq0),qvr⟩)
  (q6q:W.codeIn K qo3 "Hold.write"=true)
  (q6r:W.keepIn K (.ref qei)=true)
  (q6s:W.findIn K (.ref qdh) "plank"=some (some (.ref qej)))
  (q6t:W.isFn K (.ref qej)=true)
  (q6u:K.lookup qej=some ⟨qgg,qry,.func (W.fnOf "plank" "Layout.plank" (zan zeq) (zam zeq) (zab zeq) .none qid qka qm7 qtv qo4 qq1),qvs⟩)
  (q6v:W.codeIn K qo4 "Layout.plank"=true)
  (q6w:W.keepIn K (.ref qej)=true)
  (q6x:W.findIn K (.ref qde) "change"=some (some (.ref qek)))
  (q6y:W.isFn K (.ref qek)=true)
  (q6z:K.lookup qek=some ⟨qgh,qrz,.func (W.fnOf "change" "Book.change" (zan zfd) (zam zfd) (zab zfd) .none qie qkb qm8 qtw qo5 qq2),qvt⟩)
  (q70:W.codeIn K qo5 "Book.change"=true)
  (q71:W.keepIn K (.ref qek)=true)
  (q72:W.findIn K (.ref qde) "in_hand"=some (some (.ref qel)))
  (q73:W.isFn K (.ref qel)=true)
  (q74:K.lookup qel=some ⟨qgi,qs0,.func (W.fnOf "in_hand" "Book.in_hand" (zan zer) (zam zer) (zab zer) .none qif qkc qm9 qtx qo6 qq3),qvu⟩)
  (q75:W.codeIn K qo6 "Book.in_hand"=true)
  (q76:W.keepIn K (.ref qel)=true)
  (q77:W.findIn K (.ref qdf) "__init__"=some (some (.ref qem)))
  (q78:W.isFn K (.ref qem)=true)
  (q79:K.lookup qem=some ⟨qgj,qs1,.func (W.fnOf "__init__" "Store.__init__" (zan zf6) (zam zf6) (zab zf6) .none qig qkd qma qty qo7 qq4),qvv⟩)
  (q7a:W.codeIn K qo7 "Store.__init__"=true)
  (q7b:W.keepIn K (.ref qem)=true)
  (q7c:W.findIn K (.ref qdf) "write"=some (some (.ref qen)))
  (q7d:W.isFn K (.ref qen)=true)
  (q7e:K.lookup qen=some ⟨qgk,qs2,.func (W.fnOf "write" "Store.write" (zan zfe) (zam zfe) (zab zfe) .none qih qke qmb qtz qo8 qq5),qvw⟩)
  (q7f:W.codeIn K qo8 "Store.write"=true)
  (q7g:W.keepIn K (.ref qen)=true)
  (q7h:W.nsIn K mainGlobals "lowest_with"=some (some (.ref qeo)))
  (q7i:K.lookup qeo=some ⟨qgl,qs3,.func (W.fnOf "lowest_with" "lowest_with" (zan zff) (zam zff) (zab zff) .none qii qkf qmc qu0 qo9 qq6),qvx⟩)
  (q7j:W.codeIn K qo9 "lowest_with"=true)
  (q7k:W.keepIn K (.ref qeo)=true)
  (q7l:W.findIn K (.ref qdf) "name_cells"=some (some (.ref qep)))
  (q7m:W.isFn K (.ref qep)=true)
  (q7n:K.lookup qep=some ⟨qgm,qs4,.func (W.fnOf "name_cells" "Store.name_cells" (zan zb7) (zam zb7) (zab zb7) .none qij qkg qmd qu1 qoa qq7),qvy⟩)
  (q7o:W.codeIn K qoa "Store.name_cells"=true)
  (q7p:W.keepIn K (.ref qep)=true)
  (q7q:W.findIn K (.ref qdf) "standing"=some (some (.ref qeq)))
  (q7r:W.isFn K (.ref qeq)=true)
  (q7s:K.lookup qeq=some ⟨qgn,qs5,.func (W.fnOf "standing" "Store.standing" (zan zdh) (zam zdh) (zab zdh) .none qik qkh qme qu2 qob qq8),qvz⟩)
  (q7t:W.codeIn K qob "Store.standing"=true)
  (q7u:W.keepIn K (.ref qeq)=true)
  (q7v:W.findIn K (.ref qdf) "fill_cell"=some (some (.ref qer)))
  (q7w:W.isFn K (.ref qer)=true)
  (q7x:K.lookup qer=some ⟨qgo,qs6,.func (W.fnOf "fill_cell" "Store.fill_cell" (zan zc1) (zam zc1) (zab zc1) .none qil qki qmf qu3 qoc qq9),qw0⟩)
  (q7y:W.codeIn K qoc "Store.fill_cell"=true)
  (q7z:W.keepIn K (.ref qer)=true)
  (q80:W.nsIn K mainGlobals "free_name"=some (some (.ref qes)))
  (q81:K.lookup qes=some ⟨qgp,qs7,.func (W.fnOf "free_name" "free_name" (zan zf7) (zam zf7) (zab zf7) .none qim qkj qmg qu4 qod qqa),qw1⟩)
  (q82:W.codeIn K qod "free_name"=true)
  (q83:W.keepIn K (.ref qes)=true)
  (q84:W.nsIn K mainGlobals "free_record"=some (some (.ref qet)))
  (q85:K.lookup qet=some ⟨qgq,qs8,.func (W.fnOf "free_record" "free_record" (zan zeh) (zam zeh) (zab zeh) .none qin qkk qmh qu5 qoe qqb),qw2⟩)
  (q86:W.codeIn K qoe "free_record"=true)
  (q87:W.keepIn K (.ref qet)=true)
  (q88:W.nsIn K mainGlobals "free_piece"=some (some (.ref qeu)))
  (q89:K.lookup qeu=some ⟨qgr,qs9,.func (W.fnOf "free_piece" "free_piece" (zan ze0) (zam ze0) (zab ze0) .none qio qkl qmi qu6 qof qqc),qw3⟩)
  (q8a:W.codeIn K qof "free_piece"=true)
  (q8b:W.keepIn K (.ref qeu)=true)
  (q8c:W.findIn K (.ref qdf) "names"=some (some (.ref qev)))
  (q8d:W.isFn K (.ref qev)=true)
  (q8e:K.lookup qev=some ⟨qgs,qsa,.func (W.fnOf "names" "Store.names" (zan zei) (zam zei) (zab zei) .none qip qkm qmj qu7 qog qqd),qw4⟩)
  (q8f:W.codeIn K qog "Store.names"=true)
  (q8g:W.keepIn K (.ref qev)=true)
  (q8h:W.findIn K (.ref qdf) "cell_of"=some (some (.ref qew)))
  (q8i:W.isFn K (.ref qew)=true)
  (q8j:K.lookup qew=some ⟨qgt,qsb,.func (W.fnOf "cell_of" "Store.cell_of" (zan zd0) (zam zd0) (zab zd0) .none qiq qkn qmk qu8 qoh qqe),qw5⟩)
  (q8k:W.codeIn K qoh "Store.cell_of"=true)
  (q8l:W.keepIn K (.ref qew)=true)
  (q8m:W.findIn K (.ref qdf) "recount"=some (some (.ref qex)))
  (q8n:W.isFn K (.ref qex)=true)
  (q8o:K.lookup qex=some ⟨qgu,qsc,.func (W.fnOf "recount" "Store.recount" (zan zd1) (zam zd1) (zab zd1) .none qir qko qml qu9 qoi qqf),qw6⟩)
  (q8p:W.codeIn K qoi "Store.recount"=true)
  (q8q:W.keepIn K (.ref qex)=true)
  (q8r:W.findIn K (.ref qdf) "regroup"=some (some (.ref qey)))
  (q8s:W.isFn K (.ref qey)=true)
  (q8t:K.lookup qey=some ⟨qgv,qsd,.func (W.fnOf "regroup" "Store.regroup" (zan zd2) (zam zd2) (zab zd2) .none qis qkp qmm qua qoj qqg),qw7⟩)
  (q8u:W.codeIn K qoj "Store.regroup"=true)
  (q8v:W.keepIn K (.ref qey)=true)
  (q8w:W.findIn K (.ref qdf) "drop_record"=some (some (.ref qez)))
  (q8x:W.isFn K (.ref qez)=true)
  (q8y:K.lookup qez=some ⟨qgw,qse,.func (W.fnOf "drop_record" "Store.drop_record" (zan zbx) (zam zbx) (zab zbx) .none qit qkq qmn qub qok qqh),qw8⟩)
  (q8z:W.codeIn K qok "Store.drop_record"=true)
  (q90:W.keepIn K (.ref qez)=true)
  (q91:W.findIn K (.ref qdf) "ask_for_new_name"=some (some (.ref qf0)))
  (q92:W.isFn K (.ref qf0)=true)
  (q93:K.lookup qf0=some ⟨qgx,qsf,.func (W.fnOf "ask_for_new_name" "Store.ask_for_new_name" (zan zbf) (zam zbf) (zab zbf) .none qiu qkr qmo quc qol qqi),qw9⟩)
  (q94:W.codeIn K qol "Store.ask_for_new_name"=true)
  (q95:W.keepIn K (.ref qf0)=true)
  (q96:W.findIn K (.ref qdf) "record_of"=some (some (.ref qf1)))
  (q97:W.isFn K (.ref qf1)=true)
  (q98:K.lookup qf1=some ⟨qgy,qsg,.func (W.fnOf "record_of" "Store.record_of" (zan zc2) (zam zc2) (zab zc2) .none qiv qks qmp qud qom qqj),qwa⟩)
  (q99:W.codeIn K qom "Store.record_of"=true)
  (q9a:W.keepIn K (.ref qf1)=true)
  (q9b:W.findIn K (.ref qdf) "empty_cell"=some (some (.ref qf2)))
  (q9c:W.isFn K (.ref qf2)=true)
  (q9d:K.lookup qf2=some ⟨qgz,qsh,.func (W.fnOf "empty_cell" "Store.empty_cell" (zan zct) (zam zct) (zab zct) .none qiw qkt qmq que qon qqk),qwb⟩)
  (q9e:W.codeIn K qon "Store.empty_cell"=true)
  (q9f:W.keepIn K (.ref qf2)=true)
  (q9g:W.findIn K (.ref qdf) "make"=some (some (.ref qf3)))
  (q9h:W.isFn K (.ref qf3)=true)
  (q9i:K.lookup qf3=some ⟨qh0,qsi,.func (W.fnOf "make" "Store.make" (zan zf8) (zam zf8) (zab zf8) .none qix qku qmr quf qoo qql),qwc⟩)
  (q9j:W.codeIn K qoo "Store.make"=true)
  (q9k:W.keepIn K (.ref qf3)=true)
  (q9l:W.findIn K (.ref qdf) "link"=some (some (.ref qf4)))
  (q9m:W.isFn K (.ref qf4)=true)
  (q9n:K.lookup qf4=some ⟨qh1,qsj,.func (W.fnOf "link" "Store.link" (zan zf9) (zam zf9) (zab zf9) .none qiy qkv qms qug qop qqm),qwd⟩)
  (q9o:W.codeIn K qop "Store.link"=true)
  (q9p:W.keepIn K (.ref qf4)=true)
  (q9q:W.findIn K (.ref qdf) "cut"=some (some (.ref qf5)))
  (q9r:W.isFn K (.ref qf5)=true)
  (q9s:K.lookup qf5=some ⟨qh2,qsk,.func (W.fnOf "cut" "Store.cut" (zan zg1) (zam zg1) (zab zg1) .none qiz qkw qmt quh qoq qqn),qwe⟩)
  (q9t:W.codeIn K qoq "Store.cut"=true)
  (q9u:W.keepIn K (.ref qf5)=true)
  (q9v:W.findIn K (.ref qdf) "put"=some (some (.ref qf6)))
  (q9w:W.isFn K (.ref qf6)=true)
  (q9x:K.lookup qf6=some ⟨qh3,qsl,.func (W.fnOf "put" "Store.put" (zan zg2) (zam zg2) (zab zg2) .none qj0 qkx qmu qui qor qqo),qwf⟩)
  (q9y:W.codeIn K qor "Store.put"=true)
  (q9z:W.keepIn K (.ref qf6)=true)
  (qa0:W.findIn K (.ref qdf) "take"=some (some (.ref qf7)))
  (qa1:W.isFn K (.ref qf7)=true)
  (qa2:K.lookup qf7=some ⟨qh4,qsm,.func (W.fnOf "take" "Store.take" (zan zga) (zam zga) (zab zga) .none qj1 qky qmv quj qos qqp),qwg⟩)
  (qa3:W.codeIn K qos "Store.take"=true)
  (qa4:W.keepIn K (.ref qf7)=true)
  (qa5:W.findIn K (.ref qdf) "texts"=some (some (.ref qf8)))
  (qa6:W.isFn K (.ref qf8)=true)
  (qa7:K.lookup qf8=some ⟨qh5,qsn,.func (W.fnOf "texts" "Store.texts" (zan zej) (zam zej) (zab zej) .none qj2 qkz qmw quk qot qqq),qwh⟩)
  (qa8:W.codeIn K qot "Store.texts"=true)
  (qa9:W.keepIn K (.ref qf8)=true)
  (qaa:W.findIn K (.ref qdf) "move"=some (some (.ref qf9)))
  (qab:W.isFn K (.ref qf9)=true)
  (qac:K.lookup qf9=some ⟨qh6,qso,.func (W.fnOf "move" "Store.move" (zan zgb) (zam zgb) (zab zgb) .none qj3 ql0 qmx qul qou qqr),qwi⟩)
  (qad:W.codeIn K qou "Store.move"=true)
  (qae:W.keepIn K (.ref qf9)=true)
  (qaf:W.nsIn K mainGlobals "_law_look"=some (some (.ref qfa)))
  (qag:K.lookup qfa=some ⟨qh7,qsp,.func (W.fnOf "_law_look" "_law_look" (zan zid) (zam zid) (zab zid) .none qj4 ql1 qmy qum qov qqs),qwj⟩)
  (qah:W.codeIn K qov "_law_look"=true)
  (qai:W.keepIn K (.ref qfa)=true)
  (qaj:W.nsIn K mainGlobals "_law_done"=some (some (.ref qfb)))
  (qak:K.lookup qfb=some ⟨qh8,qsq,.func (W.fnOf "_law_done" "_law_done" (zan zif) (zam zif) (zab zif) .none qj5 ql2 qmz qun qow qqt),qwk⟩)
  (qal:W.codeIn K qow "_law_done"=true)
  (qam:W.keepIn K (.ref qfb)=true)
  (qan:W.nsIn K mainGlobals "_law_wrong"=some (some (.ref qfc)))
  (qao:K.lookup qfc=some ⟨qh9,qsr,.func (W.fnOf "_law_wrong" "_law_wrong" (zan zg3) (zam zg3) (zab zg3) .none qj6 ql3 qn0 quo qox qqu),qwl⟩)
  (qap:W.codeIn K qox "_law_wrong"=true)
  (qaq:W.keepIn K (.ref qfc)=true)
  (qar:W.nsIn K mainGlobals "_law_refused"=some (some (.ref qfd)))
  (qas:K.lookup qfd=some ⟨qha,qss,.func (W.fnOf "_law_refused" "_law_refused" (zan zfg) (zam zfg) (zab zfg) .none qj7 ql4 qn1 qup qoy qqv),qwm⟩)
  (qat:W.codeIn K qoy "_law_refused"=true)
  (qau:W.keepIn K (.ref qfd)=true)
  (qav:W.nsIn K mainGlobals "law"=some (some (.ref qfe)))
  (qaw:K.lookup qfe=some ⟨qhb,qst,.func (W.fnOf "law" "law" (zan z5x) (zam z5x) (zab z5x) .none qj8 ql5 qn2 quq qoz qqw),qwn⟩)
  (qax:W.codeIn K qoz "law"=true)
  (qay:W.keepIn K (.ref qfe)=true)
  (qaz:W.findIn K (.ref qde) "newest"=some (some (.ref qeh)))
  (qb0:W.findIn K (.ref qde) "ask_for_changes"=some (some (.ref qdk)))
  (qb1:W.findIn K (.ref qde) "ask_for_place"=some (some (.ref qe6)))
  (qb2:W.findIn K (.ref qde) "in_hand"=some (some (.ref qel)))
  (qb3:W.findIn K (.ref qde) "__init__"=some (some (.ref qe5)))
  (qb4:W.findIn K (.ref qde) "change"=some (some (.ref qek)))
  (qb5:W.findIn K (.ref qde) "waiting"=some (some (.ref qdj)))
  (qb6:W.findIn K (.ref qdg) "contents"=some none)
  (qb7:W.findIn K (.ref qdg) "width"=some none)
  (qb8:W.findIn K (.ref qdg) "written"=some none)
  (qb9:W.findIn K (.ref qde) "ground"=some none)
  (qba:W.findIn K (.ref qde) "made"=some none)
  (qbb:W.findIn K (.ref qde) "made_in"=some none)
  (qbc:W.findIn K (.ref qde) "latest"=some none)
  (qbd:W.findIn K (.ref qde) "outs"=some none)
  (qbe:W.findIn K (.ref qdd) "place"=some none)
  (qbf:W.findIn K (.ref qdd) "value"=some none)
  (qbg:W.findIn K (.ref qdd) "needs"=some none)
  (qbh:W.findIn K (.ref qdh) "name_blocks"=some none)
  (qbi:W.findIn K (.ref qdh) "record_blocks"=some none)
  (qbj:W.findIn K (.ref qdh) "piece_blocks"=some none)
  (qbk:W.findIn K (.ref qdh) "width"=some none)
  (qbl:W.findIn K (.ref qdf) "plan"=some none)
  (qbm:W.findIn K (.ref qdf) "book"=some none)
  (qbn:W.findIn K (.ref qdf) "taken_out"=some none)
  (qbo:W.findIn K (.ref qd8) "__getattribute__"=some (some (.builtin "BaseException.__getattribute__")))
  (qbp:W.findIn K (.ref qd8) "__getattr__"=some none)
  (qbq:W.mroIn K qd8 (.type "BaseException")=some true)
  (qbr:W.isClsIn K qd8=true)
  (qbs:W.findIn K (.ref qd8) "__class__"=some (some (.builtin "object.__class__")))
  (qbt:W.specialIn K (.builtin "object.__class__") "__get__"=some (some (.builtin "getset_descriptor.__get__")))
  (qbu:W.takesIn K (.builtin "object.__class__")=some true)
  (qbv:W.mroIn K qd8 (.type "object")=some true)
  (qbw:W.exmOne K (.ref qd8) (.ref qd4)=some true)
  (qbx:W.kitOne K (.ref qd8) (.ref qd8)=some true)
  (qby:W.kitOne K (.ref qd8) (.ref qda)=some false)
  (qbz:W.kitOne K (.ref qd8) (.ref qd5)=some false)
  (qc0:W.kitOne K (.ref qd8) (.type "ValueError")=some true)
  (qc1:W.kitAny K (.ref qd8) [.ref qd6,.ref qd7,.ref qdc,.ref qdb,.ref qd9]=some false)
  (qc2:W.findIn K (.ref qda) "__getattribute__"=some (some (.builtin "BaseException.__getattribute__")))
  (qc3:W.findIn K (.ref qda) "__getattr__"=some none)
  (qc4:W.mroIn K qda (.type "BaseException")=some true)
  (qc5:W.isClsIn K qda=true)
  (qc6:W.findIn K (.ref qda) "__class__"=some (some (.builtin "object.__class__")))
  (qc7:W.specialIn K (.builtin "object.__class__") "__get__"=some (some (.builtin "getset_descriptor.__get__")))
  (qc8:W.takesIn K (.builtin "object.__class__")=some true)
  (qc9:W.mroIn K qda (.type "object")=some true)
  (qca:W.exmOne K (.ref qda) (.ref qd4)=some true)
  (qcb:W.kitOne K (.ref qda) (.ref qd8)=some false)
  (qcc:W.kitOne K (.ref qda) (.ref qda)=some true)
  (qcd:W.kitOne K (.ref qda) (.ref qd5)=some false)
  (qce:W.kitOne K (.ref qda) (.type "ValueError")=some true)
  (qcf:W.kitAny K (.ref qda) [.ref qd6,.ref qd7,.ref qdc,.ref qdb,.ref qd9]=some false)
  (qcg:W.findIn K (.ref qd5) "__getattribute__"=some (some (.builtin "BaseException.__getattribute__")))
  (qch:W.findIn K (.ref qd5) "__getattr__"=some none)
  (qci:W.mroIn K qd5 (.type "BaseException")=some true)
  (qcj:W.isClsIn K qd5=true)
  (qck:W.findIn K (.ref qd5) "__class__"=some (some (.builtin "object.__class__")))
  (qcl:W.specialIn K (.builtin "object.__class__") "__get__"=some (some (.builtin "getset_descriptor.__get__")))
  (qcm:W.takesIn K (.builtin "object.__class__")=some true)
  (qcn:W.mroIn K qd5 (.type "object")=some true)
  (qco:W.exmOne K (.ref qd5) (.ref qd4)=some true)
  (qcp:W.kitOne K (.ref qd5) (.ref qd8)=some false)
  (qcq:W.kitOne K (.ref qd5) (.ref qda)=some false)
  (qcr:W.kitOne K (.ref qd5) (.ref qd5)=some true)
  (qcs:W.kitOne K (.ref qd5) (.type "ValueError")=some true)
  (qct:W.kitAny K (.ref qd5) [.ref qd6,.ref qd7,.ref qdc,.ref qdb,.ref qd9]=some false)
  (qcu:W.exmOne K (.ref qd8) (.ref qd8)=some true)
  (qcv:W.exmOne K (.ref qd9) (.ref qd8)=some false)
  (qcw:W.exmOne K (.ref qd9) (.ref qd9)=some true)
  (qcx:W.exmOne K (.ref qda) (.ref qd8)=some false)
  (qcy:W.exmOne K (.ref qda) (.ref qd9)=some false)
  (qcz:W.exmOne K (.ref qda) (.ref qda)=some true)
  (qd0:W.exmOne K (.ref qd7) (.ref qd8)=some false)
  (qd1:W.exmOne K (.ref qd7) (.ref qd9)=some false)
  (qd2:W.exmOne K (.ref qd7) (.ref qda)=some false)
  (qd3:W.exmOne K (.ref qd7) (.ref qd7)=some true) :
  ∃ fd:FuncData,(∀ (s:Shared) (v:Value),BindsTo s fd ⟨[v],[]⟩ [("script",v)])/\∀ base:Heap,K.In base->base.Ns mainGlobals mg->FnOk l.prog w K mg base (cxE l.prog w) 12 fa fd ["script"] (spL K):=by
 obtain⟨a,rfl,rfl,rfl,rfl,rfl,rfl,rfl,rfl,rfl,rfl,rfl,rfl,rfl,rfl⟩:=joq qd4 qd5 qd6 qd7 qd8 qd9 qda qdb qdc qdd qde qdf qdg qdh
 have e:=hfa.symm.trans (W.mg_of X G qav)
 cases e
 have T:Txt K mg a:=⟨⟨qe,qf,qg,qh⟩,⟨qi,qj,qk,ql⟩,⟨qm,qn,qo,qp⟩,⟨qq,qr,qs,qt⟩,⟨qu,qv,qw,qx⟩,W.mg_of X G q0,⟨_,W.mg_of X G q0,rfl⟩,⟨q18⟩,⟨_,W.mg_of X G q19,_,rfl⟩,⟨_,W.mg_of X G q1a,_,rfl⟩,W.mg_of X G q1,⟨_,W.mg_of X G q1,rfl⟩,⟨q1b⟩,W.mg_of X G q2,⟨_,W.mg_of X G q2,rfl⟩,⟨q1c⟩,W.mg_of X G q4,⟨_,W.mg_of X G q4,rfl⟩,⟨q1d⟩,W.mg_of X G q6,⟨_,W.mg_of X G q6,rfl⟩,⟨q1e⟩,W.mg_of X G q3,⟨_,W.mg_of X G q3,rfl⟩,⟨q1f⟩,W.mg_of X G q8,⟨_,W.mg_of X G q8,rfl⟩,⟨q1g⟩,W.mg_of X G q7,⟨_,W.mg_of X G q7,rfl⟩,⟨q1h⟩,⟨_,W.mg_of X G q1i,_,rfl⟩,W.mg_of X G q5,⟨_,W.mg_of X G q5,rfl⟩,⟨q1j⟩,W.mg_none_of X G q1k,W.mg_none_of X G q1l,W.mg_none_of X G q1m,W.mg_none_of X G q1n,W.mg_none_of X G q1o,W.mg_none_of X G q1p,W.mg_none_of X G q1q,W.mg_none_of X G q1r,W.mg_none_of X G q1s,W.mg_none_of X G q1t,W.mg_none_of X G q1u,W.mg_none_of X G q1v⟩
 have TPk:zhw K a:=⟨T.c_Plank,qb6,qb7,qb8⟩
 have TBk:jmw K (a "Hold") (a "Change"):=⟨T.c_Hold,qb9,qba,qbb,qbc,qbd,T.c_Change,qbe,qbf,qbg⟩
 have TLy:z65 K a:=⟨T.c_Layout,qbh,qbi,qbj,qbk⟩
 have TSt:z6e K a:=⟨T.c_Store,qbl,qbm,qbn⟩
 have TRm:TX4 K a:=⟨⟨⟨qbo,qbp,qbq,qbr,qbs,qbt,qbu,qbv⟩,qbw,qbx,qby,qbz,qc0,qc1⟩,⟨⟨qc2,qc3,qc4,qc5,qc6,qc7,qc8,qc9⟩,qca,qcb,qcc,qcd,qce,qcf⟩,⟨⟨qcg,qch,qci,qcj,qck,qcl,qcm,qcn⟩,qco,qcp,qcq,qcr,qcs,qct⟩,⟨qcu,qcv,qcw,qcx,qcy,qcz,qd0,qd1,qd2,qd3⟩⟩
 have qwo:=za7 (st:=ze7) q1y q1z q20
 have qyl:=qwo.binds (ps:=["self","place","value","needs"]) λ_ _ _ _ _ _=>us4 λ_ _ _ _=>rfl
 have qwp:=za7 (st:=zdv) q23 q24 q25
 have qym:=qwp.binds (ps:=["self"]) λ_ _ _ _ _ _=>us1 λ_=>rfl
 have qwq:=za7 (st:=zbr) q28 q29 q2a
 have qyn:=qwq.binds (ps:=["self","numbers"]) λ_ _ _ _ _ _=>us2 λ_ _=>rfl
 have qwr:=za7 (st:=zf1) q2c q2d q2e
 have qyo:=qwr.binds (ps:=["needs","ahead"]) λ_ _ _ _ _ _=>us2 λ_ _=>rfl
 have qws:=za7 (st:=zel) q2h q2i q2j
 have qyp:=qws.binds (ps:=["self","number","gone"]) λ_ _ _ _ _ _=>us3 λ_ _ _=>rfl
 have qwt:=za7 (st:=zdf) q2m q2n q2o
 have qyq:=qwt.binds (ps:=["self","values","block"]) λ_ _ _ _ _ _=>us3 λ_ _ _=>rfl
 have qwu:=za7 (st:=zko) q2q q2r q2s
 have qyr:=qwu.binds (ps:=["sign"]) λ_ _ _ _ _ _=>us1 λ_=>rfl
 have qwv:=za7 (st:=zjd) q2u q2v q2w
 have qys:=qwv.binds (ps:=["thing"]) λ_ _ _ _ _ _=>us1 λ_=>rfl
 have qww:=za7 (st:=zem) q2z q30 q31
 have qyt:=qww.binds (ps:=["self"]) λ_ _ _ _ _ _=>us1 λ_=>rfl
 have qwx:=za7 (st:=zf2) q34 q35 q36
 have qyu:=qwx.binds (ps:=["self"]) λ_ _ _ _ _ _=>us1 λ_=>rfl
 have qwy:=za7 (st:=zez) q39 q3a q3b
 have qyv:=qwy.binds (ps:=["self","blocks","cells"]) λ_ _ _ _ _ _=>us3 λ_ _ _=>rfl
 have qwz:=za7 (st:=zen) q3e q3f q3g
 have qyw:=qwz.binds (ps:=["self"]) λ_ _ _ _ _ _=>us1 λ_=>rfl
 have qx0:=za7 (st:=ze8) q3j q3k q3l
 have qyx:=qx0.binds (ps:=["self"]) λ_ _ _ _ _ _=>us1 λ_=>rfl
 have qx1:=za7 (st:=zbw) q3o q3p q3q
 have qyy:=qx1.binds (ps:=["self","block"]) λ_ _ _ _ _ _=>us2 λ_ _=>rfl
 have qx2:=za7 (st:=ze9) q3t q3u q3v
 have qyz:=qx2.binds (ps:=["self","names","records","pieces","cells"]) λ_ _ _ _ _ _=>us5 λ_ _ _ _ _=>rfl
 have qx3:=za7 (st:=zdy) q3y q3z q40
 have qz0:=qx3.binds (ps:=["self"]) λ_ _ _ _ _ _=>us1 λ_=>rfl
 have qx4:=za7 (st:=za6) q43 q44 q45
 have qz1:=qx4.binds (ps:=["self"]) λ_ _ _ _ _ _=>us1 λ_=>rfl
 have qx5:=za7 (st:=zcd) q48 q49 q4a
 have qz2:=qx5.binds (ps:=["self","block","k"]) λ_ _ _ _ _ _=>us3 λ_ _ _=>rfl
 have qx6:=za7 (st:=zfa) q4c q4d q4e
 have qz3:=qx6.binds (ps:=["script","k"]) λ_ _ _ _ _ _=>us2 λ_ _=>rfl
 have qx7:=za7 (st:=zgz) q4g q4h q4i
 have qz4:=qx7.binds (ps:=["cell"]) λ_ _ _ _ _ _=>us1 λ_=>rfl
 have qx8:=za7 (st:=zg8) q4k q4l q4m
 have qz5:=qx8.binds (ps:=["cell"]) λ_ _ _ _ _ _=>us1 λ_=>rfl
 have qx9:=za7 (st:=znt) q4o q4p q4q
 have qz6:=qx9.binds (ps:=["cell"]) λ_ _ _ _ _ _=>us1 λ_=>rfl
 have qxa:=za7 (st:=zeo) q4s q4t q4u
 have qz7:=qxa.binds (ps:=["cell","name"]) λ_ _ _ _ _ _=>us2 λ_ _=>rfl
 have qxb:=za7 (st:=zf3) q4x q4y q4z
 have qz8:=qxb.binds (ps:=["self","plank"]) λ_ _ _ _ _ _=>us2 λ_ _=>rfl
 have qxc:=za7 (st:=zb5) q52 q53 q54
 have qz9:=qxc.binds (ps:=["self","place"]) λ_ _ _ _ _ _=>us2 λ_ _=>rfl
 have qxd:=za7 (st:=zep) q57 q58 q59
 have qza:=qxd.binds (ps:=["self","block","taken"]) λ_ _ _ _ _ _=>us3 λ_ _ _=>rfl
 have qxe:=za7 (st:=zg9) q5b q5c q5d
 have qzb:=qxe.binds (ps:=["thing"]) λ_ _ _ _ _ _=>us1 λ_=>rfl
 have qxf:=za7 (st:=zf4) q5g q5h q5i
 have qzc:=qxf.binds (ps:=["self","block"]) λ_ _ _ _ _ _=>us2 λ_ _=>rfl
 have qxg:=za7 (st:=zfb) q5l q5m q5n
 have qzd:=qxg.binds (ps:=["self","block","values"]) λ_ _ _ _ _ _=>us3 λ_ _ _=>rfl
 have qxh:=za7 (st:=zdg) q5q q5r q5s
 have qze:=qxh.binds (ps:=["self","k"]) λ_ _ _ _ _ _=>us2 λ_ _=>rfl
 have qxi:=za7 (st:=zcs) q5v q5w q5x
 have qzf:=qxi.binds (ps:=["self","k"]) λ_ _ _ _ _ _=>us2 λ_ _=>rfl
 have qxj:=za7 (st:=zc0) q60 q61 q62
 have qzg:=qxj.binds (ps:=["self","k"]) λ_ _ _ _ _ _=>us2 λ_ _=>rfl
 have qxk:=za7 (st:=zb6) q65 q66 q67
 have qzh:=qxk.binds (ps:=["self","k"]) λ_ _ _ _ _ _=>us2 λ_ _=>rfl
 have qxl:=za7 (st:=zce) q6a q6b q6c
 have qzi:=qxl.binds (ps:=["self","k"]) λ_ _ _ _ _ _=>us2 λ_ _=>rfl
 have qxm:=za7 (st:=zdz) q6f q6g q6h
 have qzj:=qxm.binds (ps:=["self"]) λ_ _ _ _ _ _=>us1 λ_=>rfl
 have qxn:=za7 (st:=zfc) q6k q6l q6m
 have qzk:=qxn.binds (ps:=["self","place"]) λ_ _ _ _ _ _=>us2 λ_ _=>rfl
 have qxo:=za7 (st:=zf5) q6p q6q q6r
 have qzl:=qxo.binds (ps:=["self","block"]) λ_ _ _ _ _ _=>us2 λ_ _=>rfl
 have qxp:=za7 (st:=zeq) q6u q6v q6w
 have qzm:=qxp.binds (ps:=["self"]) λ_ _ _ _ _ _=>us1 λ_=>rfl
 have qxq:=za7 (st:=zfd) q6z q70 q71
 have qzn:=qxq.binds (ps:=["self","place","value","needs"]) λ_ _ _ _ _ _=>us4 λ_ _ _ _=>rfl
 have qxr:=za7 (st:=zer) q74 q75 q76
 have qzo:=qxr.binds (ps:=["self","place"]) λ_ _ _ _ _ _=>us2 λ_ _=>rfl
 have qxs:=za7 (st:=zf6) q79 q7a q7b
 have qzp:=qxs.binds (ps:=["self","layout","plank"]) λ_ _ _ _ _ _=>us3 λ_ _ _=>rfl
 have qxt:=za7 (st:=zfe) q7e q7f q7g
 have qzq:=qxt.binds (ps:=["self","block"]) λ_ _ _ _ _ _=>us2 λ_ _=>rfl
 have qxu:=za7 (st:=zff) q7i q7j q7k
 have qzr:=qxu.binds (ps:=["hold","places","values"]) λ_ _ _ _ _ _=>us3 λ_ _ _=>rfl
 have qxv:=za7 (st:=zb7) q7n q7o q7p
 have qzs:=qxv.binds (ps:=["self"]) λ_ _ _ _ _ _=>us1 λ_=>rfl
 have qxw:=za7 (st:=zdh) q7s q7t q7u
 have qzt:=qxw.binds (ps:=["self","record"]) λ_ _ _ _ _ _=>us2 λ_ _=>rfl
 have qxx:=za7 (st:=zc1) q7x q7y q7z
 have qzu:=qxx.binds (ps:=["self","cell","name","record","need"]) λ_ _ _ _ _ _=>us5 λ_ _ _ _ _=>rfl
 have qxy:=za7 (st:=zf7) q81 q82 q83
 have qzv:=qxy.binds (ps:=["layout","hold"]) λ_ _ _ _ _ _=>us2 λ_ _=>rfl
 have qxz:=za7 (st:=zeh) q85 q86 q87
 have qzw:=qxz.binds (ps:=["layout","hold"]) λ_ _ _ _ _ _=>us2 λ_ _=>rfl
 have qy0:=za7 (st:=ze0) q89 q8a q8b
 have qzx:=qy0.binds (ps:=["layout","hold"]) λ_ _ _ _ _ _=>us2 λ_ _=>rfl
 have qy1:=za7 (st:=zei) q8e q8f q8g
 have qzy:=qy1.binds (ps:=["self"]) λ_ _ _ _ _ _=>us1 λ_=>rfl
 have qy2:=za7 (st:=zd0) q8j q8k q8l
 have qzz:=qy2.binds (ps:=["self","name"]) λ_ _ _ _ _ _=>us2 λ_ _=>rfl
 have qy3:=za7 (st:=zd1) q8o q8p q8q
 have q100:=qy3.binds (ps:=["self","record","more","needs"]) λ_ _ _ _ _ _=>us4 λ_ _ _ _=>rfl
 have qy4:=za7 (st:=zd2) q8t q8u q8v
 have q101:=qy4.binds (ps:=["self","record","pieces","needs"]) λ_ _ _ _ _ _=>us4 λ_ _ _ _=>rfl
 have qy5:=za7 (st:=zbx) q8y q8z q90
 have q102:=qy5.binds (ps:=["self","record","gone"]) λ_ _ _ _ _ _=>us3 λ_ _ _=>rfl
 have qy6:=za7 (st:=zbf) q93 q94 q95
 have q103:=qy6.binds (ps:=["self","new","given"]) λ_ _ _ _ _ _=>us3 λ_ _ _=>rfl
 have qy7:=za7 (st:=zc2) q98 q99 q9a
 have q104:=qy7.binds (ps:=["self","name"]) λ_ _ _ _ _ _=>us2 λ_ _=>rfl
 have qy8:=za7 (st:=zct) q9d q9e q9f
 have q105:=qy8.binds (ps:=["self","name","needs"]) λ_ _ _ _ _ _=>us3 λ_ _ _=>rfl
 have qy9:=za7 (st:=zf8) q9i q9j q9k
 have q106:=qy9.binds (ps:=["self","name"]) λ_ _ _ _ _ _=>us2 λ_ _=>rfl
 have qya:=za7 (st:=zf9) q9n q9o q9p
 have q107:=qya.binds (ps:=["self","old","new"]) λ_ _ _ _ _ _=>us3 λ_ _ _=>rfl
 have qyb:=za7 (st:=zg1) q9s q9t q9u
 have q108:=qyb.binds (ps:=["self","name"]) λ_ _ _ _ _ _=>us2 λ_ _=>rfl
 have qyc:=za7 (st:=zg2) q9x q9y q9z
 have q109:=qyc.binds (ps:=["self","name","text"]) λ_ _ _ _ _ _=>us3 λ_ _ _=>rfl
 have qyd:=za7 (st:=zga) qa2 qa3 qa4
 have q10a:=qyd.binds (ps:=["self","name","at"]) λ_ _ _ _ _ _=>us3 λ_ _ _=>rfl
 have qye:=za7 (st:=zej) qa7 qa8 qa9
 have q10b:=qye.binds (ps:=["self","name"]) λ_ _ _ _ _ _=>us2 λ_ _=>rfl
 have qyf:=za7 (st:=zgb) qac qad qae
 have q10c:=qyf.binds (ps:=["self","old","new"]) λ_ _ _ _ _ _=>us3 λ_ _ _=>rfl
 have qyg:=za7 (st:=zid) qag qah qai
 have q10d:=qyg.binds (ps:=["store","name"]) λ_ _ _ _ _ _=>us2 λ_ _=>rfl
 have qyh:=za7 (st:=zif) qak qal qam
 have q10e:=qyh.binds (ps:=["store","kind","one","other","cell"]) λ_ _ _ _ _ _=>us5 λ_ _ _ _ _=>rfl
 have qyi:=za7 (st:=zg3) qao qap qaq
 have q10f:=qyi.binds (ps:=["store","kind","bad","name","cell"]) λ_ _ _ _ _ _=>us5 λ_ _ _ _ _=>rfl
 have qyj:=za7 (st:=zfg) qas qat qau
 have q10g:=qyj.binds (ps:=["store","kind","bad","name","cell","due"]) λ_ _ _ _ _ _=>us6 λ_ _ _ _ _ _=>rfl
 have qyk:=za7 (st:=z5x) qaw qax qay
 have q10h:=qyk.binds (ps:=["script"]) λ_ _ _ _ _ _=>us1 λ_=>rfl
 refine⟨W.fnOf "law" "law" (zan z5x) (zam z5x) (zab z5x) .none qj8 ql5 qn2 quq qoz qqw,λs v=>.of_eq rfl,λbase _ _=> ?_⟩
 have q10i:FnOk l.prog w K mg base (cxE l.prog w) 1 qdi _ ["self","place","value","needs"] (zdr K a):=z5d T qwo  (λ_ _ _ _ h=>z1k h) (λ_ _ _ _ h=>z3m h)
 have q10j:FnOk l.prog w K mg base (cxE l.prog w) 1 qdj _ ["self"] (zcp K a):=z39 T qwp  (λ_ _ _ _ h=>zzt h) (λ_ _ _ _ h=>z1m h)
 have q10k:FnOk l.prog w K mg base (cxE l.prog w) 1 qdk _ ["self","numbers"] (zbh K a):=zns T qwq  (λ_ _ _ _ h=>zl3 h) (λ_ _ _ _ h=>zmw h)
 have q10l:FnOk l.prog w K mg base (cxE l.prog w) 1 qdl _ ["needs","ahead"] (zea K a):=z7s T qwr  (λ_ _ _ _ h=>z3n h) (λ_ _ _ _ h=>z4y h)
 have q10m:FnOk l.prog w K mg base (cxE l.prog w) 1 qdm _ ["self","number","gone"] (zdb K a):=z4a T qws  (λ_ _ _ _ h=>zzv h) (λ_ _ _ _ h=>z1p h)
 have q10n:FnOk l.prog w K mg base (cxE l.prog w) 1 qdn _ ["self","values","block"] (zcg K a):=zz6 T qwt  (λ_ _ _ _ h=>zu0 h) (λ_ _ _ _ h=>zxh h)
 have q10o:FnOk l.prog w K mg base (cxE l.prog w) 1 qdo _ ["sign"] (zg4 K a):=jdp T qwu  (λ_ _ _ _ h=>z9w h) (λ_ _ _ _ h=>jbf h)
 have q10p:FnOk l.prog w K mg base (cxE l.prog w) 1 qdp _ ["thing"] (zg5 K a):=jdr T qwv  (λ_ _ _ _ h=>z9x h) (λ_ _ _ _ h=>jbe h)
 have q10q:FnOk l.prog w K mg base (cxE l.prog w) 1 qdq _ ["self"] (zdd K a):=z4c T qww  (λ_ _ _ _ h=>zz1 h) (λ_ _ _ _ h=>z1v h)
 have q10r:FnOk l.prog w K mg base (cxE l.prog w) 1 qdr _ ["self"] (zdl K a):=z7u T qwx  (λ_ _ _ _ h=>z3v h) (λ_ _ _ _ h=>z42 h)
 have q10s:FnOk l.prog w K mg base (cxE l.prog w) 1 qds _ ["self","blocks","cells"] (zd8 K a):=z7w T qwy  (λ_ _ _ _ h=>z3i h) (λ_ _ _ _ h=>z4v h)
 have q10t:FnOk l.prog w K mg base (cxE l.prog w) 1 qdt _ ["self"] (zb9 K a):=z4e T qwz  (λ_ _ _ _ h=>zzs h) (λ_ _ _ _ h=>z1j h)
 have q10u:FnOk l.prog w K mg base (cxE l.prog w) 1 qdu _ ["self"] (zdo K a):=z5f T qx0  (λ_ _ _ _ h=>z1h h) (λ_ _ _ _ h=>z3k h)
 have q10v:FnOk l.prog w K mg base (cxE l.prog w) 1 qdv _ ["self","block"] (za4 K a):=zo7 T qx1  (λ_ _ _ _ h=>zmv h) (λ_ _ _ _ h=>zno h)
 have q10w:FnOk l.prog w K mg base (cxE l.prog w) 1 qdw _ ["self","names","records","pieces","cells"] (zdq K a):=z5h T qx2  (λ_ _ _ _ h=>z1r h) (λ_ _ _ _ h=>z3r h)
 have q10x:FnOk l.prog w K mg base (cxE l.prog w) 1 qdx _ ["self"] (zbd K a):=z12 T qx3  (λ_ _ _ _ h=>zxj h) (λ_ _ _ _ h=>zzz h)
 have q10y:FnOk l.prog w K mg base (cxE l.prog w) 1 qdy _ ["self"] (zak K a):=zic T qx4  (λ_ _ _ _ h=>zhq h) (λ_ _ _ _ h=>zhu h)
 have q10z:FnOk l.prog w K mg base (cxE l.prog w) 1 qdz _ ["self","block","k"] (zar K a):=zr4 T qx5  (λ_ _ _ _ h=>zo2 h) (λ_ _ _ _ h=>zq1 h)
 have q110:FnOk l.prog w K mg base (cxE l.prog w) 1 qe0 _ ["script","k"] (zci K a):=z5j T qx6  (λ_ _ _ _ h=>z1g h) (λ_ _ _ _ h=>z3h h)
 have q111:FnOk l.prog w K mg base (cxE l.prog w) 1 qe1 _ ["cell"] (zex K a):=z96 T qx7  (λ_ _ _ _ h=>z5a h) (λ_ _ _ _ h=>z7m h)
 have q112:FnOk l.prog w K mg base (cxE l.prog w) 1 qe2 _ ["cell"] (zfv K a):=jbj T qx8  (λ_ _ _ _ h=>z7n h) (λ_ _ _ _ h=>z91 h)
 have q113:FnOk l.prog w K mg base (cxE l.prog w) 1 qe3 _ ["cell"] (zi2 K a):=jgk T qx9  (λ_ _ _ _ h=>jbh h) (λ_ _ _ _ h=>jdm h)
 have q114:FnOk l.prog w K mg base (cxE l.prog w) 1 qe4 _ ["cell","name"] (zcr K a):=z4f T qxa  (λ_ _ _ _ h=>zz5 h) (λ_ _ _ _ h=>z1z h)
 have q115:FnOk l.prog w K mg base (cxE l.prog w) 2 qe5 _ ["self","plank"] (zd9 K a):=z98 T qxb ⟨_,_,q10t,⟨q3c,q3d,q3g⟩,qyw⟩ (λ_ _ _ _ h=>z4x h) (λ_ _ _ _ h=>z7c h)
 have q116:FnOk l.prog w K mg base (cxE l.prog w) 2 qe6 _ ["self","place"] (zbo K a):=zq8 T qxc ⟨_,_,q10u,⟨q3h,q3i,q3l⟩,qyx⟩ ⟨_,_,q10t,⟨q3c,q3d,q3g⟩,qyw⟩ (λ_ _ _ _ h=>znp h) (λ_ _ _ _ h=>zo1 h)
 have q117:FnOk l.prog w K mg base (cxE l.prog w) 2 qe7 _ ["self","block","taken"] (zdc K a):=z4g T qxd ⟨_,_,q10m,⟨q2f,q2g,q2j⟩,qyp⟩ (λ_ _ _ _ h=>zzw h) (λ_ _ _ _ h=>z1q h)
 have q118:FnOk l.prog w K mg base (cxE l.prog w) 2 qe8 _ ["thing"] (zfu K a):=jbl T qxe ⟨_,_,q10o,W.mg_of X G q2p,q2s,qyr⟩ (λ_ _ _ _ h=>z7f h) (λ_ _ _ _ h=>z9y h)
 have q119:FnOk l.prog w K mg base (cxE l.prog w) 2 qe9 _ ["self","block"] (zc4 K a):=z7y T qxf ⟨_,_,q10v,⟨q3m,q3n,q3q⟩,qyy⟩ (λ_ _ _ _ h=>z3j h) (λ_ _ _ _ h=>z4w h)
 have q11a:FnOk l.prog w K mg base (cxE l.prog w) 2 qea _ ["self","block","values"] (zdp K a):=z5l T qxg ⟨_,_,q10v,⟨q3m,q3n,q3q⟩,qyy⟩ (λ_ _ _ _ h=>z1i h) (λ_ _ _ _ h=>z3l h)
 have q11b:FnOk l.prog w K mg base (cxE l.prog w) 2 qeb _ ["self","k"] (za5 K a):=zz8 T qxh ⟨_,_,q10z,⟨q46,q47,q4a⟩,qz2⟩ (λ_ _ _ _ h=>zu1 h) (λ_ _ _ _ h=>zxk h)
 have q11c:FnOk l.prog w K mg base (cxE l.prog w) 2 qec _ ["self","k"] (zat K a):=zu8 T qxi ⟨_,_,q10z,⟨q46,q47,q4a⟩,qz2⟩ (λ_ _ _ _ h=>zq0 h) (λ_ _ _ _ h=>zry h)
 have q11d:FnOk l.prog w K mg base (cxE l.prog w) 2 qed _ ["self","k"] (zbg K a):=zxu T qxj ⟨_,_,q10z,⟨q46,q47,q4a⟩,qz2⟩ (λ_ _ _ _ h=>zrx h) (λ_ _ _ _ h=>zu2 h)
 have q11e:FnOk l.prog w K mg base (cxE l.prog w) 2 qee _ ["self","k"] (za1 K a):=zra T qxk ⟨_,_,q10z,⟨q46,q47,q4a⟩,qz2⟩ ⟨_,_,q10y,⟨q41,q42,q45⟩,qz1⟩ (λ_ _ _ _ h=>znq h) (λ_ _ _ _ h=>zo4 h)
 have q11f:FnOk l.prog w K mg base (cxE l.prog w) 2 qef _ ["self","k"] (zax K a):=zr6 T qxl ⟨_,_,q10z,⟨q46,q47,q4a⟩,qz2⟩ ⟨_,_,q10y,⟨q41,q42,q45⟩,qz1⟩ (λ_ _ _ _ h=>zo3 h) (λ_ _ _ _ h=>zq2 h)
 have q11g:FnOk l.prog w K mg base (cxE l.prog w) 2 qeg _ ["self"] (zbz K a):=z14 T qxm ⟨_,_,q10y,⟨q41,q42,q45⟩,qz1⟩ (λ_ _ _ _ h=>zxi h) (λ_ _ _ _ h=>zzy h)
 have q11h:FnOk l.prog w K mg base (cxE l.prog w) 3 qeh _ ["self","place"] (zcj K a):=z5n T qxn ⟨_,_,q116,⟨qb1,q51,q54⟩,qz9⟩ (λ_ _ _ _ h=>z1l h) (λ_ _ _ _ h=>z3o h)
 have q11i:FnOk l.prog w K mg base (cxE l.prog w) 3 qei _ ["self","block"] (zeb K a):=z7z T qxo ⟨_,_,q119,⟨q5e,q5f,q5i⟩,qzc⟩ ⟨_,_,q117,⟨q55,q56,q59⟩,qza⟩ ⟨_,_,q11a,⟨q5j,q5k,q5n⟩,qzd⟩ ⟨_,_,q10n,⟨q2k,q2l,q2o⟩,qyq⟩ (λ_ _ _ _ h=>z3q h) (λ_ _ _ _ h=>z4z h)
 have q11j:FnOk l.prog w K mg base (cxE l.prog w) 3 qej _ ["self"] (zda K a):=z4i T qxp ⟨_,_,q11g,⟨q6d,q6e,q6h⟩,qzj⟩ ⟨_,_,q10s,⟨q14,q37,q38,q15⟩,W.mg_of X G qc,qyv⟩ (λ_ _ _ _ h=>zzx h) (λ_ _ _ _ h=>z1s h)
 have q11k:FnOk l.prog w K mg base (cxE l.prog w) 4 qek _ ["self","place","value","needs"] (zao K a):=z5o T qxq ⟨_,_,q11h,⟨qaz,q6j,q6m⟩,qzk⟩ ⟨_,_,q10k,⟨qb0,q27,q2a⟩,qyn⟩ ⟨_,_,q10l,W.mg_of X G q2b,q2e,qyo⟩ ⟨_,_,q10i,⟨qy,q1w,q1x,qz⟩,W.mg_of X G q9,qyl⟩ (λ_ _ _ _ h=>z1n h) (λ_ _ _ _ h=>z3p h)
 have q11l:FnOk l.prog w K mg base (cxE l.prog w) 4 qel _ ["self","place"] (zbi K a):=z4j T qxr ⟨_,_,q11h,⟨qaz,q6j,q6m⟩,qzk⟩ ⟨_,_,q119,⟨q5e,q5f,q5i⟩,qzc⟩ (λ_ _ _ _ h=>zzu h) (λ_ _ _ _ h=>z1o h)
 have q11m:FnOk l.prog w K mg base (cxE l.prog w) 4 qem _ ["self","layout","plank"] (zed K a):=z71 T qxs ⟨_,_,q115,⟨q10,qb3,q4w,q11⟩,W.mg_of X G qa,qz8⟩ (λ_ _ _ _ h=>z3w h) (λ_ _ _ _ h=>z43 h)
 have q11n:FnOk l.prog w K mg base (cxE l.prog w) 4 qen _ ["self","block"] (zc6 K a):=z5q T qxt ⟨_,_,q11i,⟨q6n,q6o,q6r⟩,qzl⟩ (λ_ _ _ _ h=>z1y h) (λ_ _ _ _ h=>z36 h)
 have q11o:FnOk l.prog w K mg base (cxE l.prog w) 5 qeo _ ["hold","places","values"] (zbp K a):=z5r T qxu ⟨_,_,q11l,⟨qb2,q73,q76⟩,qzo⟩ (λ_ _ _ _ h=>z1t h) (λ_ _ _ _ h=>z3s h)
 have q11p:FnOk l.prog w K mg base (cxE l.prog w) 5 qep _ ["self"] (zba K a):=zva T qxv ⟨_,_,q10x,⟨q3w,q3x,q40⟩,qz0⟩ ⟨_,_,q11l,⟨qb2,q73,q76⟩,qzo⟩ ⟨_,_,q11b,⟨q5o,q5p,q5s⟩,qze⟩ (λ_ _ _ _ h=>zq3 h) (λ_ _ _ _ h=>zrz h)
 have q11q:FnOk l.prog w K mg base (cxE l.prog w) 5 qeq _ ["self","record"] (zap K a):=z0a T qxw ⟨_,_,q11l,⟨qb2,q73,q76⟩,qzo⟩ ⟨_,_,q11c,⟨q5t,q5u,q5x⟩,qzf⟩ (λ_ _ _ _ h=>zu4 h) (λ_ _ _ _ h=>zxn h)
 have q11r:FnOk l.prog w K mg base (cxE l.prog w) 5 qer _ ["self","cell","name","record","need"] (zbm K a):=zxv T qxx ⟨_,_,q11k,⟨qb4,q6y,q71⟩,qzn⟩ ⟨_,_,q11b,⟨q5o,q5p,q5s⟩,qze⟩ (λ_ _ _ _ h=>zr1 h) (λ_ _ _ _ h=>zu6 h)
 have q11s:FnOk l.prog w K mg base (cxE l.prog w) 6 qes _ ["layout","hold"] (zds K a):=z99 T qxy ⟨_,_,q10x,⟨q3w,q3x,q40⟩,qz0⟩ ⟨_,_,q11b,⟨q5o,q5p,q5s⟩,qze⟩ ⟨_,_,q11o,W.mg_of X G q7h,q7k,qzr⟩ (λ_ _ _ _ h=>z40 h) (λ_ _ _ _ h=>z7e h)
 have q11t:FnOk l.prog w K mg base (cxE l.prog w) 6 qet _ ["layout","hold"] (zdt K a):=z5s T qxz ⟨_,_,q10x,⟨q3w,q3x,q40⟩,qz0⟩ ⟨_,_,q11e,⟨q63,q64,q67⟩,qzh⟩ ⟨_,_,q11o,W.mg_of X G q7h,q7k,qzr⟩ (λ_ _ _ _ h=>z1u h) (λ_ _ _ _ h=>z3t h)
 have q11u:FnOk l.prog w K mg base (cxE l.prog w) 6 qeu _ ["layout","hold"] (zec K a):=z72 T qy0 ⟨_,_,q10x,⟨q3w,q3x,q40⟩,qz0⟩ ⟨_,_,q11f,⟨q68,q69,q6c⟩,qzi⟩ ⟨_,_,q11o,W.mg_of X G q7h,q7k,qzr⟩ (λ_ _ _ _ h=>z3u h) (λ_ _ _ _ h=>z41 h)
 have q11v:FnOk l.prog w K mg base (cxE l.prog w) 6 qev _ ["self"] (zck K a):=z5u T qy1 ⟨_,_,q11p,⟨q7l,q7m,q7p⟩,qzs⟩ (λ_ _ _ _ h=>z1w h) (λ_ _ _ _ h=>z3x h)
 have q11w:FnOk l.prog w K mg base (cxE l.prog w) 6 qew _ ["self","name"] (zbk K a):=z15 T qy2 ⟨_,_,q11p,⟨q7l,q7m,q7p⟩,qzs⟩ (λ_ _ _ _ h=>zxm h) (λ_ _ _ _ h=>zz2 h)
 have q11x:FnOk l.prog w K mg base (cxE l.prog w) 6 qex _ ["self","record","more","needs"] (zbl K a):=z16 T qy3 ⟨_,_,q11q,⟨q7q,q7r,q7u⟩,qzt⟩ ⟨_,_,q11k,⟨qb4,q6y,q71⟩,qzn⟩ ⟨_,_,q11c,⟨q5t,q5u,q5x⟩,qzf⟩ (λ_ _ _ _ h=>zxo h) (λ_ _ _ _ h=>zz3 h)
 have q11y:FnOk l.prog w K mg base (cxE l.prog w) 6 qey _ ["self","record","pieces","needs"] (zb0 K a):=z18 T qy4 ⟨_,_,q11k,⟨qb4,q6y,q71⟩,qzn⟩ ⟨_,_,q11q,⟨q7q,q7r,q7u⟩,qzt⟩ ⟨_,_,q11c,⟨q5t,q5u,q5x⟩,qzf⟩ (λ_ _ _ _ h=>zxp h) (λ_ _ _ _ h=>zz4 h)
 have q11z:FnOk l.prog w K mg base (cxE l.prog w) 6 qez _ ["self","record","gone"] (zbq K a):=zr7 T qy5 ⟨_,_,q11q,⟨q7q,q7r,q7u⟩,qzt⟩ ⟨_,_,q11k,⟨qb4,q6y,q71⟩,qzn⟩ ⟨_,_,q11c,⟨q5t,q5u,q5x⟩,qzf⟩ ⟨_,_,q11f,⟨q68,q69,q6c⟩,qzi⟩ ⟨_,_,q11e,⟨q63,q64,q67⟩,qzh⟩ (λ_ _ _ _ h=>zo5 h) (λ_ _ _ _ h=>zq5 h)
 have q120:FnOk l.prog w K mg base (cxE l.prog w) 7 qf0 _ ["self","new","given"] (za3 K a):=zl7 T qy6 ⟨_,_,q10p,W.mg_of X G q2t,q2w,qys⟩ ⟨_,_,q11w,⟨q8h,q8i,q8l⟩,qzz⟩ (λ_ _ _ _ h=>zkn h) (λ_ _ _ _ h=>zkx h)
 have q121:FnOk l.prog w K mg base (cxE l.prog w) 7 qf1 _ ["self","name"] (zau K a):=zxx T qy7 ⟨_,_,q11w,⟨q8h,q8i,q8l⟩,qzz⟩ ⟨_,_,q11p,⟨q7l,q7m,q7p⟩,qzs⟩ (λ_ _ _ _ h=>zr0 h) (λ_ _ _ _ h=>zu5 h)
 have q122:FnOk l.prog w K mg base (cxE l.prog w) 7 qf2 _ ["self","name","needs"] (zbj K a):=zvb T qy8 ⟨_,_,q11k,⟨qb4,q6y,q71⟩,qzn⟩ ⟨_,_,q11b,⟨q5o,q5p,q5s⟩,qze⟩ ⟨_,_,q11w,⟨q8h,q8i,q8l⟩,qzz⟩ (λ_ _ _ _ h=>zq4 h) (λ_ _ _ _ h=>zr2 h)
 have q123:FnOk l.prog w K mg base (cxE l.prog w) 8 qf3 _ ["self","name"] (zc5 K a):=z73 T qy9 ⟨_,_,q120,⟨q91,q92,q95⟩,q103⟩ ⟨_,_,q11t,W.mg_of X G q84,q87,qzw⟩ ⟨_,_,q11s,W.mg_of X G q80,q83,qzv⟩ ⟨_,_,q11k,⟨qb4,q6y,q71⟩,qzn⟩ ⟨_,_,q11e,⟨q63,q64,q67⟩,qzh⟩ ⟨_,_,q11c,⟨q5t,q5u,q5x⟩,qzf⟩ ⟨_,_,q11r,⟨q7v,q7w,q7z⟩,qzu⟩ (λ_ _ _ _ h=>z31 h) (λ_ _ _ _ h=>z44 h)
 have q124:FnOk l.prog w K mg base (cxE l.prog w) 8 qf4 _ ["self","old","new"] (zb2 K a):=z74 T qya ⟨_,_,q120,⟨q91,q92,q95⟩,q103⟩ ⟨_,_,q121,⟨q96,q97,q9a⟩,q104⟩ ⟨_,_,q11s,W.mg_of X G q80,q83,qzv⟩ ⟨_,_,q11x,⟨q8m,q8n,q8q⟩,q100⟩ ⟨_,_,q11r,⟨q7v,q7w,q7z⟩,qzu⟩ (λ_ _ _ _ h=>z32 h) (λ_ _ _ _ h=>z45 h)
 have q125:FnOk l.prog w K mg base (cxE l.prog w) 8 qf5 _ ["self","name"] (zdu K a):=jaa T qyb ⟨_,_,q121,⟨q96,q97,q9a⟩,q104⟩ ⟨_,_,q122,⟨q9b,q9c,q9f⟩,q105⟩ ⟨_,_,q11q,⟨q7q,q7r,q7u⟩,qzt⟩ ⟨_,_,q11x,⟨q8m,q8n,q8q⟩,q100⟩ ⟨_,_,q11z,⟨q8w,q8x,q90⟩,q102⟩ (λ_ _ _ _ h=>z46 h) (λ_ _ _ _ h=>z7i h)
 have q126:FnOk l.prog w K mg base (cxE l.prog w) 8 qf6 _ ["self","name","text"] (zcv K a):=jab T qyc ⟨_,_,q121,⟨q96,q97,q9a⟩,q104⟩ ⟨_,_,q118,W.mg_of X G q5a,q5d,qzb⟩ ⟨_,_,q11u,W.mg_of X G q88,q8b,qzx⟩ ⟨_,_,q11k,⟨qb4,q6y,q71⟩,qzn⟩ ⟨_,_,q11f,⟨q68,q69,q6c⟩,qzi⟩ ⟨_,_,q11d,⟨q5y,q5z,q62⟩,qzg⟩ ⟨_,_,q11y,⟨q8r,q8s,q8v⟩,q101⟩ ⟨_,_,q11q,⟨q7q,q7r,q7u⟩,qzt⟩ (λ_ _ _ _ h=>z47 h) (λ_ _ _ _ h=>z7j h)
 have q127:FnOk l.prog w K mg base (cxE l.prog w) 8 qf7 _ ["self","name","at"] (zca K a):=z75 T qyd ⟨_,_,q121,⟨q96,q97,q9a⟩,q104⟩ ⟨_,_,q11q,⟨q7q,q7r,q7u⟩,qzt⟩ ⟨_,_,q11y,⟨q8r,q8s,q8v⟩,q101⟩ ⟨_,_,q11k,⟨qb4,q6y,q71⟩,qzn⟩ ⟨_,_,q11f,⟨q68,q69,q6c⟩,qzi⟩ (λ_ _ _ _ h=>z34 h) (λ_ _ _ _ h=>z48 h)
 have q128:FnOk l.prog w K mg base (cxE l.prog w) 8 qf8 _ ["self","name"] (zcl K a):=z5v T qye ⟨_,_,q11q,⟨q7q,q7r,q7u⟩,qzt⟩ ⟨_,_,q121,⟨q96,q97,q9a⟩,q104⟩ ⟨_,_,q11l,⟨qb2,q73,q76⟩,qzo⟩ ⟨_,_,q11d,⟨q5y,q5z,q62⟩,qzg⟩ (λ_ _ _ _ h=>z1x h) (λ_ _ _ _ h=>z33 h)
 have q129:FnOk l.prog w K mg base (cxE l.prog w) 9 qf9 _ ["self","old","new"] (zcq K a):=z76 T qyf ⟨_,_,q124,⟨q9l,q9m,q9p⟩,q107⟩ ⟨_,_,q121,⟨q96,q97,q9a⟩,q104⟩ ⟨_,_,q122,⟨q9b,q9c,q9f⟩,q105⟩ ⟨_,_,q11x,⟨q8m,q8n,q8q⟩,q100⟩ (λ_ _ _ _ h=>z35 h) (λ_ _ _ _ h=>z49 h)
 have q12a:FnOk l.prog w K mg base (cxE l.prog w) 9 qfa _ ["store","name"] (ze3 K a):=jbm T qyg ⟨_,_,q128,⟨qa5,qa6,qa9⟩,q10b⟩ ⟨_,_,q10r,⟨q32,q33,q36⟩,qyu⟩ ⟨_,_,q10j,⟨qb5,q22,q25⟩,qym⟩ ⟨_,_,q11v,⟨q8c,q8d,q8g⟩,qzy⟩ (λ_ _ _ _ h=>z7q h) (λ_ _ _ _ h=>z93 h)
 have q12b:FnOk l.prog w K mg base (cxE l.prog w) 10 qfb _ ["store","kind","one","other","cell"] (zfw K a):=jbn T qyh ⟨_,_,q123,⟨q9g,q9h,q9k⟩,q106⟩ ⟨_,_,q124,⟨q9l,q9m,q9p⟩,q107⟩ ⟨_,_,q125,⟨q9q,q9r,q9u⟩,q108⟩ ⟨_,_,q126,⟨q9v,q9w,q9z⟩,q109⟩ ⟨_,_,q112,W.mg_of X G q4j,q4m,qz5⟩ ⟨_,_,q127,⟨qa0,qa1,qa4⟩,q10a⟩ ⟨_,_,q113,W.mg_of X G q4n,q4q,qz6⟩ ⟨_,_,q129,⟨qaa,qab,qae⟩,q10c⟩ (λ_ _ _ _ h=>z7o h) (λ_ _ _ _ h=>z92 h)
 have q12c:FnOk l.prog w K mg base (cxE l.prog w) 10 qfc _ ["store","kind","bad","name","cell"] (zey K a):=jac T qyi ⟨_,_,q123,⟨q9g,q9h,q9k⟩,q106⟩ ⟨_,_,q124,⟨q9l,q9m,q9p⟩,q107⟩ ⟨_,_,q125,⟨q9q,q9r,q9u⟩,q108⟩ ⟨_,_,q126,⟨q9v,q9w,q9z⟩,q109⟩ ⟨_,_,q127,⟨qa0,qa1,qa4⟩,q10a⟩ ⟨_,_,q129,⟨qaa,qab,qae⟩,q10c⟩ ⟨_,_,q128,⟨qa5,qa6,qa9⟩,q10b⟩ ⟨_,_,q10q,⟨q2x,q2y,q31⟩,qyt⟩ ⟨_,_,q11g,⟨q6d,q6e,q6h⟩,qzj⟩ ⟨_,_,q11n,⟨q7c,q7d,q7g⟩,qzq⟩ (λ_ _ _ _ h=>z5b h) (λ_ _ _ _ h=>z7p h)
 have q12d:FnOk l.prog w K mg base (cxE l.prog w) 11 qfd _ ["store","kind","bad","name","cell","due"] (zc7 K a):=z5w T qyj ⟨_,_,q12c,W.mg_of X G qan,qaq,q10f⟩ (λ_ _ _ _ h=>z10 h) (λ_ _ _ _ h=>z37 h)
 have q12e:FnOk l.prog w K mg base (cxE l.prog w) 12 fa _ ["script"] (z6f K a):=jnc T qyk ⟨_,_,q110,W.mg_of X G q4b,q4e,qz3⟩ ⟨_,_,q10w,⟨q12,q3r,q3s,q13⟩,W.mg_of X G qd,qyz⟩ ⟨_,_,q11j,⟨q6s,q6t,q6w⟩,qzm⟩ ⟨_,_,q11m,⟨q16,q77,q78,q17⟩,W.mg_of X G qb,qzp⟩ ⟨_,_,q111,W.mg_of X G q4f,q4i,qz4⟩ ⟨_,_,q12b,W.mg_of X G qaj,qam,q10e⟩ ⟨_,_,q11v,⟨q8c,q8d,q8g⟩,qzy⟩ ⟨_,_,q12a,W.mg_of X G qaf,qai,q10d⟩ ⟨_,_,q114,W.mg_of X G q4r,q4u,qz7⟩ ⟨_,_,q12d,W.mg_of X G qar,qau,q10g⟩ (λ_ _ _ _ h=>jig h) (λ_ _ _ _ h=>jky h)
 exact q12e.imp (λvs H Q E ⟨s,ns,e,hs,hn,q⟩=>⟨s,ns,e,⟨TBk,TPk,TLy,TSt⟩,TRm,hs,hn,q⟩)
theorem walk{l:W.OpenLaw}{q:Program}{loose:List Str}{XP:(Str->Option Value)->Heap->Prop}{YP:World->Heap->Prop}{d:DefRec}{K:Params->W.Frag}(hn:l.most=some 63)(hdf:d.params.defaults=[])
  (hY:∀ (w:World) (h:Heap),YP w h->(K w.params).In h)
  (F:∀ (w:World) (mg:Str->Option Value) (fa:Addr) (h:Heap),(K w.params).In h->h.Ns mainGlobals mg->mg d.name=some (.ref fa) →
   ∃ fd:FuncData,(∀ (s:Shared) (u:Value),BindsTo s fd ⟨[u],[]⟩ [("script",u)])/\∀ base:Heap,(K w.params).In base->base.Ns mainGlobals mg->FnOk l.prog w (K w.params) mg base (cxE l.prog w) 12 fa fd ["script"] (spL (K w.params))) :
  W.WalkO q loose XP YP l.row.toRowW d [] (λf vs=>PySem.call f vs) :=
 L2.walk_of (n:=63) (k:=12) (x:="script") (CX:=λw=>cxE l.prog w) (sp:=λw=>spL (K w.params)) hn (by decide) hdf ⟨rfl,by decide,by decide⟩ hY F (λ_ _ a ns hl _ hS=>⟨a,ns,rfl,hS,hl,λ_=>rfl⟩) λ_ _ _ _ _ z=>jit z
end L2
namespace PySem.W.Fast
def tw15645358491081844909:=()
def tw15539213654432304194:=()
def tw8339413069992143435:=()
def tw10721072841145793834:=()
def tw6641356175235436132:=()
def tw7740245546765584592:=()
def tw9159862055089151809:=()
def tw10278425076058522161:=()
def tw10231112135964541363:=()
def tw8986482581156248594:=()
def tw17321491438200949463:=()
def tw4739026348358622013:=()
def tw9149322074859486519:=()
def tw9085967354465449132:=()
def tw12118128298857311077:=()
def tw2089300427032066075:=()
def tw10680358256761697350:=()
def tw4785471124899483819:=()
def tw16084652086652840725:=()
def tw12968750719573693407:=()
def tw1048895968567164510:=()
def tw96519386064859963:=()
def tw4900215362698836115:=()
def tw6498071493443129736:=()
def tw17266951557186767624:=()
def tw1126289042992064132:=()
def tw6097681604383793941:=()
def tw1082277676010114275:=()
def tw4737760693765574298:=()
def tw5603571803247811011:=()
def tw3610950292369240364:=()
def tw16759211005882575918:=()
def tw10008017691293343297:=()
def tw10011167187951318587:=()
def tw656668273089655961:=()
def tw2812257532549519837:=()
def tw17786348866759421647:=()
def tw14124080968975429334:=()
def tw13549198681854878098:=()
def tw11524238299613368627:=()
def tw16043499726296469293:=()
def tw521402329350452634:=()
def tw2618545203073887307:=()
def tw363003081342776552:=()
def tw6108683170339944449:=()
def tw5846213796689583718:=()
def tw7943997210155699810:=()
def tw14809754446283782831:=()
def tw14352770069119442982:=()
def tw11757614193524608782:=()
def tw9279317302568078969:=()
def tw10589288548772973598:=()
def tw607756707641238731:=()
def tw10423274194158831049:=()
def tw13675767677975429648:=()
def tw4312531916860571486:=()
def tw7975755388596594456:=()
def tw17670077256120150601:=()
def tw9835570709310727199:=()
def tw1267516028227489649:=()
def tw17066182052460089150:=()
def tw4435268828235812640:=()
def tw9609178658503070566:=()
def tw18289623728608957993:=()
def tw11200638381760841021:=()
def tw14825578320812721665:=()
def tw17186222426877237549:=()
def tw4455111319377564521:=()
def tw775887579514849870:=()
def tw16181330806833704822:=()
def tw7680804161060911193:=()
def tw2647729877336641580:=()
def tw11686787094858610005:=()
def tw14255651217801775180:=()
def tw2427781505549232813:=()
def tw8149649802871021084:=()
def tw2535341553008486084:=()
def tw10540209770882826763:=()
def tw1298959121892836016:=()
def tw2192395267179469628:=()
def tw11900661066073245070:=()
def tw12437348469609587608:=()
def tw1251964078012834878:=()
def tw17914413024186973533:=()
def tw6831929974985249830:=()
def tw12076297136310325528:=()
def tw11074350764919853103:=()
def tw494910076967403499:=()
def tw2379515682385796193:=()
def tw12731965275476273062:=()
def tw4128265456350237846:=()
def tw12181205027839535664:=()
def tw1265495052398761525:=()
def tw1908909208935483443:=()
def tw9424694430987631087:=()
def tw7262774779168923804:=()
def tw3133681062142066396:=()
def tw17663847034618953269:=()
def tw16092448904694409666:=()
def tw6884236120668042592:=()
def tw5695079868412640601:=()
def tw15474384861163046581:=()
def tw3930483546973204849:=()
def tw9777610019765393224:=()
def tw16744202302177708649:=()
def tw14789282396983690760:=()
def tw15327395682646020746:=()
def tw3921912404328244598:=()
def tw16342541459725806166:=()
def tw1086119573993899602:=()
def tw17321497434032698808:=()
def tw16508001449702956000:=()
def tw6033093401887211625:=()
def tw1274880491119578795:=()
def tw4692164956361669125:=()
def tw11840093479886286175:=()
def tw4115482041279965987:=()
def tw401666311583998641:=()
def tw8810777042770107482:=()
def tw1487671753599436187:=()
def tw8416307417199178029:=()
def tw1067482530442332422:=()
def tw4577145279687292353:=()
def tw9514354053884844083:=()
def tw8318024938335867233:=()
def tw978869871177988297:=()
def tw16751166683827975858:=()
def tw10217683314373701392:=()
def tw10710434513300073843:=()
def tw17689402453615762469:=()
def tw2160100010132067920:=()
def tw3912388924839886118:=()
def tw8418720646280138882:=()
def tw2078961073480099018:=()
def tw13502348740642868203:=()
def tw16176940144001960403:=()
def tw2301927065035816357:=()
def tw6219811649827510245:=()
def tw15374839772887575782:=()
def tw4041128505858997824:=()
def tw751439358982311809:=()
def tw10590871644517236007:=()
def tw2784870420130059062:=()
def tw10983123154192948144:=()
def tw2450721040090119410:=()
def tw16921949246498821975:=()
def tw8673870919715779231:=()
def tw13294969752978582653:=()
def tw2580277882185138260:=()
def tw2910590813963310817:=()
def tw2895613224009312506:=()
def tw8394656730147764274:=()
def tw12871288660140582765:=()
def tw17361208734689150584:=()
def tw9074193612746163238:=()
def tw6507083205200978347:=()
def tw8487070779447815411:=()
def tw4787685154658152415:=()
def tw11744193991956914947:=()
def tw16996759971002335717:=()
def tw12968401472576323883:=()
def tw2700977692063748006:=()
def tw15812063438171287535:=()
def tw5727572255830271899:=()
def tw10508770621234278385:=()
def tw12369944050078737483:=()
def tw13091501358135157945:=()
def tw8515572433099677145:=()
def tw77826172698004422:=()
def tw2201893773722981284:=()
def tw17872336569926950891:=()
def tw16157752749408585225:=()
def tw2151249774964317739:=()
def tw17635936768953666908:=()
def tw10278946266515084172:=()
def tw6151934144107462678:=()
def tw16984455574407588788:=()
def tw4552236891586237462:=()
def tw17677455686356461042:=()
def tw6569867078129348736:=()
def tw4992309325613917394:=()
def tw252468571117064796:=()
def tw7875999732852226952:=()
def tw2800992289851726471:=()
def tw13542358883412506331:=()
def tw2185543599380325643:=()
def tw1343981872646663461:=()
def tw3525539817800899890:=()
def tw9520346444241724951:=()
def tw14428309635113057962:=()
def tw4134396978627766011:=()
def tw16893223780982897858:=()
def tw17545766673075939839:=()
def tw8526921407614937143:=()
def tw1383074074157652000:=()
def tw15730005002157684067:=()
def tw12819611806400384504:=()
def tw1174662928251434346:=()
def tw4754346245396819847:=()
def tw13869449737713538710:=()
def tw7702591828890351572:=()
def tw15409003730503833661:=()
def tw4842756914142233338:=()
def tw3981475025352790722:=()
def tw1291970022358585235:=()
def tw5189675717140240429:=()
def tw3385819851508162417:=()
def tw10598764016576236269:=()
def tw4501030788329583561:=()
def tw5880172305103321903:=()
def tw316528671665261472:=()
def tw17784144514027181973:=()
def tw16672418922883320523:=()
def tw10374643188120085993:=()
def tw13596254276297583073:=()
def tw17162668613903373611:=()
def tw14660953525539003364:=()
def tw14064329755973247344:=()
def tw4656907635869684023:=()
def tw12727627123593472913:=()
def tw11185200068265753422:=()
def tw6748075746944409777:=()
def tw17117132210115307211:=()
def tw4287835378626421580:=()
def tw16889881519505479940:=()
def tw11512578022120727575:=()
def tw13758238970837240282:=()
def tw2008689269712671946:=()
def tw10036775649363495211:=()
def tw16255348613904059604:=()
def tw2168116389278423839:=()
def tw2024439426803484236:=()
def tw7055207156320213685:=()
def tw17579757822104955019:=()
def tw5388959008607163851:=()
def tw13677567120127620735:=()
def tw10097552604545515443:=()
def tw13537010441403674718:=()
def tw1834297321815006237:=()
def tw13795507691292923140:=()
def tw6409638890063703617:=()
def tw1610842384005614795:=()
def tw4472160543048918591:=()
def tw10353518550119375791:=()
def tw10064688764630215962:=()
def tw10060648620912650821:=()
def tw13838587828759652244:=()
def tw12399665574246587746:=()
def tw10176748212564615513:=()
def tw14720346626426422155:=()
def tw4806099426403798801:=()
def tw13547814361389070820:=()
def tw368302895373667229:=()
def tw10486038751177768398:=()
def tw17949752218599025653:=()
def tw10921300080447397948:=()
def tw11286374742847010425:=()
def tw6363690103515323039:=()
def tw8858171021943539752:=()
def tw4593881980556129066:=()
def tw2031292854218503040:=()
def tw8701942300759569128:=()
def tw6345702539016156321:=()
def tw9875412516201548673:=()
def tw11774804607215678137:=()
def tw14258328596482466292:=()
def tw170306009740347840:=()
def tw12036706800234354726:=()
def tw16000384371308618300:=()
def tw7767138532206544752:=()
def tw568594884938045197:=()
def tw17153044444938691862:=()
def tw10459401117055797555:=()
def tw4138470935934241972:=()
def tw10403377927589927292:=()
def tw6553044537749252914:=()
def tw2948681963524461099:=()
def tw5900307815527396331:=()
def tw8424682970683564106:=()
def tw8817888581494477890:=()
def tw5281077300350571184:=()
def tw13842601776994592746:=()
def tw14457607807672105051:=()
def tw2764295961538196803:=()
def tw400234178935063903:=()
def tw1868171912463558254:=()
def tw5023530798158693146:=()
def tw7044932571383165463:=()
def tw16571397195315309230:=()
def tw4678007022477602022:=()
def tw5302029841885753026:=()
def tw9215694580341100979:=()
def tw14217396938391680826:=()
def tw17658827222680707179:=()
def tw4173457888797495499:=()
def tw176405072436588279:=()
def tw1157789712633998091:=()
def tw11188892933492877601:=()
def tw17986995392052078194:=()
def tw6217987202189826923:=()
def tw15121345896343768599:=()
def tw9848596893199387760:=()
def tw4193963574079457880:=()
def tw5006838885620722550:=()
def tw1477088541878235677:=()
def tw1404073801531419958:=()
def tw4727061460424992229:=()
def tw16190987691236895326:=()
def tw10850419521851042257:=()
def tw11466316743946849933:=()
def tw10310037192258079275:=()
def tw14243293840405453315:=()
def tw7574550126739919813:=()
def tw1653515033308506117:=()
def tw849124639760546131:=()
def tw15510194133929581823:=()
def tw10443113988224564911:=()
def tw7481082838788733385:=()
def tw3310640852286979729:=()
def tw5118586991275036506:=()
def tw4512751170392380205:=()
def tw2401840946431551567:=()
def tw5439005014131794404:=()
def tw12319775685855946263:=()
def tw14829143420298605518:=()
def tw8574023520785581347:=()
def tw8203862930806724012:=()
def tw11771968791764737406:=()
def tw10140320198039191709:=()
def tw15323298441142113530:=()
def tw11833422337395093661:=()
def tw5342959543052549173:=()
def tw7842114319122004498:=()
def tw16100535654096605126:=()
def tw976149141506003059:=()
def tw8086905549213370433:=()
def tw16801892728778044559:=()
def tw15950270520437023222:=()
def tw14067833592649370493:=()
def tw9658258561408236642:=()
def tw1149154757383600645:=()
def tw14138642969789556283:=()
def tw10688394513732705434:=()
def tw17398510530701614581:=()
def tw13210285343771579214:=()
def tw11464977992089288843:=()
def tw4416112282165559608:=()
def tw10409094342399754270:=()
def tw3441076319856398364:=()
def tw8673368455312714996:=()
def tw13235521753926334812:=()
def tw9702567713324936870:=()
def tw17144518644715938640:=()
def tw14716403864309020644:=()
def tw2136147424448387370:=()
def tw12519774513379606235:=()
def tw6928956673630834803:=()
def tw12965650190219364653:=()
def tw1958402232090195213:=()
def tw2380829874510275368:=()
def tw229099711305425484:=()
def tw13444109488193172797:=()
def tw2762440711176418709:=()
def tw6110663493314912323:=()
def tw3764530608768362581:=()
def tw13305455787319908086:=()
def tw8963781359885341767:=()
def tw4849319709452281576:=()
def tw13386979927763656660:=()
def tw4276977406908268324:=()
def tw9680028889873143465:=()
def tw15484174715553714672:=()
def tw10547928717085860781:=()
def tw12182238256050883580:=()
def tw17523996244879531016:=()
def tw14279585153429086727:=()
def tw9622885746370832800:=()
def tw3042492497334119610:=()
def tw17549998537816276988:=()
def tw17841154859826055081:=()
def tw6459928789023509668:=()
def tw5109045859230974379:=()
def tw12105101978137136596:=()
def tw17625068736598892762:=()
def tw2867294322139844419:=()
def tw18382076176003405922:=()
def tw8633422038884175833:=()
def tw3431654145791394643:=()
def tw605378305866336246:=()
def tw11667600363868813533:=()
def tw12055398435000671321:=()
def tw10203745805675876423:=()
def tw15598514484555787864:=()
def tw7564792383949877202:=()
def tw17023332221407123296:=()
def tw12335832780589488052:=()
def tw5137611250569786537:=()
def tw1415659406639127494:=()
def tw5988963632499335746:=()
def tw3107970483898964770:=()
def tw3842735838371178244:=()
def tw12440230501281090568:=()
def tw16670888119661268276:=()
def tw3484071409570240678:=()
def tw12032149361229575903:=()
def tw4417311276016682026:=()
def tw12269624185448652405:=()
def tw10469909384719782107:=()
def tw4616939372383253746:=()
def tw2354283527213068770:=()
def tw1070946836764120850:=()
def tw4805155784501114596:=()
def tw9180742515253814087:=()
def tw3164347191390821985:=()
def tw13106628197902636458:=()
def tw15956127335611237398:=()
def tw6765984281581062610:=()
def tw16063408616740185439:=()
def tw15232268526512641529:=()
def tw8895497593428452374:=()
def tw11683104521503565884:=()
def tw12185002092271647221:=()
def tw8380586572996126917:=()
def tw9616007200556512077:=()
def tw13220885440618320319:=()
def tw13111371710533929914:=()
def tw5248085562670089949:=()
def tw4972528450388151044:=()
def tw17995964807514425213:=()
def tw3256344451332196582:=()
def tw12520289177957527140:=()
def tw2325086684979905239:=()
def tw11198917193279632842:=()
def tw9172533359209440142:=()
def tw13510427017012161773:=()
def tw12071565565122960903:=()
def tw7095666036379248381:=()
def tw16667479302510026241:=()
def tw7130325848484875691:=()
def tw17614726278804650725:=()
def tw5865487886475599701:=()
def tw16910678085949423452:=()
def tw9534253346764323995:=()
def tw6839334681323660241:=()
def tw14658508165349547713:=()
def tw17148162182693728546:=()
def tw6233089288173475593:=()
def tw7192963357769507693:=()
def tw5512045137411587881:=()
def tw12913311114860611930:=()
def tw3113323868802260205:=()
def tw9281741648102917017:=()
def tw3738194952963827862:=()
def tw4783200299921910137:=()
def tw8690491566971565738:=()
def tw5112647592235891474:=()
def tw780001477640417796:=()
def tw15158597325150357860:=()
def tw18408166152377064108:=()
def tw913399618482292850:=()
def tw454664857797251063:=()
def tw13016625438791461012:=()
def tw663890428802533948:=()
def tw9453697979234328591:=()
def tw2015661282761879720:=()
def tw15694495803112050172:=()
def tw16376537774814653216:=()
def tw8295920105222848093:=()
def tw13568156212980851227:=()
def tw9996904424615946181:=()
def tw8800511486009036274:=()
def tw10707912036138125288:=()
def tw6653024635958456376:=()
def tw11183117698079373998:=()
def tw14992683597517751805:=()
def tw449608925156636550:=()
def tw1304814478512378933:=()
def tw15393689156998859957:=()
def tw12527191260691200549:=()
def tw10386975558591203022:=()
def tw2668804239883951240:=()
def tw4217452107515238037:=()
def tw4335608088378646958:=()
def tw1952370055858276957:=()
def tw14689296569294096942:=()
def tw14106614066890219063:=()
def tw15754125316586583580:=()
def tw2552804739061483213:=()
def tw15334005941181483466:=()
def tw15376157962998344119:=()
def tw17937965044824559199:=()
def tw13835755066061449922:=()
def tw145258898056055109:=()
def tw13502735485269261013:=()
def tw4198048793462830929:=()
def tw7348978601719101078:=()
def tw13847538952945397206:=()
def tw9249359716556472694:=()
def tw17507145914643892130:=()
def tw7107424123314568192:=()
def tw6702458902490002829:=()
def tw382935434478658744:=()
def tw7113720174967551451:=()
def tw17660242487448648477:=()
def tw14890622602621719935:=()
def tw15683359356921632710:=()
def tw5752756329755102723:=()
def tw4071344960060674366:=()
def tw8200073440417773987:=()
def tw3000651055494544537:=()
def tw3495002585024917938:=()
def tw1924738372607266303:=()
def tw5956242929350347331:=()
def tw81212727609332341:=()
def tw16579438416994016925:=()
def tw6017535711141554301:=()
def tw4795400875293233399:=()
def tw8639403029303256269:=()
def tw14469242785070132159:=()
def tw1282294696761883689:=()
def tw6541364595410985757:=()
def tw6322036808396844421:=()
def tw9857208614963746432:=()
def tw16160533321319543008:=()
def tw9616209749012627715:=()
def tw18314567800827495681:=()
def tw6046440620865724943:=()
def tw2575928419802566651:=()
def tw18093485383773591070:=()
def tw8700168842450234524:=()
def tw7692142751494314754:=()
def tw14732200058736881851:=()
def tw9951476430313154257:=()
def tw3899079640871081703:=()
def tw13426733168780394657:=()
def tw264327827171901336:=()
def tw10449781057343062393:=()
def tw18026874763334459766:=()
def tw6578447560032415144:=()
def tw2009069768663943789:=()
def tw18243917325883488455:=()
def tw12155640906305291974:=()
def tw987848131099499794:=()
def tw17073639131224579980:=()
def tw16555023787140413466:=()
def tw3937430064440186799:=()
def tw2142688607717871196:=()
def tw7753358408456705998:=()
def tw12879494038956061076:=()
def tw204087715061297843:=()
def tw2515626240484984184:=()
def tw16270145228534668227:=()
def tw7571668930659373716:=()
def tw14792400755832545827:=()
def tw16765460485719118312:=()
def tw7949692455574647048:=()
def tw17840223174782982221:=()
def tw17689059102529002031:=()
def tw18138746548431868587:=()
def tw15246310906937227892:=()
def tw13676083027207256489:=()
def tw10325255584479212211:=()
def tw13220634323764433498:=()
def tw11700334581453235990:=()
def tw17411120275933917073:=()
def tw13444900421542318552:=()
def tw5515739824441754995:=()
def tw3950719702020243602:=()
def tw3823528703307326317:=()
def tw7403533077322469988:=()
def tw12808269588288269994:=()
def tw834208377126706431:=()
def tw2412238841286361655:=()
def tw2916977576389762039:=()
def tw10950465421584881891:=()
def tw5319454503561085867:=()
def tw4768921551006621215:=()
def tw16967916909740973399:=()
def tw8406346579678414700:=()
def tw12173934877560388928:=()
def tw10523166821251281442:=()
def tw15642912140969164214:=()
def tw1577353954966797570:=()
def tw15787692356863871639:=()
def tw13946298159448586552:=()
def tw14361317077291252527:=()
def tw11531159586956054108:=()
def tw16036451163716795142:=()
def tw7172467163716604023:=()
def tw4224141746077314603:=()
def tw13368368693008706180:=()
def tw18322808003984892698:=()
def tw12146344751043270157:=()
def tw6727240261971408503:=()
def tw4326164421032258121:=()
def tw1773816759759796387:=()
def tw17210605239759462026:=()
def tw11358147697476059839:=()
def tw5809474027154534063:=()
def tw6438716943103776762:=()
def tw17104650595868323974:=()
def tw13209252951567062760:=()
def tw1822721392428331060:=()
def tw2318795877262281895:=()
def tw15995858797303366454:=()
def tw4514941546081718075:=()
def tw2891796996874008581:=()
def tw4631568188659590241:=()
def tw11858915977316529633:=()
def tw4598379974859759728:=()
def tw2955227723764402610:=()
def tw14176729288112208339:=()
def tw11965350460926851170:=()
def tw13429657818452100448:=()
def tw3353228041670268429:=()
def tw8603081692519285592:=()
def tw17903088693276998287:=()
def tw16705328117439150959:=()
def tw4982536015690165956:=()
def tw14542428273727180578:=()
def tw14933207334134966367:=()
def tw17914156132355877548:=()
def tw13808079985729622499:=()
def tw8626038110260753910:=()
def tw5209066187146742138:=()
def tw5552067342847394385:=()
def tw2526744670303497994:=()
def tw14201664212586178710:=()
def tw16441711368461894241:=()
def tw5791411976813581876:=()
def tw6407077000247743773:=()
def tw17829534053310146686:=()
def tw15623085236360959224:=()
def tw12932868655658775908:=()
def tw13422878962904081130:=()
def tw11016193875549636004:=()
def tw15611779837977688162:=()
def tw17934102406551698327:=()
def tw5285135347100445161:=()
def tw4361550844031665438:=()
def tw18412041518430464741:=()
def tw947864351125159279:=()
def tw15726856234656166514:=()
def tw17846218058472553876:=()
def tw15655053848803984276:=()
def tw15373218808905943246:=()
def tw16625235763749089927:=()
def tw11197965008983610693:=()
def tw15450876890329496788:=()
def tw1976811627164892738:=()
def tw3767506621264585915:=()
def tw14319902160058708823:=()
def tw14561849650286377130:=()
def tw10893478376044158834:=()
def tw8625934526486384535:=()
def tw9138108514151163144:=()
def tw10178641736635372752:=()
def tw5830861685641273131:=()
def tw14349411696274907748:=()
def tw5657713983512478748:=()
def tw16061954154156893833:=()
def tw9334421107144948917:=()
def tw12875079193321053482:=()
def tw11922250756746948568:=()
def tw8084477880925911189:=()
def tw278473568611758211:=()
def tw1448754502953114759:=()
def tw16173644137303672798:=()
def tw546413001342123342:=()
def tw3933294075067892315:=()
def tw9305919924863635322:=()
def tw809427272610227433:=()
def tw7261557917299759149:=()
def tw10599278947964126537:=()
def tw16520292028310419829:=()
def tw15872690231253182237:=()
def tw11434569423234370230:=()
def tw6128878809849643859:=()
def tw4215428652145881900:=()
def tw14904048283349025117:=()
def tw14054861480599642588:=()
def tw1378457249897070166:=()
def tw857966743001612107:=()
def tw3049538268020426840:=()
def tw18310621784052087408:=()
def tw10437975382272380731:=()
def tw16191228137565291364:=()
def tw15139637679859007649:=()
def tw5683755311912512519:=()
def tw11536787978885807870:=()
def tw16368371066323486066:=()
def tw5186181968582300447:=()
def tw8367236203520761133:=()
def tw17498221420670197070:=()
def tw4665805857018084552:=()
def tw15692205699359651683:=()
def tw11997854264386103646:=()
def tw7468426119292736256:=()
def tw11496827319337415978:=()
def tw13521109158584752083:=()
def tw13085642262864133816:=()
def tw2328137843700478078:=()
def tw5386479212609901980:=()
def tw11898874606235538705:=()
def tw7683696041712528539:=()
def tw15722170977658141272:=()
def tw7476168985393056137:=()
def tw3778054936707208225:=()
def tw5013208091476018248:=()
def tw15579238307480943540:=()
def tw15789926546811342983:=()
def tw6622452246983781572:=()
def tw18318862871210729384:=()
def tw3607394197250243168:=()
def tw15329547824748298007:=()
def tw10570773272863527363:=()
def tw13852616529338287669:=()
def tw9369877357511911219:=()
def tw9188213299170801506:=()
def tw2612681628702306211:=()
def tw528348404118525166:=()
def tw528823152935812665:=()
def tw833607310779023237:=()
def tw16701069312373922506:=()
def tw1874107481520605652:=()
def tw12800288178051278499:=()
def tw16117022525054302155:=()
end PySem.W.Fast
open PySem PySem.W PyProof.Rows
set_option Elab.async false
set_option maxRecDepth 100000 in
set_option maxHeartbeats 0 in
theorem PySem.Challenge.cw_holdback_k44_deeds_refused_holds : PySem.Challenge.rw_holdback_k44_deeds_refused.Holds := by
 w_on;o_law;k_head;(case hw=>w_witness2)
 k_fill
 refine L2.walk (l:=PySem.Challenge.rw_holdback_k44_deeds_refused) rfl rfl (λw h Y=>PySem.W.kIn_of Y) ?F
 case F =>
  intro w mg fa h KX G hmg
  refine' L2.all_mk KX G hmg ?q0 ?q1 ?q2 ?q3 ?q4 ?q5 ?q6 ?q7 ?q8 ?q9 ?qa ?qb ?qc ?qd ?qe ?qf ?qg ?qh ?qi ?qj ?qk ?ql ?qm ?qn ?qo ?qp ?qq ?qr ?qs ?qt ?qu ?qv ?qw ?qx ?qy ?qz ?q10 ?q11 ?q12 ?q13 ?q14 ?q15 ?q16 ?q17 ?q18 ?q19 ?q1a ?q1b ?q1c ?q1d ?q1e ?q1f ?q1g ?q1h ?q1i ?q1j ?q1k ?q1l ?q1m ?q1n ?q1o ?q1p ?q1q ?q1r ?q1s ?q1t ?q1u ?q1v ?q1w ?q1x ?q1y ?q1z ?q20 ?q21 ?q22 ?q23 ?q24 ?q25 ?q26 ?q27 ?q28 ?q29 ?q2a ?q2b ?q2c ?q2d ?q2e ?q2f ?q2g ?q2h ?q2i ?q2j ?q2k ?q2l ?q2m ?q2n ?q2o ?q2p ?q2q ?q2r ?q2s ?q2t ?q2u ?q2v ?q2w ?q2x ?q2y ?q2z ?q30 ?q31 ?q32 ?q33 ?q34 ?q35 ?q36 ?q37 ?q38 ?q39 ?q3a ?q3b ?q3c ?q3d ?q3e ?q3f ?q3g ?q3h ?q3i ?q3j ?q3k ?q3l ?q3m ?q3n ?q3o ?q3p ?q3q ?q3r ?q3s ?q3t ?q3u ?q3v ?q3w ?q3x ?q3y ?q3z ?q40 ?q41 ?q42 ?q43 ?q44 ?q45 ?q46 ?q47 ?q48 ?q49 ?q4a ?q4b ?q4c ?q4d ?q4e ?q4f ?q4g ?q4h ?q4i ?q4j ?q4k ?q4l ?q4m ?q4n ?q4o ?q4p ?q4q ?q4r ?q4s ?q4t ?q4u ?q4v ?q4w ?q4x ?q4y ?q4z ?q50 ?q51 ?q52 ?q53 ?q54 ?q55 ?q56 ?q57 ?q58 ?q59 ?q5a ?q5b ?q5c ?q5d ?q5e ?q5f ?q5g ?q5h ?q5i ?q5j ?q5k ?q5l ?q5m ?q5n ?q5o ?q5p ?q5q ?q5r ?q5s ?q5t ?q5u ?q5v ?q5w ?q5x ?q5y ?q5z ?q60 ?q61 ?q62 ?q63 ?q64 ?q65 ?q66 ?q67 ?q68 ?q69 ?q6a ?q6b ?q6c ?q6d ?q6e ?q6f ?q6g ?q6h ?q6i ?q6j ?q6k ?q6l ?q6m ?q6n ?q6o ?q6p ?q6q ?q6r ?q6s ?q6t ?q6u ?q6v ?q6w ?q6x ?q6y ?q6z ?q70 ?q71 ?q72 ?q73 ?q74 ?q75 ?q76 ?q77 ?q78 ?q79 ?q7a ?q7b ?q7c ?q7d ?q7e ?q7f ?q7g ?q7h ?q7i ?q7j ?q7k ?q7l ?q7m ?q7n ?q7o ?q7p ?q7q ?q7r ?q7s ?q7t ?q7u ?q7v ?q7w ?q7x ?q7y ?q7z ?q80 ?q81 ?q82 ?q83 ?q84 ?q85 ?q86 ?q87 ?q88 ?q89 ?q8a ?q8b ?q8c ?q8d ?q8e ?q8f ?q8g ?q8h ?q8i ?q8j ?q8k ?q8l ?q8m ?q8n ?q8o ?q8p ?q8q ?q8r ?q8s ?q8t ?q8u ?q8v ?q8w ?q8x ?q8y ?q8z ?q90 ?q91 ?q92 ?q93 ?q94 ?q95 ?q96 ?q97 ?q98 ?q99 ?q9a ?q9b ?q9c ?q9d ?q9e ?q9f ?q9g ?q9h ?q9i ?q9j ?q9k ?q9l ?q9m ?q9n ?q9o ?q9p ?q9q ?q9r ?q9s ?q9t ?q9u ?q9v ?q9w ?q9x ?q9y ?q9z ?qa0 ?qa1 ?qa2 ?qa3 ?qa4 ?qa5 ?qa6 ?qa7 ?qa8 ?qa9 ?qaa ?qab ?qac ?qad ?qae ?qaf ?qag ?qah ?qai ?qaj ?qak ?qal ?qam ?qan ?qao ?qap ?qaq ?qar ?qas ?qat ?qau ?qav ?qaw ?qax ?qay ?qaz ?qb0 ?qb1 ?qb2 ?qb3 ?qb4 ?qb5 ?qb6 ?qb7 ?qb8 ?qb9 ?qba ?qbb ?qbc ?qbd ?qbe ?qbf ?qbg ?qbh ?qbi ?qbj ?qbk ?qbl ?qbm ?qbn ?qbo ?qbp ?qbq ?qbr ?qbs ?qbt ?qbu ?qbv ?qbw ?qbx ?qby ?qbz ?qc0 ?qc1 ?qc2 ?qc3 ?qc4 ?qc5 ?qc6 ?qc7 ?qc8 ?qc9 ?qca ?qcb ?qcc ?qcd ?qce ?qcf ?qcg ?qch ?qci ?qcj ?qck ?qcl ?qcm ?qcn ?qco ?qcp ?qcq ?qcr ?qcs ?qct ?qcu ?qcv ?qcw ?qcx ?qcy ?qcz ?qd0 ?qd1 ?qd2 ?qd3
  (case q0=>k_is)
  (case q1=>k_is)
  (case q2=>k_is)
  (case q3=>k_is)
  (case q4=>k_is)
  (case q5=>k_is)
  (case q6=>k_is)
  (case q7=>k_is)
  (case q8=>k_is)
  (case q9=>k_is)
  (case qa=>k_is)
  (case qb=>k_is)
  (case qc=>k_is)
  (case qd=>k_is)
  (case qe=>k_is)
  (case qf=>k_is)
  (case qg=>k_is)
  (case qh=>k_is)
  (case qi=>k_is)
  (case qj=>k_is)
  (case qk=>k_is)
  (case ql=>k_is)
  (case qm=>k_is)
  (case qn=>k_is)
  (case qo=>k_is)
  (case qp=>k_is)
  (case qq=>k_is)
  (case qr=>k_is)
  (case qs=>k_is)
  (case qt=>k_is)
  (case qu=>k_is)
  (case qv=>k_is)
  (case qw=>k_is)
  (case qx=>k_is)
  (case qy=>k_is)
  (case qz=>k_is)
  (case q10=>k_is)
  (case q11=>k_is)
  (case q12=>k_is)
  (case q13=>k_is)
  (case q14=>k_is)
  (case q15=>k_is)
  (case q16=>k_is)
  (case q17=>k_is)
  (case q18=>k_exc)
  (case q19=>k_is)
  (case q1a=>k_is)
  (case q1b=>k_exc)
  (case q1c=>k_exc)
  (case q1d=>k_exc)
  (case q1e=>k_exc)
  (case q1f=>k_exc)
  (case q1g=>k_exc)
  (case q1h=>k_exc)
  (case q1i=>k_is)
  (case q1j=>k_exc)
  (case q1k=>k_is)
  (case q1l=>k_is)
  (case q1m=>k_is)
  (case q1n=>k_is)
  (case q1o=>k_is)
  (case q1p=>k_is)
  (case q1q=>k_is)
  (case q1r=>k_is)
  (case q1s=>k_is)
  (case q1t=>k_is)
  (case q1u=>k_is)
  (case q1v=>k_is)
  (case q1w=>k_is)
  (case q1x=>k_is)
  (case q1y=>k_is)
  (case q1z=>k_is)
  (case q20=>k_is)
  (case q21=>k_is)
  (case q22=>k_is)
  (case q23=>k_is)
  (case q24=>k_is)
  (case q25=>k_is)
  (case q26=>k_is)
  (case q27=>k_is)
  (case q28=>k_is)
  (case q29=>k_is)
  (case q2a=>k_is)
  (case q2b=>k_is)
  (case q2c=>k_is)
  (case q2d=>k_is)
  (case q2e=>k_is)
  (case q2f=>k_is)
  (case q2g=>k_is)
  (case q2h=>k_is)
  (case q2i=>k_is)
  (case q2j=>k_is)
  (case q2k=>k_is)
  (case q2l=>k_is)
  (case q2m=>k_is)
  (case q2n=>k_is)
  (case q2o=>k_is)
  (case q2p=>k_is)
  (case q2q=>k_is)
  (case q2r=>k_is)
  (case q2s=>k_is)
  (case q2t=>k_is)
  (case q2u=>k_is)
  (case q2v=>k_is)
  (case q2w=>k_is)
  (case q2x=>k_is)
  (case q2y=>k_is)
  (case q2z=>k_is)
  (case q30=>k_is)
  (case q31=>k_is)
  (case q32=>k_is)
  (case q33=>k_is)
  (case q34=>k_is)
  (case q35=>k_is)
  (case q36=>k_is)
  (case q37=>k_is)
  (case q38=>k_is)
  (case q39=>k_is)
  (case q3a=>k_is)
  (case q3b=>k_is)
  (case q3c=>k_is)
  (case q3d=>k_is)
  (case q3e=>k_is)
  (case q3f=>k_is)
  (case q3g=>k_is)
  (case q3h=>k_is)
  (case q3i=>k_is)
  (case q3j=>k_is)
  (case q3k=>k_is)
  (case q3l=>k_is)
  (case q3m=>k_is)
  (case q3n=>k_is)
  (case q3o=>k_is)
  (case q3p=>k_is)
  (case q3q=>k_is)
  (case q3r=>k_is)
  (case q3s=>k_is)
  (case q3t=>k_is)
  (case q3u=>k_is)
  (case q3v=>k_is)
  (case q3w=>k_is)
  (case q3x=>k_is)
  (case q3y=>k_is)
  (case q3z=>k_is)
  (case q40=>k_is)
  (case q41=>k_is)
  (case q42=>k_is)
  (case q43=>k_is)
  (case q44=>k_is)
  (case q45=>k_is)
  (case q46=>k_is)
  (case q47=>k_is)
  (case q48=>k_is)
  (case q49=>k_is)
  (case q4a=>k_is)
  (case q4b=>k_is)
  (case q4c=>k_is)
  (case q4d=>k_is)
  (case q4e=>k_is)
  (case q4f=>k_is)
  (case q4g=>k_is)
  (case q4h=>k_is)
  (case q4i=>k_is)
  (case q4j=>k_is)
  (case q4k=>k_is)
  (case q4l=>k_is)
  (case q4m=>k_is)
  (case q4n=>k_is)
  (case q4o=>k_is)
  (case q4p=>k_is)
  (case q4q=>k_is)
  (case q4r=>k_is)
  (case q4s=>k_is)
  (case q4t=>k_is)
  (case q4u=>k_is)
  (case q4v=>k_is)
  (case q4w=>k_is)
  (case q4x=>k_is)
  (case q4y=>k_is)
  (case q4z=>k_is)
  (case q50=>k_is)
  (case q51=>k_is)
  (case q52=>k_is)
  (case q53=>k_is)
  (case q54=>k_is)
  (case q55=>k_is)
  (case q56=>k_is)
  (case q57=>k_is)
  (case q58=>k_is)
  (case q59=>k_is)
  (case q5a=>k_is)
  (case q5b=>k_is)
  (case q5c=>k_is)
  (case q5d=>k_is)
  (case q5e=>k_is)
  (case q5f=>k_is)
  (case q5g=>k_is)
  (case q5h=>k_is)
  (case q5i=>k_is)
  (case q5j=>k_is)
  (case q5k=>k_is)
  (case q5l=>k_is)
  (case q5m=>k_is)
  (case q5n=>k_is)
  (case q5o=>k_is)
  (case q5p=>k_is)
  (case q5q=>k_is)
  (case q5r=>k_is)
  (case q5s=>k_is)
  (case q5t=>k_is)
  (case q5u=>k_is)
  (case q5v=>k_is)
  (case q5w=>k_is)
  (case q5x=>k_is)
  (case q5y=>k_is)
  (case q5z=>k_is)
  (case q60=>k_is)
  (case q61=>k_is)
  (case q62=>k_is)
  (case q63=>k_is)
  (case q64=>k_is)
  (case q65=>k_is)
  (case q66=>k_is)
  (case q67=>k_is)
  (case q68=>k_is)
  (case q69=>k_is)
  (case q6a=>k_is)
  (case q6b=>k_is)
  (case q6c=>k_is)
  (case q6d=>k_is)
  (case q6e=>k_is)
  (case q6f=>k_is)
  (case q6g=>k_is)
  (case q6h=>k_is)
  (case q6i=>k_is)
  (case q6j=>k_is)
  (case q6k=>k_is)
  (case q6l=>k_is)
  (case q6m=>k_is)
  (case q6n=>k_is)
  (case q6o=>k_is)
  (case q6p=>k_is)
  (case q6q=>k_is)
  (case q6r=>k_is)
  (case q6s=>k_is)
  (case q6t=>k_is)
  (case q6u=>k_is)
  (case q6v=>k_is)
  (case q6w=>k_is)
  (case q6x=>k_is)
  (case q6y=>k_is)
  (case q6z=>k_is)
  (case q70=>k_is)
  (case q71=>k_is)
  (case q72=>k_is)
  (case q73=>k_is)
  (case q74=>k_is)
  (case q75=>k_is)
  (case q76=>k_is)
  (case q77=>k_is)
  (case q78=>k_is)
  (case q79=>k_is)
  (case q7a=>k_is)
  (case q7b=>k_is)
  (case q7c=>k_is)
  (case q7d=>k_is)
  (case q7e=>k_is)
  (case q7f=>k_is)
  (case q7g=>k_is)
  (case q7h=>k_is)
  (case q7i=>k_is)
  (case q7j=>k_is)
  (case q7k=>k_is)
  (case q7l=>k_is)
  (case q7m=>k_is)
  (case q7n=>k_is)
  (case q7o=>k_is)
  (case q7p=>k_is)
  (case q7q=>k_is)
  (case q7r=>k_is)
  (case q7s=>k_is)
  (case q7t=>k_is)
  (case q7u=>k_is)
  (case q7v=>k_is)
  (case q7w=>k_is)
  (case q7x=>k_is)
  (case q7y=>k_is)
  (case q7z=>k_is)
  (case q80=>k_is)
  (case q81=>k_is)
  (case q82=>k_is)
  (case q83=>k_is)
  (case q84=>k_is)
  (case q85=>k_is)
  (case q86=>k_is)
  (case q87=>k_is)
  (case q88=>k_is)
  (case q89=>k_is)
  (case q8a=>k_is)
  (case q8b=>k_is)
  (case q8c=>k_is)
  (case q8d=>k_is)
  (case q8e=>k_is)
  (case q8f=>k_is)
  (case q8g=>k_is)
  (case q8h=>k_is)
  (case q8i=>k_is)
  (case q8j=>k_is)
  (case q8k=>k_is)
  (case q8l=>k_is)
  (case q8m=>k_is)
  (case q8n=>k_is)
  (case q8o=>k_is)
  (case q8p=>k_is)
  (case q8q=>k_is)
  (case q8r=>k_is)
  (case q8s=>k_is)
  (case q8t=>k_is)
  (case q8u=>k_is)
  (case q8v=>k_is)
  (case q8w=>k_is)
  (case q8x=>k_is)
  (case q8y=>k_is)
  (case q8z=>k_is)
  (case q90=>k_is)
  (case q91=>k_is)
  (case q92=>k_is)
  (case q93=>k_is)
  (case q94=>k_is)
  (case q95=>k_is)
  (case q96=>k_is)
  (case q97=>k_is)
  (case q98=>k_is)
  (case q99=>k_is)
  (case q9a=>k_is)
  (case q9b=>k_is)
  (case q9c=>k_is)
  (case q9d=>k_is)
  (case q9e=>k_is)
  (case q9f=>k_is)
  (case q9g=>k_is)
  (case q9h=>k_is)
  (case q9i=>k_is)
  (case q9j=>k_is)
  (case q9k=>k_is)
  (case q9l=>k_is)
  (case q9m=>k_is)
  (case q9n=>k_is)
  (case q9o=>k_is)
  (case q9p=>k_is)
  (case q9q=>k_is)
  (case q9r=>k_is)
  (case q9s=>k_is)
  (case q9t=>k_is)
  (case q9u=>k_is)
  (case q9v=>k_is)
  (case q9w=>k_is)
  (case q9x=>k_is)
  (case q9y=>k_is)
  (case q9z=>k_is)
  (case qa0=>k_is)
  (case qa1=>k_is)
  (case qa2=>k_is)
  (case qa3=>k_is)
  (case qa4=>k_is)
  (case qa5=>k_is)
  (case qa6=>k_is)
  (case qa7=>k_is)
  (case qa8=>k_is)
  (case qa9=>k_is)
  (case qaa=>k_is)
  (case qab=>k_is)
  (case qac=>k_is)
  (case qad=>k_is)
  (case qae=>k_is)
  (case qaf=>k_is)
  (case qag=>k_is)
  (case qah=>k_is)
  (case qai=>k_is)
  (case qaj=>k_is)
  (case qak=>k_is)
  (case qal=>k_is)
  (case qam=>k_is)
  (case qan=>k_is)
  (case qao=>k_is)
  (case qap=>k_is)
  (case qaq=>k_is)
  (case qar=>k_is)
  (case qas=>k_is)
  (case qat=>k_is)
  (case qau=>k_is)
  (case qav=>k_is)
  (case qaw=>k_is)
  (case qax=>k_is)
  (case qay=>k_is)
  (case qaz=>k_is)
  (case qb0=>k_is)
  (case qb1=>k_is)
  (case qb2=>k_is)
  (case qb3=>k_is)
  (case qb4=>k_is)
  (case qb5=>k_is)
  (case qb6=>k_is)
  (case qb7=>k_is)
  (case qb8=>k_is)
  (case qb9=>k_is)
  (case qba=>k_is)
  (case qbb=>k_is)
  (case qbc=>k_is)
  (case qbd=>k_is)
  (case qbe=>k_is)
  (case qbf=>k_is)
  (case qbg=>k_is)
  (case qbh=>k_is)
  (case qbi=>k_is)
  (case qbj=>k_is)
  (case qbk=>k_is)
  (case qbl=>k_is)
  (case qbm=>k_is)
  (case qbn=>k_is)
  (case qbo=>k_is)
  (case qbp=>k_is)
  (case qbq=>k_is)
  (case qbr=>k_is)
  (case qbs=>k_is)
  (case qbt=>k_is)
  (case qbu=>k_is)
  (case qbv=>k_is)
  (case qbw=>kts_exm)
  (case qbx=>kit_is)
  (case qby=>kit_is)
  (case qbz=>kit_is)
  (case qc0=>kit_is)
  (case qc1=>kit_is)
  (case qc2=>k_is)
  (case qc3=>k_is)
  (case qc4=>k_is)
  (case qc5=>k_is)
  (case qc6=>k_is)
  (case qc7=>k_is)
  (case qc8=>k_is)
  (case qc9=>k_is)
  (case qca=>kts_exm)
  (case qcb=>kit_is)
  (case qcc=>kit_is)
  (case qcd=>kit_is)
  (case qce=>kit_is)
  (case qcf=>kit_is)
  (case qcg=>k_is)
  (case qch=>k_is)
  (case qci=>k_is)
  (case qcj=>k_is)
  (case qck=>k_is)
  (case qcl=>k_is)
  (case qcm=>k_is)
  (case qcn=>k_is)
  (case qco=>kts_exm)
  (case qcp=>kit_is)
  (case qcq=>kit_is)
  (case qcr=>kit_is)
  (case qcs=>kit_is)
  (case qct=>kit_is)
  (case qcu=>kts_exm)
  (case qcv=>kts_exm)
  (case qcw=>kts_exm)
  (case qcx=>kts_exm)
  (case qcy=>kts_exm)
  (case qcz=>kts_exm)
  (case qd0=>kts_exm)
  (case qd1=>kts_exm)
  (case qd2=>kts_exm)
  (case qd3=>kts_exm)
