import PyProof.Rows.All
import Wide.All
import OpenK.AllK
import Wide.FinOn
import Lean
import PyProof.EqAt
import PyProof.EqKinds
import PyProof.TupleCall
import PyProof.SetScanFacts
import PyProof.Rows.SetFrom
import PyProof.Rows.SortWalk
import PyProof.CollectWalk
import PyProof.DictWalks
import PySem.Challenge.RW_holdback_k64_up_from_made_planks
set_option linter.all false
set_option maxRecDepth 100000
set_option maxHeartbeats 8000000
open PySem PySem.Spec PyProof.Rows
set_option Elab.async false
namespace L2
abbrev A1:=Sum Int Str
def NT:A1->Value->Bool
 | .inl k,v=>Value.isInt k v
 | .inr x,v=>Value.isStrOf x v
def Aq(w:World):A1->Int
 | .inl k=>hashInt k
 | .inr x=>hashStr w x
theorem KF:∀ {k:A1} {v:Value},NT k v=true->(∃ i t,k=Sum.inl i/\v=Value.int i t)\/(∃ x t,k=Sum.inr x/\v=Value.str x t)
 | .inl i,v,h=>by
  obtain⟨t,e⟩:=Value.isInt_shape (k:=i) (v:=v) h
  exact .inl ⟨i,t,rfl,e⟩
 | .inr x,v,h=>by
  obtain⟨t,e⟩:=Value.isStrOf_shape (x:=x) (v:=v) h
  exact .inr ⟨x,t,rfl,e⟩
theorem Av(i:Int)(t:Tok):NT (.inl i) (.int i t)=true:=by simp[NT,Value.isInt]
theorem Aw(x:Str)(t:Tok):NT (.inr x) (.str x t)=true:=by simp[NT,Value.isStrOf]
theorem Ax(a b:Int):decide ((Sum.inl a:A1)=Sum.inl b)=(a == b):=by
 by_cases e:a=b
 ·subst e;simp
 ·have h:¬ (Sum.inl a:A1)=Sum.inl b:=λq=>e (Sum.inl.inj q)
  rw[decide_eq_false h]
  exact(beq_eq_false_iff_ne.mpr e).symm
theorem Ay(a b:Str):decide ((Sum.inr a:A1)=Sum.inr b)=decide (a=b):=by
 by_cases e:a=b
 ·subst e;simp
 ·have h:¬ (Sum.inr a:A1)=Sum.inr b:=λq=>e (Sum.inr.inj q)
  rw[decide_eq_false h,decide_eq_false e]
theorem Az(a:Int)(b:Str):decide ((Sum.inl a:A1)=Sum.inr b)=false:=decide_eq_false (λq=>nomatch q)
theorem Bb(a:Str)(b:Int):decide ((Sum.inr a:A1)=Sum.inl b)=false:=decide_eq_false (λq=>nomatch q)
def ER(prog:Program)(w:World):PySem.KeyKind prog w A1 where
 is:=NT
 hash:=Aq w
 inj:=λv a b ha hb=>by
  rcases KF ha with⟨i,t,rfl,rfl⟩ | ⟨x,t,rfl,rfl⟩
  ·rcases KF hb with⟨j,u,rfl,e⟩ | ⟨y,u,rfl,e⟩
   ·injection e with e1 _;rw[e1]
   ·exact nomatch e
  ·rcases KF hb with⟨j,u,rfl,e⟩ | ⟨y,u,rfl,e⟩
   ·exact nomatch e
   ·injection e with e1 _;rw[e1]
 byValue:=λk v h=>by
  rcases KF h with⟨i,t,rfl,rfl⟩ | ⟨x,t,rfl,rfl⟩<;>rfl
 pyHash:=λhv h=>by
  rcases KF hv with⟨i,t,rfl,rfl⟩ | ⟨x,t,rfl,rfl⟩
  ·exact wpAny_pyHash_int h
  ·exact wpAny_pyHash_str h
 eqBool:=λhu hv h=>by
  rcases KF hu with⟨i,t,rfl,rfl⟩ | ⟨x,t,rfl,rfl⟩
  ·rcases KF hv with⟨j,u,rfl,rfl⟩ | ⟨y,u,rfl,rfl⟩
   ·rw[Ax]at h;exact wpAny_eqBool_int h
   ·rw[Az]at h;exact SeqAt.EqAt.int_str i t y u _ _ _ _ h
  ·rcases KF hv with⟨j,u,rfl,rfl⟩ | ⟨y,u,rfl,rfl⟩
   ·rw[Bb]at h;exact SeqAt.EqAt.str_int x t j u _ _ _ _ h
   ·rw[Ay]at h;exact wpAny_eqBool_str h
 «strs» :=λk x t v h=>by
  rcases KF h with⟨i,u,rfl,e⟩ | ⟨y,u,rfl,e⟩
  ·exact nomatch e
  ·injection e with e1 _
   subst e1
   cases v<;>rfl
theorem Bc(prog:Program)(w:World)(i:Int)(t:Tok):(ER prog w).is (.inl i) (.int i t)=true:=Av i t
theorem Bd(prog:Program)(w:World)(x:Str)(t:Tok):(ER prog w).is (.inr x) (.str x t)=true:=Aw x t
end L2
namespace L2
inductive V where
 | non | bl (b:Bool) | int (i:Int) | str (x:Str) | byt (b:Array UInt8) | flt (b:UInt64) | ref (a:Addr) | ty (n:String)
 deriving DecidableEq
def RelV:V->Value->Prop
 | .non,u=>u=Value.none
 | .bl b,u=>u=Value.bool b
 | .int i,u=>∃ t,u=Value.int i t
 | .str x,u=>∃ t,u=Value.str x t
 | .byt b,u=>∃ t,u=Value.bytes b t
 | .flt b,u=>∃ t,u=Value.float b t
 | .ref a,u=>u=Value.ref a
 | .ty n,u=>u=Value.type n
abbrev Vals:List V->List Value->Prop:=Paired RelV
theorem Vals.length{xs:List V}{us:List Value}(r:Vals xs us):xs.length=us.length:=Paired.length r
theorem Vals.get:∀ {xs:List V} {us:List Value} {i:Nat} {x:V},Vals xs us->xs[i]? =some x->∃ u,us[i]? =some u/\RelV x u
 | _,_,_,_,.nil,e=>by simp at e
 | _,_,0,_,.cons r _,e=>by simp at e;subst e;exact⟨_,rfl,r⟩
 | _,_,i+1,x,.cons _ t,e=>by
  obtain⟨u,h1,h2⟩:=Vals.get (i:=i) (x:=x) t (by simpa using e)
  exact⟨u,by simpa using h1,h2⟩
theorem Vals.set{x:V}{u:Value}(r:RelV x u):∀ {xs:List V} {us:List Value} (i:Nat),Vals xs us->Vals (xs.set i x) (us.set i u)
 | _,_,_,.nil=>.nil
 | _,_,0,.cons _ t=>.cons r t
 | _,_,i+1,.cons q t=>.cons q (Vals.set r i t)
theorem Vals.append:∀ {xs ys:List V} {us ws:List Value},Vals xs us->Vals ys ws->Vals (xs++ys) (us++ws)
 | _,_,_,_,.nil,s=>s
 | _,_,_,_,.cons r t,s=>.cons r (Vals.append t s)
theorem Vals.take:∀ {xs:List V} {us:List Value} (n:Nat),Vals xs us->Vals (xs.take n) (us.take n)
 | _,_,0,_=>.nil
 | _,_,_+1,.nil=>.nil
 | _,_,n+1,.cons r t=>.cons r (Vals.take n t)
theorem Vals.drop:∀ {xs:List V} {us:List Value} (n:Nat),Vals xs us->Vals (xs.drop n) (us.drop n)
 | _,_,0,r=>r
 | _,_,_+1,.nil=>.nil
 | _,_,n+1,.cons _ t=>Vals.drop n t
def RelO:Option V->Option Value->Prop
 | some v,some u=>RelV v u
 | none,none=>True
 | _,_=>False
def KV{κ :Type}:List (κ × V)->List (κ × Value)->Prop:=Paired λ(p: κ × V) (q: κ × Value)=>p.1=q.1/\RelV p.2 q.2
def kV:A1->V
 | .inl i=>.int i
 | .inr x=>.str x
inductive HO where
 /-- a list -/
 | lst (xs:List V)
 /-- a tuple (never changes) -/
 | tup (xs:List V)
 /-- a dict whose keys are ints and texts;one whose keys are tuples of ints and texts (the empty one is both) -/
 | dK (kvs:List (A1 × V)) | dT (kvs:List (List A1 × V))
 /-- a set of ints: its members,its size -/
 | set (S:Int->Bool) (n:Nat)
 /-- an instance of the class at C,its dict at dx,its attributes -/
 | ins (C dx:Addr) (fs:List (Str × V))
 /-- the dict of the instance at x -/
 | own (x:Addr)
 /-- the dict of an exception -/
 | xd (fs:List (Str × V))
 /-- a bound method,f of x -/
 | met (f x:Addr)
 /-- a range object lo,lo+1,.. below hi -/
 | rng (lo hi:Int)
 /-- a thing that is known to the object (the script;a dict while a loop walks it): read,never written while it is so -/
 | frz (o:Obj) (u:HO)
 /-- a code object's table -/
 | tbl (ps:Array Value)
 /-- any other thing,by what is true of its one object (a def of one's own: SetO a S n:=HO.ext λh=>..) -/
 | ext (φ :Heap->Prop)
abbrev Hp:=Addr->Option HO
def upd(H:Hp)(a:Addr)(o:HO):Hp:=λb=>if b=a then some o else H b
theorem AM{H:Hp}{a:Addr}{o:HO}:upd H a o a=some o:=by unfold upd;rw[if_pos rfl]
theorem AO{H:Hp}{a b:Addr}{o:HO}(h:b≠a):upd H a o b=H b:=by unfold upd;rw[if_neg h]
theorem QS{H:Hp}{a:Addr}{o u:HO}:upd (upd H a o) a u=upd H a u:=by
 funext b;unfold upd;split<;>rfl
theorem DB{H:Hp}{a b:Addr}{o u:HO}(h:H a=some o)(h':H b=some u)(d:o≠u):a≠b:=by
 intro e;subst e;rw[h]at h';exact d (Option.some.inj h')
theorem BX{H:Hp}{a b:Addr}{o:HO}(h:H a=some o)(h':H b=none):a≠b:=by
 intro e;subst e;rw[h]at h';cases h'
section
variable(P:Program)(w:World)
def ObjOk(H:Hp)(h:Heap)(a:Addr):HO->Prop
 | .lst xs=>xs.length<=sizeLine/\∃ (its:List Value) (n:Nat),Vals xs its/\h.get? a=some { cls:=.type "list",data:=.seq its.toArray n }
 | .tup xs=>xs.length<=sizeLine/\∃ its:List Value,Vals xs its/\IsTup h a its.toArray
 | .dK kvs=>kvs.length<=sizeLine/\(a == sysModules)=false/\∃ vs,KV kvs vs/\h.DictOf (ER P w) a vs
 | .dT kvs=>kvs.length<=sizeLine/\(a == sysModules)=false/\∃ xs:List (List A1 × Addr × Value),
   Paired (λ(p:List A1 × V) (q:List A1 × Addr × Value)=>p.1=q.1/\H q.2.1=some (.tup (p.1.map kV))/\RelV p.2 q.2.2) kvs xs ∧
   ∃ o es ep,h.get? a=some o/\o.ExactDict/\o.data=.dict es ep/\es.toList=xs.map (entryOfKey (tupleKind (ER P w)))/\(xs.map (·.1)).Nodup
 | .set S n=>h.SetOf (intKind P w) a S n
 | .ins C dx fs=>H dx=some (.own a)/\fs.length<=1000/\dx≠a/\h.get? a=some (W.instObj C dx) ∧
   ∃ mA,h.Ns1 dx mA/\(∀ f,RelO (fs.lookup f) (mA f))/\PySem.Within mA (fs.map (·.1))
 | .own _=>∃ o,h.get? a=some o
 | .xd fs=>∃ mA,h.Ns1 a mA/\∀ f,RelO (fs.lookup f) (mA f)
 | .rng lo hi=>∃ t u v,h.get? a=some { cls:=.type "range",data:=.fields #[.int lo t,.int hi u,.int 1 v] }
 | .frz o u=>h.get? a=some o/\ObjOk H h a u
 | .tbl ps=>h.get? a=some { cls:=.none,data:=.fields ps }
 | .met f x=>h.get? a=some (W.methodObj (.ref f) (.ref x))
 | .ext φ => φ h/\(∃ o,h.get? a=some o)/\∀ h1 h2:Heap,φ h1->(∀ o,h1.get? a=some o->h2.get? a=some o)-> φ h2
def HOk(H:Hp)(h:Heap):Prop:=∀ a o,H a=some o->ObjOk P w H h a o
end
section
variable{P:Program}{w:World}{H H':Hp}{h h':Heap}{a:Addr}{o:HO}
theorem ObjOk.lt(x:ObjOk P w H h a o):a<h.objs.size:=by
 cases o with
 | lst xs=>obtain⟨_,_,_,_,e⟩:=x;exact Heap.lt_size e
 | tup xs=>obtain⟨_,_,_,p⟩:=x;exact p.lt
 | dK kvs=>obtain⟨_,_,_,_,o,_,_,e,_⟩:=x;exact Heap.lt_size e
 | dT kvs=>obtain⟨_,_,_,_,o,_,_,e,_⟩:=x;exact Heap.lt_size e
 | set S n=>obtain⟨o,_,_,_,e,_⟩:=x;exact Heap.lt_size e
 | ins C dx fs=>obtain⟨_,_,_,e,_⟩:=x;exact Heap.lt_size e
 | own y=>obtain⟨_,e⟩:=x;exact Heap.lt_size e
 | xd fs=>obtain⟨_,⟨_,_,_,e,_⟩,_⟩:=x;exact Heap.lt_size e
 | rng lo hi=>obtain⟨_,_,_,e⟩:=x;exact Heap.lt_size e
 | frz ob u=>obtain⟨e,_⟩:=x;exact Heap.lt_size e
 | tbl ps=>exact Heap.lt_size (show h.get? a=some _ from x)
 | met f y=>exact Heap.lt_size (show h.get? a=some _ from x)
 | ext φ =>obtain⟨_,⟨_,e⟩,_⟩:=x;exact Heap.lt_size e
theorem Paired.mapP{α β :Type}{F G: α -> β ->Prop}:∀ {l₁:List α} {l₂:List β},Paired F l₁ l₂->(∀ a b,F a b->G a b)->Paired G l₁ l₂
 | _,_,.nil,_=>.nil
 | _,_,.cons r t,f=>.cons (f _ _ r) (Paired.mapP t f)
theorem ObjOk.stay(x:ObjOk P w H h a o)(k:∀ b u,(b=a\/H b=some (.own a))->h.get? b=some u->h'.get? b=some u)
  (ho:∀ b,H b=some (.own a)->H' b=some (.own a)) (ht:∀ b xs,H b=some (.tup xs)->H' b=some (.tup xs)):ObjOk P w H' h' a o:=by
 induction o with
 | lst xs=>obtain⟨z,its,n,r,e⟩:=x;exact⟨z,its,n,r,k _ _ (.inl rfl) e⟩
 | tup xs=>obtain⟨z,its,r,ob,e,c⟩:=x;exact⟨z,its,r,ob,k _ _ (.inl rfl) e,c⟩
 | dK kvs=>obtain⟨z,y,vs,r,ob,es,ep,e,c⟩:=x;exact⟨z,y,vs,r,ob,es,ep,k _ _ (.inl rfl) e,c⟩
 | dT kvs =>
  obtain⟨z,y,xs,r,ob,es,ep,e,c⟩:=x
  exact⟨z,y,xs,Paired.mapP r λp q z=>⟨z.1,ht _ _ z.2.1,z.2.2⟩,ob,es,ep,k _ _ (.inl rfl) e,c⟩
 | set S n=>obtain⟨ob,es,ep,t,e,c⟩:=x;exact⟨ob,es,ep,t,k _ _ (.inl rfl) e,c⟩
 | ins C dx fs =>
  obtain⟨d,z,ne,e,mA,⟨od,es,ep,e2,c⟩,r⟩:=x
  exact⟨ho _ d,z,ne,k _ _ (.inl rfl) e,mA,⟨od,es,ep,k _ _ (.inr d) e2,c⟩,r⟩
 | own y=>obtain⟨ob,e⟩:=x;exact⟨ob,k _ _ (.inl rfl) e⟩
 | xd fs=>obtain⟨mA,⟨od,es,ep,e,c⟩,r⟩:=x;exact⟨mA,⟨od,es,ep,k _ _ (.inl rfl) e,c⟩,r⟩
 | rng lo hi=>obtain⟨t,u,v,e⟩:=x;exact⟨t,u,v,k _ _ (.inl rfl) e⟩
 | frz ob u ih=>obtain⟨e,q⟩:=x;exact⟨k _ _ (.inl rfl) e,ih q⟩
 | tbl ps =>
  have e:h.get? a=some { cls:=.none,data:=.fields ps }:=x
  show h'.get? a=some { cls:=.none,data:=.fields ps }
  exact k a _ (.inl rfl) e
 | met f y =>
  have e:h.get? a=some (W.methodObj (.ref f) (.ref y)):=x
  show h'.get? a=some (W.methodObj (.ref f) (.ref y))
  exact k a _ (.inl rfl) e
 | ext φ =>obtain⟨p,⟨o,e⟩,st⟩:=x;exact⟨st _ _ p λo q=>k _ _ (.inl rfl) q,⟨o,k _ _ (.inl rfl) e⟩,st⟩
theorem HOk.lt(x:HOk P w H h)(e:H a=some o):a<h.objs.size:=(x a o e).lt
theorem HOk.fresh(x:HOk P w H h)(e:h.objs.size<=a):H a=none:=by
 cases q:H a with
 | none=>rfl
 | some u=>exact absurd (Nat.lt_of_lt_of_le (x.lt q) e) (Nat.lt_irrefl _)
theorem HOk.kept(x:HOk P w H h)(k:∀ b u,h.get? b=some u->h'.get? b=some u):HOk P w H h':=λa o e =>
 (x a o e).stay (λb u _ q=>k b u q) (λ_ q=>q) λ_ _ q=>q
theorem HOk.laid(x:HOk P w H h)(k:∀ b u,h.get? b=some u->h'.get? b=some u)(hp:h.objs.size<=a)(new:ObjOk P w (upd H a o) h' a o):HOk P w (upd H a o) h':=λb u e=>by
 have hn:=x.fresh hp
 by_cases hb:b=a
 ·subst hb;rw[AM]at e;cases e;exact new
 ·rw[AO hb]at e
  exact(x b u e).stay (λc v _ q=>k c v q) (λc q=>by rw[AO (BX q hn)];exact q) λc xs q=>by rw[AO (BX q hn)];exact q
end
def Rd(H:Hp)(a:Addr)(u:HO):Prop:=H a=some u\/∃ o,H a=some (.frz o u)
theorem Rd.ok{P:Program}{w:World}{H:Hp}{h:Heap}{a:Addr}{u:HO}(r:Rd H a u)(x:HOk P w H h):ObjOk P w H h a u:=by
 rcases r with r | ⟨o,r⟩
 ·exact x a u r
 ·obtain⟨_,q⟩:=x a _ r
  exact q
def QT:Option HO->Prop
 | some (.lst _)=>True
 | some (.dK _)=>True
 | some (.dT _)=>True
 | some (.set _ _)=>True
 | some (.ins _ _ _)=>True
 | some (.ext _)=>True
 | _=>False
section
variable{P:Program}{w:World}{H:Hp}{h h':Heap}{x e:Addr}{o':HO}
theorem HOk.write(ok:HOk P w H h)(mu:QT (H x))(he:e=x\/H e=some (.own x))(k:∀ b u,b≠e->h.get? b=some u->h'.get? b=some u)(heo:∃ u,h'.get? e=some u)
  (new:ObjOk P w (upd H x o') h' x o'):HOk P w (upd H x o') h':=λb u q=>by
 have nown:∀ c y,H c=some (.own y)->c≠x:=λc y r z=>by subst z;rw[r]at mu;exact mu
 have ntup:∀ c xs,H c=some (.tup xs)->c≠x:=λc xs r z=>by subst z;rw[r]at mu;exact mu
 by_cases hb:b=x
 ·subst hb;rw[AM]at q;cases q;exact new
 ·rw[AO hb]at q
  by_cases hbe:b=e
  ·have q':H b=some (.own x):=by
    rcases he with z | z
    ·exact absurd (hbe.trans z) hb
    ·rw[hbe];exact z
   rw[q]at q';cases q'
   obtain⟨v,hv⟩:=heo
   exact⟨v,by rw[hbe];exact hv⟩
  ·refine(ok b u q).stay (λc v hc r=>k c v ?_ r) (λc r=>by rw[AO (nown c b r)];exact r) λc xs r=>by rw[AO (ntup c xs r)];exact r
   rcases hc with rfl | hc
   ·exact hbe
   ·rintro rfl
    rcases he with z | z
    ·exact nown c b hc z
    ·rw[hc]at z;cases z;exact hb rfl
end
structure Un(fs ex:List Addr)(H H':Hp)(h h':Heap):Prop where
 keep:∀ b o,h.get? b=some o->H b=none->b∉fs->b∉ex->h'.get? b=some o
 slot:∀ b o,h.get? b=some o->H b=none->b∈fs->b∉ex->∃ sl,h'.get? b=some { o with slots:=sl }
 free:∀ b o,h.get? b=some o->H b=none->b∉ex->H' b=none
 there:∀ b o,h.get? b=some o->b∉ex->∃ o',h'.get? b=some o'
 tups:∀ b xs,H b=some (.tup xs)->H' b=some (.tup xs)
 frzs:∀ b o u,H b=some (.frz o u)->H' b=some (.frz o u)
 tbls:∀ b ps,H b=some (.tbl ps)->∃ more,H' b=some (.tbl (ps++more))
section
variable{fs fs' ex EY:List Addr}{H H1 H2:Hp}{h h1 h2 h':Heap}{a x e:Addr}{o:HO}
theorem Un.any(u:Un fs ex H H1 h h1){b:Addr}{ob:Obj}(q:h.get? b=some ob)(n:H b=none)(hx:b∉ex):∃ sl,h1.get? b=some { ob with slots:=sl }:=by
 by_cases hb:b∈fs
 ·exact u.slot b ob q n hb hx
 ·exact⟨ob.slots,u.keep b ob q n hb hx⟩
theorem Un.kept(k:∀ b u,h.get? b=some u->h'.get? b=some u):Un fs ex H H h h' :=
 ⟨λb ob q _ _ _=>k b ob q,λb ob q _ _ _=>⟨ob.slots,k b ob q⟩,λ_ _ _ n _=>n,λb ob q _=>⟨ob,k b ob q⟩,λ_ _ q=>q,λ_ _ _ q=>q,λ_ ps q=>⟨#[],by rw[q];simp⟩⟩
theorem Un.refl:Un fs ex H H h h:=Un.kept λ_ _ q=>q
theorem Un.laid(k:∀ b u,h.get? b=some u->h'.get? b=some u)(hp:h.objs.size<=a)(hn:H a=none):Un fs ex H (upd H a o) h h' where
 keep:=λb u q _ _ _=>k b u q
 slot:=λb u q _ _ _=>⟨u.slots,k b u q⟩
 free:=λb u q n _=>by rw[AO (Nat.ne_of_lt (Nat.lt_of_lt_of_le (Heap.lt_size q) hp))];exact n
 there:=λb u q _=>⟨u,k b u q⟩
 tups:=λb xs q=>by rw[AO (BX q hn)];exact q
 frzs:=λb u xs q=>by rw[AO (BX q hn)];exact q
 tbls:=λb ps q=>⟨#[],by rw[AO (BX q hn),q];simp⟩
theorem Un.write(mu:QT (H x))(he:e=x\/H e=some (.own x))(k:∀ b u,b≠e->h.get? b=some u->h'.get? b=some u)(heo:∃ u,h'.get? e=some u):Un fs ex H (upd H x o) h h':=by
 have hx:∀ b,H b=none->b≠x:=λb n z=>by subst z;rw[n]at mu;exact mu
 have hb:∀ b,H b=none->b≠e:=λb n z=>by
  subst z
  rcases he with r | r
  ·exact hx b n r
  ·rw[n]at r;cases r
 have hm:∀ b u,H b=some u->¬ QT (some u)->b≠x:=λb u q nm z=>by subst z;rw[q]at mu;exact nm mu
 refine⟨λb u q n _ _=>k b u (hb b n) q,λb u q n _ _=>⟨u.slots,k b u (hb b n) q⟩,λb u q n _=>by rw[AO (hx b n)];exact n,λb u q _=> ?_,
  λb xs q=>by rw[AO (hm b _ q λz=>z)];exact q,λb u xs q=>by rw[AO (hm b _ q λz=>z)];exact q,λb ps q=>⟨#[],by rw[AO (hm b _ q λz=>z),q];simp⟩⟩
 by_cases hbe:b=e
 ·subst hbe;exact heo
 ·exact⟨u,k b u hbe q⟩
end
def SS(h:Heap)(H:Hp):List Addr:=(List.range h.objs.size).filter λa=>(H a).isSome
def KG(h:Heap)(H:Hp):Heap:=W.hideAll h (SS h H)
theorem Bg(h:Heap)(H:Hp):(KG h H).objs.size=h.objs.size:=W.hideAll_size _ _
theorem Bh{h:Heap}{H:Hp}{b:Addr}{o:Obj}(e:h.get? b=some o)(n:H b=none):(KG h H).get? b=some o :=
 W.hideAll_get _ e λhm=>by
  have q:(H b).isSome=true:=(List.mem_filter.mp hm).2
  rw[n]at q;simp at q
theorem Bj{h:Heap}{H:Hp}{b:Addr}{o:Obj}(e:(KG h H).get? b=some o):h.get? b=some o/\H b=none:=by
 have e':h.get? b=some o:=W.of_hideAll (SS h H) e
 refine⟨e',?_⟩
 cases q:H b with
 | none=>rfl
 | some x =>
  have hm:b∈SS h H:=List.mem_filter.mpr ⟨List.mem_range.mpr (Heap.lt_size e'),by simp[q]⟩
  have z:(KG h H).get? b=none:=W.hideAll_none (SS h H) hm
  rw[z]at e;cases e
def Bk(g h:Heap)(L:Addr):List (Addr × Obj):=(List.range h.objs.size).filterMap λa=>if a=L\/(g.get? a).isSome=true then none else(h.get? a).map λo=>(a,o)
def DS(g h:Heap)(L d:Addr):List (Addr × Obj):=(Bk g h L).filter λp=>decide (p.1≠d)
end L2
namespace L2
structure Mod(K:W.Frag)(mg:Str->Option Value)(base:Heap):Prop where
 kin:K.In base
 glob:base.Ns mainGlobals mg
 blt:∃ mb,base.Ns builtinsNs mb/\∀ x:Str,x≠"__name__"->mb x=bootBuiltins x
 nolimit:base.NoLimit
structure Cx where
 prog:Program
 w:World
 K:W.Frag
 mg:Str->Option Value
 base:Heap
 A:Around
 N:List Str
 s₀:Shared
 H₀:Hp
 env:Env
 outer:List Env
 stack:List Env
 ex:List Addr
 fn:Str->Bool
 calm:Bool
 pn:List (Addr × Obj)
 xe:Value->Shared->Prop
def E9(l:List Env):List Addr:=l.filterMap (·.frame)
abbrev Cx.fs(X:Cx):List Addr:=E9 X.outer
def ST(sc:Scope)(x:Str):Prop:=sc.names.lookup x=some .local\/sc.names.lookup x=some .cell\/sc.names.lookup x=some .free
def NU(sc:Scope)(x:Str):Prop:=sc.names.lookup x=some .local\/sc.names.lookup x=some .cell
def Bl(env:Env)(h:Heap)(m:Str->Option Value)(x:Str)(u:Value):Prop :=
 (env.kindOf x=some .local/\m x=some u)\/((env.kindOf x=some .cell\/env.kindOf x=some .free)/\∃ c,env.cells.lookup x=some c/\h.IsCell c (some u))
structure Cx.Ok(X:Cx):Prop where
 mod:Mod X.K X.mg X.base
 kind:X.env.scope.kind=.function
 glob:X.env.globals=mainGlobals
 blt:X.env.builtins=builtinsNs
 above:X.s₀.heap.objs.size<=X.env.locals
 inj:∀ x y c,X.env.cells.lookup x=some c->X.env.cells.lookup y=some c->x=y
 has:∀ x,(X.env.kindOf x=some .cell\/X.env.kindOf x=some .free)->∃ c,X.env.cells.lookup x=some c
 cab:∀ x c,X.fn x=true->X.env.cells.lookup x=some c->X.s₀.heap.objs.size<=c
 hd:X.calm=true->X.A.handled=none
 frames:X.A.frames=some X.stack
 stk:X.stack=X.outer\/(X.stack=X.env::X.outer/\X.env.frame=some X.env.locals)
 exf:∀ b∈X.ex,b≠X.env.locals/\∀ x c,X.env.cells.lookup x=some c->c≠b
 bs:∀ b o,X.base.get? b=some o->X.s₀.heap.get? b=some o/\X.H₀ b=none
 bsz:X.base.objs.size<=X.s₀.heap.objs.size
 noex:∀ b o,X.base.get? b=some o->b∉X.ex
 exfs:∀ b∈X.ex,b∉X.fs
 funs:X.s₀.heap.FunFrames X.base X.outer
 frf:∀ b∈X.fs,X.H₀ b=none
structure Inv(X:Cx)(AB:List (Addr × Obj))(σ:List (Option V))(H:Hp)(s:Shared):Prop where
 ok:X.Ok
 os:s.os=X.s₀.os
 bare:AllBare s.gens
 base:Un X.fs X.ex X.H₀ H X.s₀.heap s.heap
 loc:∃ m,s.heap.Ns X.env.locals m/\∀ (i:Nat) (x:Str) (v:V),X.N[i]? =some x->σ[i]? =some (some v)->ST X.env.scope x->∃ u,RelV v u/\Bl X.env s.heap m x u
 cell:∀ x c,X.env.cells.lookup x=some c->∃ v,s.heap.IsCell c v
 free:H X.env.locals=none
 freeC:∀ x c,X.env.cells.lookup x=some c->H c=none
 pin:∀ p∈X.pn++AB,s.heap.get? p.1=some p.2/\H p.1=none/\p.1≠X.env.locals/\p.1∉X.fs/\∀ v,p.2.data≠.cell v
 hok:HOk X.prog X.w H s.heap
 len:σ.length=X.N.length
section
variable{X:Cx}{AB:List (Addr × Obj)}{σ:List (Option V)}{H H':Hp}{s:Shared}{h':Heap}
theorem Cx.Ok.nofr(ok:X.Ok){b:Addr}{o:Obj}(e:X.base.get? b=some o):b∉X.fs:=λhb=>by
 have:=(ok.funs.mem hb).1
 rw[e]at this;cases this
theorem Inv.bs(I:Inv X AB σ H s):∀ b o,X.base.get? b=some o->s.heap.get? b=some o/\H b=none:=λb o e =>
 ⟨I.base.keep b o (I.ok.bs b o e).1 (I.ok.bs b o e).2 (I.ok.nofr e) (I.ok.noex b o e),I.base.free b o (I.ok.bs b o e).1 (I.ok.bs b o e).2 (I.ok.noex b o e)⟩
theorem Inv.bk(I:Inv X AB σ H s):∀ b o,X.base.get? b=some o->s.heap.get? b=some o:=λb o e=>(I.bs b o e).1
theorem Inv.mod(I:Inv X AB σ H s):Mod X.K X.mg X.base:=I.ok.mod
theorem Inv.kIn(I:Inv X AB σ H s):X.K.In s.heap:=I.ok.mod.kin.keeps I.bk
theorem Inv.lt(I:Inv X AB σ H s):X.env.locals<s.heap.objs.size:=let ⟨_,hn,_⟩:=I.loc;hn.lt
theorem Inv.sz(I:Inv X AB σ H s):X.s₀.heap.objs.size<=s.heap.objs.size:=Nat.le_trans I.ok.above (Nat.le_of_lt I.lt)
theorem Inv.nofs(I:Inv X AB σ H s){a:Addr}(h:s.heap.objs.size<=a):a∉X.fs:=λhb=>by
 obtain⟨_,o,ho,_⟩:=I.ok.funs.mem hb
 exact absurd (Nat.lt_of_lt_of_le (Heap.lt_size ho) (Nat.le_trans I.sz h)) (Nat.lt_irrefl _)
theorem Inv.cne(I:Inv X AB σ H s):∀ x c,X.env.cells.lookup x=some c->c≠X.env.locals:=λx c e z=>by
 obtain⟨v,o,ho,hd⟩:=I.cell x c e
 obtain⟨m,⟨o',es,ep,ho',hd',_⟩,_⟩:=I.loc
 rw[z,ho']at ho;cases ho;rw[hd']at hd;cases hd
theorem Inv.funs(I:Inv X AB σ H s):s.heap.FunFrames X.base X.outer:=by
 have all:∀ (l:List Env),(∀ b∈E9 l,b∈X.fs)->X.s₀.heap.FunFrames X.base l->s.heap.FunFrames X.base l:=by
  intro l
  induction l with
  | nil=>intro _ _;trivial
  | cons env r ih =>
   intro hs hl
   obtain⟨hk,⟨L,o,hf,hn,ho,hd⟩,hr⟩:=hl
   have hL:L∈X.fs:=hs L (by unfold E9;rw[List.filterMap_cons,hf];exact List.mem_cons_self)
   obtain⟨sl,e⟩:=I.base.slot L o ho (I.ok.frf L hL) hL λz=>I.ok.exfs L z hL
   exact⟨hk,⟨L,_,hf,hn,e,hd⟩,ih (λb hb=>hs b (by unfold E9;rw[List.filterMap_cons,hf];exact List.mem_cons_of_mem _ hb)) hr⟩
 exact all X.outer (λ_ hb=>hb) I.ok.funs
theorem Inv.stack(I:Inv X AB σ H s):s.heap.FunFrames X.base X.stack:=by
 rcases I.ok.stk with e | ⟨e,hf⟩
 ·rw[e];exact I.funs
 ·rw[e]
  obtain⟨m,hn,_⟩:=I.loc
  refine .cons (by rw[I.ok.kind];decide) hf hn ?_ I.funs
  exact Heap.get?_none_of_le (Nat.le_trans I.ok.bsz I.ok.above)
theorem Inv.stkSub(I:Inv X AB σ H s):∀ b∈E9 X.stack,b∈X.env.locals::X.fs:=λb hb=>by
 rcases I.ok.stk with e | ⟨e,hf⟩
 ·rw[e]at hb;exact List.mem_cons_of_mem _ hb
 ·rw[e]at hb
  unfold E9 at hb
  rw[List.filterMap_cons,hf]at hb
  exact hb
theorem Inv.stkFree(I:Inv X AB σ H s):∀ b∈E9 X.stack,H b=none:=λb hb=>by
 rcases List.mem_cons.mp (I.stkSub b hb)with e | hb
 ·rw[e];exact I.free
 ·obtain⟨_,o,ho,_⟩:=I.ok.funs.mem hb
  exact I.base.free b o ho (I.ok.frf b hb) λz=>I.ok.exfs b z hb
theorem Inv.step{g':Array GenState}{t':Nat}{d':Drawn}{ch:List Addr}(I:Inv X AB σ H s)
  (E8:∀ b∈ch,(b∈X.ex\/X.s₀.heap.objs.size<=b)/\b≠X.env.locals/\(∀ x c,X.env.cells.lookup x=some c->c≠b)/\∀ p∈X.pn++AB,p.1≠b)
  (keep:∀ b o,b≠X.env.locals->b∉X.fs->b∉ch->s.heap.get? b=some o->H b=none->h'.get? b=some o)
  (slot:∀ b o,b≠X.env.locals->b∈X.fs->b∉ch->s.heap.get? b=some o->H b=none->∃ sl,h'.get? b=some { o with slots:=sl }) (free:∀ b o,b∉ch->s.heap.get? b=some o->H b=none->H' b=none)
  (there:∀ b o,b∉ch->s.heap.get? b=some o->∃ o',h'.get? b=some o')
  (tups:∀ b xs,H b=some (.tup xs)->H' b=some (.tup xs)) (frzs:∀ b o u,H b=some (.frz o u)->H' b=some (.frz o u)) (tbls:∀ b ps,H b=some (.tbl ps)->∃ more,H' b=some (.tbl (ps++more)))
  (ns:∀ m,s.heap.Ns X.env.locals m->h'.Ns X.env.locals m) (hok:HOk X.prog X.w H' h') (hg:AllBare g') :
  Inv X AB σ H' { s with heap:=h',gens:=g',drawn:=d',toks:=t' }:=by
 have neL:∀ b o,X.s₀.heap.get? b=some o->b≠X.env.locals:=λb o e=>Nat.ne_of_lt (Nat.lt_of_lt_of_le (Heap.lt_size e) I.ok.above)
 have neC:∀ b o,X.s₀.heap.get? b=some o->b∉X.ex->b∉ch:=λb o e hx hb=>by
  rcases(E8 b hb).1 with z | z
  ·exact hx z
  ·exact absurd (Nat.lt_of_lt_of_le (Heap.lt_size e) z) (Nat.lt_irrefl _)
 have cellK:∀ x c,X.env.cells.lookup x=some c->∀ v,s.heap.IsCell c v->h'.IsCell c v:=λx c e v ⟨o,ho,hd⟩=>by
  have nch:c∉ch:=λz=>(E8 c z).2.2.1 x c e rfl
  by_cases hc:c∈X.fs
  ·obtain⟨sl,q⟩:=slot c o (I.cne x c e) hc nch ho (I.freeC x c e)
   exact⟨_,q,hd⟩
  ·exact⟨o,keep c o (I.cne x c e) hc nch ho (I.freeC x c e),hd⟩
 refine⟨I.ok,I.os,hg,⟨λb o e n hb hx=> ?_,λb o e n hb hx=> ?_,λb o e n hx=> ?_,λb o e hx=> ?_,λb xs e=>tups b xs (I.base.tups b xs e),λb o xs e=>frzs b o xs (I.base.frzs b o xs e),λb ps e=> ?_⟩,?_,λx c e=> ?_,?_,λx c e=> ?_,λp hp=> ?_,hok,I.len⟩
 ·exact keep b o (neL b o e) hb (neC b o e hx) (I.base.keep b o e n hb hx) (I.base.free b o e n hx)
 ·obtain⟨sl,e1⟩:=I.base.slot b o e n hb hx
  obtain⟨sl',e2⟩:=slot b _ (neL b o e) hb (neC b o e hx) e1 (I.base.free b o e n hx)
  exact⟨sl',e2⟩
 ·obtain⟨o',e1⟩:=I.base.there b o e hx
  exact free b o' (neC b o e hx) e1 (I.base.free b o e n hx)
 ·obtain⟨o',e1⟩:=I.base.there b o e hx
  exact there b o' (neC b o e hx) e1
 ·obtain⟨m1,e1⟩:=I.base.tbls b ps e
  obtain⟨m2,e2⟩:=tbls b _ e1
  exact⟨m1++m2,by rw[e2,Array.append_assoc]⟩
 ·obtain⟨m,hn,hl⟩:=I.loc
  refine⟨m,ns m hn,λi x v e1 e2 e3=> ?_⟩
  obtain⟨u,r,l⟩:=hl i x v e1 e2 e3
  refine⟨u,r,?_⟩
  rcases l with l | ⟨k,c,e,z⟩
  ·exact .inl l
  ·exact .inr ⟨k,c,e,cellK x c e _ z⟩
 ·obtain⟨v,z⟩:=I.cell x c e
  exact⟨v,cellK x c e v z⟩
 ·obtain⟨m,⟨o,_,_,ho,_⟩,_⟩:=I.loc
  exact free _ o (λz=>(E8 _ z).2.1 rfl) ho I.free
 ·obtain⟨v,o,ho,hd⟩:=I.cell x c e
  exact free c o (λz=>(E8 c z).2.2.1 x c e rfl) ho (I.freeC x c e)
 ·obtain⟨e,n,ne,nf,d⟩:=I.pin p hp
  have nch:p.1∉ch:=λz=>(E8 p.1 z).2.2.2 p hp rfl
  exact⟨keep p.1 p.2 ne nf nch e n,free p.1 p.2 nch e n,ne,nf,d⟩
theorem Inv.un{t':Nat}(I:Inv X AB σ H s)(u:Un X.fs [] H H' s.heap h')(hok:HOk X.prog X.w H' h'):Inv X AB σ H' { s with heap:=h',toks:=t' }:=by
 obtain⟨m,⟨o,es,ep,ho,r⟩,_⟩:=id I.loc
 obtain⟨sl,hL⟩:=u.any ho I.free (by simp)
 exact I.step (g':=s.gens) (d':=s.drawn) (ch:=[]) (λ_ z=>nomatch z) (λb o _ hb _ e n=>u.keep b o e n hb (by simp)) (λb o _ hb _ e n=>u.slot b o e n hb (by simp)) (λb o _ e n=>u.free b o e n (by simp)) (λb o _ e=>u.there b o e (by simp)) u.tups u.frzs u.tbls (λm' hm=>by
  obtain⟨o',es',ep',ho',r'⟩:=hm
  rw[ho]at ho';cases ho'
  exact⟨_,es',ep',hL,r'⟩) hok I.bare
theorem Inv.call{g':Array GenState}{t':Nat}{d':Drawn}{ch:List Addr}(I:Inv X AB σ H s)(u:Un (E9 X.stack) ch H H' s.heap h')(hok:HOk X.prog X.w H' h')(hg:AllBare g')
  (E8:∀ b∈ch,(b∈X.ex\/X.s₀.heap.objs.size<=b)/\b≠X.env.locals/\(∀ x c,X.env.cells.lookup x=some c->c≠b)/\∀ p∈X.pn++AB,p.1≠b) :
  Inv X AB σ H' { s with heap:=h',gens:=g',drawn:=d',toks:=t' }:=by
 obtain⟨m,⟨o,es,ep,ho,r⟩,_⟩:=id I.loc
 obtain⟨sl,hL⟩:=u.any ho I.free λz=>(E8 _ z).2.1 rfl
 exact I.step (ch:=ch) E8 (λb o hL hb hc e n=>u.keep b o e n (λz=>(List.mem_cons.mp (I.stkSub b z)).elim hL hb) hc) (λb o _ _ hc e n=>u.any e n hc) (λb o hc e n=>u.free b o e n hc) (λb o hc e=>u.there b o e hc) u.tups u.frzs u.tbls (λm' hm=>by
  obtain⟨o',es',ep',ho',r'⟩:=hm
  rw[ho]at ho';cases ho'
  exact⟨_,es',ep',hL,r'⟩) hok hg
theorem Inv.turned{t':Nat}{it:Addr}(I:Inv X AB σ H s)(k:∀ b o,b≠it->s.heap.get? b=some o->h'.get? b=some o)(hn:H it=none)(hL:it≠X.env.locals)
  (h1:it∈X.ex\/X.s₀.heap.objs.size<=it) (h2:∀ x c,X.env.cells.lookup x=some c->c≠it) (h3:∀ p∈X.pn++AB,p.1≠it):Inv X AB σ H { s with heap:=h',toks:=t' }:=by
 have nit:∀ b u,H b=some u->b≠it:=λb u e z=>by rw[z,hn]at e;cases e
 refine I.step (g':=s.gens) (d':=s.drawn) (ch:=[it]) (λb hb=> ?_) (λb o _ _ hc e _=>k b o (λz=>hc (by simp[z])) e) (λb o _ _ hc e _=>⟨o.slots,k b o (λz=>hc (by simp[z])) e⟩) (λ_ _ _ _ n=>n)
  (λb o hc e=>⟨o,k b o (λz=>hc (by simp[z])) e⟩) (λ_ _ e=>e) (λ_ _ _ e=>e) (λb ps e=>⟨#[],by rw[e];simp⟩) (λm hm=> ?_) (λb u e=> ?_) I.bare
 ·have e:b=it:=by simpa using hb
  subst e
  exact⟨h1,hL,h2,h3⟩
 ·obtain⟨o,es,ep,ho,r⟩:=hm
  exact⟨o,es,ep,k _ o (Ne.symm hL) ho,r⟩
 ·refine(I.hok b u e).stay (λc v hc q=>k c v ?_ q) (λ_ q=>q) λ_ _ q=>q
  rcases hc with z | z
  ·rw[z];exact nit b u e
  ·exact nit c _ z
theorem Inv.tok(I:Inv X AB σ H s)(t:Nat):Inv X AB σ H { s with toks:=t }:=I.un (h':=s.heap) (t':=t) Un.refl I.hok
theorem Inv.kept{t':Nat}(I:Inv X AB σ H s)(k:∀ b u,s.heap.get? b=some u->h'.get? b=some u):Inv X AB σ H { s with heap:=h',toks:=t' }:=I.un (Un.kept k) (I.hok.kept k)
theorem Inv.laid{a:Addr}{o:HO}{t':Nat}(I:Inv X AB σ H s)(k:∀ b u,s.heap.get? b=some u->h'.get? b=some u)(hp:s.heap.objs.size<=a)(new:ObjOk X.prog X.w (upd H a o) h' a o) :
  Inv X AB σ (upd H a o) { s with heap:=h',toks:=t' }:=I.un (Un.laid k hp (I.hok.fresh hp)) (I.hok.laid k hp new)
theorem Inv.write{x e:Addr}{o:HO}{t':Nat}(I:Inv X AB σ H s)(mu:QT (H x))(he:e=x\/H e=some (.own x))(k:∀ b u,b≠e->s.heap.get? b=some u->h'.get? b=some u)(heo:∃ u,h'.get? e=some u)
  (new:ObjOk X.prog X.w (upd H x o) h' x o):Inv X AB σ (upd H x o) { s with heap:=h',toks:=t' }:=I.un (Un.write mu he k heo) (I.hok.write mu he k heo new)
theorem Inv.pins_of{pins':List (Addr × Obj)}(I:Inv X AB σ H s)(h:∀ p∈pins',s.heap.get? p.1=some p.2/\H p.1=none/\p.1≠X.env.locals/\p.1∉X.fs/\∀ v,p.2.data≠.cell v):Inv X pins' σ H s :=
 ⟨I.ok,I.os,I.bare,I.base,I.loc,I.cell,I.free,I.freeC,λp hp=>(List.mem_append.mp hp).elim (λz=>I.pin p (List.mem_append_left _ z)) (h p),I.hok,I.len⟩
theorem WF{N:List Str}(hN:N.Nodup){i j:Nat}{x:Str}(a:N[i]? =some x)(b:N[j]? =some x):i=j:=by
 obtain⟨h1,e1⟩:=List.getElem?_eq_some_iff.mp a
 obtain⟨h2,e2⟩:=List.getElem?_eq_some_iff.mp b
 exact(List.getElem_inj hN).mp (e1.trans e2.symm)
theorem hG{M:Model}{A:Around}{E:Value->Shared->Prop}{i:Nat}{x:Str}{v:V}{u:Value}{Q:Unit->Shared->Prop}(I:Inv X AB σ H s)(hN:X.N.Nodup)(hi:X.N[i]? =some x)(hx:NU X.env.scope x)(r:RelV v u)
  (h:∀ s',Inv X AB (σ.set i (some v)) H s'->(∃ a,Heap.SameBut a s.heap s'.heap/\(a=X.env.locals\/X.env.cells.lookup x=some a))->Q () s') (hf:X.fn x=true\/X.env.scope.names.lookup x=some .local:=by first | exact .inl rfl | exact .inr rfl | assumption):wpAny M A (storeName X.env x u) Q E s:=by
 obtain⟨m,hn,hl⟩:=id I.loc
 have MG:(X.env.scope.kind == .class || (X.env.scope.kind == .module && X.env.locals != X.env.globals))=false:=by rw[I.ok.kind];rfl
 have hiσ:i<σ.length:=by rw[I.len];exact(List.getElem?_eq_some_iff.mp hi).1
 have cne:=I.cne
 have tracked:∀ {a:Addr} {h':Heap},(∃ o,s.heap.get? a=some o/\H a=none)->Heap.SameBut a s.heap h'->HOk X.prog X.w H h':=λ{a h'} ha hs b ob e=>by
  obtain⟨_,_,hfree⟩:=ha
  refine(I.hok b ob e).stay (λc w' hc q=>(hs.2 c ?_).trans q) (λ_ q=>q) λ_ _ q=>q
  rintro rfl
  rcases hc with rfl | hc
  ·rw[hfree]at e;cases e
  ·rw[hfree]at hc;cases hc
 rcases hx with hk | hk
 ·refine wpAny_storeName_local hk hn (λh' hn' hs=> ?_) MG
  obtain⟨oL,_,_,hoL,_⟩:=id hn
  refine h _ ⟨I.ok,I.os,I.bare,⟨λb o e n hb hx=> ?_,λb o e n hb hx=> ?_,I.base.free,λb o e hx=> ?_,I.base.tups,I.base.frzs,I.base.tbls⟩,⟨_,hn',λj y v' e1 e2 e3=> ?_⟩,λy c e=> ?_,I.free,I.freeC,λp hp=> ?_,tracked ⟨oL,hoL,I.free⟩ hs,by simpa using I.len⟩ ⟨_,hs,.inl rfl⟩
  ·exact(hs.2 b (Nat.ne_of_lt (Nat.lt_of_lt_of_le (Heap.lt_size e) I.ok.above))).trans (I.base.keep b o e n hb hx)
  ·obtain⟨sl,e1⟩:=I.base.slot b o e n hb hx
   exact⟨sl,(hs.2 b (Nat.ne_of_lt (Nat.lt_of_lt_of_le (Heap.lt_size e) I.ok.above))).trans e1⟩
  ·obtain⟨o',e1⟩:=I.base.there b o e hx
   exact⟨o',(hs.2 b (Nat.ne_of_lt (Nat.lt_of_lt_of_le (Heap.lt_size e) I.ok.above))).trans e1⟩
  ·by_cases hj:j=i
   ·subst hj
    rw[hi]at e1;cases e1
    rw[List.getElem?_set_self hiσ]at e2
    cases e2
    exact⟨u,r,.inl ⟨hk,by simp⟩⟩
   ·rw[List.getElem?_set_ne (Ne.symm hj)]at e2
    obtain⟨u',r',q⟩:=hl j y v' e1 e2 e3
    refine⟨u',r',?_⟩
    rcases q with⟨k,e⟩ | ⟨k,c,e,z⟩
    ·refine .inl ⟨k,?_⟩
     have:y≠x:=λe=>hj (WF hN e1 (e ▸ hi))
     simp[this,e]
    ·exact .inr ⟨k,c,e,z.sameBut hs (cne y c e)⟩
  ·obtain⟨w',z⟩:=I.cell y c e
   exact⟨w',z.sameBut hs (cne y c e)⟩
  ·obtain⟨e,n,ne,nf,d⟩:=I.pin p hp
   exact⟨(hs.2 p.1 ne).trans e,n,ne,nf,d⟩
 ·have hfn:X.fn x=true:=by
   rcases hf with z | z
   ·exact z
   ·rw[z]at hk;cases hk
  obtain⟨c,hc⟩:=I.ok.has x (.inl hk)
  obtain⟨w',z⟩:=I.cell x c hc
  refine wpAny_storeName_cell I.ok.kind hk hc z (λh' hc' hs=> ?_)
  obtain⟨oc,hoc,hocd⟩:=id z
  refine h { s with heap:=h' } ⟨I.ok,I.os,I.bare,⟨λb o e n hb hx=> ?_,λb o e n hb hx=> ?_,I.base.free,λb o e hx=> ?_,I.base.tups,I.base.frzs,I.base.tbls⟩,⟨m,hn.sameBut hs (Ne.symm (cne x c hc)),λj y v' e1 e2 e3=> ?_⟩,λy c' e=> ?_,I.free,I.freeC,λp hp=> ?_,tracked ⟨oc,hoc,I.freeC x c hc⟩ hs,by simpa using I.len⟩ ⟨c,hs,.inr hc⟩
  ·exact(hs.2 b (Nat.ne_of_lt (Nat.lt_of_lt_of_le (Heap.lt_size e) (I.ok.cab x c hfn hc)))).trans (I.base.keep b o e n hb hx)
  ·obtain⟨sl,e1⟩:=I.base.slot b o e n hb hx
   exact⟨sl,(hs.2 b (Nat.ne_of_lt (Nat.lt_of_lt_of_le (Heap.lt_size e) (I.ok.cab x c hfn hc)))).trans e1⟩
  ·obtain⟨o',e1⟩:=I.base.there b o e hx
   exact⟨o',(hs.2 b (Nat.ne_of_lt (Nat.lt_of_lt_of_le (Heap.lt_size e) (I.ok.cab x c hfn hc)))).trans e1⟩
  ·by_cases hj:j=i
   ·subst hj
    rw[hi]at e1;cases e1
    rw[List.getElem?_set_self hiσ]at e2
    cases e2
    exact⟨u,r,.inr ⟨.inl hk,c,hc,hc'⟩⟩
   ·rw[List.getElem?_set_ne (Ne.symm hj)]at e2
    obtain⟨u',r',q⟩:=hl j y v' e1 e2 e3
    refine⟨u',r',?_⟩
    rcases q with q | ⟨k,c',e,z'⟩
    ·exact .inl q
    ·refine .inr ⟨k,c',e,z'.sameBut hs ?_⟩
     rintro rfl
     exact hj (WF hN e1 (I.ok.inj _ _ _ e hc ▸ hi))
  ·by_cases hcc:c'=c
   ·subst hcc;exact⟨_,hc'⟩
   ·obtain⟨w2,z2⟩:=I.cell y c' e
    exact⟨w2,z2.sameBut hs hcc⟩
  ·obtain⟨e,n,ne,nf,d⟩:=I.pin p hp
   refine⟨(hs.2 p.1 ?_).trans e,n,ne,nf,d⟩
   intro q
   rw[q,hoc]at e
   have q':oc=p.2:=Option.some.inj e
   exact d w' (by rw[<-q'];exact hocd)
theorem SU{M:Model}{A:Around}{E:Value->Shared->Prop}{i:Nat}{x:Str}{v:V}{u:Value}{Q:Unit->Shared->Prop}(I:Inv X AB σ H s)(hN:X.N.Nodup)(hi:X.N[i]? =some x)(hx:NU X.env.scope x)(r:RelV v u)
  (h:∀ s',Inv X AB (σ.set i (some v)) H s'->Q () s') (hf:X.fn x=true\/X.env.scope.names.lookup x=some .local:=by first | exact .inl rfl | exact .inr rfl | assumption):wpAny M A (storeName X.env x u) Q E s :=
 hG I hN hi hx r (λs' I' _=>h s' I') hf
theorem Inv.call'{s':Shared}{ch:List Addr}(I:Inv X AB σ H s)(ho:s'.os=s.os)(u:Un (E9 X.stack) ch H H' s.heap s'.heap)(hok:HOk X.prog X.w H' s'.heap)(hg:AllBare s'.gens)
  (E8:∀ b∈ch,(b∈X.ex\/X.s₀.heap.objs.size<=b)/\b≠X.env.locals/\(∀ x c,X.env.cells.lookup x=some c->c≠b)/\∀ p∈X.pn++AB,p.1≠b):Inv X AB σ H' s':=by
 obtain⟨h',g',d',t',o'⟩:=s'
 have e:o'=s.os:=ho
 subst e
 exact I.call (g':=g') (t':=t') (d':=d') u hok hg E8
end
abbrev XK:=Value->Option Addr->Hp->Prop
abbrev St:=List (Option V)
abbrev VK:=V->Hp->Prop
abbrev TE:=St->Hp->VK->Prop
abbrev TT:=St->Hp->(Bool->Hp->Prop)->Prop
abbrev TA:=St->Hp->(List V->Hp->Prop)->Prop
structure Ends where
 nx:St->Hp->Prop
 rt:VK
 bk:St->Hp->Prop:=λ_ _=>False
 ct:St->Hp->Prop:=λ_ _=>False
abbrev TS:=Ends->St->Hp->Prop
def EP(X:Cx)(AB:List (Addr × Obj))(σ:St)(Q:VK)(u:Value)(s':Shared):Prop:=∃ v H',Inv X AB σ H' s'/\RelV v u/\Q v H'
def TP(X:Cx)(AB:List (Addr × Obj))(σ:St)(Q:Bool->Hp->Prop)(b:Bool)(s':Shared):Prop:=∃ H',Inv X AB σ H' s'/\Q b H'
def AP(X:Cx)(AB:List (Addr × Obj))(σ:St)(Q:List V->Hp->Prop)(us:List Value)(s':Shared):Prop:=∃ vs H',Inv X AB σ H' s'/\Vals vs us/\Q vs H'
def SP(X:Cx)(AB:List (Addr × Obj))(D:Ends)(f:Flow)(s':Shared):Prop :=
 match f with
 | .next=>∃ σ' H',Inv X AB σ' H' s'/\D.nx σ' H'
 | .brk=>∃ σ' H',Inv X AB σ' H' s'/\D.bk σ' H'
 | .cont=>∃ σ' H',Inv X AB σ' H' s'/\D.ct σ' H'
 | .ret u=>∃ v σ' H',Inv X AB σ' H' s'/\RelV v u/\D.rt v H'
def PE(X:Cx)(e:Expr)(t:TE):Prop :=
 ∀ (AB:List (Addr × Obj)) (s:Shared) (σ:St) (H:Hp) (Q:VK),Inv X AB σ H s->t σ H Q->wpAny (model X.prog X.w) X.A (eval e X.env) (EP X AB σ Q) X.xe s
def PT(X:Cx)(e:Expr)(t:TT):Prop :=
 ∀ (AB:List (Addr × Obj)) (s:Shared) (σ:St) (H:Hp) (Q:Bool->Hp->Prop),Inv X AB σ H s->t σ H Q->wpAny (model X.prog X.w) X.A (isTrue e X.env (eval e X.env)) (TP X AB σ Q) X.xe s
def PW(X:Cx)(e:Expr)(t:TT):Prop :=
 ∀ (whole:Sem Value) (AB:List (Addr × Obj)) (s:Shared) (σ:St) (H:Hp) (Q:Bool->Hp->Prop),Inv X AB σ H s->t σ H Q->wpAny (model X.prog X.w) X.A (isTrue e X.env whole) (TP X AB σ Q) X.xe s
theorem PW.pt{X:Cx}{e:Expr}{t:TT}(h:PW X e t):PT X e t:=h _
def PA(X:Cx)(es:List Expr)(t:TA):Prop :=
 ∀ (pos:Pos) (AB:List (Addr × Obj)) (s:Shared) (σ:St) (H:Hp) (Q:List V->Hp->Prop),Inv X AB σ H s->t σ H Q->wpAny (model X.prog X.w) X.A (spliced (backTo pos (starEach es X.env))) (AP X AB σ Q) X.xe s
def PS(X:Cx)(st:Stmt)(t:TS):Prop :=
 ∀ (AB:List (Addr × Obj)) (s:Shared) (σ:St) (H:Hp) (D:Ends),Inv X AB σ H s->t D σ H->wpAny (model X.prog X.w) X.A (exec st X.env) (SP X AB D) X.xe s
def HG(X:Cx)(st:List Stmt)(t:TS):Prop :=
 ∀ (AB:List (Addr × Obj)) (s:Shared) (σ:St) (H:Hp) (D:Ends),Inv X AB σ H s->t D σ H->wpAny (model X.prog X.w) X.A (execs st X.env) (SP X AB D) X.xe s
theorem AW{α :Type}{t:Sem α}{Q Q': α ->Shared->Prop}{M:Model}{A:Around}{E:Value->Shared->Prop}{s:Shared}(h:wpAny M A t Q E s)(hQ:∀ a s,Q a s->Q' a s):wpAny M A t Q' E s:=wpAny_mono h hQ λ_ _ x=>x
end L2
namespace L2
section
variable{X:Cx}
def SV(i:Nat):TE:=λσ H Q=>∃ v,σ[i]? =some (some v)/\Q v H
def tC(v:V):TE:=λ_ H Q=>Q v H
theorem hI{i:Nat}{x:Str}{pos:Pos}(hN:X.N[i]? =some x)(hv:ST X.env.scope x)(hd:(x ==("__debug__":Str))=false:=by decide)(HE:(x ==("__classdict__":Str))=false:=by decide):PE X (.Name x pos) (SV i):=by
 intro AB s σ H Q I h
 obtain⟨v,e,h⟩:=h
 obtain⟨m,hn,hl⟩:=I.loc
 obtain⟨u,r,l⟩:=hl i x v hN e hv
 have fin:EP X AB σ Q u s:=⟨v,H,I,r,h⟩
 rcases l with⟨hk,hm⟩ | ⟨hk,c,hc,hcell⟩
 ·exact wpAny_Name (wpAny_loadName_local I.ok.kind hk hn hm fin) hd
 ·rcases hk with hk | hk
  ·exact wpAny_Name (wpAny_loadName_cell I.ok.kind hk hc hcell fin) hd
  ·exact wpAny_Name (wpAny_loadName_free I.ok.kind hk hc hcell fin HE) hd
theorem AK{i j pos}:PE X (.Constant (.int i) j pos) (tC (.int i)):=λ_ _ _ H _ I h=>wpAny_Constant_int ⟨.int i,H,I.tok _,⟨_,rfl⟩,h⟩
theorem IX{b j pos}:PE X (.Constant (.bool b) j pos) (tC (.bl b)):=λ_ _ _ H _ I h=>Constant_bool ⟨.bl b,H,I,rfl,h⟩
theorem DG{j pos}:PE X (.Constant .none j pos) (tC .non):=λ_ _ _ H _ I h=>Constant_none ⟨.non,H,I,rfl,h⟩
theorem CU{x j pos}:PE X (.Constant (.str x) j pos) (tC (.str x)):=λ_ _ _ H _ I h=>Calls.Constant_str ⟨.str x,H,I.tok _,⟨_,rfl⟩,h⟩
def Gl(X:Cx)(x:Str):Prop:=X.env.kindOf x=some .globalImplicit
theorem QU{E:Value->Shared->Prop}{AB:List (Addr × Obj)}{s:Shared}{σ:St}{H:Hp}{x:Str}{u:Value}{pos:Pos}{Q:Value->Shared->Prop}(I:Inv X AB σ H s)(hg:Gl X x)(hm:X.mg x=some u)(h:Q u s)
  (hd:(x ==("__debug__":Str))=false:=by decide):wpAny (model X.prog X.w) X.A (eval (.Name x pos) X.env) Q E s :=
 Calls.Name_function_global I.ok.kind hg (Calls.loadGlobal_global (by rw[I.ok.glob];exact I.mod.glob.keeps I.bk) hm h) hd
theorem NV{E:Value->Shared->Prop}{AB:List (Addr × Obj)}{s:Shared}{σ:St}{H:Hp}{x:Str}{u:Value}{pos:Pos}{Q:Value->Shared->Prop}(I:Inv X AB σ H s)(hg:Gl X x)(hm:X.mg x=none)(hv:bootBuiltins x=some u)(h:Q u s)
  (hn:x≠"__name__":=by decide) (hd:(x ==("__debug__":Str))=false:=by decide):wpAny (model X.prog X.w) X.A (eval (.Name x pos) X.env) Q E s:=by
 obtain⟨mb,h1,h2⟩:=I.mod.blt
 exact Calls.Name_function_global I.ok.kind hg (Calls.loadGlobal_builtin (by rw[I.ok.glob];exact I.mod.glob.keeps I.bk) hm (by rw[I.ok.blt];exact h1.keeps I.bk) ((h2 x hn).trans hv) h) hd
theorem Bm{x:Str}{v:V}{u:Value}{pos:Pos}(hg:Gl X x)(hm:X.mg x=some u)(r:RelV v u)(hd:(x ==("__debug__":Str))=false:=by decide):PE X (.Name x pos) (tC v) :=
 λ_ _ _ H _ I h=>QU I hg hm ⟨v,H,I,r,h⟩ hd
theorem Bp{x:Str}{v:V}{u:Value}{pos:Pos}(hg:Gl X x)(hm:X.mg x=none)(hv:bootBuiltins x=some u)(r:RelV v u)(hn:x≠"__name__":=by decide)(hd:(x ==("__debug__":Str))=false:=by decide):PE X (.Name x pos) (tC v) :=
 λ_ _ _ H _ I h=>NV I hg hm hv ⟨v,H,I,r,h⟩ hn hd
variable{a b:Expr}{ta tb:TE}{pos:Pos}
def PC(X:Cx)(op:CmpOp)(a b:Expr)(t:TE):Prop :=
 ∀ (AB:List (Addr × Obj)) (s:Shared) (σ:St) (H:Hp) (Q:VK),Inv X AB σ H s->t σ H Q →
  wpAny (model X.prog X.w) X.A (eval a X.env) (λv s₁=>wpAny (model X.prog X.w) X.A (eval b X.env) (λu s₂=>wpAny (model X.prog X.w) X.A (compareOp op v u) (EP X AB σ Q) X.xe s₂) X.xe s₁) X.xe s
theorem Bq(b:Expr){op:CmpOp}(h:op≠.In)(h2:op≠.NotIn):behindInMarks op b=false:=by
 have e1:(op == CmpOp.In)=false:=by cases op<;>first | rfl | exact absurd rfl h
 have e2:(op == CmpOp.NotIn)=false:=by cases op<;>first | rfl | exact absurd rfl h2
 cases b<;>simp[behindInMarks,e1,e2]
def tB(t:TE):TT:=λσ H Q=>t σ H λx H1=>∃ c,x=.bl c/\Q c H1
theorem hR{op:CmpOp}{t:TE}(h:PC X op a b t)(h1:behindInMarks op b=false:=by first | exact Bq _ (by decide) (by decide) | rfl):PT X (.Compare a [op] [b] pos) (tB t):=by
 intro AB s σ H Q I hw
 refine wpAny_isTrue_Compare1 (AW (h AB s σ H _ I hw) λv s1 h1=>AW h1 λu s2 h2=>AW h2 λc s3 hzz=> ?_) h1
 obtain⟨x,H1,I1,r1,q1⟩:=hzz
 obtain⟨d,rfl,q⟩:=q1
 cases r1
 exact wpAny_truthy_bool ⟨H1,I1,q⟩
variable{tA tB':TT}{DS:List Expr}
def JL(t u:TT):TT:=λσ H Q=>t σ H λc H1=>if c=true then u σ H1 Q else Q false H1
def KH(t u:TT):TT:=λσ H Q=>t σ H λc H1=>if c=true then Q true H1 else u σ H1 Q
def LE(t:TT):TT:=λσ H Q=>t σ H λc H1=>Q (!c) H1
theorem LF(ha:PT X a tA):PW X (.BoolOp .And [a] pos) tA:=by
 intro wh AB s σ H Q I h
 refine isTrue_and (AW (ha AB s σ H Q I h) λc s1 e=> ?_)
 cases c with
 | true=>exact isTrue_and_nil e
 | false=>exact e
theorem MH(ha:PT X a tA):PW X (.BoolOp .Or [a] pos) tA:=by
 intro wh AB s σ H Q I h
 refine isTrue_or (AW (ha AB s σ H Q I h) λc s1 e=> ?_)
 cases c with
 | false=>exact isTrue_or_nil e
 | true=>exact e
theorem LG(ha:PT X a tA)(hb:PW X (.BoolOp .And (b::DS) pos) tB'):PW X (.BoolOp .And (a::b::DS) pos) (JL tA tB'):=by
 intro wh AB s σ H Q I h
 refine isTrue_and (AW (ha AB s σ H _ I h) λc s1 hzz=> ?_)
 obtain⟨H1,I1,q1⟩:=hzz
 cases c with
 | true=>exact hb wh AB s1 σ H1 Q I1 q1
 | false=>exact⟨H1,I1,q1⟩
theorem MI(ha:PT X a tA)(hb:PW X (.BoolOp .Or (b::DS) pos) tB'):PW X (.BoolOp .Or (a::b::DS) pos) (KH tA tB'):=by
 intro wh AB s σ H Q I h
 refine isTrue_or (AW (ha AB s σ H _ I h) λc s1 hzz=> ?_)
 obtain⟨H1,I1,q1⟩:=hzz
 cases c with
 | true=>exact⟨H1,I1,q1⟩
 | false=>exact hb wh AB s1 σ H1 Q I1 q1
theorem NW(ha:PT X a tA):PT X (.UnaryOp .Not a pos) (LE tA):=by
 intro AB s σ H Q I h
 exact isTrue_not (ha AB s σ H (λc H1=>Q (!c) H1) I h)
def QW(ta tb:TE):TE:=λσ H Q=>ta σ H λx H1=>∃ c,x=.bl c/\if c=true then tb σ H1 Q else Q (.bl false) H1
theorem WG{op}{t:TE}(h:PE X a t):PE X (.BoolOp op [a] pos) t:=λAB s σ H Q I hw=>BoolOp_one (h AB s σ H Q I hw)
theorem WH(ha:PE X a ta)(hb:PE X (.BoolOp .And (b::DS) pos) tb):PE X (.BoolOp .And (a::b::DS) pos) (QW ta tb):=by
 intro AB s σ H Q I h
 refine BoolOp_and (AW (ha AB s σ H _ I h) λv s1 hzz=> ?_)
 obtain⟨x,H1,I1,r1,q1⟩:=hzz
 obtain⟨c,rfl,q1⟩:=q1
 cases r1
 refine wpAny_truthy_bool ?_
 cases c with
 | true=>exact hb AB s1 σ H1 Q I1 q1
 | false=>exact⟨.bl false,H1,I1,rfl,q1⟩
def WI(t:TT)(ta tb:TE):TE:=λσ H Q=>t σ H λc H1=>if c=true then ta σ H1 Q else tb σ H1 Q
theorem Bv{c:Expr}(hc:PT X c tA)(ha:PE X a ta)(hb:PE X b tb):PE X (.IfExp c a b pos) (WI tA ta tb):=by
 intro AB s σ H Q I h
 refine wpAny_IfExp (AW (hc AB s σ H _ I h) λd s1 hzz=> ?_)
 obtain⟨H1,I1,q1⟩:=hzz
 cases d with
 | true=>exact ha AB s1 σ H1 Q I1 q1
 | false=>exact hb AB s1 σ H1 Q I1 q1
end
end L2
namespace L2
def SqL(K:W.Frag)(H:Hp)(a:Addr)(xs:List V):Prop :=
 Rd H a (.lst xs) ∨
  ∃ (o:Obj) (its:Array Value) (n:Nat),K.lookup a=some o/\o.cls=.type "list"/\o.dict=none/\o.data=.seq its n/\its.size<=sizeLine/\Vals xs its.toList
def SqT(K:W.Frag)(H:Hp)(a:Addr)(xs:List V):Prop :=
 Rd H a (.tup xs) ∨
  ∃ (o:Obj) (its:Array Value) (n:Nat),K.lookup a=some o/\o.cls=.type "tuple"/\o.data=.seq its n/\its.size<=sizeLine/\Vals xs its.toList
def Bw:Value->Option V
 | .none=>some .non
 | .bool b=>some (.bl b)
 | .int i _=>some (.int i)
 | .str x _=>some (.str x)
 | .bytes b _=>some (.byt b)
 | .float b _=>some (.flt b)
 | .ref a=>some (.ref a)
 | .type n=>some (.ty n)
 | _=>none
theorem RelV.abs{x:V}{u:Value}(r:RelV x u):Bw u=some x:=by
 cases x with
 | non=>cases r;rfl
 | bl _=>cases r;rfl
 | int _=>obtain⟨t,rfl⟩:=r;rfl
 | str _=>obtain⟨t,rfl⟩:=r;rfl
 | byt _=>obtain⟨t,rfl⟩:=r;rfl
 | flt _=>obtain⟨t,rfl⟩:=r;rfl
 | ref _=>cases r;rfl
 | ty _=>cases r;rfl
theorem RelV.inj{x y:V}{u:Value}(r:RelV x u)(q:RelV y u):x=y:=Option.some.inj (r.abs.symm.trans q.abs)
theorem Vals.inj:∀ {xs ys:List V} {us:List Value},Vals xs us->Vals ys us->xs=ys
 | _,_,_,.nil,.nil=>rfl
 | _,_,_,.cons r t,.cons r' t'=>by rw[r.inj r',Vals.inj t t']
section
variable{X:Cx}{AB:List (Addr × Obj)}{σ:St}{H:Hp}{s:Shared}{a:Addr}{xs ys:List V}
theorem SqL.of{K:W.Frag}(h:H a=some (.lst xs)):SqL K H a xs:=.inl (.inl h)
theorem SqT.of{K:W.Frag}(h:H a=some (.tup xs)):SqT K H a xs:=.inl (.inl h)
theorem Inv.list(I:Inv X AB σ H s)(h:SqL X.K H a xs):∃ its:List Value,Vals xs its/\PlainL s.heap a its.toArray/\xs.length<=sizeLine:=by
 rcases h with h | ⟨o,its,n,hk,hc,hd,hs,hz,r⟩
 ·obtain⟨z,its,n,r,e⟩:=h.ok I.hok
  exact⟨its,r,⟨_,n,e,rfl,rfl,rfl⟩,z⟩
 ·refine⟨its.toList,r,⟨o,n,I.kIn a o hk,hc,hd,by simpa using hs⟩,?_⟩
  have e:=r.length
  simp only[Array.length_toList]at e
  omega
theorem Inv.tuple(I:Inv X AB σ H s)(h:SqT X.K H a xs):∃ its:List Value,Vals xs its/\IsTup s.heap a its.toArray/\xs.length<=sizeLine:=by
 rcases h with h | ⟨o,its,n,hk,hc,hs,hz,r⟩
 ·obtain⟨z,its,r,p⟩:=h.ok I.hok
  exact⟨its,r,p,z⟩
 ·refine⟨its.toList,r,⟨o,I.kIn a o hk,hc,n,by simpa using hs⟩,?_⟩
  have e:=r.length
  simp only[Array.length_toList]at e
  omega
theorem Inv.list_inj(I:Inv X AB σ H s)(h:SqL X.K H a xs)(h':SqL X.K H a ys):xs=ys:=by
 obtain⟨its,r,⟨o,n,e,_,_,d⟩,_⟩:=I.list h
 obtain⟨its',r',⟨o',n',e',_,_,d'⟩,_⟩:=I.list h'
 rw[e]at e';cases e'
 rw[d]at d'
 injection d' with d1 _
 have:its=its':=by simpa using congrArg Array.toList d1
 subst this
 exact r.inj r'
theorem Inv.tuple_inj(I:Inv X AB σ H s)(h:SqT X.K H a xs)(h':SqT X.K H a ys):xs=ys:=by
 obtain⟨its,r,⟨o,e,_,n,d⟩,_⟩:=I.tuple h
 obtain⟨its',r',⟨o',e',_,n',d'⟩,_⟩:=I.tuple h'
 rw[e]at e';cases e'
 rw[d]at d'
 injection d' with d1 _
 have:its=its':=by simpa using congrArg Array.toList d1
 subst this
 exact r.inj r'
end
section
variable{X:Cx}{AB:List (Addr × Obj)}{σ:St}{H:Hp}{s:Shared}{E:Value->Shared->Prop}
end
section
variable{X:Cx}{st:Stmt}{DS:List Stmt}{t u:TS}{e:Expr}{te:TE}{pos:Pos}
def CH:TS:=λD σ H=>D.nx σ H
def AF(t u:TS):TS:=λD σ H=>t { D with nx:=u D } σ H
theorem CI:HG X [] CH:=λ_ _ σ H _ I h=>wpAny_execs_nil ⟨σ,H,I,h⟩
theorem AH(h1:PS X st t)(h2:HG X DS u):HG X (st::DS) (AF t u):=by
 intro AB s σ H D I h
 refine wpAny_execs_cons (AW (h1 AB s σ H { D with nx:=u D } I h) λf s1 q=> ?_)
 cases f with
 | next =>
  obtain⟨σ',H',I',q⟩:=q
  exact h2 AB s1 σ' H' D I' q
 | ret v=>exact q
 | brk=>exact q
 | cont=>exact q
theorem AL(h1:PS X st t):HG X [st] t:=by
 intro AB s σ H D I h
 refine wpAny_execs_cons (AW (h1 AB s σ H D I h) λf s1 q=> ?_)
 cases f with
 | next=>exact wpAny_execs_nil q
 | ret v=>exact q
 | brk=>exact q
 | cont=>exact q
theorem Inv.quiet{AB:List (Addr × Obj)}{σ:St}{H:Hp}{s:Shared}(I:Inv X AB σ H s):interactive X.env=false:=by simp[interactive,I.ok.kind]
def DJ(te:TE):TS:=λD σ H=>te σ H λ_ H1=>D.nx σ H1
theorem DP(he:PE X e te)(hs:swapsWith e none pos.line X.env=pure false:=by rfl):PS X (.Expr e pos) (DJ te):=by
 intro AB s σ H D I h
 exact wpAny_Expr_any (AW (he AB s σ H _ I h) λv s1 ⟨x,H1,I1,r1,q1⟩=>⟨σ,H1,I1,q1⟩) I.quiet hs
def A5(te:TE):TS:=λD σ H=>te σ H D.rt
theorem A6(he:PE X e te):PS X (.Return (some e) pos) (A5 te):=by
 intro AB s σ H D I h
 exact wpAny_Return_some (AW (he AB s σ H _ I h) λv s1 ⟨x,H1,I1,r1,q1⟩=>⟨x,σ,H1,I1,r1,q1⟩)
def WJ:TS:=λD _ H=>D.rt .non H
theorem Bx:PS X (.Return none pos) WJ:=λ_ _ σ H _ I h=>wpAny_Return_none ⟨.non,σ,H,I,rfl,h⟩
def B9(c:TT)(t u:TS):TS:=λD σ H=>c σ H λb H1=>if b=true then t D σ H1 else u D σ H1
theorem CC{c:Expr}{a b:List Stmt}{tc:TT}(hc:PT X c tc)(ha:HG X a t)(hb:HG X b u):PS X (.If c a b pos) (B9 tc t u):=by
 intro AB s σ H D I h
 refine wpAny_If (AW (hc AB s σ H _ I h) λd s1 hzz=> ?_)
 obtain⟨H1,I1,q1⟩:=hzz
 cases d with
 | true=>exact ha AB s1 σ H1 D I1 q1
 | false=>exact hb AB s1 σ H1 D I1 q1
end
abbrev TG:=V->St->Hp->(St->Hp->Prop)->Prop
abbrev LH:=List V->St->Hp->(St->Hp->Prop)->Prop
def PG(X:Cx)(target:Expr)(t:TG):Prop :=
 ∀ (AB:List (Addr × Obj)) (s:Shared) (σ:St) (H:Hp) (v:V) (u:Value) (Q:St->Hp->Prop),Inv X AB σ H s->RelV v u->t v σ H Q →
  wpAny (model X.prog X.w) X.A (assign target X.env u) (λ_ s'=>∃ σ' H',Inv X AB σ' H' s'/\Q σ' H') X.xe s
def SW(X:Cx)(ts:List Expr)(t:LH):Prop :=
 ∀ (AB:List (Addr × Obj)) (s:Shared) (σ:St) (H:Hp) (vs:List V) (us:List Value) (Q:St->Hp->Prop),Inv X AB σ H s->Vals vs us->t vs σ H Q →
  wpAny (model X.prog X.w) X.A (assignInOrder ((assignEach ts X.env).map (·.2)) us) (λ_ s'=>∃ σ' H',Inv X AB σ' H' s'/\Q σ' H') X.xe s
abbrev SX:=V->V->V->Hp->(Hp->Prop)->Prop
def WK(X:Cx)(t:SX):Prop :=
 ∀ (AB:List (Addr × Obj)) (s:Shared) (σ:St) (H:Hp) (o i v:V) (ov iv u:Value) (Q:Hp->Prop),Inv X AB σ H s->RelV o ov->RelV i iv->RelV v u->t o i v H Q →
  wpAny (model X.prog X.w) X.A (setItem ov iv u) (λ_ s'=>∃ H',Inv X AB σ H' s'/\Q H') X.xe s
abbrev hU:=V->V->Hp->VK->Prop
section
variable{X:Cx}{pos:Pos}
def AG(i:Nat):TG:=λv σ H Q=>Q (σ.set i (some v)) H
theorem hV{i:Nat}{x:Str}(hN:X.N.Nodup)(hi:X.N[i]? =some x)(hx:NU X.env.scope x)(hf:X.fn x=true\/X.env.scope.names.lookup x=some .local:=by first | exact .inl rfl | exact .inr rfl | assumption):PG X (.Name x pos) (AG i):=by
 intro AB s σ H v u Q I r h
 exact wpAny_assign_Name (SU I hN hi hx r (λs' I'=>⟨_,H,I',h⟩) hf)
def GG:LH:=λvs σ H Q=>vs=[]/\Q σ H
def DQ(t:TG)(u:LH):LH:=λvs σ H Q=>∃ v r,vs=v::r/\t v σ H λσ' H'=>u r σ' H' Q
theorem IA:SW X [] GG:=by
 intro AB s σ H vs us Q I r h
 obtain⟨e,h⟩:=h
 subst e
 cases r
 exact assignInOrder_nil ⟨σ,H,I,h⟩
theorem ES{e:Expr}{es:List Expr}{t:TG}{u:LH}(h1:PG X e t)(h2:SW X es u)
  (hs:(assignEach (e::es) X.env).map (·.2)=assign e X.env::(assignEach es X.env).map (·.2):=by rfl):SW X (e::es) (DQ t u):=by
 intro AB s σ H vs us Q I r h
 obtain⟨v,vr,e1,h⟩:=h
 subst e1
 cases r with
 | cons r rr =>
  rw[hs]
  refine assignInOrder_cons (AW (h1 AB s σ H _ _ _ I r h) λ_ s1 hzz=> ?_)
  obtain⟨σ1,H1,I1,q1⟩:=hzz
  exact h2 AB s1 σ1 H1 _ _ Q I1 rr q1
def GH(K:W.Frag)(n:Nat)(t:LH):TG:=λv σ H Q=>∃ a xs,v=.ref a/\SqT K H a xs/\xs.length=n/\t xs σ H Q
theorem IB{es:List Expr}{k:Nat}{t:LH}{n:Nat}(hc:X.calm=true)(h:SW X es t)
  (hn:(assignEach es X.env).length=n:=by rfl) (hst:(assignEach es X.env).findIdx? (·.1)=none:=by rfl):PG X (.Tuple es k pos) (GH X.K n t):=by
 intro AB s σ H v u Q I r hw
 obtain⟨a,xs,e1,hq,hl,hw⟩:=hw
 subst e1
 cases r
 obtain⟨its,rv,ht,hz⟩:=I.tuple hq
 refine assign_Tuple_tuple (I.ok.hd hc) ht (by simp[hn,<-hl,rv.length]) hst λh' hx=> ?_
 have I1:Inv X AB σ H { s with heap:=h' }:=I.kept (t':=s.toks) λb o e=>hx b o (Nat.ne_of_lt (Heap.lt_size e)) e
 exact h AB _ σ H xs _ Q I1 (by simpa using rv) hw
def EK(to ti:TE)(t:SX):TG:=λv σ H Q=>to σ H λo H1=>ti σ H1 λi H2=>t o i v H2 λH3=>Q σ H3
theorem EZ{o i:Expr}{to ti:TE}{t:SX}(ho:PE X o to)(hi:PE X i ti)(hs:WK X t)
  (ha:∀ v,assign (.Subscript o i pos) X.env v=(do
   let ov ← holding [v] (eval o X.env)
   let iv ← holding [v,ov] (eval i X.env)
   standAt pos
   holding [v,ov,iv] (setItem ov iv v)
   release [v,ov,iv] []):=by intro _;rfl):PG X (.Subscript o i pos) (EK to ti t):=by
 intro AB s σ H v u Q I r h
 rw[ha]
 refine wpAny_bind (wpAny_holding (AW (ho AB s σ H _ I h) λov s1 hzz=> ?_))
 obtain⟨x,H1,I1,r1,q1⟩:=hzz
 refine wpAny_bind (wpAny_holding (AW (hi AB s1 σ H1 _ I1 q1) λiv s2 hzz=> ?_))
 obtain⟨y,H2,I2,r2,q2⟩:=hzz
 refine wpAny_bind (wpAny_standAt (wpAny_bind (wpAny_holding (AW (hs AB s2 σ H2 x y v ov iv u _ I2 r1 r2 r q2) λ_ s3 hzz=> ?_))))
 obtain⟨H3,I3,q3⟩:=hzz
 exact wpAny_release ⟨σ,H3,I3,q3⟩
def AS(te:TE)(g:TG):TS:=λD σ H=>te σ H λx H1=>g x σ H1 D.nx
theorem E3{tg e:Expr}{te:TE}{g:TG}(he:PE X e te)(hg:PG X tg g)(hs:swapsWithSole [tg] e pos.line X.env=pure false:=by rfl)(hw:swappedStores [tg] e X.env=pure none:=by rfl)
  (h1:(assignEach [tg] X.env).map (·.2)=[assign tg X.env]:=by rfl):PS X (.Assign [tg] e pos) (AS te g):=by
 intro AB s σ H D I h
 refine wpAny_Assign_stores (AW (he AB s σ H _ I h) λv s1 hzz=> ?_) hs hw
 obtain⟨x,H1,I1,r1,q1⟩:=hzz
 rw[h1]
 exact AW (hg AB s1 σ H1 x v _ I1 r1 q1) λ_ s2 q=>q
theorem IC{i:Nat}{x:Str}{e:Expr}{te:TE}{pos':Pos}(hN:X.N.Nodup)(hi:X.N[i]? =some x)(hx:NU X.env.scope x)(he:PE X e te)(hs:swapsWith e (some (.Name x pos')) pos.line X.env=pure false:=by rfl)(hf:X.fn x=true\/X.env.scope.names.lookup x=some .local:=by first | exact .inl rfl | exact .inr rfl | assumption) :
  PS X (.Assign [.Name x pos'] e pos) (AS te (AG i)):=by
 intro AB s σ H D I h
 refine wpAny_Assign_Name (AW (he AB s σ H _ I h) λv s1 hzz=> ?_) hs
 obtain⟨y,H1,I1,r1,q1⟩:=hzz
 exact SU I1 hN hi hx r1 (λs2 I2=>⟨_,H1,I2,q1⟩) hf
def By(f:Int->Int->Int):hU:=λx y H Q=>∃ i j,x=.int i/\y=.int j/\Q (.int (f i j)) H
end
section
variable{X:Cx}{pos:Pos}
end
structure It where
 go:Nat->Hp->Prop
 yld:Nat->Hp->V->Hp->Prop
 stop:Nat->Hp->Prop
def FpOk(X:Cx)(AB:List (Addr × Obj))(H:Hp)(b:Addr):Prop :=
 H b=none/\b≠X.env.locals/\b∉X.fs/\(b∈X.ex\/X.s₀.heap.objs.size<=b)/\(∀ x c,X.env.cells.lookup x=some c->c≠b)/\∀ p∈X.pn++AB,p.1≠b
theorem Inv.fpOk{X:Cx}{AB:List (Addr × Obj)}{σ:St}{H H':Hp}{s:Shared}{b:Addr}(I:Inv X AB σ H s)(hb:s.heap.objs.size<=b)(hn:H' b=none):FpOk X AB H' b:=by
 refine⟨hn,Nat.ne_of_gt (Nat.lt_of_lt_of_le I.lt hb),I.nofs hb,.inr (Nat.le_trans I.sz hb),λx c e z=> ?_,λp hp z=> ?_⟩
 ·obtain⟨v,q⟩:=I.cell x c e
  exact absurd (Nat.lt_of_lt_of_le q.lt (by rw[z];exact hb)) (Nat.lt_irrefl _)
 ·exact absurd (Nat.lt_of_lt_of_le (Heap.lt_size (I.pin p hp).1) (by rw[z];exact hb)) (Nat.lt_irrefl _)
structure MJ(P:Program)(w:World)(K:W.Frag)(tg:Expr)(J:It)(fp:List Addr)(it:Addr)(tn:Nat->Heap->Prop):Prop where
 mem:it∈fp
 obj:∀ i h,tn i h->∀ b∈fp,∃ o,h.get? b=some o/\∀ v,o.data≠.cell v
 keep:∀ i h h',tn i h->(∀ b∈fp,∀ o,h.get? b=some o->h'.get? b=some o)->tn i h'
 item:∀ (X:Cx),X.prog=P->X.w=w->X.K=K->X.calm=true->∀ (i:Nat) (AB:List (Addr × Obj)) (s:Shared) (σ:St) (H:Hp) (E:Value->Shared->Prop),Inv X AB σ H s->(∀ b∈fp,FpOk X AB H b)->tn i s.heap->J.go i H →
  wpAny (model P w) X.A (pyNext (.ref it)) (λr s1=>∃ u,r=some u ∧
   wpAny (model P w) X.A (letOwnedTupleGo tg (.ref it) u) (λ_ s2=>∃ x H',Inv X AB σ H' s2/\RelV x u/\J.yld i H x H'/\tn (i+1) s2.heap/\∀ b∈fp,H' b=none) E s1) E s
 done:∀ (X:Cx),X.prog=P->X.w=w->X.K=K->X.calm=true->∀ (i:Nat) (AB:List (Addr × Obj)) (s:Shared) (σ:St) (H:Hp) (E:Value->Shared->Prop),Inv X AB σ H s->(∀ b∈fp,FpOk X AB H b)->tn i s.heap->J.stop i H →
  wpAny (model P w) X.A (pyNext (.ref it)) (λr s1=>r=none/\Inv X AB σ H s1) E s
 self:∀ (A:Around) (i:Nat) (s:Shared) (Q:Value->Shared->Prop) (E:Value->Shared->Prop),tn i s.heap->Q (.ref it) s->wpAny (model P w) A (pyIter (.ref it)) Q E s
abbrev TI:=St->Hp->(It->Hp->Prop)->Prop
def WL(X:Cx)(AB:List (Addr × Obj))(σ:St)(tg:Expr)(R:It->Hp->Prop)(itv:Value)(s2:Shared):Prop :=
 ∃ (it:Addr) (fp:List Addr) (tn:Nat->Heap->Prop) (J:It) (H':Hp),itv=.ref it/\Inv X AB σ H' s2/\MJ X.prog X.w X.K tg J fp it tn/\tn 0 s2.heap/\(∀ b∈fp,FpOk X AB H' b)/\R J H'
def PI(X:Cx)(tg iter:Expr)(wi:TI):Prop :=
 ∀ (AB:List (Addr × Obj)) (s:Shared) (σ:St) (H:Hp) (R:It->Hp->Prop),Inv X AB σ H s->wi σ H R →
  wpAny (model X.prog X.w) X.A (eval iter X.env) (λv s1=>wpAny (model X.prog X.w) X.A (pyIter v) (WL X AB σ tg R) X.xe s1) X.xe s
theorem SY{M:Model}{A:Around}{E:Value->Shared->Prop}{s:Shared}{tg:Expr}{it:Addr}{u:Value}{o:Obj}{n:String}{vs:Array Value}{Q:Unit->Shared->Prop}(ho:s.heap.get? it=some o)(hc:o.cls=.type n)(hd:o.data=.fields vs)
    (hn:["enumerate","zip","dict_itemiterator","dict_reverseitemiterator","odict_iterator","itertools.zip_longest","itertools.pairwise"].contains n=false) (hQ:Q () s):wpAny M A (letOwnedTupleGo tg (.ref it) u) Q E s:=by
  unfold letOwnedTupleGo
  cases tg<;>first
    | exact wpAny_pure hQ
    | (cases u<;>first
        | exact wpAny_pure hQ
        | (refine wpAny_bind (wpAny_load ho ?_)
           rw[hc,hd]
           show wpAny M A (if(["enumerate","zip","dict_itemiterator","dict_reverseitemiterator","odict_iterator","itertools.zip_longest","itertools.pairwise"].contains n && vs[0]? == some (rawInt _))=true then _ else _) Q E s
           rw[if_neg (by intro h;rw[hn,Bool.false_and]at h;cases h)]
           exact wpAny_pure hQ))
def ID(K:W.Frag)(a:Addr):It :=
 ⟨λi H=>∃ xs x,SqL K H a xs/\xs[i]? =some x,λi H x H'=>H'=H/\∀ xs,SqL K H a xs->xs[i]? =some x,λi H=>∃ xs,SqL K H a xs/\xs.length<=i⟩
def QX(K:W.Frag)(a:Addr):It :=
 ⟨λi H=>∃ xs x,SqT K H a xs/\xs[i]? =some x,λi H x H'=>H'=H/\∀ xs,SqT K H a xs->xs[i]? =some x,λi H=>∃ xs,SqT K H a xs/\xs.length<=i⟩
def GU(lo:Int)(n:Nat):It:=⟨λi _=>i<n,λi H x H'=>H'=H/\x=.int (lo+i),λi _=>n<=i⟩
theorem Bz{P:Program}{w:World}{K:W.Frag}{tg:Expr}(a it:Addr):MJ P w K tg (ID K a) [it] it (λi h=>h.IsListIter it a i) where
 mem:=by simp
 obj:=λi h st b hb=>by
  have e:b=it:=by simpa using hb
  subst e
  obtain⟨o,e,c,d⟩:=st
  exact⟨o,e,λv z=>by rw[d]at z;cases z⟩
 keep:=λi h h' st k=>st.at λo e=>k it (by simp) o e
 item:=by
  intro X hP hw hK hc i AB s σ H E I hf st hg
  subst hP hw hK
  obtain⟨xs,x,hq,hx⟩:=hg
  obtain⟨its,rv,p,hz⟩:=I.list hq
  obtain⟨u,hu,ru⟩:=rv.get hx
  obtain⟨f0,f1,f2,f3,f4,f5⟩:=hf it (by simp)
  refine wpAny_pyNext_list_item st p.isList (x:=u) (by simpa using hu) λh' st' sb=> ?_
  have I1:Inv X AB σ H { s with heap:=h' }:=I.turned (t':=s.toks) (λb o hb e=>(sb.2 b hb).trans e) f0 f1 f3 f4 f5
  obtain⟨o,e,c,d⟩:=id st'
  exact⟨u,rfl,SY (s:={ s with heap:=h' }) e c d (by decide) ⟨x,H,I1,ru,⟨rfl,λys hy=>by rw[I.list_inj hy hq];exact hx⟩,st',λb hb=>(hf b hb).1⟩⟩
 done:=by
  intro X hP hw hK hc i AB s σ H E I hf st hg
  subst hP hw hK
  obtain⟨xs,hq,hx⟩:=hg
  obtain⟨its,rv,p,hz⟩:=I.list hq
  obtain⟨f0,f1,f2,f3,f4,f5⟩:=hf it (by simp)
  have hl:=rv.length
  exact wpAny_pyNext_list_end (I.ok.hd hc) st p.isList (by simp;omega) λh' eb=>⟨rfl,I.turned (t':=s.toks) (λb o hb e=>eb b o hb e) f0 f1 f3 f4 f5⟩
 self:=λ_ _ _ _ _ st h=>wpAny_pyIter_listiter st h
theorem Cb{P:Program}{w:World}{K:W.Frag}{tg:Expr}(a it:Addr):MJ P w K tg (QX K a) [it] it (λi h=>h.IsTupleIter it a i) where
 mem:=by simp
 obj:=λi h st b hb=>by
  have e:b=it:=by simpa using hb
  subst e
  obtain⟨o,e,c,d⟩:=st
  exact⟨o,e,λv z=>by rw[d]at z;cases z⟩
 keep:=λi h h' st k=>st.at λo e=>k it (by simp) o e
 item:=by
  intro X hP hw hK hc i AB s σ H E I hf st hg
  subst hP hw hK
  obtain⟨xs,x,hq,hx⟩:=hg
  obtain⟨its,rv,p,hz⟩:=I.tuple hq
  obtain⟨u,hu,ru⟩:=rv.get hx
  obtain⟨f0,f1,f2,f3,f4,f5⟩:=hf it (by simp)
  refine wpAny_pyNext_tuple_item st (show s.heap.IsTuple a its.toArray from p) (x:=u) (by simpa using hu) λh' st' sb=> ?_
  have I1:Inv X AB σ H { s with heap:=h' }:=I.turned (t':=s.toks) (λb o hb e=>(sb.2 b hb).trans e) f0 f1 f3 f4 f5
  obtain⟨o,e,c,d⟩:=id st'
  exact⟨u,rfl,SY (s:={ s with heap:=h' }) e c d (by decide) ⟨x,H,I1,ru,⟨rfl,λys hy=>by rw[I.tuple_inj hy hq];exact hx⟩,st',λb hb=>(hf b hb).1⟩⟩
 done:=by
  intro X hP hw hK hc i AB s σ H E I hf st hg
  subst hP hw hK
  obtain⟨xs,hq,hx⟩:=hg
  obtain⟨its,rv,p,hz⟩:=I.tuple hq
  obtain⟨f0,f1,f2,f3,f4,f5⟩:=hf it (by simp)
  have hl:=rv.length
  exact wpAny_pyNext_tuple_end (I.ok.hd hc) st (show s.heap.IsTuple a its.toArray from p) (by simp;omega) λh' eb=>⟨rfl,I.turned (t':=s.toks) (λb o hb e=>eb b o hb e) f0 f1 f3 f4 f5⟩
 self:=λ_ _ _ _ _ st h=>wpAny_pyIter_tupleiter st h
theorem Cc{P:Program}{w:World}{K:PySem.W.Frag}{tg:Expr}(it:Addr)(lo:Int)(n:Nat):MJ P w K tg (GU lo n) [it] it (λi h=>IsRangeIter h it (lo+(i:Nat) * 1) ((n:Int) - (i:Nat)) 1) where
 mem:=by simp
 obj:=λi h st b hb=>by
  have e:b=it:=by simpa using hb
  subst e
  exact⟨_,st,λv z=>by
   have z':Data.fields _=Data.cell v:=z
   cases z'⟩
 keep:=λi h h' st k=>k it (by simp) _ st
 item:=by
  intro X hP hw hK hc i AB s σ H E I hf st hg
  subst hP hw hK
  obtain⟨f0,f1,f2,f3,f4,f5⟩:=hf it (by simp)
  have W:=Walks.range (prog:=X.prog) (w:=X.w) (I.ok.hd hc) it lo 1 n
  refine W.item i s _ _ hg st λv h' tk hv st' kk=> ?_
  obtain⟨t,rfl⟩:=hv
  have I1:Inv X AB σ H { s with heap:=h',toks:=tk }:=I.turned (λb o hb e=>kk b o (by simpa using hb) e) f0 f1 f3 f4 f5
  refine⟨_,rfl,SY (s:={ s with heap:=h',toks:=tk }) (n:="range_iterator") st' rfl rfl (by decide) ⟨.int (lo+i),H,I1,⟨t,?_⟩,⟨rfl,rfl⟩,st',λb hb=>(hf b hb).1⟩⟩
  rw[Int.mul_one]
 done:=by
  intro X hP hw hK hc i AB s σ H E I hf st hg
  subst hP hw hK
  obtain⟨f0,f1,f2,f3,f4,f5⟩:=hf it (by simp)
  exact wpAny_pyNext_range_end (I.ok.hd hc) st (by have:n<=i:=hg;omega) λh' eb=>⟨rfl,I.turned (t':=s.toks) (λb o hb e=>eb b o hb e) f0 f1 f3 f4 f5⟩
 self:=λ_ _ _ _ _ st h=>wpAny_pyIter_rangeiter st h
end L2
namespace L2
section
variable{X:Cx}{tg:Expr}
theorem Cd{AB:List (Addr × Obj)}{σ:St}{H:Hp}{s:Shared}{R:It->Hp->Prop}{E:Value->Shared->Prop}{lo hi:Int}{t u v:Tok}{tk:Nat}(I:Inv X AB σ H s)(h1: -(2 ^ 62)<=lo)(h2:lo<2 ^ 62)(h3: -(2 ^ 62)<=hi)(h4:hi<2 ^ 62)
  (q:R (GU lo (hi - lo).toNat) H):wpAny (model X.prog X.w) X.A (pyIter (.ref s.heap.objs.size)) (WL X AB σ tg R) E { s with heap:=s.heap.push { cls:=.type "range",data:=.fields #[.int lo t,.int hi u,.int 1 v] },toks:=tk }:=by
 refine wpAny_pyIter_range (IsRange.new ..) (small_one h1 h2 h3 h4) ?_
 have I1:Inv X AB σ H { s with heap:=s.heap.push { cls:=.type "range",data:=.fields #[.int lo t,.int hi u,.int 1 v] },toks:=tk }:=I.kept λb o e=>Heap.get?_push_of_some _ e
 refine⟨(s.heap.push { cls:=.type "range",data:=.fields #[.int lo t,.int hi u,.int 1 v] }).objs.size,[(s.heap.push { cls:=.type "range",data:=.fields #[.int lo t,.int hi u,.int 1 v] }).objs.size],_,_,H,rfl,
  I1.kept (t':=tk) λb o e=>Heap.get?_push_of_some _ e,Cc _ lo (hi - lo).toNat,?_,λb hb=> ?_,q⟩
 ·have e1:lo+((0:Nat):Int) * 1=lo:=by simp
  have e2:(((hi - lo).toNat:Nat):Int) - ((0:Nat):Int)=Builtin.Range.rangeSize lo hi 1:=by rw[rangeSize_one];split<;>omega
  show IsRangeIter _ _ (lo+((0:Nat):Int) * 1) ((((hi - lo).toNat:Nat):Int) - ((0:Nat):Int)) 1
  rw[e1,e2]
  exact Heap.get?_push_size _ rfl
 ·have e:b=(s.heap.push { cls:=.type "range",data:=.fields #[.int lo t,.int hi u,.int 1 v] }).objs.size:=by simpa using hb
  subst e
  exact I1.fpOk (Nat.le_refl _) (I1.hok.fresh (Nat.le_refl _))
def DR(ta:TA):TI:=λσ H R=>ta σ H λvs H1=>∃ j:Int,vs=[.int j]/\ -(2 ^ 62)<=j/\j<2 ^ 62/\R (GU 0 j.toNat) H1
theorem D9{a:Expr}{ta:TA}{p pos:Pos}(hg:Gl X "range")(hm:X.mg "range"=none)(ha:PA X [a] ta)(hs:starEach [a] X.env=[(false,eval a X.env)]:=by rfl):PI X tg (.Call (.Name "range" p) [a] [] pos) (DR ta):=by
 intro AB s σ H R I h
 refine Call_ (NV I hg hm boot_range (PyProof.Rows.callWith_type1 (AW (ha pos AB s σ H _ I h) λus s1 hzz=> ?_) hs rfl))
 obtain⟨vs,H1,I1,r1,q1⟩:=hzz
 obtain⟨j,e,q1,q2,q⟩:=q1
 subst e
 cases r1 with
 | cons r rr =>
  cases rr
  obtain⟨t,rfl⟩:=r
  exact call_range_1 (Cd I1 (by omega) (by omega) q1 q2 (by simpa using q))
def FA(wi:TI)(g:TG)(tb:TS):TS:=λD σ H=>wi σ H λJ H1=>∃ W:Nat->Nat->St->Hp->Prop,(∃ m,W 0 m σ H1)/\∀ i m σ H,W i m σ H →
 (J.stop i H/\D.nx σ H)\/(J.go i H/\∃ N:St->Hp->Prop,(∀ σ' H',N σ' H'->∃ m',m'<m/\W (i+1) m' σ' H')/\∀ x H',J.yld i H x H'->g x σ H' λσ2 H2=>tb { D with nx:=N,ct:=N,bk:=D.nx } σ2 H2)
def QY(fp:List Addr)(h:Heap):List (Addr × Obj):=fp.filterMap λb=>(h.get? b).map λo=>(b,o)
theorem SZ{fp:List Addr}{h:Heap}{b:Addr}{o:Obj}(hb:b∈fp)(e:h.get? b=some o):(b,o)∈QY fp h:=List.mem_filterMap.mpr ⟨b,hb,by rw[e];rfl⟩
theorem Cg{fp:List Addr}{h:Heap}{p:Addr × Obj}(hp:p∈QY fp h):p.1∈fp/\h.get? p.1=some p.2:=by
 obtain⟨b,hb,e⟩:=List.mem_filterMap.mp hp
 cases q:h.get? b with
 | none=>rw[q]at e;cases e
 | some o =>
  rw[q]at e
  have e':(b,o)=p:=Option.some.inj e
  subst e'
  exact⟨hb,q⟩
theorem Inv.pinned{AB:List (Addr × Obj)}{σ:St}{H:Hp}{s:Shared}{fp:List Addr}(I:Inv X AB σ H s)(hf:∀ b∈fp,FpOk X AB H b)(ho:∀ b∈fp,∃ o,s.heap.get? b=some o/\∀ v,o.data≠.cell v):Inv X (AB++QY fp s.heap) σ H s :=
 I.pins_of λp hp=>(List.mem_append.mp hp).elim (λz=>I.pin p (List.mem_append_right _ z)) λz=>by
  obtain⟨hb,e⟩:=Cg z
  obtain⟨f0,f1,f2,_⟩:=hf p.1 hb
  obtain⟨o,e',d⟩:=ho p.1 hb
  rw[e]at e';cases e'
  exact⟨e,f0,f1,f2,d⟩
theorem Inv.unpinned{AB pl:List (Addr × Obj)}{σ:St}{H:Hp}{s:Shared}(I:Inv X (AB++pl) σ H s):Inv X AB σ H s:=I.pins_of λp hp=>I.pin p (List.mem_append_right _ (List.mem_append_left _ hp))
theorem F8{iter:Expr}{body:List Stmt}{wi:TI}{g:TG}{tb:TS}{pos:Pos}(hp:PassesOwn (model X.prog X.w) X.A X.env X.xe)(hc:X.calm=true)(hi:PI X tg iter wi)(hg:PG X tg g)(hb:HG X body tb)
  (hs:∀ x,foldedSetIterable iter X.env x=pure x:=by intro _;rfl):PS X (.For tg iter body [] pos) (FA wi g tb):=by
 intro AB s σ H D I h
 refine wpAny_For (AW (hi AB s σ H _ I h) λv s1 h1=>AW h1 λitv s2 h2=> ?_) hs
 obtain⟨it,fp,tn,J,H2,e,I2,T,st2,f2,W,⟨m0,w0⟩,turn⟩:=h2
 subst e
 have stat:∀ {H':Hp},(∀ b∈fp,H' b=none)->∀ b∈fp,FpOk X AB H' b:=λhn b hb=>⟨hn b hb,(f2 b hb).2⟩
 refine codeAny_forLoop_any (λn s'=>∃ i σ' H',Inv X AB σ' H' s'/\tn i s'.heap/\(∀ b∈fp,H' b=none)/\W i n σ' H') ?_ m0 ⟨0,σ,H2,I2,st2,λb hb=>(f2 b hb).1,w0⟩
 rintro n s3 ⟨i,σ3,H3,I3,st3,fr3,w3⟩
 rcases turn i n σ3 H3 w3 with⟨stop,qn⟩ | ⟨go,N,hN,step⟩
 ·refine wpAny_passesOwn hp (AW (T.done X rfl rfl rfl hc i AB s3 σ3 H3 X.xe I3 (stat fr3) st3 stop) λr s4 ⟨hr,I4⟩=> ?_)
  subst hr
  exact wpAny_execs_nil ⟨σ3,H3,I4,qn⟩
 ·refine wpAny_passesOwn hp (AW (T.item X rfl rfl rfl hc i AB s3 σ3 H3 X.xe I3 (stat fr3) st3 go) λr s4 hzz=> ?_)
  obtain⟨u,hr,h4⟩:=hzz
  subst hr
  refine wpAny_passesOwn hp (AW h4 λ_ s5 hzz=> ?_)
  obtain⟨x,H5,I5,r5,y5,st5,fr5⟩:=hzz
  have I5':=I5.pinned (stat fr5) (T.obj _ _ st5)
  refine wpAny_passesOwn hp (AW (hg _ s5 σ3 H5 x u _ I5' r5 (step x H5 y5)) λ_ s6 hzz=> ?_)
  obtain⟨σ6,H6,I6,q6⟩:=hzz
  refine wpAny_passesOwn hp (AW (hb _ s6 σ6 H6 _ I6 q6) λf s7 q7=> ?_)
  have again:∀ {σ7:St} {H7:Hp},Inv X (AB++QY fp s5.heap) σ7 H7 s7->N σ7 H7->∃ m,m<n/\∃ i σ' H',Inv X AB σ' H' s7/\tn i s7.heap/\(∀ b∈fp,H' b=none)/\W i m σ' H':=λ{σ7 H7} I7 n7=>by
   obtain⟨m',hm,w7⟩:=hN σ7 H7 n7
   refine⟨m',hm,i+1,σ7,H7,I7.unpinned,T.keep _ _ _ st5 λb hb o e=>(I7.pin (b,o) (List.mem_append_right _ (List.mem_append_right _ (SZ hb e)))).1,λb hb=> ?_,w7⟩
   obtain⟨o,e,d⟩:=T.obj _ _ st5 b hb
   exact(I7.pin (b,o) (List.mem_append_right _ (List.mem_append_right _ (SZ hb e)))).2.1
  cases f with
  | next=>obtain⟨σ7,H7,I7,n7⟩:=q7;exact again I7 n7
  | cont=>obtain⟨σ7,H7,I7,n7⟩:=q7;exact again I7 n7
  | brk=>obtain⟨σ7,H7,I7,q7⟩:=q7;exact⟨σ7,H7,I7.unpinned,q7⟩
  | ret v=>obtain⟨x7,σ7,H7,I7,r7,q7⟩:=q7;exact⟨x7,σ7,H7,I7.unpinned,r7,q7⟩
end
theorem Cj{K:PySem.W.Frag}{a:Addr}{xs:List V}{g:TG}{tb:TS}{D:Ends}{σ:St}{H:Hp}(Pv:Nat->St->Hp->Prop)(h0:Pv 0 σ H)(hl:∀ i σ H,i<=xs.length->Pv i σ H->SqL K H a xs)
  (hs:∀ i x σ H,xs[i]? =some x->Pv i σ H->g x σ H λσ2 H2=>tb { D with nx:=Pv (i+1),ct:=Pv (i+1),bk:=D.nx } σ2 H2) (hd:∀ σ H,Pv xs.length σ H->D.nx σ H) :
  ∃ W:Nat->Nat->St->Hp->Prop,(∃ m,W 0 m σ H)/\∀ i m σ H,W i m σ H →
   ((ID K a).stop i H/\D.nx σ H)\/((ID K a).go i H/\∃ N:St->Hp->Prop,(∀ σ' H',N σ' H'->∃ m',m'<m/\W (i+1) m' σ' H')/\∀ x H',(ID K a).yld i H x H'->g x σ H' λσ2 H2=>tb { D with nx:=N,ct:=N,bk:=D.nx } σ2 H2):=by
 refine⟨λi m σ H=>m=xs.length - i/\i<=xs.length/\Pv i σ H,⟨xs.length,by simp,Nat.zero_le _,h0⟩,?_⟩
 rintro i m σ H ⟨rfl,hi,p⟩
 have q:=hl i σ H hi p
 by_cases BZ:i<xs.length
 ·refine .inr ⟨⟨xs,xs[i],q,by simp[BZ]⟩,Pv (i+1),λσ' H' p'=>⟨xs.length - (i+1),by omega,rfl,BZ,p'⟩,λx H' y=> ?_⟩
  obtain⟨e,y⟩:=y
  subst e
  exact hs i x σ _ (y xs q) p
 ·have e:i=xs.length:=by omega
  subst e
  exact .inl ⟨⟨xs,q,Nat.le_refl _⟩,hd σ H p⟩
theorem Ck{lo:Int}{n:Nat}{g:TG}{tb:TS}{D:Ends}{σ:St}{H:Hp}(Pv:Nat->St->Hp->Prop)(h0:Pv 0 σ H)
  (hs:∀ i σ H,i<n->Pv i σ H->g (.int (lo+i)) σ H λσ2 H2=>tb { D with nx:=Pv (i+1),ct:=Pv (i+1),bk:=D.nx } σ2 H2) (hd:∀ σ H,Pv n σ H->D.nx σ H) :
  ∃ W:Nat->Nat->St->Hp->Prop,(∃ m,W 0 m σ H)/\∀ i m σ H,W i m σ H →
   ((GU lo n).stop i H/\D.nx σ H)\/((GU lo n).go i H/\∃ N:St->Hp->Prop,(∀ σ' H',N σ' H'->∃ m',m'<m/\W (i+1) m' σ' H')/\∀ x H',(GU lo n).yld i H x H'->g x σ H' λσ2 H2=>tb { D with nx:=N,ct:=N,bk:=D.nx } σ2 H2):=by
 refine⟨λi m σ H=>m=n - i/\i<=n/\Pv i σ H,⟨n,by simp,Nat.zero_le _,h0⟩,?_⟩
 rintro i m σ H ⟨rfl,hi,p⟩
 by_cases BZ:i<n
 ·refine .inr ⟨BZ,Pv (i+1),λσ' H' p'=>⟨n - (i+1),by omega,rfl,BZ,p'⟩,λx H' y=> ?_⟩
  obtain⟨e,y⟩:=y
  subst e y
  exact hs i σ _ BZ p
 ·have e:i=n:=by omega
  subst e
  exact .inl ⟨Nat.le_refl _,hd σ H p⟩
end L2
namespace L2
abbrev R2:=V->V->Hp->VK->Prop
def CP(X:Cx)(f:Value->Value->Sem Value)(r:R2):Prop :=
 ∀ (AB:List (Addr × Obj)) (s:Shared) (σ:St) (H:Hp) (x y:V) (v u:Value) (Q:VK),Inv X AB σ H s->RelV x v->RelV y u->r x y H Q →
  wpAny (model X.prog X.w) X.A (f v u) (EP X AB σ Q) X.xe s
def HH(X:Cx)(f:Value)(r:List V->Hp->VK->Prop):Prop :=
 ∀ (AB:List (Addr × Obj)) (s:Shared) (σ:St) (H:Hp) (xs:List V) (us:List Value) (Q:VK),Inv X AB σ H s->Vals xs us->r xs H Q →
  wpAny (model X.prog X.w) X.A (call f us) (EP X AB σ Q) X.xe s
def Cl(X:Cx)(r:V->Hp->(Bool->Hp->Prop)->Prop):Prop :=
 ∀ (AB:List (Addr × Obj)) (s:Shared) (σ:St) (H:Hp) (x:V) (v:Value) (Q:Bool->Hp->Prop),Inv X AB σ H s->RelV x v->r x H Q →
  wpAny (model X.prog X.w) X.A (truthy v) (TP X AB σ Q) X.xe s
def AC(r:R2)(ta tb:TE):TE:=λσ H Q=>ta σ H λx H1=>tb σ H1 λy H2=>r x y H2 Q
def rI(C:Int->Int->Prop)(g:Int->Int->V):R2:=λx y H Q=>∃ i j,x=.int i/\y=.int j/\C i j/\Q (g i j) H
def IY(g:Int->Int->V):R2:=λx y H Q=>∃ i j,x=.int i/\y=.int j/\Q (g i j) H
def rU(g:Int->V):V->Hp->VK->Prop:=λx H Q=>∃ i,x=.int i/\Q (g i) H
section
variable{X:Cx}{a b c:Expr}{ta tb tc:TE}{pos:Pos}
theorem WM(ha:PE X a ta)(hb:PE X b tb){AB:List (Addr × Obj)}{s:Shared}{σ:St}{H:Hp}{R:V->V->Hp->Prop}(I:Inv X AB σ H s)
  (h:ta σ H λx H1=>tb σ H1 λy H2=>R x y H2) {Q:Value->Shared->Prop} {f:Value->Value->Sem Value}
  (hf:∀ v u s2 x y H2,Inv X AB σ H2 s2->RelV x v->RelV y u->R x y H2->wpAny (model X.prog X.w) X.A (f v u) Q X.xe s2) :
  wpAny (model X.prog X.w) X.A (eval a X.env) (λv s₁=>wpAny (model X.prog X.w) X.A (eval b X.env) (λu s₂=>wpAny (model X.prog X.w) X.A (f v u) Q X.xe s₂) X.xe s₁) X.xe s:=by
 refine AW (ha AB s σ H _ I h) λv s1 hzz=> ?_
 obtain⟨x,H1,I1,r1,q1⟩:=hzz
 refine AW (hb AB s1 σ H1 _ I1 q1) λu s2 hzz=> ?_
 obtain⟨y,H2,I2,r2,q2⟩:=hzz
 exact hf v u s2 x y H2 I2 r1 r2 q2
theorem AR{op:Operator}{r:R2}(ho:CP X (binaryOp op) r)(ha:PE X a ta)(hb:PE X b tb):PE X (.BinOp a op b pos) (AC r ta tb):=by
 intro AB s σ H Q I h
 exact wpAny_BinOp (WM ha hb I h λv u s2 x y H2 I2 rx ry q=>ho AB s2 σ H2 x y v u Q I2 rx ry q)
theorem S1{f:Value->Value->Sem Value}{C:Int->Int->Prop}{g:Int->Int->Int}
  (rule:∀ (i j:Int) (t u:Tok) (s:Shared) (Q:Value->Shared->Prop) (E:Value->Shared->Prop),C i j->Q (.int (g i j) s.toks) { s with toks:=s.toks+1 }->wpAny (model X.prog X.w) X.A (f (.int i t) (.int j u)) Q E s) :
  CP X f (rI C λi j=>.int (g i j)):=by
 intro AB s σ H x y v u Q I rx ry h
 obtain⟨i,j,rfl,rfl,hc,q⟩:=h
 obtain⟨t,rfl⟩:=rx
 obtain⟨t',rfl⟩:=ry
 exact rule i j t t' s _ _ hc ⟨.int (g i j),H,I.tok _,⟨_,rfl⟩,q⟩
theorem hW{f:Value->Value->Sem Value}{g:Int->Int->Int}
  (rule:∀ (i j:Int) (t u:Tok) (s:Shared) (Q:Value->Shared->Prop) (E:Value->Shared->Prop),Q (.int (g i j) s.toks) { s with toks:=s.toks+1 }->wpAny (model X.prog X.w) X.A (f (.int i t) (.int j u)) Q E s) :
  CP X f (IY λi j=>.int (g i j)):=by
 intro AB s σ H x y v u Q I rx ry h
 obtain⟨i,j,rfl,rfl,q⟩:=h
 obtain⟨t,rfl⟩:=rx
 obtain⟨t',rfl⟩:=ry
 exact rule i j t t' s _ _ ⟨.int (g i j),H,I.tok _,⟨_,rfl⟩,q⟩
theorem S3{f:Value->Value->Sem Value}{g:Int->Int->Bool}
  (rule:∀ (i j:Int) (t u:Tok) (s:Shared) (Q:Value->Shared->Prop) (E:Value->Shared->Prop),Q (.bool (g i j)) s->wpAny (model X.prog X.w) X.A (f (.int i t) (.int j u)) Q E s) :
  CP X f (IY λi j=>.bl (g i j)):=by
 intro AB s σ H x y v u Q I rx ry h
 obtain⟨i,j,rfl,rfl,q⟩:=h
 obtain⟨t,rfl⟩:=rx
 obtain⟨t',rfl⟩:=ry
 exact rule i j t t' s _ _ ⟨.bl (g i j),H,I,rfl,q⟩
def hX(i j:Int):Prop:=0<j/\j<1073741824
def hZ(i j:Int):Prop:=0<=j/\j<=1000000/\i.natAbs<2 ^ 64
def CMul(i j:Int):Prop:=(-(2 ^ 64)<i/\i<2 ^ 64)\/(-(2 ^ 64)<j/\j<2 ^ 64)
theorem CMul.ok{i j:Int}(h:CMul i j):IntMulOk i j:=by
 rcases h with⟨h1,h2⟩ | ⟨h1,h2⟩
 ·exact .of_left (intBits_le_64 h1 h2)
 ·exact .of_right (intBits_le_64 h1 h2)
theorem Cm:CP X (binaryOp .Add) (IY λi j=>.int (i+j)):=hW λ_ _ _ _ _ _ _ q=>add_int q
theorem QZ:CP X (binaryOp .Sub) (IY λi j=>.int (i - j)):=hW λ_ _ _ _ _ _ _ q=>sub_int q
theorem Cp:CP X (binaryOp .Mult) (rI CMul λi j=>.int (i * j)):=S1 λ_ _ _ _ _ _ _ hc q=>mul_int q hc.ok
theorem IE:CP X (binaryOp .FloorDiv) (rI hX λi j=>.int (i / j)):=S1 λi j _ _ _ _ _ hc q=>by
 have h1:(0:Int)<j:=hc.1
 have h2:j<1073741824:=hc.2
 exact floordiv_int (by omega) (by rw[Int.fdiv_eq_ediv_of_nonneg i (by omega)];exact q) (.inl (PyProof.noPylong_small (by omega)))
theorem CB:CP X (binaryOp .Mod) (rI (λ_ j=>0<j) λi j=>.int (i % j)):=S1 λi j _ _ _ _ _ hc q=>by
 have h1:(0:Int)<j:=hc
 exact mod_int' (by omega) (by rw[Int.fmod_eq_emod_of_nonneg i (by omega)];exact q)
theorem Cq:CP X (binaryOp .Pow) (rI hZ λi j=>.int (i ^ j.toNat)):=S1 λ_ _ _ _ _ _ _ hc q=>pow_int_small hc.1 hc.2.1 hc.2.2 q
end
def G3:V->V->Bool
 | .non,.non=>true | .non,.int _=>true | .int _,.non=>true | .non,.bl _=>true | .bl _,.non=>true | .non,.str _=>true | .str _,.non=>true
 | .int _,.int _=>true | .bl _,.bl _=>true | .str _,.str _=>true | .byt _,.byt _=>true
 | .int _,.str _=>true | .str _,.int _=>true | .bl _,.str _=>true | .str _,.bl _=>true
 | _,_=>false
def Cv:R2:=λx y H Q=>G3 x y=true/\Q (.bl (decide (x=y))) H
def Cw:R2:=λx y H Q=>G3 x y=true/\Q (.bl (!decide (x=y))) H
theorem iA{i j:Int}:decide (V.int i=V.int j)=(i == j):=by
 rw[Bool.eq_iff_iff]
 simp
theorem iB{i j:Bool}:decide (V.bl i=V.bl j)=(i == j):=by
 rw[Bool.eq_iff_iff]
 simp
theorem iC{i j:Str}:decide (V.str i=V.str j)=(i == j):=by
 rw[Bool.eq_iff_iff]
 simp
theorem iD{i j:Array UInt8}:decide (V.byt i=V.byt j)=(i.toList == j.toList):=by
 rw[Bool.eq_iff_iff]
 cases i
 cases j
 simp
section
variable{X:Cx}{a b c:Expr}{ta tb tc:TE}{pos:Pos}
theorem DK{AB:List (Addr × Obj)}{σ:St}{H:Hp}{s:Shared}{Q:VK}{k k':Bool}(I:Inv X AB σ H s)(q:Q (.bl k) H)(e:k=k'):EP X AB σ Q (.bool k') s:=by
 subst e
 exact⟨.bl k,H,I,rfl,q⟩
theorem Cy:CP X (compareOp .Eq) Cv:=by
 intro AB s σ H x y v u Q I rx ry h
 obtain⟨hs,q⟩:=h
 cases x with
 | non =>
  cases rx
  cases y with
  | non=>cases ry;exact PySem.EqNone.eq_none_none (DK I q (by simp))
  | bl j=>cases ry;exact PySem.EqNone.eq_none_bool (DK I q (by simp))
  | int j=>obtain⟨t',rfl⟩:=ry;exact PySem.EqNone.eq_none_int (DK I q (by simp))
  | str j=>obtain⟨t',rfl⟩:=ry;exact PySem.EqNone.eq_none_str (DK I q (by simp))
  | _=>exact absurd (show false=true from hs) Bool.false_ne_true
 | bl i =>
  cases rx
  cases y with
  | non=>cases ry;exact PySem.EqNone.eq_bool_none (DK I q (by simp))
  | bl j=>cases ry;exact eq_bool (DK I q iB)
  | str j=>obtain⟨t',rfl⟩:=ry;exact PySem.EqMixed.eq_bool_str (DK I q (by simp))
  | _=>exact absurd (show false=true from hs) Bool.false_ne_true
 | int i =>
  obtain⟨t,rfl⟩:=rx
  cases y with
  | non=>cases ry;exact PySem.EqNone.eq_int_none (DK I q (by simp))
  | int j=>obtain⟨t',rfl⟩:=ry;exact eq_int (DK I q iA)
  | str j=>obtain⟨t',rfl⟩:=ry;exact PySem.EqMixed.eq_int_str (DK I q (by simp))
  | _=>exact absurd (show false=true from hs) Bool.false_ne_true
 | str i =>
  obtain⟨t,rfl⟩:=rx
  cases y with
  | non=>cases ry;exact PySem.EqNone.eq_str_none (DK I q (by simp))
  | bl j=>cases ry;exact PySem.EqMixed.eq_str_bool (DK I q (by simp))
  | int j=>obtain⟨t',rfl⟩:=ry;exact PySem.EqMixed.eq_str_int (DK I q (by simp))
  | str j=>obtain⟨t',rfl⟩:=ry;exact eq_str (DK I q iC)
  | _=>exact absurd (show false=true from hs) Bool.false_ne_true
 | byt i =>
  obtain⟨t,rfl⟩:=rx
  cases y with
  | byt j=>obtain⟨t',rfl⟩:=ry;exact W.eq_bytes (DK I q iD)
  | _=>exact absurd (show false=true from hs) Bool.false_ne_true
 | _=>cases y<;>exact absurd (show false=true from hs) Bool.false_ne_true
theorem Cz:CP X (compareOp .NotEq) Cw:=by
 intro AB s σ H x y v u Q I rx ry h
 obtain⟨hs,q⟩:=h
 cases x with
 | non =>
  cases rx
  cases y with
  | non=>cases ry;exact PySem.EqNone.ne_none_none (DK I q (by simp))
  | bl j=>cases ry;exact PySem.EqNone.ne_none_bool (DK I q (by simp))
  | int j=>obtain⟨t',rfl⟩:=ry;exact PySem.EqNone.ne_none_int (DK I q (by simp))
  | str j=>obtain⟨t',rfl⟩:=ry;exact PySem.EqNone.ne_none_str (DK I q (by simp))
  | _=>exact absurd (show false=true from hs) Bool.false_ne_true
 | bl i =>
  cases rx
  cases y with
  | non=>cases ry;exact PySem.EqNone.ne_bool_none (DK I q (by simp))
  | bl j=>cases ry;exact ne_bool (DK I q (congrArg not iB))
  | str j=>obtain⟨t',rfl⟩:=ry;exact PySem.EqMixed.ne_bool_str (DK I q (by simp))
  | _=>exact absurd (show false=true from hs) Bool.false_ne_true
 | int i =>
  obtain⟨t,rfl⟩:=rx
  cases y with
  | non=>cases ry;exact PySem.EqNone.ne_int_none (DK I q (by simp))
  | int j=>obtain⟨t',rfl⟩:=ry;exact ne_int (DK I q (congrArg not iA))
  | str j=>obtain⟨t',rfl⟩:=ry;exact PySem.EqMixed.ne_int_str (DK I q (by simp))
  | _=>exact absurd (show false=true from hs) Bool.false_ne_true
 | str i =>
  obtain⟨t,rfl⟩:=rx
  cases y with
  | non=>cases ry;exact PySem.EqNone.ne_str_none (DK I q (by simp))
  | bl j=>cases ry;exact PySem.EqMixed.ne_str_bool (DK I q (by simp))
  | int j=>obtain⟨t',rfl⟩:=ry;exact PySem.EqMixed.ne_str_int (DK I q (by simp))
  | str j=>obtain⟨t',rfl⟩:=ry;exact ne_str (DK I q (congrArg not iC))
  | _=>exact absurd (show false=true from hs) Bool.false_ne_true
 | byt i =>
  obtain⟨t,rfl⟩:=rx
  cases y with
  | byt j=>obtain⟨t',rfl⟩:=ry;exact W.ne_bytes (DK I q (congrArg not iD))
  | _=>exact absurd (show false=true from hs) Bool.false_ne_true
 | _=>cases y<;>exact absurd (show false=true from hs) Bool.false_ne_true
theorem Db:CP X (compareOp .Lt) (IY λi j=>.bl (decide (i<j))):=S3 λ_ _ _ _ _ _ _ q=>lt_int q
theorem Dc:CP X (compareOp .LtE) (IY λi j=>.bl (decide (i<=j))):=S3 λ_ _ _ _ _ _ _ q=>le_int q
theorem Dd:CP X (compareOp .Gt) (IY λi j=>.bl (decide (j<i))):=S3 λ_ _ _ _ _ _ _ q=>gt_int q
theorem Dg:CP X (compareOp .GtE) (IY λi j=>.bl (decide (j<=i))):=S3 λ_ _ _ _ _ _ _ q=>ge_int q
theorem IZ:CP X (compareOp .Is) (λx y H Q=>y=.non/\Q (.bl (decide (x=.non))) H):=by
 intro AB s σ H x y v u Q I rx ry h
 obtain⟨rfl,q⟩:=h
 cases ry
 refine is_none_gen (DK I q ?_)
 cases x<;>first
  | (cases rx;rfl)
  | (obtain⟨t,rfl⟩:=rx;rfl)
theorem IF:CP X (compareOp .IsNot) (λx y H Q=>y=.non/\Q (.bl (!decide (x=.non))) H):=by
 intro AB s σ H x y v u Q I rx ry h
 obtain⟨rfl,q⟩:=h
 cases ry
 refine isnot_none_gen (DK I q ?_)
 cases x<;>first
  | (cases rx;rfl)
  | (obtain⟨t,rfl⟩:=rx;rfl)
theorem A8(b:Expr){op:CmpOp}(h:op≠.In:=by decide)(h2:op≠.NotIn:=by decide):behindInMarks op b=false:=by
 have e1:(op == CmpOp.In)=false:=by cases op<;>first | rfl | exact absurd rfl h
 have e2:(op == CmpOp.NotIn)=false:=by cases op<;>first | rfl | exact absurd rfl h2
 cases b<;>simp[behindInMarks,e1,e2]
theorem NX{op:CmpOp}{r:R2}(ho:CP X (compareOp op) r)(ha:PE X a ta)(hb:PE X b tb)(hm:behindInMarks op b=false):PE X (.Compare a [op] [b] pos) (AC r ta tb):=by
 intro AB s σ H Q I h
 exact wpAny_Compare1 (WM ha hb I h λv u s2 x y H2 I2 rx ry q=>ho AB s2 σ H2 x y v u Q I2 rx ry q) hm
def A7(t:TE):TT:=λσ H Q=>t σ H λx H'=>∃ k,x=.bl k/\Q k H'
theorem BD{op:CmpOp}{r:R2}(ho:CP X (compareOp op) r)(ha:PE X a ta)(hb:PE X b tb)(hm:behindInMarks op b=false):PT X (.Compare a [op] [b] pos) (A7 (AC r ta tb)):=by
 intro AB s σ H Q I h
 refine wpAny_isTrue_Compare1 (AW (ha AB s σ H _ I h) λv s1 ⟨x,H1,I1,r1,q1⟩=>AW (hb AB s1 σ H1 _ I1 q1) λu s2 ⟨y,H2,I2,r2,q2⟩ =>
  AW (ho AB s2 σ H2 x y v u _ I2 r1 r2 q2) λc s3 ⟨z,H3,I3,r3,k,e,q3⟩=> ?_) hm
 subst e
 cases r3
 exact wpAny_truthy_bool ⟨H3,I3,q3⟩
def Q0(r r':R2)(ta tb tc:TE):TE:=λσ H Q=>ta σ H λx H1=>tb σ H1 λy H2=>r x y H2 λz H3=>∃ k,z=.bl k ∧
 (if k=true then tc σ H3 λw' H4=>r' y w' H4 Q else Q (.bl false) H3)
theorem WN{op op':CmpOp}{r r':R2}(ho:CP X (compareOp op) r)(ho':CP X (compareOp op') r')(ha:PE X a ta)(hb:PE X b tb)(hc:PE X c tc)
  (hm:lastMarks [op,op'] [b,c]=false:=by with_unfolding_all rfl):PT X (.Compare a [op,op'] [b,c] pos) (A7 (Q0 r r' ta tb tc)):=by
 intro AB s σ H Q I h
 refine isTrue_chain (AW (ha AB s σ H _ I h) λv s1 ⟨x,H1,I1,r1,q1⟩=>test_link (AW (hb AB s1 σ H1 _ I1 q1) λu s2 ⟨y,H2,I2,r2,q2⟩ =>
  AW (ho AB s2 σ H2 x y v u _ I2 r1 r2 q2) λd s3 ⟨z,H3,I3,r3,k,e,q3⟩=> ?_)) hm
 subst e
 cases r3
 refine wpAny_truthy_bool ?_
 cases k with
 | false =>
  obtain⟨k',e',q'⟩:=q3
  cases e'
  exact ite_ff ⟨H3,I3,q'⟩
 | true =>
  refine ite_tt (test_last (AW (hc AB s3 σ H3 _ I3 q3) λw' s4 ⟨z',H4,I4,r4,q4⟩=>AW (ho' AB s4 σ H4 y z' u w' _ I4 r2 r4 q4) λd' s5 hzz=> ?_))
  obtain⟨z2,H5,I5,r5,k2,e2,q5⟩:=hzz
  subst e2
  cases r5
  exact wpAny_truthy_bool ⟨H5,I5,q5⟩
def LI(K:W.Frag)(x:V)(H:Hp)(k:Bool):Prop :=
 match x with
 | .non=>k=false
 | .bl b=>k=b
 | .int i=>k=(i != 0)
 | .str y=>y.length<=sizeLine/\k=((y.length:Int) != 0)
 | .byt y=>y.size<=sizeLine/\k=((y.size:Int) != 0)
 | .ref p=>(∃ xs,SqL K H p xs/\k= !xs.isEmpty)\/(∃ xs,SqT K H p xs/\k= !xs.isEmpty)\/∃ kvs,H p=some (.dK kvs)/\k= !kvs.isEmpty
 | _=>False
theorem Dh{κ :Type}{kvs:List (κ × V)}{vs:List (κ × Value)}(r:KV kvs vs):(!vs.isEmpty)= !kvs.isEmpty:=by
 cases r<;>rfl
theorem iE{xs:List V}{its:List Value}(r:Vals xs its):(!its.toArray.isEmpty)= !xs.isEmpty:=by
 cases r<;>simp
theorem MK:(sizeLine:Nat)<2 ^ 63:=by rw[sizeLine_eq];decide
theorem iF:Cl X (λx H Q=>∃ k,LI X.K x H k/\Q k H):=by
 intro AB s σ H x v Q I rx h
 obtain⟨k,e,q⟩:=h
 have hl:=MK
 have hs:sizeLine=16777216:=sizeLine_eq
 cases x with
 | non =>
  cases rx
  have e':k=false:=e
  subst e'
  exact truthy_none ⟨H,I,q⟩
 | bl b =>
  cases rx
  have e':k=b:=e
  subst e'
  exact wpAny_truthy_bool ⟨H,I,q⟩
 | int i =>
  obtain⟨t,rfl⟩:=rx
  have e':k=(i != 0):=e
  subst e'
  exact PySem.P.truthy_int ⟨H,I,q⟩
 | str y =>
  obtain⟨t,rfl⟩:=rx
  obtain⟨hy,e'⟩:y.length<=sizeLine/\k=((y.length:Int) != 0):=e
  subst e'
  exact PySem.P.truthy_str (by omega) ⟨H,I.tok _,q⟩
 | byt y =>
  obtain⟨t,rfl⟩:=rx
  obtain⟨hy,e'⟩:y.size<=sizeLine/\k=((y.size:Int) != 0):=e
  subst e'
  exact W.truthy_bytes (by omega) ⟨H,I.tok _,q⟩
 | ref p =>
  cases rx
  have e':(∃ xs,SqL X.K H p xs/\k= !xs.isEmpty)\/(∃ xs,SqT X.K H p xs/\k= !xs.isEmpty)\/∃ kvs,H p=some (.dK kvs)/\k= !kvs.isEmpty:=e
  rcases e' with⟨xs,hx,e'⟩ | ⟨xs,hx,e'⟩ | ⟨kvs,hx,e'⟩
  ·subst e'
   obtain⟨its,r,pl,hz⟩:=I.list hx
   have EC:=r.length
   exact wpAny_truthy_list pl.isList (by simp only[List.size_toArray];omega) ⟨H,I.tok _,by rw[iE r];exact q⟩
  ·subst e'
   obtain⟨its,r,pl,hz⟩:=I.tuple hx
   have EC:=r.length
   exact truthy_tuple pl (by simp only[List.size_toArray];omega) ⟨H,I.tok _,by rw[iE r];exact q⟩
  ·subst e'
   obtain⟨hz,hS,vs,r,m⟩:kvs.length<=sizeLine/\(p == sysModules)=false/\∃ vs,KV kvs vs/\s.heap.DictOf (ER X.prog X.w) p vs:=I.hok p _ hx
   have EC:kvs.length=vs.length:=Paired.length r
   exact wpAny_truthy_dict hS m (by omega) ⟨H,I.tok _,by rw[Dh r];exact q⟩
 | _=>exact(show False from e).elim
theorem Q3(ha:PE X a ta)(he:∀ whole,isTrue a X.env whole=(do let v ← whole;standAt a.pos;holding [v] (truthy v))) :
  PT X a (λσ H Q=>ta σ H λx H'=>∃ k,LI X.K x H' k/\Q k H'):=by
 intro AB s σ H Q I h
 exact isTrue_plain (AW (ha AB s σ H _ I h) λv s1 ⟨x,H1,I1,r1,q1⟩=>iF AB s1 σ H1 x v Q I1 r1 q1) (he _)
theorem Dj:CP X (binaryOp .Add) (λx y H Q=>∃ i j,x=.str i/\y=.str j/\i.length+j.length<=sizeLine/\Q (.str (i++j)) H):=by
 intro AB s σ H x y v u Q I rx ry h
 obtain⟨i,j,rfl,rfl,hz,q⟩:=h
 obtain⟨t,rfl⟩:=rx
 obtain⟨t',rfl⟩:=ry
 exact add_str (λt' tk=>⟨.str (i++j),H,I.tok _,⟨_,rfl⟩,q⟩) hz
theorem ML{x:V}{us:List Value}(r:Vals [x] us):∃ u,us=[u]/\RelV x u:=by
 cases r with
 | cons r1 r2=>cases r2;exact⟨_,rfl,r1⟩
theorem Dk{x y:V}{us:List Value}(r:Vals [x,y] us):∃ u w',us=[u,w']/\RelV x u/\RelV y w':=by
 cases r with
 | cons r1 r2 =>
  cases r2 with
  | cons r3 r4=>cases r4;exact⟨_,_,rfl,r1,r3⟩
theorem Dl(hc:X.calm=true):HH X (.builtin "max") (λxs H Q=>∃ i j,xs=[.int i,.int j]/\Q (.int (if j > i then j else i)) H):=by
 intro AB s σ H xs us Q I r h
 obtain⟨i,j,rfl,q⟩:=h
 obtain⟨u,w',rfl,⟨t,rfl⟩,⟨t',rfl⟩⟩:=Dk r
 refine max_two_ints (I.ok.hd hc) λh' tk k=>⟨_,H,I.kept k,?_,q⟩
 by_cases hj:j > i
 ·rw[if_pos hj,if_pos hj];exact⟨_,rfl⟩
 ·rw[if_neg hj,if_neg hj];exact⟨_,rfl⟩
theorem WO:HH X (.type "int") (λxs H Q=>(∃ i,xs=[.int i]/\Q (.int i) H)\/∃ k,xs=[.bl k]/\Q (.int (if k then 1 else 0)) H):=by
 intro AB s σ H xs us Q I r h
 rcases h with⟨i,rfl,q⟩ | ⟨k,rfl,q⟩
 ·obtain⟨u,rfl,t,rfl⟩:=ML r
  exact call_int_int ⟨.int i,H,I,⟨_,rfl⟩,q⟩
 ·obtain⟨u,rfl,r1⟩:=ML r
  cases r1
  exact call_int_bool ⟨.int (if k then 1 else 0),H,I.tok _,⟨_,rfl⟩,q⟩
def NY(K:W.Frag)(x:V)(H:Hp)(n:Nat):Prop :=
 match x with
 | .str y=>y.length<=sizeLine/\n=y.length
 | .byt y=>y.size<=sizeLine/\n=y.size
 | .ref p=>(∃ xs,SqL K H p xs/\n=xs.length)\/∃ xs,SqT K H p xs/\n=xs.length
 | _=>False
theorem Dm:HH X (.builtin "len") (λxs H Q=>∃ x n,xs=[x]/\NY X.K x H n/\Q (.int n) H):=by
 intro AB s σ H xs us Q I r h
 obtain⟨x,n,rfl,e,q⟩:=h
 obtain⟨u,rfl,rx⟩:=ML r
 have hl:=MK
 have hs:sizeLine=16777216:=sizeLine_eq
 cases x with
 | str y =>
  obtain⟨t,rfl⟩:=rx
  obtain⟨hy,e'⟩:y.length<=sizeLine/\n=y.length:=e
  subst e'
  exact len_str (by omega) ⟨.int _,H,I.tok _,⟨_,rfl⟩,q⟩
 | byt y =>
  obtain⟨t,rfl⟩:=rx
  obtain⟨hy,e'⟩:y.size<=sizeLine/\n=y.size:=e
  subst e'
  exact W.len_bytes (by omega) ⟨.int _,H,I.tok _,⟨_,rfl⟩,q⟩
 | ref p =>
  cases rx
  have e':(∃ xs,SqL X.K H p xs/\n=xs.length)\/∃ xs,SqT X.K H p xs/\n=xs.length:=e
  rcases e' with⟨xs,hx,e'⟩ | ⟨xs,hx,e'⟩
  ·subst e'
   obtain⟨its,r',pl,hz⟩:=I.list hx
   have EC:=r'.length
   exact Calls.call_len_list pl.isList (by simp only[List.size_toArray];omega) ⟨.int xs.length,H,I.tok _,⟨_,by simp only[List.size_toArray];rw[EC]⟩,q⟩
  ·subst e'
   obtain⟨its,r',pl,hz⟩:=I.tuple hx
   have EC:=r'.length
   exact len_tuple pl (by simp only[List.size_toArray];omega) ⟨.int xs.length,H,I.tok _,⟨_,by simp only[List.size_toArray];rw[EC]⟩,q⟩
 | _=>exact(show False from e).elim
end
end L2
namespace L2
structure ObjM(h:Heap)(x dx C:Addr)(mA:Str->Option Value):Prop where
 obj:h.get? x=some (W.instObj C dx)
 ns:h.Ns1 dx mA
 ne:dx≠x
theorem Dp{h:Heap}{dx:Addr}{mA:Str->Option Value}(n:h.Ns1 dx mA):∃ od,h.get? dx=some od/\∀ name,W.lookIn name od=some (mA name):=by
 obtain⟨o,es,ep,ho,hd,hk,_,hm⟩:=n
 refine⟨o,ho,λname=> ?_⟩
 have e:=hm name
 unfold nsFind findBy at e
 rw[<-Array.find?_toList]at e
 unfold W.lookIn
 rw[hd]
 dsimp only
 split
 ·rename_i y q
  rw[q]at e
  exact congrArg some e
 ·rename_i q
  rw[q]at e
  have a:es.toList.any (·.refKey)=false:=by
   rw[List.any_eq_false]
   intro y hy
   obtain⟨z,t,hkey⟩:=hk y (Array.mem_toList_iff.mp hy)
   simp[DictEntry.refKey,hkey]
  have a':¬ es.toList.any (·.refKey)=true:=by rw[a];exact Bool.false_ne_true
  rw[if_neg a']
  exact congrArg some e
theorem ObjM.look{h:Heap}{x dx C:Addr}{mA:Str->Option Value}(I:ObjM h x dx C mA):∃ od,W.InstAt h x (W.instObj C dx) C (some od)/\∀ name,W.lookIn name od=some (mA name) :=
 let ⟨od,ho,hl⟩:=Dp I.ns
 ⟨od,⟨I.obj,rfl,rfl,ho⟩,hl⟩
section
variable{prog:Program}{w:World}{A:Around}{E:Value->Shared->Prop}{s:Shared}{K:W.Frag}{x dx C f:Addr}{mA:Str->Option Value}{name:Str}{v:Value}
theorem Dq{expr:Bool}{Q:Value->Shared->Prop}(X:K.In s.heap)(I:ObjM s.heap x dx C mA)(hg:W.plainGet K C name=true)(hh:W.hasDictIn K C=true)
  (ha:W.findIn K (.ref C) name=some none) (hv:mA name=some v) (hv':W.handedIn v=true) (h:Q v { s with toks:=s.toks+1 }) :
  wpAny (model prog w) A (getAttr (.ref x) name expr) Q E s:=by
 obtain⟨od,J,hl⟩:=I.look
 exact W.get_value X J (W.plainGet_of hg).1 (W.findObj_own hh ha rfl (by rw[hl,hv])) hv' h
theorem Dv{pl:Sem Bool}{Q:Value × List Value->Shared->Prop}(X:K.In s.heap)(I:ObjM s.heap x dx C mA)(hg:W.plainGet K C name=true)
  (hf:W.findIn K (.ref C) name=some (some (.ref f))) (ht:W.isFn K (.ref f)=true) (hv:mA name=none) (h:Q (.ref f,[.ref x]) s) :
  wpAny (model prog w) A (getMethod (.ref x) name pl) Q E s:=by
 obtain⟨od,J,hl⟩:=I.look
 exact W.method_fn X J (W.plainGet_of hg).1 (W.plainGet_of hg).2 hf (beq_iff_eq.mp ht) (by show(W.lookIn name od).map (·.isSome)=some false;rw[hl,hv];rfl) h
theorem Dw{ns:List Str}{Q:Unit->Shared->Prop}(X:K.In s.heap)(I:ObjM s.heap x dx C mA)
  (hs:W.findIn K (.ref C) "__setattr__"=some (some (.builtin "object.__setattr__"))) (hp:W.plainOver K C=true) (ht:W.takerIn K C name=some none) (hh:W.hasDictIn K C=true)
  (hw:PySem.Within mA ns) (hsz:ns.length<=sizeLine)
  (h:∀ h',ObjM h' x dx C (λy=>if y=name then some v else mA y)->Heap.SameBut dx s.heap h'->Q () { s with heap:=h',toks:=s.toks+2 }) :
  wpAny (model prog w) A (setAttr (.ref x) name v) Q E s:=by
 obtain⟨od,J,hl⟩:=I.look
 refine W.set_plain X J hs (W.osa_open (s:={ s with toks:=s.toks+1 }) (r:=none) X J hp ht λb=> ?_)
 obtain⟨cd,hc,hd'⟩:=W.any_some hh
 have hx:s.heap.get? x=some ⟨.ref C,some dx,.plain,#[]⟩:=I.obj
 refine wpAny_bind (wpAny_pure (wpAny_bind (wpAny_bind (wpAny_loadPart hx (wpAny_bind (W.Looks.here (s:={ s with toks:=s.toks+1 }) (W.looks_clsIn X hc) ?_))))))
 rw[hd']
 refine wpAny_pure (a:=some dx) (wpAny_bind (wpAny_pure (wpAny_bind ?_)))
 refine wpAny_nsSet1 (s:={ s with toks:=s.toks+1 }) I.ns λh' hn2 hs2=> ?_
 obtain⟨oD,esD,epD,hoD,hdD,hcD⟩:=hn2.count (PySem.Within.cons name v hw)
 refine wpAny_bind (wpAny_lookBehind hoD (by rw[hdD];exact pastItsLine_dict (Nat.le_trans hcD (by rw[List.length_cons];omega))) ?_)
 exact wpAny_pure (h _ ⟨(hs2.2 _ (Ne.symm I.ne)).trans I.obj,hn2,I.ne⟩ hs2)
theorem Dx{R:Result->Shared->Prop}{vs:List Value}{kw:List (Str × Value)}(X:K.In s.heap)(hm:W.makesIn K C=true)
  (hi:W.findIn K (.ref C) "__init__"=some (some (.ref f))) (hf:W.typeIn K (.ref f)=some (.type "function"))
  (h:codeAny (model prog w) (A.under (.builtin "type.__call__" ⟨.ref C::vs,kw⟩)) (.call (.ref f) ⟨.ref (s.heap.objs.size+1)::vs,kw⟩) (W.InitBack (s.heap.objs.size+1) R)
   { s with heap:=(s.heap.push W.emptyDict).push (W.instObj C s.heap.objs.size) }) :
  codeAny (model prog w) A (.call (.ref C) ⟨vs,kw⟩) R s:=by
 obtain⟨hh,g,d,t,os⟩:=s
 exact W.make_core (W.makes_of X hm) (W.looks_findIn X hi) (λself=>W.bind_fn X self hf) (.inl rfl) h
end
def CS(f:Str)(v:V):List (Str × V)->List (Str × V)
 | []=>[(f,v)]
 | (g,x)::r=>if g=f then(g,v)::r else(g,x)::CS f v r
theorem iG(f g:Str)(v:V):∀ fs:List (Str × V),(CS f v fs).lookup g=if g=f then some v else fs.lookup g
 | []=>by
  show List.lookup g [(f,v)]=_
  by_cases h:g=f
  ·have hb:(g == f)=true:=beq_iff_eq.mpr h
   simp only[List.lookup,hb,if_pos h]
  ·have hb:(g == f)=false:=beq_eq_false_iff_ne.mpr h
   simp only[List.lookup,hb,if_neg h]
 | (k,x)::r=>by
  have ih:=iG f g v r
  rw[show CS f v ((k,x)::r)=(if k=f then(k,v)::r else(k,x)::CS f v r)from rfl]
  by_cases hk:k=f
  ·rw[if_pos hk]
   by_cases h:g=k
   ·have hb:(g == k)=true:=beq_iff_eq.mpr h
    simp only[List.lookup,hb,if_pos (h.trans hk)]
   ·have hb:(g == k)=false:=beq_eq_false_iff_ne.mpr h
    simp only[List.lookup,hb,if_neg (λe:g=f=>h (e.trans hk.symm))]
  ·rw[if_neg hk]
   by_cases h:g=k
   ·have hb:(g == k)=true:=beq_iff_eq.mpr h
    simp only[List.lookup,hb,if_neg (λe:g=f=>hk (h.symm.trans e))]
   ·have hb:(g == k)=false:=beq_eq_false_iff_ne.mpr h
    simp only[List.lookup,hb]
    exact ih
theorem WP(f:Str)(v:V):∀ fs:List (Str × V),f∈(CS f v fs).map (·.1)/\∀ g,g∈fs.map (·.1)->g∈(CS f v fs).map (·.1)
 | []=>⟨by simp[CS],λg h=>by simp at h⟩
 | (k,x)::r=>by
  obtain⟨i1,i2⟩:=WP f v r
  rw[show CS f v ((k,x)::r)=(if k=f then(k,v)::r else(k,x)::CS f v r)from rfl]
  by_cases hk:k=f
  ·rw[if_pos hk]
   subst hk
   exact⟨by simp,λg h=>by simpa using h⟩
  ·rw[if_neg hk]
   refine⟨?_,λg h=> ?_⟩
   ·rw[List.map_cons]
    exact List.mem_cons_of_mem _ i1
   ·rw[List.map_cons]at h ⊢
    rcases List.mem_cons.mp h with e | e
    ·exact List.mem_cons.mpr (.inl e)
    ·exact List.mem_cons_of_mem _ (i2 g e)
theorem WQ(f:Str)(v:V):∀ fs:List (Str × V),(CS f v fs).length<=fs.length+1
 | []=>by simp[CS]
 | (k,x)::r=>by
  have ih:=WQ f v r
  rw[show CS f v ((k,x)::r)=(if k=f then(k,v)::r else(k,x)::CS f v r)from rfl]
  by_cases hk:k=f
  ·rw[if_pos hk,List.length_cons,List.length_cons];omega
  ·rw[if_neg hk,List.length_cons,List.length_cons];omega
theorem RelO.some_of{v:V}{o:Option Value}(r:RelO (some v) o):∃ u,o=some u/\RelV v u:=by
 cases o with
 | none=>exact(show False from r).elim
 | some u=>exact⟨u,rfl,r⟩
theorem RelO.none_of{o:Option Value}(r:RelO none o):o=none:=by
 cases o with
 | none=>rfl
 | some u=>exact(show False from r).elim
theorem Dy{v:V}{u:Value}(r:RelV v u):W.handedIn u=true:=by
 cases v with
 | non=>cases (show u=Value.none from r);rfl
 | bl b=>cases (show u=Value.bool b from r);rfl
 | int i=>obtain⟨t,e⟩:=(show ∃ t,u=Value.int i t from r);cases e;rfl
 | str x=>obtain⟨t,e⟩:=(show ∃ t,u=Value.str x t from r);cases e;rfl
 | byt b=>obtain⟨t,e⟩:=(show ∃ t,u=Value.bytes b t from r);cases e;rfl
 | flt b=>obtain⟨t,e⟩:=(show ∃ t,u=Value.float b t from r);cases e;rfl
 | ref a=>cases (show u=Value.ref a from r);rfl
 | ty n=>cases (show u=Value.type n from r);rfl
section
variable{P:Program}{w:World}{H H':Hp}{h h':Heap}{a C dx:Addr}{fs fs':List (Str × V)}
theorem S5(hok:HOk P w H h)(e:H a=some (.ins C dx fs)):∃ mA,ObjM h a dx C mA/\(∀ f,RelO (fs.lookup f) (mA f))/\PySem.Within mA (fs.map (·.1))/\fs.length<=1000/\H dx=some (.own a):=by
 obtain⟨d,z,ne,ob,mA,n,r,q⟩:=(show ObjOk P w H h a (.ins C dx fs)from hok a _ e)
 exact⟨mA,⟨ob,n,ne⟩,r,q,z,d⟩
end
structure Cls(K:W.Frag)(C:Addr):Prop where
 pg:W.plainGet K C Str.empty=true
 hd:W.hasDictIn K C=true
 po:W.plainOver K C=true
 sa:W.findIn K (.ref C) "__setattr__"=some (some (.builtin "object.__setattr__"))
theorem Cls.get{K:W.Frag}{C:Addr}(c:Cls K C)(f:Str):W.plainGet K C f=true:=c.pg
def NoAttr(K:W.Frag)(C:Addr)(f:Str):Prop:=W.findIn K (.ref C) f=some none
theorem NoAttr.taker{K:W.Frag}{C:Addr}{f:Str}(n:NoAttr K C f):W.takerIn K C f=some none:=by
 unfold W.takerIn
 rw[show W.findIn K (.ref C) f=some none from n]
 rfl
structure Con(K:W.Frag)(C:Addr)(f:Str)(v:V)(u:Value):Prop where
 at_:W.findIn K (.ref C) f=some (some u)
 rel:RelV v u
 get:W.specialIn K u "__get__"=some none
 cp:W.copiedNames.contains f=false
structure S6(K:W.Frag)(C:Addr)(m:Str)(f:Addr):Prop where
 at_:W.findIn K (.ref C) m=some (some (.ref f))
 fn:W.isFn K (.ref f)=true
 kp:W.keepIn K (.ref f)=true
section
variable{X:Cx}{AB:List (Addr × Obj)}{σ:St}{H:Hp}{s:Shared}{a C dx:Addr}{fs:List (Str × V)}{f:Str}{v:V}{A:Around}{E:Value->Shared->Prop}
theorem iH{b:Bool}{Q:Value->Shared->Prop}(I:Inv X AB σ H s)(e:H a=some (.ins C dx fs))(c:Cls X.K C)(n:NoAttr X.K C f)(l:fs.lookup f=some v)
  (h:∀ u s',Inv X AB σ H s'->RelV v u->Q u s'):wpAny (model X.prog X.w) A (getAttr (.ref a) f b) Q E s:=by
 obtain⟨mA,O,r,_,_,_⟩:=S5 I.hok e
 obtain⟨u,hu,ru⟩:=RelO.some_of (v:=v) (o:=mA f) (by rw[<-l];exact r f)
 exact Dq I.kIn O (c.get f) c.hd n hu (Dy ru) (h u _ (I.tok _) ru)
theorem iI{m:Str}{g:Addr}{pl:Sem Bool}{Q:Value × List Value->Shared->Prop}(I:Inv X AB σ H s)(e:H a=some (.ins C dx fs))(c:Cls X.K C)(k:S6 X.K C m g)(l:fs.lookup m=none)
  (h:Q (.ref g,[.ref a]) s):wpAny (model X.prog X.w) A (getMethod (.ref a) m pl) Q E s:=by
 obtain⟨mA,O,r,_,_,_⟩:=S5 I.hok e
 have hn:mA m=none:=RelO.none_of (by rw[<-l];exact r m)
 exact Dv I.kIn O (c.get m) k.at_ k.fn hn h
theorem iJ{y:V}{u:Value}{Q:Unit->Shared->Prop}(I:Inv X AB σ H s)(e:H a=some (.ins C dx fs))(c:Cls X.K C)(n:NoAttr X.K C f)(hl:fs.length<1000)(ry:RelV y u)
  (h:∀ s',Inv X AB σ (upd H a (.ins C dx (CS f y fs))) s'->Q () s'):wpAny (model X.prog X.w) A (setAttr (.ref a) f u) Q E s:=by
 obtain⟨mA,O,r,wi,_,ho⟩:=S5 I.hok e
 have hz:(fs.map (·.1)).length<=sizeLine:=by rw[List.length_map,sizeLine_eq];omega
 refine Dw I.kIn O c.sa c.po n.taker c.hd wi hz λh' O' sb=>h _ ?_
 have hd:∃ o,h'.get? dx=some o:=let ⟨o,_,_,e',_⟩:=O'.ns;⟨o,e'⟩
 refine I.write (x:=a) (e:=dx) (by rw[e];exact True.intro) (.inr ho) (λb q hb z=>(sb.2 b hb).trans z) hd ?_
 refine⟨by rw[AO O.ne];exact ho,?_,O.ne,O'.obj,_,O'.ns,λg=> ?_,λg hg=> ?_⟩
 ·have:=WQ f y fs;omega
 ·show RelO ((CS f y fs).lookup g) (if g=f then some u else mA g)
  rw[iG]
  by_cases q:g=f
  ·rw[if_pos q,if_pos q];exact ry
  ·rw[if_neg q,if_neg q];exact r g
 ·by_cases q:g=f
  ·rw[q];exact(WP f y fs).1
  ·refine(WP f y fs).2 g (wi g λz=>hg ?_)
   show(if g=f then some u else mA g)=none
   rw[if_neg q];exact z
theorem Inv.made(I:Inv X AB σ H s):Inv X AB σ (upd (upd H s.heap.objs.size (.own (s.heap.objs.size+1))) (s.heap.objs.size+1) (.ins C s.heap.objs.size []))
  { s with heap:=(s.heap.push W.emptyDict).push (W.instObj C s.heap.objs.size) }:=by
 have e1:(s.heap.push W.emptyDict).get? s.heap.objs.size=some W.emptyDict:=Heap.get?_push_size s.heap rfl
 have e2:((s.heap.push W.emptyDict).push (W.instObj C s.heap.objs.size)).get? (s.heap.objs.size+1)=some (W.instObj C s.heap.objs.size):=by
  have:=Heap.get?_push_size (s.heap.push W.emptyDict) (o:=W.instObj C s.heap.objs.size) rfl
  rwa [Heap.size_push]at this
 have e3:(s.heap.push W.emptyDict).Ns s.heap.objs.size (λ_=>none):=⟨W.emptyDict,#[],_,e1,rfl,(λe he=>absurd he (by simp)),λ_=>rfl⟩
 have I1:=I.laid (a:=s.heap.objs.size) (o:=.own (s.heap.objs.size+1)) (h':=s.heap.push W.emptyDict) (t':=s.toks) (λb u q=>Heap.get?_push_of_some _ q) (Nat.le_refl _) ⟨_,e1⟩
 refine I1.laid (a:=s.heap.objs.size+1) (o:=.ins C s.heap.objs.size []) (t':=s.toks) (λb u q=>Heap.get?_push_of_some _ q) (Nat.le_of_eq (Heap.size_push _ _)) ?_
 have ne:s.heap.objs.size≠s.heap.objs.size+1:=Nat.ne_of_lt (Nat.lt_succ_self _)
 refine⟨by rw[AO ne,AM],Nat.zero_le _,ne,e2,λ_=>none,(Heap.Ns1.of_empty e3).at λo q=>Heap.get?_push_of_some _ q,λ_=>True.intro,λy hy=>absurd rfl hy⟩
theorem Dz{prog:Program}{w:World}{env:Env}{e:Expr}{f:Str}{pos:Pos}{s:Shared}{Q:Value->Shared->Prop}(hb:attributeBase e f env (eval e env)=eval e env)
  (h:wpAny (model prog w) A (eval e env) (λo s₁=>wpAny (model prog w) A (getAttr o f true) Q E s₁) E s):wpAny (model prog w) A (eval (.Attribute e f pos) env) Q E s :=
 Attribute_any_ h (by rw[arm_eval_Attribute,hb])
end
def BR(K:W.Frag)(ta:TE)(f:Str):TE:=λσ H Q=>ta σ H λx H1=>∃ a C dx fs v,x=.ref a/\H1 a=some (.ins C dx fs)/\Cls K C/\NoAttr K C f/\fs.lookup f=some v/\Q v H1
def EL(K:W.Frag)(ta tv:TE)(f:Str):TS:=λD σ H=>tv σ H λy H1=>ta σ H1 λx H2=>∃ a C dx fs,x=.ref a/\H2 a=some (.ins C dx fs)/\Cls K C/\NoAttr K C f/\fs.length<1000 ∧
 D.nx σ (upd H2 a (.ins C dx (CS f y fs)))
def WR(X:Cx)(op:Operator)(rd:V->V->Hp->VK->Prop):Prop :=
 ∀ (AB:List (Addr × Obj)) (s:Shared) (σ:St) (H:Hp) (x y:V) (u v:Value) (Q:VK),Inv X AB σ H s->RelV x u->RelV y v->rd x y H Q->wpAny (model X.prog X.w) X.A (inplaceOp op u v) (EP X AB σ Q) X.xe s
def WS(K:W.Frag)(ta tv:TE)(rd:V->V->Hp->VK->Prop)(f:Str):TS:=λD σ H=>ta σ H λx H1=>∃ a C dx fs v,x=.ref a/\H1 a=some (.ins C dx fs)/\Cls K C/\NoAttr K C f/\fs.lookup f=some v ∧
 tv σ H1 λy H2=>rd v y H2 λz H3=>∃ dx' fs',H3 a=some (.ins C dx' fs')/\fs'.length<1000/\D.nx σ (upd H3 a (.ins C dx' (CS f z fs')))
section
variable{X:Cx}{o e value:Expr}{f:Str}{pos pos' tpos:Pos}{ta tv:TE}
theorem BW(he:PE X e ta)(hb:attributeBase e f X.env (eval e X.env)=eval e X.env):PE X (.Attribute e f pos) (BR X.K ta f):=by
 intro AB s σ H Q I h
 refine Dz hb (AW (he AB s σ H _ I h) λu s1 hzz=> ?_)
 obtain⟨x,H1,I1,rx,a,C,dx,fs,v,ex,ea,c,n,l,q⟩:=hzz
 subst ex
 obtain rfl:u=Value.ref a:=rx
 exact iH I1 ea c n l λu' s2 I2 ru=>⟨v,H1,I2,ru,q⟩
theorem E4(ha:PE X o ta)(hv:PE X value tv)(hs:swapsWith value (some (.Attribute o f pos')) pos.line X.env=pure false):PS X (.Assign [.Attribute o f pos'] value pos) (EL X.K ta tv f):=by
 intro AB s σ H D I h
 refine plainObj_wpAny_Assign_Attribute (AW (hv AB s σ H _ I h) λu s1 ⟨y,H1,I1,ry,q⟩=>AW (ha AB s1 σ H1 _ I1 q) λov s2 hzz=> ?_) hs
 obtain⟨x,H2,I2,rx,a,C,dx,fs,ex,ea,c,n,l,q2⟩:=hzz
 subst ex
 obtain rfl:ov=Value.ref a:=rx
 exact iJ I2 ea c n l ry λs3 I3=>⟨σ,_,I3,q2⟩
theorem Eb{op:Operator}{rd:V->V->Hp->VK->Prop}(ha:PE X o ta)(hv:PE X value tv)(hop:WR X op rd):PS X (.AugAssign (.Attribute o f tpos) op value pos) (WS X.K ta tv rd f):=by
 intro AB s σ H D I h
 refine wpAny_AugAssign_AttributeAny (AW (ha AB s σ H _ I h) λov s1 hzz=> ?_)
 obtain⟨x,H1,I1,rx,a,C,dx,fs,v,ex,ea,c,n,l,q⟩:=hzz
 subst ex
 obtain rfl:ov=Value.ref a:=rx
 refine iH I1 ea c n l λu s2 I2 ru=>AW (hv AB s2 σ H1 _ I2 q) λw3 s3 ⟨y,H2,I3,ry,q3⟩=>AW (hop AB s3 σ H2 v y u w3 _ I3 ru ry q3) λw4 s4 hzz=> ?_
 obtain⟨z,H3,I4,rz,dx',fs',ea',l',q4⟩:=hzz
 exact iJ I4 ea' c n l' rz λs5 I5=>⟨σ,_,I5,q4⟩
def Q4:V->V->Hp->VK->Prop:=λx y H Q=>∃ i j,x=.int i/\y=.int j/\Q (.int (i+j)) H
theorem iK:WR X .Add Q4:=by
 rintro AB s σ H x y u v Q I rx ry ⟨i,j,rfl,rfl,q⟩
 obtain⟨t,rfl⟩:=(show ∃ t,u=Value.int i t from rx)
 obtain⟨t',rfl⟩:=(show ∃ t',v=Value.int j t' from ry)
 exact PyProof.Rows.iadd_int ⟨.int (i+j),H,I.tok _,⟨_,rfl⟩,q⟩
end
section
variable{X:Cx}{AB:List (Addr × Obj)}{σ:St}{H:Hp}{s:Shared}{A:Around}{E:Value->Shared->Prop}{Q:Value->Shared->Prop}{c:Value}{b:Bool}
inductive IG(K:W.Frag)(H:Hp):V->Value->Prop where
 | non:IG K H .non (.type "NoneType")
 | bl (x:Bool):IG K H (.bl x) (.type "bool")
 | int (i:Int):IG K H (.int i) (.type "int")
 | str (x:Str):IG K H (.str x) (.type "str")
 | flt (x:UInt64):IG K H (.flt x) (.type "float")
 | lst {a:Addr} {xs:List V} (e:H a=some (.lst xs)):IG K H (.ref a) (.type "list")
 | frz {a:Addr} {o:Obj} {xs:List V} (e:H a=some (.frz o (.lst xs))):IG K H (.ref a) (.type "list")
 | tup {a:Addr} {xs:List V} (e:H a=some (.tup xs)):IG K H (.ref a) (.type "tuple")
 | dK {a:Addr} {kvs:List (A1 × V)} (e:H a=some (.dK kvs)):IG K H (.ref a) (.type "dict")
 | dT {a:Addr} {kvs:List (List A1 × V)} (e:H a=some (.dT kvs)):IG K H (.ref a) (.type "dict")
 | ins {a C dx:Addr} {fs:List (Str × V)} (e:H a=some (.ins C dx fs)) (cl:Cls K C) (ha:W.findIn K (.ref C) "__class__"=some (some (.builtin "object.__class__")))
   (hn:W.specialIn K (.builtin "object.__class__") "__get__"=some (some (.builtin "getset_descriptor.__get__"))) (htk:W.takesIn K (.builtin "object.__class__")=some true)
   (hm:W.mroIn K C (.type "object")=some true):IG K H (.ref a) (.ref C)
end
end L2
namespace L2
structure Room(k:Nat)(A:Around):Prop where
 hd:A.handled=none
 dp:A.depth+3 * k+5<recursionLimit
 un:A.units+16 * k+200<cLine
theorem Room.mono{j k:Nat}{A:Around}(r:Room k A)(h:j<=k):Room j A:=⟨r.hd,by have:=r.dp;omega,by have:=r.un;omega⟩
theorem Room.deeper{k:Nat}{A:Around}(r:Room (k+1) A)(env:Env):Room k (A.deeper env) :=
 ⟨r.hd,by have:=r.dp;show A.depth+1+3 * k+5<_;omega,by have:=r.un;show A.units+3+16 * k+200<_;omega⟩
theorem Ec{A:Around}{C:Addr}{us:List Value}{kw:List (Str × Value)}:(A.under (.builtin "type.__call__" ⟨.ref C::us,kw⟩)).depth=A.depth+1:=by
 first | rfl | simp[Around.under,Code.weight,Code.isCreation,Code.isGuard,Code.isCaller,Code.frames,Code.isFrame,guardIds]
theorem Ed{A:Around}{C:Addr}{us:List Value}{kw:List (Str × Value)}:(A.under (.builtin "type.__call__" ⟨.ref C::us,kw⟩)).units=A.units+1:=by
 first | rfl | simp[Around.under,Code.cUnits,Code.frames,Code.isFrame]
theorem Room.make{k:Nat}{A:Around}(r:Room (k+1) A)(C:Addr)(us:List Value)(kw:List (Str × Value)):Room k (A.under (.builtin "type.__call__" ⟨.ref C::us,kw⟩)) :=
 ⟨r.hd,by have:=r.dp;rw[Ec];omega,by have:=r.un;rw[Ed];omega⟩
theorem Room.depth{k:Nat}{A:Around}(r:Room k A):A.depth<recursionLimit:=by have:=r.dp;omega
theorem Room.units{k:Nat}{A:Around}(r:Room k A):A.units+64<cLine:=by have:=r.un;omega
def BI:TA:=λ_ H Q=>Q [] H
def DZ(ta:TE)(tr:TA):TA:=λσ H Q=>ta σ H λx H1=>tr σ H1 λxs H2=>Q (x::xs) H2
section
variable{X:Cx}{e:Expr}{es:List Expr}{te:TE}{t:TA}{pos:Pos}
theorem DT:PA X [] BI:=λ_ _ _ _ H Q I h=>Calls.spliced_nil ⟨[],H,I,.nil,h⟩
theorem KI(ha:PE X e te)(hr:PA X es t)(hs:starEach (e::es) X.env=(false,eval e X.env)::starEach es X.env:=by rfl):PA X (e::es) (DZ te t):=by
 intro pos AB s σ H Q I h
 rw[hs]
 show wpAny _ _ (spliced ((false,eval e X.env)::backTo pos (starEach es X.env))) _ _ s
 refine Calls.spliced_cons (AW (ha AB s σ H _ I h) λu s1 hzz=> ?_)
 obtain⟨x,H1,I1,r1,q1⟩:=hzz
 exact AW (hr pos AB s1 σ H1 _ I1 q1) λus s2 ⟨xs,H2,I2,r2,q2⟩=>⟨x::xs,H2,I2,.cons r1 r2,q2⟩
def CV(t:TA):TE:=λσ H Q=>t σ H λxs H1=>xs.length<=sizeLine/\∀ p,H1 p=none->Q (.ref p) (upd H1 p (.tup xs))
def CQ(t:TA):TE:=λσ H Q=>t σ H λxs H1=>xs.length<=sizeLine/\∀ p,H1 p=none->Q (.ref p) (upd H1 p (.lst xs))
theorem C2{x1}(h:PA X es t):PE X (.Tuple es x1 pos) (CV t):=by
 intro AB s σ H Q I hq
 refine wpAny_Tuple_spliced (AW (h pos AB s σ H _ I hq) λus s1 ⟨xs,H1,I1,r,z,q⟩=>⟨by rw[<-r.length];exact z,?_⟩)
 have hf:H1 s1.heap.objs.size=none:=I1.hok.fresh (Nat.le_refl _)
 refine⟨.ref s1.heap.objs.size,upd H1 s1.heap.objs.size (.tup xs),I1.laid (t':=s1.toks) (λb u e=>Heap.get?_push_of_some _ e) (Nat.le_refl _) ?_,rfl,q _ hf⟩
 exact⟨z,us,r,⟨_,Heap.get?_push_size _ rfl,rfl,_,rfl⟩⟩
theorem CW(h:PA X es t):PE X (.List es pos) (CQ t):=by
 intro AB s σ H Q I hq
 refine wpAny_List_spliced (AW (h pos AB s σ H _ I hq) λus s1 ⟨xs,H1,I1,r,z,q⟩=>⟨by rw[<-r.length];exact z,?_⟩)
 have hf:H1 s1.heap.objs.size=none:=I1.hok.fresh (Nat.le_refl _)
 refine⟨.ref s1.heap.objs.size,upd H1 s1.heap.objs.size (.lst xs),I1.laid (t':=s1.toks) (λb u e=>Heap.get?_push_of_some _ e) (Nat.le_refl _) ?_,rfl,q _ hf⟩
 exact⟨z,us,0,r,Heap.get?_push_size _ rfl⟩
end
abbrev Sp:=List V->Hp->VK->XK->Prop
abbrev IH:=List Env->Hp->Shared->XK->Value->Shared->Prop
structure Env0(P:Program)(w:World)(K:W.Frag)(mg:Str->Option Value)(base:Heap)(A:Around)(outer:List Env)(s:Shared)(H:Hp):Prop where
 frames:A.frames=some outer
 mod:Mod K mg base
 bs:∀ b o,base.get? b=some o->s.heap.get? b=some o/\H b=none
 bsz:base.objs.size<=s.heap.objs.size
 funs:s.heap.FunFrames base outer
 frf:∀ b∈E9 outer,H b=none
 hok:HOk P w H s.heap
 bare:AllBare s.gens
def CE(outer:List Env)(P:Program)(w:World)(H:Hp)(s:Shared)(Q:VK)(u:Value)(s':Shared):Prop :=
 ∃ v H',s'.os=s.os/\AllBare s'.gens/\Un (E9 outer) [] H H' s.heap s'.heap/\HOk P w H' s'.heap/\RelV v u/\Q v H'
def CR(CX:IH)(outer:List Env)(P:Program)(w:World)(H:Hp)(s:Shared)(Q:VK)(E:XK)(r:Result)(s':Shared):Prop :=
 match r with
 | .ok (.ret u)=>CE outer P w H s Q u s'
 | .ok _=>False
 | .error e=>CX outer H s E e s'
structure FnOk(P:Program)(w:World)(K:W.Frag)(mg:Str->Option Value)(base:Heap)(CX:IH)(k:Nat)(f:Addr)(fd:FuncData)(ps:List Str)(sp:Sp):Prop where
 len:∀ vs H Q E,sp vs H Q E->vs.length=ps.length
 run:∀ (A:Around) (outer:List Env) (s:Shared) (H:Hp) (args:Args) (us:List Value) (vs:List V) (Q:VK) (E:XK),Room k A->Env0 P w K mg base A outer s H->BindsTo s fd args (ps.zip us)->Vals vs us->sp vs H Q E →
  codeAny (model P w) A (.call (.ref f) args) (CR CX outer P w H s Q E) s
theorem FnOk.imp{P:Program}{w:World}{K:W.Frag}{mg:Str->Option Value}{base:Heap}{CX:IH}{k:Nat}{f:Addr}{fd:FuncData}{ps:List Str}{sp sp':Sp}(F:FnOk P w K mg base CX k f fd ps sp)
  (h:∀ vs H Q E,sp' vs H Q E->sp vs H Q E):FnOk P w K mg base CX k f fd ps sp' :=
 ⟨λvs H Q E q=>F.len vs H Q E (h _ _ _ _ q),λA outer s H args us vs Q E hr he hb hv hs=>F.run A outer s H args us vs Q E hr he hb hv (h _ _ _ _ hs)⟩
theorem Env0.make{P:Program}{w:World}{K:W.Frag}{mg:Str->Option Value}{base:Heap}{A:Around}{outer:List Env}{s:Shared}{H:Hp}(e:Env0 P w K mg base A outer s H)(C:Addr)(us:List Value)(kw:List (Str × Value)) :
  Env0 P w K mg base (A.under (.builtin "type.__call__" ⟨.ref C::us,kw⟩)) outer s H:=⟨by first | exact e.frames | (simpa [Around.under,Code.envs,Code.isFrame,pushEnvs]using e.frames),e.mod,e.bs,e.bsz,e.funs,e.frf,e.hok,e.bare⟩
section
variable{X:Cx}{AB:List (Addr × Obj)}{σ:St}{H:Hp}{s s':Shared}
theorem Inv.env0(I:Inv X AB σ H s):Env0 X.prog X.w X.K X.mg X.base X.A X.stack s H :=
 ⟨I.ok.frames,I.ok.mod,I.bs,Nat.le_trans I.ok.bsz I.sz,I.stack,I.stkFree,I.hok,I.bare⟩
theorem Inv.after{Q:VK}{u:Value}(I:Inv X AB σ H s)(h:CE X.stack X.prog X.w H s Q u s'):EP X AB σ Q u s':=by
 obtain⟨v,H',os,bare,un,hok,r,q⟩:=h
 obtain⟨hh,g,d,t,os'⟩:=s'
 obtain rfl:os'=s.os:=os
 exact⟨v,H',I.call (h':=hh) (g':=g) (d':=d) (t':=t) (ch:=[]) un hok bare (λb z=>absurd z (by simp)),r,q⟩
end
def BE(sp:Sp)(D7:List V)(E:St->XK)(t:TA):TE:=λσ H Q=>t σ H λvs H1=>sp (vs++D7) H1 Q (E σ)
def BC(C:Addr)(m:Str)(sp:Sp)(D7:List V)(E:St->XK)(ta:TE)(t:TA):TE:=λσ H Q=>ta σ H λx H1=>∃ a dx fs,x=.ref a/\H1 a=some (.ins C dx fs)/\fs.lookup m=none ∧
 t σ H1 λvs H2=>sp (x::(vs++D7)) H2 Q (E σ)
def JM(C:Addr)(sp:Sp)(D7:List V)(E:St->XK)(t:TA):TE:=λσ H Q=>t σ H λvs H1=>∀ x dx,H1 x=none->H1 dx=none->dx≠x →
 sp (.ref x::(vs++D7)) (upd (upd H1 dx (.own x)) x (.ins C dx [])) (λv H2=>v=.non/\Q (.ref x) H2) (E σ)
def Binds(K:W.Frag)(fd:FuncData)(ps:List Str)(ds:List Value):Prop :=
 ∀ (s:Shared) (us:List Value),K.In s.heap->(us++ds).length=ps.length->BindsTo s fd ⟨us,[]⟩ (ps.zip (us++ds))
theorem Binds.all{K:W.Frag}{fd:FuncData}{ps:List Str}(h:∀ us:List Value,us.length=ps.length->bindArgs fd ⟨us,[]⟩=pure (ps.zip us)):Binds K fd ps []:=λs us _ hl=>by
 rw[List.append_nil]at hl ⊢
 exact .of_eq (h us hl)
def II(CX:IH)(X:Cx)(E:St->XK):Prop:=∀ (AB:List (Addr × Obj)) (σ:St) (H:Hp) (s:Shared) (e:Value) (s':Shared),Inv X AB σ H s->CX X.stack H s (E σ) e s'->X.xe e s'
section
variable{X:Cx}{CX:IH}{k:Nat}{f C:Addr}{fd:FuncData}{ps:List Str}{sp:Sp}{D7:List V}{ds:List Value}{E:St->XK}{x m:Str}{p pos DI:Pos}{e o:Expr}{es:List Expr}{ta:TE}{t:TA}
theorem WT{AB:List (Addr × Obj)}{σ:St}{H:Hp}{s:Shared}{Q:VK}{us:List Value}{vs:List V}(F:FnOk X.prog X.w X.K X.mg X.base CX k f fd ps sp)(hr:Room k X.A)(hb:Binds X.K fd ps ds)(hd:Vals D7 ds)(hx:II CX X E)
  (I:Inv X AB σ H s) (r:Vals vs us) (h:sp (vs++D7) H Q (E σ)):wpAny (model X.prog X.w) X.A (call (.ref f) us) (EP X AB σ Q) X.xe s:=by
 have r2:Vals (vs++D7) (us++ds):=r.append hd
 have hl:(us++ds).length=ps.length:=by rw[<-r2.length];exact F.len _ _ _ _ h
 refine wpAny_call (codeAny_mono (F.run X.A X.stack s H ⟨us,[]⟩ (us++ds) (vs++D7) Q (E σ) hr I.env0 (hb s us I.kIn hl) r2 h) λr s' hq=> ?_)
 cases r with
 | error e=>exact hx AB σ H s e s' I hq
 | ok fl =>
  cases fl with
  | ret u=>exact I.after hq
  | next=>exact False.elim hq
  | brk=>exact False.elim hq
  | cont=>exact False.elim hq
theorem Eg(F:FnOk X.prog X.w X.K X.mg X.base CX k f fd ps sp)(hr:Room k X.A)(hg:Gl X x)(hm:X.mg x=some (.ref f))(hk:W.keepIn X.K (.ref f)=true)(hb:Binds X.K fd ps ds)(hd:Vals D7 ds)(hx:II CX X E)
  (ha:PA X (e::es) t) (hdb:(x ==("__debug__":Str))=false:=by decide) (he:starEach (e::es) X.env=(false,eval e X.env)::starEach es X.env:=by rfl) (CF:(backTo pos (starEach es X.env)).any (·.1)=false:=by rfl) :
  PE X (.Call (.Name x p) (e::es) [] pos) (BE sp D7 E t):=by
 intro AB s σ H Q I h
 refine wpAny_Call_Name_kw (QU I hg hm ?_ hdb)
 refine W.callWith_K (h₀:=X.base) I.ok.mod.kin hk (AW (ha pos AB s σ H _ I h) λus s1 ⟨vs,H1,I1,r,q⟩=>⟨I1.kIn,?_⟩) he CF
 exact WT F hr hb hd hx I1 r q
theorem Eh{pl:Sem Bool}(he:PE X o ta)(c:Cls X.K C)(hm:S6 X.K C m f)(F:FnOk X.prog X.w X.K X.mg X.base CX k f fd ps sp)(hr:Room k X.A)(hb:Binds X.K fd ps ds)(hd:Vals D7 ds)(hx:II CX X E)(ha:PA X (e::es) t)
  (hst:starEach (e::es) X.env=(false,eval e X.env)::starEach es X.env:=by rfl) (CF:(backTo pos (starEach es X.env)).any (·.1)=false:=by rfl)
  (ht:eval (.Call (.Attribute o m DI) (e::es) [] pos) X.env=(do
   let ov ← eval o X.env
   standAt DI.atName
   let (f,first) ← holding [ov] (getMethod ov m pl)
   callWith pos f first (backTo pos (starEach (e::es) X.env)) (backToKw pos (keywordEach [] X.env))):=by rfl) :
  PE X (.Call (.Attribute o m DI) (e::es) [] pos) (BC C m sp D7 E ta t):=by
 intro AB s σ H Q I h
 refine W.methodCall_KW (pl:=pl) (AW (he AB s σ H _ I h) λu s1 hzz=> ?_) ht
 obtain⟨x,H1,I1,rx,a,dx,fs,ex,ea,l,q⟩:=hzz
 subst ex
 obtain rfl:u=Value.ref a:=rx
 refine iI I1 ea c hm l ?_
 refine W.callWith_K (first:=[.ref a]) (h₀:=X.base) I.ok.mod.kin hm.kp (AW (ha pos AB s1 σ H1 _ I1 q) λus s2 ⟨vs,H2,I2,r,q2⟩=>⟨I2.kIn,?_⟩) hst CF
 exact WT (us:=.ref a::us) (vs:=.ref a::vs) F hr hb hd hx I2 (.cons rfl r) q2
theorem Ej{pl:Sem Bool}(he:PE X o ta)(c:Cls X.K C)(hm:S6 X.K C m f)(F:FnOk X.prog X.w X.K X.mg X.base CX k f fd ps sp)(hr:Room k X.A)(hb:Binds X.K fd ps ds)(hd:Vals D7 ds)(hx:II CX X E)
  (ht:eval (.Call (.Attribute o m DI) [] [] pos) X.env=(do
   let ov ← eval o X.env
   standAt DI.atName
   let (f,first) ← holding [ov] (getMethod ov m pl)
   callWith pos f first (backTo pos (starEach [] X.env)) (backToKw pos (keywordEach [] X.env))):=by rfl) :
  PE X (.Call (.Attribute o m DI) [] [] pos) (BC C m sp D7 E ta BI):=by
 intro AB s σ H Q I h
 refine W.methodCall_KW (pl:=pl) (AW (he AB s σ H _ I h) λu s1 hzz=> ?_) ht
 obtain⟨x,H1,I1,rx,a,dx,fs,ex,ea,l,q⟩:=hzz
 subst ex
 obtain rfl:u=Value.ref a:=rx
 refine iI I1 ea c hm l ?_
 exact W.callWith_K0 (first:=[.ref a]) I1.kIn hm.kp (WT (us:=[.ref a]) (vs:=[.ref a]) F hr hb hd hx I1 (.cons rfl .nil) q)
structure Mk(K:W.Frag)(C f:Addr):Prop where
 makes:W.makesIn K C=true
 init:W.findIn K (.ref C) "__init__"=some (some (.ref f))
 fn:W.isFn K (.ref f)=true
 kp:W.keepIn K (.ref C)=true
theorem Ek{AB:List (Addr × Obj)}{σ:St}{H:Hp}{s:Shared}{Q:VK}{us:List Value}{vs:List V}(M:Mk X.K C f)(F:FnOk X.prog X.w X.K X.mg X.base CX k f fd ps sp)(hr:Room (k+1) X.A)(hb:Binds X.K fd ps ds)(hd:Vals D7 ds)
  (hx:II CX X E) (I:Inv X AB σ H s) (r:Vals vs us)
  (h:∀ x dx,H x=none->H dx=none->dx≠x->sp (.ref x::(vs++D7)) (upd (upd H dx (.own x)) x (.ins C dx [])) (λv H2=>v=.non/\Q (.ref x) H2) (E σ)) :
  wpAny (model X.prog X.w) X.A (call (.ref C) us) (EP X AB σ Q) X.xe s:=by
 have hq:=h (s.heap.objs.size+1) s.heap.objs.size (I.hok.fresh (Nat.le_succ _)) (I.hok.fresh (Nat.le_refl _)) (Nat.ne_of_lt (Nat.lt_succ_self _))
 have I2:=Inv.made (C:=C) I
 have r2:Vals (V.ref (s.heap.objs.size+1)::(vs++D7)) (Value.ref (s.heap.objs.size+1)::(us++ds)):=.cons rfl (r.append hd)
 have hl:(Value.ref (s.heap.objs.size+1)::us++ds).length=ps.length:=by
  have e:=r2.length
  rw[F.len _ _ _ _ hq]at e
  exact e.symm
 refine wpAny_call (Dx (f:=f) I.kIn M.makes M.init (beq_iff_eq.mp M.fn) (codeAny_mono (F.run _ X.stack _ _ ⟨Value.ref (s.heap.objs.size+1)::us,[]⟩ (Value.ref (s.heap.objs.size+1)::(us++ds)) _ _ (E σ) (hr.make C us [])
  (I2.env0.make C us []) (hb _ (Value.ref (s.heap.objs.size+1)::us) I2.kIn hl) r2 hq) λr s' hq'=> ?_))
 cases r with
 | error e=>exact hx AB σ _ _ e s' I2 hq'
 | ok fl =>
  cases fl with
  | ret u =>
   obtain⟨v,H',I3,rv,ev,q3⟩:=I2.after hq'
   subst ev
   exact⟨rv,⟨V.ref (s.heap.objs.size+1),H',I3,rfl,q3⟩⟩
  | next=>exact False.elim hq'
  | brk=>exact False.elim hq'
  | cont=>exact False.elim hq'
theorem El(M:Mk X.K C f)(F:FnOk X.prog X.w X.K X.mg X.base CX k f fd ps sp)(hr:Room (k+1) X.A)(hg:Gl X x)(hm:X.mg x=some (.ref C))(hb:Binds X.K fd ps ds)(hd:Vals D7 ds)(hx:II CX X E)
  (ha:PA X (e::es) t) (hdb:(x ==("__debug__":Str))=false:=by decide) (he:starEach (e::es) X.env=(false,eval e X.env)::starEach es X.env:=by rfl) (CF:(backTo pos (starEach es X.env)).any (·.1)=false:=by rfl) :
  PE X (.Call (.Name x p) (e::es) [] pos) (JM C sp D7 E t):=by
 intro AB s σ H Q I h
 refine wpAny_Call_Name_kw (QU I hg hm ?_ hdb)
 refine W.callWith_K (h₀:=X.base) I.ok.mod.kin M.kp (AW (ha pos AB s σ H _ I h) λus s1 ⟨vs,H1,I1,r,q⟩=>⟨I1.kIn,?_⟩) he CF
 exact Ek M F hr hb hd hx I1 r q
end
section
variable{X:Cx}{CX:IH}{k:Nat}{f C:Addr}{fd:FuncData}{ps ks:List Str}{sp:Sp}{E:St->XK}{x m:Str}{p pos DI kpos:Pos}{e o:Expr}{es:List Expr}{kws:List Keyword}{te ta:TE}{t tk:TA}{nm:Option Str}
structure zqb(K:W.Frag)(fd:FuncData)(ps ks:List Str)(g:List Value->List Value->List Value)(gV:List V->List V->List V):Prop where
 to:∀ (s:Shared) (us ws:List Value),K.In s.heap->(g us ws).length=ps.length->BindsTo s fd ⟨us,ks.zip ws⟩ (ps.zip (g us ws))
 rel:∀ {vs:List V} {us:List Value} {zs:List V} {ws:List Value},Vals vs us->Vals zs ws->Vals (gV vs zs) (g us ws)
variable{g:List Value->List Value->List Value}{gV:List V->List V->List V}
end
structure FnScope(N P:List Str)(sc:Scope):Prop where
 kind:sc.kind=.function
 co:sc.isCoroutine=false
 gen:sc.isGenerator=false
 nd:N.Nodup
 pre:N.take P.length=P
 par:∀ x∈P,sc.names.lookup x=some .local\/sc.names.lookup x=some .cell
 nofree:∀ y∈sc.names,y.2≠.free
theorem iL{kindOf:Str->Option NameKind}{x:Str}:∀ {binds:List (Str × Value)} {m:Str->Option Value},(∀ v,(x,v)∉binds)->bindL kindOf binds m x=m x
 | [],_,_=>rfl
 | (n,v)::r,m,h=>by
  unfold bindL
  rw[iL λw hw=>h w (List.mem_cons_of_mem _ hw)]
  split
  ·have:x≠n:=by rintro rfl;exact h v List.mem_cons_self
   simp[this]
  ·rfl
theorem iM{kindOf:Str->Option NameKind}{x:Str}:∀ {binds:List (Str × Value)} {m:Str->Option Value},(∀ v,(x,v)∉binds)->bindC kindOf binds m x=m x
 | [],_,_=>rfl
 | (n,v)::r,m,h=>by
  unfold bindC
  rw[iM λw hw=>h w (List.mem_cons_of_mem _ hw)]
  split
  ·rfl
  ·have:x≠n:=by rintro rfl;exact h v List.mem_cons_self
   simp[this]
theorem iN{kindOf:Str->Option NameKind}{x:Str}{v:Value}:∀ {P:List Str} {vs:List Value} {i:Nat} {m:Str->Option Value},P.Nodup->P[i]? =some x->vs[i]? =some v->kindOf x=some .local →
  bindL kindOf (P.zip vs) m x=some v
 | [],_,_,_,_,h,_,_=>by simp at h
 | _::_,[],_,_,_,_,h,_=>by simp at h
 | p::P,w::vs,0,m,nd,h1,h2,hk=>by
  simp at h1 h2;subst h1;subst h2
  show bindL kindOf ((p,w)::P.zip vs) m p=_
  unfold bindL
  rw[iL λv hv=>(List.nodup_cons.mp nd).1 (List.of_mem_zip hv).1,if_pos hk]
  simp
 | p::P,w::vs,i+1,m,nd,h1,h2,hk=>by
  show bindL kindOf ((p,w)::P.zip vs) m x=_
  unfold bindL
  exact iN (i:=i) (List.nodup_cons.mp nd).2 (by simpa using h1) (by simpa using h2) hk
theorem iO{kindOf:Str->Option NameKind}{x:Str}{v:Value}:∀ {P:List Str} {vs:List Value} {i:Nat} {m:Str->Option Value},P.Nodup->P[i]? =some x->vs[i]? =some v->kindOf x≠some .local →
  bindC kindOf (P.zip vs) m x=some v
 | [],_,_,_,_,h,_,_=>by simp at h
 | _::_,[],_,_,_,_,h,_=>by simp at h
 | p::P,w::vs,0,m,nd,h1,h2,hk=>by
  simp at h1 h2;subst h1;subst h2
  show bindC kindOf ((p,w)::P.zip vs) m p=_
  unfold bindC
  rw[iM λv hv=>(List.nodup_cons.mp nd).1 (List.of_mem_zip hv).1,if_neg hk]
  simp
 | p::P,w::vs,i+1,m,nd,h1,h2,hk=>by
  show bindC kindOf ((p,w)::P.zip vs) m x=_
  unfold bindC
  exact iO (i:=i) (List.nodup_cons.mp nd).2 (by simpa using h1) (by simpa using h2) hk
def A4(N:List Str)(vs:List V):St:=vs.map some++List.replicate (N.length - vs.length) none
def JA(CX:IH)(P:Program)(w:World)(K:W.Frag)(mg:Str->Option Value)(base:Heap)(N:List Str)(qual:Str)(scope:Scope)(f:Addr)(cd:Value)(A:Around)(outer:List Env)(s:Shared)(H:Hp)(E:XK):Cx where
 prog:=P
 w:=w
 K:=K
 mg:=mg
 base:=base
 A:=A.deeper (envOfC qual scope s.heap.objs.size f cd)
 N:=N
 s₀:=s
 H₀:=H
 env:=envOfC qual scope s.heap.objs.size f cd
 outer:=outer
 stack:=envOfC qual scope s.heap.objs.size f cd::outer
 ex:=[]
 calm:=true
 fn:=λ_=>true
 pn:=[]
 xe:=λe s'=>wpAny (model P w) (A.deeper (envOfC qual scope s.heap.objs.size f cd)) (leaving (envOfC qual scope s.heap.objs.size f cd) e) (λ_ s''=>CX outer H s E e s'') (λe' s''=>CX outer H s E e' s'') s'
theorem iP{sc:Scope}{n:Nat}{x:Str}(h:sc.names.lookup x=some .cell):∃ c,(cellsFrom n sc.names []).lookup x=some c:=by
 have q:=W.cellsFrom_some sc.names n [] (.inl h)
 exact Option.isSome_iff_exists.mp q
theorem Em{CX:IH}{P:Program}{w:World}{K:W.Frag}{mg:Str->Option Value}{base:Heap}{N ps:List Str}{qual:Str}{scope:Scope}{f:Addr}{cd:Value}{A:Around}{outer:List Env}{s s1:Shared}{H:Hp}{E:XK}{us:List Value}{vs:List V}
  (S:FnScope N ps scope) (hd:A.handled=none) (e0:Env0 P w K mg base A outer s H) (hl:vs.length=ps.length) (r:Vals vs us)
  (x:InCallC s s.heap.objs.size (bindL (envOfC qual scope s.heap.objs.size f cd).kindOf (ps.zip us) λ_=>none) (cellsFrom (s.heap.objs.size+1) scope.names []) (bindC (envOfC qual scope s.heap.objs.size f cd).kindOf (ps.zip us) λ_=>none) s1) :
  Inv (JA CX P w K mg base N qual scope f cd A outer s H E) [] (A4 N vs) H s1:=by
 have CF:ps.length<=N.length:=by have:=congrArg List.length S.pre;rw[List.length_take]at this;omega
 obtain⟨h1,tk,rfl,hk⟩:=x.done
 have noA:∀ b:Addr,b∉(JA CX P w K mg base N qual scope f cd A outer s H E).ex:=λb z=>absurd (show b∈([]:List Addr)from z) (by simp)
 refine⟨⟨e0.mod,S.kind,rfl,rfl,Nat.le_refl _,λy z c h1 h2=> ?_,λy hy=> ?_,λy c _ h=> ?_,λ_=>hd,Around.frames_deeper e0.frames,.inr ⟨rfl,rfl⟩,λb z=>absurd z (noA b),e0.bs,e0.bsz,λb _ _=>noA b,λb z=>absurd z (noA b),e0.funs,e0.frf⟩,
  rfl,e0.bare,Un.kept hk,⟨_,x.toInCall.ns,λi y v h1 h2 h3=> ?_⟩,λy c h=>⟨_,x.cell y c h⟩,e0.hok.fresh (Nat.le_refl _),λy c h=> ?_,λp hp=>absurd (show p∈([]:List (Addr × Obj))from hp) (by simp),e0.hok.kept hk,?_⟩
 ·exact name_of_addr x.apart (PySem.mem_of_lookup h1) (PySem.mem_of_lookup h2)
 ·have hy:scope.names.lookup y=some .cell\/scope.names.lookup y=some .free:=hy
  rcases hy with hy | hy
  ·exact iP hy
  ·exact absurd rfl (S.nofree _ (PySem.mem_of_lookup hy))
 ·exact Nat.le_of_lt (x.above y c (PySem.mem_of_lookup h))
 ·have hi:i<vs.length:=by
   unfold A4 at h2
   by_cases hi:i<vs.length
   ·exact hi
   ·rw[List.getElem?_append_right (by simpa using hi)]at h2
    rw[List.getElem?_replicate]at h2
    split at h2<;>cases h2
  have ha:vs[i]? =some v:=by
   unfold A4 at h2
   rw[List.getElem?_append_left (by simpa using hi),List.getElem?_map]at h2
   cases e:vs[i]? with
   | none=>rw[e]at h2;cases h2
   | some a=>rw[e]at h2;cases h2;rfl
  obtain⟨u,hu,rv⟩:=r.get ha
  have hp:ps[i]? =some y:=by
   rw[<-S.pre,List.getElem?_take_of_lt (by omega)];exact h1
  have ndP:ps.Nodup:=by rw[<-S.pre];exact S.nd.sublist (List.take_sublist _ _)
  refine⟨u,rv,?_⟩
  rcases S.par y (List.mem_of_getElem? hp)with k | k
  ·exact .inl ⟨k,iN ndP hp hu k⟩
  ·obtain⟨c,e⟩:=iP (n:=s.heap.objs.size+1) k
   refine .inr ⟨.inl k,c,e,?_⟩
   have q:=x.cell y c e
   rw[iO ndP hp hu (by show scope.names.lookup y≠_;rw[k];decide)]at q
   exact q
 ·exact e0.hok.fresh (Nat.le_of_lt (x.above y c (PySem.mem_of_lookup h)))
 ·unfold A4
  show _=N.length
  rw[List.length_append,List.length_map,List.length_replicate]
  omega
theorem Ep{CX:IH}{P:Program}{w:World}{K:W.Frag}{mg:Str->Option Value}{base:Heap}{k:Nat}{f:Addr}{name qual:Str}{params:Arguments}{body:List Stmt}{scope:Scope}{dV kV doc pm CG ct oc:Value}{an od:Option Addr}
  {osl:Array (Option Value)} {N ps:List Str} {sp:Sp} (lk:K.lookup f=some ⟨oc,od,.func (W.fnOf name qual params body scope dV kV doc pm an CG ct),osl⟩) (HE:W.codeIn K CG qual=true) (S:FnScope N ps scope)
  (len:∀ vs H Q E,sp vs H Q E->vs.length=ps.length)
  (gW:∀ (A:Around) (outer:List Env) (s:Shared) (H:Hp) (vs:List V) (Q:VK) (E:XK),Room k (A.deeper (envOfC qual scope s.heap.objs.size f CG))->sp vs H Q E →
   ∃ t,HG (JA CX P w K mg base N qual scope f CG A outer s H E) body t/\t { nx:=λ_ H'=>Q .non H',rt:=Q } (A4 N vs) H) :
  FnOk P w K mg base CX (k+1) f (W.fnOf name qual params body scope dV kV doc pm an CG ct) ps sp:=by
 refine⟨len,λA outer s H args us vs Q E hr e0 hb r hsp=> ?_⟩
 have hl:=len _ _ _ _ hsp
 have KX:K.In s.heap:=e0.mod.kin.keeps λb o e=>(e0.bs b o e).1
 have lim:s.heap.NoLimit:=e0.mod.nolimit.keeps λb o e=>(e0.bs b o e).1
 have hkind:∀ y∈ps.zip us,scope.names.lookup y.1=some .local\/(scope.names.lookup y.1=some .cell/\((cellsFrom (s.heap.objs.size+1) scope.names []).lookup y.1).isSome=true):=λ⟨n,v⟩ hy=>by
  rcases S.par n (List.of_mem_zip hy).1 with q | q
  ·exact .inl q
  ·exact .inr ⟨q,W.cellsFrom_some _ _ _ (.inl q)⟩
 refine codeAny_call_function hr.depth (KX _ _ lk) rfl S.co S.gen rfl (W.codeRec_of KX HE) (hb _ _ _ _ ?_)
 refine wpAny_newFunctionEnv_cells S.kind hkind λenv he s1 x=> ?_
 subst he
 refine⟨lim.keeps x.toInCall.keep,codeAny_func ?_⟩
 obtain⟨t,ht,hq⟩:=gW A outer s H vs Q E (hr.deeper _) hsp
 have I:Inv (JA CX P w K mg base N qual scope f CG A outer s H E) [] (A4 N vs) H s1:=Em S hr.hd e0 hl r x
 refine wpAny_mono (ht [] s1 (A4 N vs) H _ I hq) (λfl s' hs=> ?_) λe s' hs=>hs
 have fin:∀ {σ':St} {H':Hp} {v:V} {u:Value},Inv (JA CX P w K mg base N qual scope f CG A outer s H E) [] σ' H' s'->RelV v u->Q v H'->CE outer P w H s Q u s' :=
  λ{σ' H' v u} J rv q=>⟨v,H',J.os,J.bare,J.base,J.hok,rv,q⟩
 cases fl with
 | ret u =>
  obtain⟨v,σ',H',J,rv,q⟩:=hs
  exact fin J rv q
 | next =>
  obtain⟨σ',H',J,q⟩:=hs
  exact fin (v:=V.non) (u:=Value.none) J rfl q
 | brk =>
  obtain⟨_,_,_,q⟩:=hs
  exact False.elim q
 | cont =>
  obtain⟨_,_,_,q⟩:=hs
  exact False.elim q
end L2
namespace L2
section
variable{X:Cx}{x:Str}{p pos:Pos}{e:Expr}{es:List Expr}{t:TA}{id T:String}{r:List V->Hp->VK->Prop}
def B5(r:List V->Hp->VK->Prop)(t:TA):TE:=λσ H Q=>t σ H λvs H1=>r vs H1 Q
theorem CL(hc:HH X (.builtin id) r)(hg:Gl X x)(hm:X.mg x=none)(hv:bootBuiltins x=some (.builtin id))(ha:PA X (e::es) t)(hn:x≠"__name__":=by decide)(hdb:(x ==("__debug__":Str))=false:=by decide)
  (he:starEach (e::es) X.env=(false,eval e X.env)::starEach es X.env:=by rfl) (CF:(backTo pos (starEach es X.env)).any (·.1)=false:=by rfl):PE X (.Call (.Name x p) (e::es) [] pos) (B5 r t):=by
 intro AB s σ H Q I h
 refine wpAny_Call_Name_kw (NV I hg hm hv ?_ hn hdb)
 exact PyProof.Rows.callWith_builtin1 (AW (ha pos AB s σ H _ I h) λus s1 ⟨vs,H1,I1,r1,q1⟩=>hc AB s1 σ H1 vs us Q I1 r1 q1) he CF
theorem KJ(hc:HH X (.type T) r)(hg:Gl X x)(hm:X.mg x=none)(hv:bootBuiltins x=some (.type T))(ha:PA X (e::es) t)(hn:x≠"__name__":=by decide)(hdb:(x ==("__debug__":Str))=false:=by decide)
  (he:starEach (e::es) X.env=(false,eval e X.env)::starEach es X.env:=by rfl) (CF:(backTo pos (starEach es X.env)).any (·.1)=false:=by rfl):PE X (.Call (.Name x p) (e::es) [] pos) (B5 r t):=by
 intro AB s σ H Q I h
 refine wpAny_Call_Name_kw (NV I hg hm hv ?_ hn hdb)
 exact PyProof.Rows.callWith_type1 (AW (ha pos AB s σ H _ I h) λus s1 ⟨vs,H1,I1,r1,q1⟩=>hc AB s1 σ H1 vs us Q I1 r1 q1) he CF
end
end L2
namespace HT
open PySem PyProof.Rows
section
open PySem.SeqAt
open PySem.AutoSeq1 (wpAny_loadPart')
open PySem.MeetsSeq PySem.MeetsSeq2 PySem.MeetsSeq3
end
section
variable{prog:Program}{w:World}{A:Around}{E:Value->Shared->Prop}{s:Shared}
theorem cat_tup{t b:Addr}{vs ws:List Value}{Q:Value->Shared->Prop}(ht:IsTup s.heap t vs.toArray)(hb:IsTup s.heap b ws.toArray)(hv:vs≠[])
  (h1:ws=[]->Q (.ref t) s) (h2:ws≠[]->Q (.ref s.heap.objs.size) { s with heap:=s.heap.push { cls:=.type "tuple",data:=.seq (vs++ws).toArray } })
  (hsz:vs.length+ws.length<=sizeLine):wpAny (model prog w) A (binaryOp .Add (.ref t) (.ref b)) Q E s:=by
 obtain⟨⟨cls,dd,data,sl⟩,ho,hc,n,hd⟩:=id ht
 obtain⟨⟨cls2,dd2,data2,sl2⟩,ho2,hc2,n2,hd2⟩:=id hb
 simp only at hc hd hc2 hd2
 subst hc hd hc2 hd2
 have e:vs.toArray++ws.toArray=(vs++ws).toArray:=by simp
 by_cases hw:ws=[]
 ·exact concat_meets ⟨_,ho,rfl⟩ ⟨_,ho2,rfl⟩ noFill_tuple_add seq_tuple_add PySem.F.slot_tuple_add PySem.F.entry_tuple_add (PySem.F.args_tuple_add_2 _ _)
   (tuple_addW1 t b vs.toArray ws.toArray n n2 dd dd2 sl sl2 (by simpa using hv) (by simp[hw])) ⟨ho,ho2,h1 hw⟩
 ·refine concat_meets ⟨_,ho,rfl⟩ ⟨_,ho2,rfl⟩ noFill_tuple_add seq_tuple_add PySem.F.slot_tuple_add PySem.F.entry_tuple_add (PySem.F.args_tuple_add_2 _ _)
   (tuple_addW2 t b vs.toArray ws.toArray n n2 dd dd2 sl sl2 (by simpa using hv) (by simpa using hw) (by rw[List.size_toArray,List.size_toArray];exact hsz)) ⟨ho,ho2,?_⟩
  rw[e]
  exact h2 hw
def sIx(n d:Nat):Option Int->Nat
 | none=>d
 | some v=>if v<0 then(v+(n:Int)).toNat else min v.toNat n
theorem sIx_nat(n d k:Nat):sIx n d (some (k:Int))=min k n:=by
 show(if(k:Int)<0 then((k:Int)+(n:Int)).toNat else min (k:Int).toNat n)=min k n
 rw[if_neg (by omega),Int.toNat_natCast]
theorem Ev(n d:Nat)(hd:d<=n)(o:Option Int):sIx n d o<=n:=by
 cases o with
 | none=>exact hd
 | some v =>
  show(if v<0 then(v+(n:Int)).toNat else min v.toNat n)<=n
  by_cases hv:v<0
  ·rw[if_pos hv];omega
  ·rw[if_neg hv];exact Nat.min_le_right _ _
theorem iQ(v:Int)(n d:Nat):(if v<0 then max (v+(n:Int)) 0 else min v (n:Int))=((sIx n d (some v):Nat):Int):=by
 show(if v<0 then max (v+(n:Int)) 0 else min v (n:Int))=(((if v<0 then(v+(n:Int)).toNat else min v.toNat n):Nat):Int)
 by_cases hv:v<0
 ·simp only[if_pos hv];omega
 ·simp only[if_neg hv];omega
theorem Ew(lo hi:Option Int)(n:Nat):Builtin.Slice.sliceAdjust lo hi 1 (n:Int)=(((sIx n 0 lo:Nat):Int),((sIx n n hi:Nat):Int)):=by
 have h1:¬ ((1:Int)<0):=by omega
 unfold Builtin.Slice.sliceAdjust
 simp only[h1,if_false]
 refine Prod.ext ?_ ?_
 ·cases lo with
  | none=>rfl
  | some v=>exact iQ v n 0
 ·cases hi with
  | none=>rfl
  | some v=>exact iQ v n n
theorem Ex(i j:Nat):Builtin.Slice.slicePlaces (i:Int) (j:Int) 1=j - i:=by
 unfold Builtin.Slice.slicePlaces
 have h1:(1:Int) > 0:=by omega
 simp only[h1,if_true,Int.ediv_one]
 split<;>omega
theorem iR{v:Value}{o:Option Int}{Q:Option Int->Shared->Prop}(p:IsPart v o)(h:Q o s):wpAny (model prog w) A (Builtin.Slice.slicePartIndex v) Q E s:=by
 cases p with
 | none=>exact slicePart_none h
 | int i t=>exact slicePart_int h
theorem Ey{sl:Addr}{vl vu:Value}{lo hi:Option Int}{n:Nat}{Q:Int × Int × Nat->Shared->Prop}(hs:s.heap.IsSliceOf sl vl vu .none)(pl:IsPart vl lo)(pu:IsPart vu hi)
  (h:Q (((sIx n 0 lo:Nat):Int),1,sIx n n hi - sIx n 0 lo) s):wpAny (model prog w) A (Builtin.Slice.sliceApplied (.ref sl) (pure (n:Int))) Q E s:=by
 obtain⟨os,hos,hcs,hds⟩:=id hs
 unfold Builtin.Slice.sliceApplied Builtin.Slice.sliceFields
 refine wpAny_bind (wpAny_bind (wpAny_field hos hds (x:=vl) rfl (wpAny_bind (wpAny_field hos hds (x:=vu) rfl (wpAny_bind (wpAny_field hos hds (x:=.none) rfl (wpAny_pure ?_)))))))
 refine wpAny_bind (slicePart_none ?_)
 show wpAny _ _ (if((1:Int) == 0)=true then _ else _) _ _ s
 rw[if_neg (by decide)]
 refine wpAny_bind (iR pl (wpAny_bind (iR pu (wpAny_bind (wpAny_pure ?_)))))
 show wpAny _ _ (match Builtin.Slice.sliceAdjust lo hi 1 (n:Int)with | (lo,hi)=>pure (lo,(1:Int),Builtin.Slice.slicePlaces lo hi 1)) _ _ s
 rw[Ew lo hi n]
 show wpAny _ _ (pure (((sIx n 0 lo:Nat):Int),(1:Int),Builtin.Slice.slicePlaces ((sIx n 0 lo:Nat):Int) ((sIx n n hi:Nat):Int) 1)) _ _ s
 rw[Ex]
 exact wpAny_pure h
theorem Ez(xs:Array Value)(i k:Nat):((List.range k).filterMap λ(m:Nat)=>xs[((i:Int)+(m:Int) * 1).toNat]?).toArray=((xs.toList.drop i).take k).toArray:=by
 have e:(λ(m:Nat)=>xs[((i:Int)+(m:Int) * 1).toNat]?)=λm=>xs[i+m]? :=by
  funext m
  have:((i:Int)+(m:Int) * 1).toNat=i+m:=by omega
  rw[this]
 rw[e]
 have:=pick_run xs i k
 rw[List.filterMap_map]at this
 have e2:((λx=>xs[x]?) ∘ λx=>i+x)=λm=>xs[i+m]? :=rfl
 rw[e2]at this
 rw[this]
theorem getItem_tuple_cut{t sl:Addr}{BO:Array Value}{vl vu:Value}{lo hi:Option Int}{Q:Value->Shared->Prop}(ht:IsTup s.heap t BO)(hs:s.heap.IsSliceOf sl vl vu .none)(pl:IsPart vl lo)(pu:IsPart vu hi)
  (hw:¬ (sIx BO.size 0 lo=0/\sIx BO.size BO.size hi=BO.size))
  (h:Q (.ref s.heap.objs.size) { s with heap:=s.heap.push { cls:=.type "tuple",data:=.seq ((BO.toList.drop (sIx BO.size 0 lo)).take (sIx BO.size BO.size hi - sIx BO.size 0 lo)).toArray } })
  (hsz:BO.size<=sizeLine):wpAny (model prog w) A (getItem (.ref t) (.ref sl)) Q E s:=by
 have htake:sizeOk (.seq ((BO.toList.drop (sIx BO.size 0 lo)).take (sIx BO.size BO.size hi - sIx BO.size 0 lo)).toArray):=by
  show((BO.toList.drop (sIx BO.size 0 lo)).take (sIx BO.size BO.size hi - sIx BO.size 0 lo)).toArray.size<=sizeLine
  rw[List.size_toArray,List.length_take,List.length_drop,Array.length_toList]
  omega
 have hj:sIx BO.size BO.size hi<=BO.size:=Ev _ _ (Nat.le_refl _) hi
 obtain⟨os,hos,hcs,hds⟩:=id hs
 have hTs:s.TypeIs (.ref sl) "slice":=⟨os,hos,hcs⟩
 unfold getItem
 try with_reducible refine wpAny_holding ?_
 first | refine wpAny_bind (wpAny_pure ?_) | skip
 refine wpAny_bind (wpAny_sequenceKey ht.typeIs (by decide) ?_)
 refine wpAny_bind (wpAny_callSpecial?_slot (name:=Str.ofString "__getitem__") ht.typeIs PyProof.Rows.slot_tuple_getitem
  (wpAny_call_entry PyProof.Rows.slot_tuple_getitem ht.typeIs entry_tuple_getitem ?_ (args_tuple_getitem _ _)))
 show wpAny _ _ (Builtin.Tuple.tupleItemsOf (.ref t) >>= _) _ _ s
 refine wpAny_bind (tupleItemsOf_ ht ?_)
 refine wpAny_bind (wpAny_typeOf hTs ?_)
 rw[if_pos (by decide)]
 refine wpAny_bind (Ey hs pl pu ?_)
 have hno:¬ ((((sIx BO.size 0 lo:Nat):Int) == 0 && (1:Int) == 1 && (sIx BO.size BO.size hi - sIx BO.size 0 lo) == BO.size)=true):=by
  intro q
  rw[Bool.and_eq_true,Bool.and_eq_true]at q
  have q1:((sIx BO.size 0 lo:Nat):Int)=0:=eq_of_beq q.1.1
  have q2:sIx BO.size BO.size hi - sIx BO.size 0 lo=BO.size:=eq_of_beq q.2
  exact hw ⟨by omega,by omega⟩
 show wpAny _ _ (if(((sIx BO.size 0 lo:Nat):Int) == 0 && (1:Int) == 1 && (sIx BO.size BO.size hi - sIx BO.size 0 lo) == BO.size)=true then _ else _) _ _ s
 rw[if_neg hno,Ez]
 first
  | exact wpAny_bind (m:=Builtin.Tuple.tupleExact _) (wpAny_newObj_type (wpAny_pure ⟨_,rfl,wpAny_pure h⟩) htake)
  | exact wpAny_bind (m:=Builtin.Tuple.tupleExact _) (wpAny_newObj_type (wpAny_bind (wpAny_pure (wpAny_pure ⟨_,rfl,wpAny_pure h⟩))) htake)
  | exact wpAny_bind (wpAny_bind (m:=Builtin.Tuple.tupleExact _) (wpAny_newObj_type (wpAny_pure (wpAny_pure ⟨_,rfl,wpAny_pure h⟩)) htake))
  | exact wpAny_bind (wpAny_bind (m:=Builtin.Tuple.tupleExact _) (wpAny_newObj_type (wpAny_pure ⟨_,rfl,wpAny_pure h⟩) htake))
end
end HT
namespace L2
abbrev TO:=St->Hp->(Option Int->Hp->Prop)->Prop
def PO(X:Cx)(e:Option Expr)(t:TO):Prop :=
 ∀ (AB:List (Addr × Obj)) (s:Shared) (σ:St) (H:Hp) (Q:Option Int->Hp->Prop),Inv X AB σ H s->t σ H Q →
  wpAny (model X.prog X.w) X.A (evalPart e X.env) (λu s'=>∃ o H',Inv X AB σ H' s'/\IsPart u o/\Q o H') X.xe s
def S7:TO:=λ_ H Q=>Q none H
def LJ(t:TE):TO:=λσ H Q=>t σ H λx H1=>∃ i,x=.int i/\Q (some i) H1
section
variable{X:Cx}{e:Expr}{te:TE}{lo hi:Option Expr}{tl th:TO}{pos p2:Pos}
theorem iS:PO X none S7:=by
 intro AB s σ H Q I h
 rw[evalPart_none]
 exact wpAny_pure ⟨none,H,I,.none,h⟩
theorem NZ(h:PE X e te):PO X (some e) (LJ te):=by
 intro AB s σ H Q I hw
 rw[evalPart_some]
 refine AW (h AB s σ H _ I hw) λu s1 hzz=> ?_
 obtain⟨x,H1,I1,r1,q1⟩:=hzz
 obtain⟨i,rfl,q⟩:=q1
 obtain⟨t,rfl⟩:=r1
 exact⟨some i,H1,I1,.int i t,q⟩
def SlR(X:Cx)(r:V->Option Int->Option Int->Hp->VK->Prop):Prop :=
 ∀ (AB:List (Addr × Obj)) (s:Shared) (σ:St) (H:Hp) (x:V) (v vl vu:Value) (lo hi:Option Int) (sl:Addr) (Q:VK),Inv X AB σ H s->RelV x v->s.heap.IsSliceOf sl vl vu .none->IsPart vl lo->IsPart vu hi->r x lo hi H Q →
  ∃ T id,typeLookup (.type T) "__getitem__"=pure (some (.builtin id))/\s.TypeIs v T/\wpAny (model X.prog X.w) X.A (getItem v (.ref sl)) (EP X AB σ Q) X.xe s
theorem SlR.or{r r':V->Option Int->Option Int->Hp->VK->Prop}(h:SlR X r)(h':SlR X r'):SlR X (λx lo hi H Q=>r x lo hi H Q\/r' x lo hi H Q):=by
 intro AB s σ H x v vl vu lo hi sl Q I rx hs pl pu q
 rcases q with q | q
 ·exact h AB s σ H x v vl vu lo hi sl Q I rx hs pl pu q
 ·exact h' AB s σ H x v vl vu lo hi sl Q I rx hs pl pu q
def N0(r:V->Option Int->Option Int->Hp->VK->Prop)(te:TE)(tl th:TO):TE:=λσ H Q=>te σ H λx H1=>tl σ H1 λl H2=>th σ H2 λu H3=>r x l u H3 Q
theorem S8{r:V->Option Int->Option Int->Hp->VK->Prop}(hr:SlR X r)(he:PE X e te)(hl:PO X lo tl)(hu:PO X hi th):PE X (.Subscript e (.Slice lo hi none p2) pos) (N0 r te tl th):=by
 intro AB s σ H Q I h
 refine Subscript_ (AW (he AB s σ H _ I h) λv s1 hzz=> ?_)
 obtain⟨x,H1,I1,r1,q1⟩:=hzz
 refine wpAny_Slice (AW (hl AB s1 σ H1 _ I1 q1) λvl s2 ⟨l,H2,I2,pl,q2⟩=>AW (hu AB s2 σ H2 _ I2 q2) λvu s3 hzz=> ?_)
 obtain⟨u,H3,I3,pu,q3⟩:=hzz
 rw[evalPart_none]
 refine wpAny_pure ?_
 have I4:Inv X AB σ H3 { s3 with heap:=s3.heap.push { cls:=.type "slice",data:=.fields #[vl,vu,.none] } }:=I3.kept (t':=s3.toks) λb ob q=>Heap.get?_push_of_some _ q
 obtain⟨T,id,hT,ht,hg⟩:=hr AB { s3 with heap:=s3.heap.push { cls:=.type "slice",data:=.fields #[vl,vu,.none] } } σ H3 x v vl vu l u s3.heap.objs.size Q I4 r1 (Heap.IsSliceOf.new ..) pl pu q3
 show wpAny (model X.prog X.w) X.A (subscriptTail e (.Slice lo hi none p2) v (.ref s3.heap.objs.size)) (EP X AB σ Q) X.xe { s3 with heap:=s3.heap.push { cls:=.type "slice",data:=.fields #[vl,vu,.none] } }
 exact tail_any (ops:=[.ref s3.heap.objs.size,v]) ht hT hg (by with_unfolding_all rfl)
def GI(xs:List V)(lo hi:Option Int):List V:=(xs.drop (HT.sIx xs.length 0 lo)).take (HT.sIx xs.length xs.length hi - HT.sIx xs.length 0 lo)
theorem iT(xs:List V)(lo hi:Option Int):(GI xs lo hi).length<=xs.length:=by
 unfold GI
 rw[List.length_take,List.length_drop]
 omega
def iU(K:W.Frag):V->Option Int->Option Int->Hp->VK->Prop:=λx lo hi H Q=>∃ a xs,x=.ref a/\SqT K H a xs ∧
 ¬ (HT.sIx xs.length 0 lo=0/\HT.sIx xs.length xs.length hi=xs.length)/\∀ p,H p=none->Q (.ref p) (upd H p (.tup (GI xs lo hi)))
theorem Fb:SlR X (iU X.K):=by
 intro AB s σ H x v vl vu lo hi sl Q I rx hs pl pu h
 obtain⟨a,xs,rfl,hx,hw,q⟩:=h
 cases rx
 obtain⟨its,r,ht,hz⟩:=I.tuple hx
 have EC:its.toArray.size=xs.length:=by rw[List.size_toArray];exact r.length.symm
 refine⟨"tuple",_,PyProof.Rows.slot_tuple_getitem.lookup,ht.typeIs,?_⟩
 refine HT.getItem_tuple_cut ht hs pl pu (by rw[EC];exact hw) ?_ (by rw[EC];exact hz)
 rw[EC]
 refine⟨.ref s.heap.objs.size,_,I.laid (t':=s.toks) (o:=.tup (GI xs lo hi)) (λb ob q=>Heap.get?_push_of_some _ q) (Nat.le_refl _) ?_,rfl,q _ (I.hok.fresh (Nat.le_refl _))⟩
 exact⟨Nat.le_trans (iT xs lo hi) hz,_,(r.drop (HT.sIx xs.length 0 lo)).take (HT.sIx xs.length xs.length hi - HT.sIx xs.length 0 lo),IsTup.new _ _⟩
def WU(K:W.Frag):R2:=λx y H Q=>∃ a b xs ys,x=.ref a/\y=.ref b/\SqT K H a xs/\SqT K H b ys/\xs≠[]/\xs.length+ys.length<=sizeLine ∧
 (ys=[]->Q (.ref a) H)/\(ys≠[]->∀ p,H p=none->Q (.ref p) (upd H p (.tup (xs++ys))))
theorem Vals.nil_iff{xs:List V}{us:List Value}(r:Vals xs us):us=[]↔xs=[]:=by
 cases r with
 | nil=>simp
 | cons _ _=>simp
theorem Fc:CP X (binaryOp .Add) (WU X.K):=by
 intro AB s σ H x y v u Q I rx ry h
 obtain⟨a,b,xs,ys,rfl,rfl,ha,hb,hx,hz,q1,q2⟩:=h
 cases rx
 cases ry
 obtain⟨its,r1,p1,_⟩:=I.tuple ha
 obtain⟨GR,r2,p2,_⟩:=I.tuple hb
 refine HT.cat_tup p1 p2 (λz=>hx (r1.nil_iff.mp z)) (λz=>⟨.ref a,H,I,rfl,q1 (r2.nil_iff.mp z)⟩) (λz=> ?_) (by rw[<-r1.length,<-r2.length];exact hz)
 refine⟨.ref s.heap.objs.size,_,I.laid (t':=s.toks) (o:=.tup (xs++ys)) (λb ob q=>Heap.get?_push_of_some _ q) (Nat.le_refl _) ?_,rfl,q2 (λw=>z (r2.nil_iff.mpr w)) _ (I.hok.fresh (Nat.le_refl _))⟩
 exact⟨by rw[List.length_append];exact hz,_,r1.append r2,IsTup.new _ _⟩
end
end L2
namespace L2
def JN(n:Nat)(i:Int):Option Nat:=if 0<=i then(if i<n then some i.toNat else none)else if -(n:Int)<=i then some (i+n).toNat else none
def MM{α :Type}(xs:List α)(i:Int):Option α :=(JN xs.length i).bind λj=>xs[j]?
theorem iV{n:Nat}{i:Int}{j:Nat}(h:JN n i=some j):seqIndex? i n=some j/\j<n/\ -(n:Int)<=i/\i<n:=by
 unfold JN at h
 by_cases h0:0<=i
 ·rw[if_pos h0]at h
  by_cases h1:i<n
  ·rw[if_pos h1]at h
   have e:i.toNat=j:=Option.some.inj h
   exact⟨by rw[seqIndex_of h0 h1,e],by omega,by omega,h1⟩
  ·rw[if_neg h1]at h;cases h
 ·rw[if_neg h0]at h
  by_cases h1: -(n:Int)<=i
  ·rw[if_pos h1]at h
   have e:(i+n).toNat=j:=Option.some.inj h
   exact⟨by rw[seqIndex_neg (by omega) h1,e],by omega,h1,by omega⟩
  ·rw[if_neg h1]at h;cases h
theorem WV{α :Type}{xs:List α}{i:Int}{v: α}(h:MM xs i=some v):∃ j,seqIndex? i xs.length=some j/\xs[j]? =some v/\j<xs.length/\ -(xs.length:Int)<=i/\i<xs.length:=by
 unfold MM at h
 cases e:JN xs.length i with
 | none=>rw[e]at h;cases h
 | some j =>
  rw[e]at h
  obtain⟨h1,h2,h3,h4⟩:=iV e
  exact⟨j,h1,h,h2,h3,h4⟩
theorem WW{α :Type}{xs:List α}{j:Nat}{v: α}(h:xs[j]? =some v):MM xs (j:Int)=some v:=by
 have hj:j<xs.length:=(List.getElem?_eq_some_iff.mp h).1
 have e:JN xs.length (j:Int)=some j:=by
  unfold JN
  rw[if_pos (by omega),if_pos (by omega)];simp
 unfold MM;rw[e];exact h
def Fd(b:Expr):Prop:=∀ o i,subscripted b false o i=operate [o,i] (getItem o i)
def IxR(X:Cx)(r:R2):Prop :=
 ∀ (value slice:Expr) (AB:List (Addr × Obj)) (s:Shared) (σ:St) (H:Hp) (x y:V) (v u:Value) (Q:VK),Inv X AB σ H s->RelV x v->RelV y u->r x y H Q →
  subscripted slice false v u=operate [v,u] (getItem v u)->wpAny (model X.prog X.w) X.A (subscriptTail value slice v u) (EP X AB σ Q) X.xe s
def iW(X:Cx)(id:String)(r:V->List V->Hp->VK->Prop):Prop :=
 ∀ (AB:List (Addr × Obj)) (s:Shared) (σ:St) (H:Hp) (x:V) (xs:List V) (v:Value) (us:List Value) (Q:VK),Inv X AB σ H s->RelV x v->Vals xs us->r x xs H Q →
  wpAny (model X.prog X.w) X.A (call (.builtin id) (v::us)) (EP X AB σ Q) X.xe s
section
variable{X:Cx}{a b:Expr}{ta tb:TE}{pos:Pos}
theorem IxR.or{r r':R2}(h:IxR X r)(h':IxR X r'):IxR X (λx y H Q=>r x y H Q\/r' x y H Q):=by
 intro value slice AB s σ H x y v u Q I rx ry q hs
 rcases q with q | q
 ·exact h value slice AB s σ H x y v u Q I rx ry q hs
 ·exact h' value slice AB s σ H x y v u Q I rx ry q hs
theorem A9{r:R2}(hr:IxR X r)(ha:PE X a ta)(hb:PE X b tb)(hs:Fd b):PE X (.Subscript a b pos) (AC r ta tb):=by
 intro AB s σ H Q I h
 exact Subscript_ (WM ha hb I h λv u s2 x y H2 I2 rx ry q=>hr a b AB s2 σ H2 x y v u Q I2 rx ry q (hs _ _))
def iX(K:W.Frag):R2:=λx y H Q=>∃ p xs i v,x=.ref p/\y=.int i/\SqL K H p xs/\MM xs i=some v/\Q v H
def iY(K:W.Frag):R2:=λx y H Q=>∃ p xs i v,x=.ref p/\y=.int i/\SqT K H p xs/\MM xs i=some v/\Q v H
def iZ:R2:=λx y H Q=>∃ z i c,x=.str z/\y=.int i/\z.length<=sizeLine/\MM z.cps.toList i=some c/\Q (.str ⟨#[c]⟩) H
theorem Fg:IxR X (iX X.K):=by
 intro value slice AB s σ H x y v u Q I rx ry h hs
 obtain⟨p,xs,i,z,rfl,rfl,hq,he,q⟩:=h
 cases rx
 obtain⟨t,rfl⟩:=ry
 obtain⟨its,r,pl,hz⟩:=I.list hq
 obtain⟨j,h1,h2,h3,h4,h5⟩:=WV he
 obtain⟨w,ew,rw'⟩:=r.get h2
 have hl:=r.length
 have hn:=MK
 have fin:EP X AB σ Q w s:=⟨z,H,I,rw',q⟩
 by_cases h0:0<=i
 ·have hj:i.toNat=j:=by
   rw[seqIndex_of h0 h5]at h1
   exact Option.some.inj h1
  exact item_listR pl.isList h0 (by omega) (by rw[hj];simpa using ew) fin hs
 ·have hj:(i+(its.toArray.size:Int)).toNat=j:=by
   rw[seqIndex_neg (by omega) h4]at h1
   rw[List.size_toArray,<-hl]
   exact Option.some.inj h1
  exact subscriptTail_builtinR (x:=w) pl.isList.typeIs slot_list_getitem.lookup
   (wpAny_getItem_list_neg (Q:=λr s'=>r=w/\EP X AB σ Q r s') pl.isList (by omega) (by rw[List.size_toArray]<;>omega) (by omega) (by rw[hj];simpa using ew) ⟨rfl,fin⟩) hs
theorem Fh:IxR X (iY X.K):=by
 intro value slice AB s σ H x y v u Q I rx ry h hs
 obtain⟨p,xs,i,z,rfl,rfl,hq,he,q⟩:=h
 cases rx
 obtain⟨t,rfl⟩:=ry
 obtain⟨its,r,pl,hz⟩:=I.tuple hq
 obtain⟨j,h1,h2,h3,h4,h5⟩:=WV he
 obtain⟨w,ew,rw'⟩:=r.get h2
 have hl:=r.length
 have hn:=MK
 have fin:EP X AB σ Q w s:=⟨z,H,I,rw',q⟩
 exact subscriptTail_builtinR (x:=w) pl.typeIs slot_tuple_getitem.lookup
  (getItem_tuple (j:=j) (Q:=λr s'=>r=w/\EP X AB σ Q r s') pl (by omega) (by omega) (by rw[List.size_toArray,<-hl];exact h1) (by simpa using ew) ⟨rfl,fin⟩) hs
theorem Fj:IxR X iZ:=by
 intro value slice AB s σ H x y v u Q I rx ry h hs
 obtain⟨z,i,c,rfl,rfl,hz,he,q⟩:=h
 obtain⟨t,rfl⟩:=rx
 obtain⟨t',rfl⟩:=ry
 obtain⟨j,h1,h2,h3,h4,h5⟩:=WV he
 have hl:z.cps.toList.length=z.length:=by simp[Str.length]
 rw[hl]at h1 h4 h5
 have hn:=MK
 exact tail_any (typeIs_str s z t) slot_str_getitem.lookup (getItem_str (c:=c) (by
  have e1:decide (i< -(2 ^ 63:Int))=false:=decide_eq_false (by omega)
  have e2:decide (i ≥ 2 ^ 63)=false:=decide_eq_false (by omega)
  rw[e1,e2,Bool.or_false]) (by rw[h1];simpa using h2) ⟨.str ⟨#[c]⟩,H,I.tok _,⟨_,rfl⟩,q⟩) hs
def i0(K:W.Frag):R2:=λx y H Q=>iX K x y H Q\/iY K x y H Q\/iZ x y H Q
theorem Fk:IxR X (i0 X.K):=Fg.or (Fh.or Fj)
theorem Fl(its:List Value)(n j:Nat)(u:Value):Obj.mapSeq (·.setIfInBounds j u) { cls:=.type "list",data:=.seq its.toArray n }={ cls:=.type "list",data:=.seq (its.set j u).toArray n }:=by
 simp[Obj.mapSeq]
theorem Inv.lst{AB:List (Addr × Obj)}{σ:St}{H:Hp}{s:Shared}{p:Addr}{xs:List V}(I:Inv X AB σ H s)(h:H p=some (.lst xs)) :
  ∃ (its:List Value) (n:Nat),Vals xs its/\s.heap.get? p=some { cls:=.type "list",data:=.seq its.toArray n }/\xs.length<=sizeLine:=by
 obtain⟨z,its,n,r,e⟩:=I.hok p _ h
 exact⟨its,n,r,e,z⟩
theorem Inv.lstUpd{AB:List (Addr × Obj)}{σ:St}{H:Hp}{s:Shared}{p:Addr}{xs ys:List V}{its its':List Value}{n n':Nat}{f:Obj->Obj}(I:Inv X AB σ H s)(h:H p=some (.lst xs))
  (ho:s.heap.get? p=some { cls:=.type "list",data:=.seq its.toArray n }) (hf:f { cls:=.type "list",data:=.seq its.toArray n }={ cls:=.type "list",data:=.seq its'.toArray n' }) (r:Vals ys its') (hz:ys.length<=sizeLine) (t:Nat) :
  Inv X AB σ (upd H p (.lst ys)) { s with heap:=s.heap.update p f,toks:=t }:=by
 have e:(s.heap.update p f).get? p=some { cls:=.type "list",data:=.seq its'.toArray n' }:=by
  rw[Heap.get?_update_self f ho (by rw[hf]<;>rfl),hf]
 refine I.write (x:=p) (e:=p) (by rw[h];trivial) (.inl rfl) (λb u hb q=>(Heap.get?_update_other _ _ (Ne.symm hb)).trans q) ⟨_,e⟩ ?_
 exact⟨hz,its',n',r,e⟩
def i3:V->V->V->Hp->(Hp->Prop)->Prop:=λo i v H Q=>∃ p xs k j,o=.ref p/\i=.int k/\H p=some (.lst xs)/\JN xs.length k=some j/\Q (upd H p (.lst (xs.set j v)))
theorem Fm:WK X i3:=by
 intro AB s σ H o i v ov iv u Q I ro ri rv h
 obtain⟨p,xs,k,j,rfl,rfl,hp,hj,q⟩:=h
 cases ro
 obtain⟨t,rfl⟩:=ri
 obtain⟨its,n,r,ho,hz⟩:=I.lst hp
 obtain⟨h1,h2,h3,h4⟩:=iV hj
 have hl:=r.length
 have hn:=MK
 have I':Inv X AB σ (upd H p (.lst (xs.set j v))) { s with heap:=s.heap.update p (Obj.mapSeq (·.setIfInBounds j u)) } :=
  I.lstUpd hp ho (Fl its n j u) (r.set rv j) (by rw[List.length_set];exact hz) s.toks
 by_cases h0:0<=k
 ·have hk:k.toNat=j:=by
   rw[seqIndex_of h0 h4]at h1
   exact Option.some.inj h1
  exact W.ki_setAt ho h0 (by omega) (by rw[List.size_toArray,<-hl];exact h4) (by rw[hk];exact⟨_,I',q⟩)
 ·have hk:(k+(its.toArray.size:Int)).toNat=j:=by
   rw[seqIndex_neg (by omega) h3]at h1
   rw[List.size_toArray,<-hl]
   exact Option.some.inj h1
  exact W.ki_setBack ho (by omega) (by rw[List.size_toArray,<-hl];exact h3) (by omega) (by rw[hk];exact⟨_,I',q⟩)
theorem Fp(lo hi:Option Int)(n:Nat):(sliceBounds lo hi none n).1=((HT.sIx n 0 lo:Nat):Int)/\(sliceBounds lo hi none n).2.1=((HT.sIx n n hi:Nat):Int)/\(sliceBounds lo hi none n).2.2=1:=by
 refine⟨?_,?_,rfl⟩
 ·cases lo with
  | none=>simp[sliceBounds,HT.sIx]
  | some i =>
   simp only[sliceBounds,HT.sIx,Option.getD_none,show(1:Int) > 0 by decide,if_true]
   by_cases h:i<0
   ·simp only[h,if_true]<;>omega
   ·simp only[h,if_false]<;>omega
 ·cases hi with
  | none=>simp[sliceBounds,HT.sIx]
  | some i =>
   simp only[sliceBounds,HT.sIx,Option.getD_none,show(1:Int) > 0 by decide,if_true]
   by_cases h:i<0
   ·simp only[h,if_true]<;>omega
   ·simp only[h,if_false]<;>omega
theorem Fq(its:List Value)(lo hi:Option Int):slicePick its.toArray lo hi none=((its.drop (HT.sIx its.length 0 lo)).take (HT.sIx its.length its.length hi - HT.sIx its.length 0 lo)).toArray:=by
 obtain⟨h1,h2,h3⟩:=Fp lo hi its.toArray.size
 unfold slicePick
 rw[h1,h2,h3]
 simp only[sliceRange_one,pick_run,List.size_toArray]<;>rfl
def i4(K:W.Frag):V->Option Int->Option Int->Hp->VK->Prop:=λx lo hi H Q=>∃ a xs,x=.ref a/\SqL K H a xs/\∀ p,H p=none->Q (.ref p) (upd H p (.lst (GI xs lo hi)))
theorem Fv:SlR X (i4 X.K):=by
 intro AB s σ H x v vl vu lo hi sl Q I rx hs pl pu h
 obtain⟨a,xs,rfl,hx,q⟩:=h
 cases rx
 obtain⟨its,r,ht,hz⟩:=I.list hx
 have EC:=r.length
 refine⟨"list",_,slot_list_getitem.lookup,ht.isList.typeIs,?_⟩
 refine wpAny_getItem_list_slice ht.isList hs pl pu .none (by simp) ?_ (by rw[List.size_toArray]<;>omega)
 rw[Fq,<-EC]
 refine⟨.ref s.heap.objs.size,_,I.laid (t':=s.toks) (o:=.lst (GI xs lo hi)) (λb ob q=>Heap.get?_push_of_some _ q) (Nat.le_refl _) ?_,rfl,q _ (I.hok.fresh (Nat.le_refl _))⟩
 exact⟨Nat.le_trans (iT xs lo hi) hz,_,0,(r.drop (HT.sIx xs.length 0 lo)).take (HT.sIx xs.length xs.length hi - HT.sIx xs.length 0 lo),Heap.get?_push_size _ rfl⟩
def LK:V->Bool
 | .non=>true
 | .bl _=>true
 | .int _=>true
 | .str _=>true
 | _=>false
def JO:V->V->Bool
 | .non,.non=>true
 | .bl a,.bl b=>a == b
 | .bl a,.int b=>(if a then 1 else 0) == b
 | .int a,.bl b=>a ==(if b then 1 else 0)
 | .int a,.int b=>a == b
 | .str a,.str b=>a == b
 | _,_=>false
theorem Fw{A:Around}{s:Shared}{y x:V}{u v:Value}(ry:RelV y u)(rx:RelV x v)(fy:LK y=true)(fx:LK x=true):SeqAt.EqAt A s u v (JO y x):=by
 cases y with
 | non =>
  cases ry
  cases x with
  | non=>cases rx;exact SeqAt.EqAt.same _
  | bl b=>cases rx;exact SeqAt.EqAt.none_bool b
  | int b=>obtain⟨t,rfl⟩:=rx;exact SeqAt.EqAt.none_int b t
  | str b=>obtain⟨t,rfl⟩:=rx;exact SeqAt.EqAt.none_str b t
  | _=>exact absurd (show false=true from fx) Bool.false_ne_true
 | bl a =>
  cases ry
  cases x with
  | non=>cases rx;exact SeqAt.EqAt.bool_none a
  | bl b=>cases rx;exact SeqAt.EqAt.bool_bool a b
  | int b=>obtain⟨t,rfl⟩:=rx;exact SeqAt.EqAt.bool_int a b t
  | str b=>obtain⟨t,rfl⟩:=rx;exact SeqAt.EqAt.bool_str a b t
  | _=>exact absurd (show false=true from fx) Bool.false_ne_true
 | int a =>
  obtain⟨t',rfl⟩:=ry
  cases x with
  | non=>cases rx;exact SeqAt.EqAt.int_none a t'
  | bl b=>cases rx;exact SeqAt.EqAt.int_bool a t' b
  | int b=>obtain⟨t,rfl⟩:=rx;exact SeqAt.EqAt.int_int a t' b t
  | str b=>obtain⟨t,rfl⟩:=rx;exact SeqAt.EqAt.int_str a t' b t
  | _=>exact absurd (show false=true from fx) Bool.false_ne_true
 | str a =>
  obtain⟨t',rfl⟩:=ry
  cases x with
  | non=>cases rx;exact SeqAt.EqAt.str_none a t'
  | bl b=>cases rx;exact SeqAt.EqAt.str_bool a t' b
  | int b=>obtain⟨t,rfl⟩:=rx;exact SeqAt.EqAt.str_int a t' b t
  | str b=>obtain⟨t,rfl⟩:=rx;exact SeqAt.EqAt.str_str a t' b t
  | _=>exact absurd (show false=true from fx) Bool.false_ne_true
 | _=>exact absurd (show false=true from fy) Bool.false_ne_true
def KK(x:V)(u:Value):Bool:=match u with
 | .none=>JO .non x
 | .bool b=>JO (.bl b) x
 | .int i _=>JO (.int i) x
 | .str z _=>JO (.str z) x
 | _=>false
theorem i5{x y:V}{u:Value}(r:RelV y u)(f:LK y=true):KK x u=JO y x:=by
 cases y with
 | non=>cases r;rfl
 | bl b=>cases r;rfl
 | int i=>obtain⟨t,rfl⟩:=r;rfl
 | str z=>obtain⟨t,rfl⟩:=r;rfl
 | _=>exact absurd (show false=true from f) Bool.false_ne_true
theorem WX{x:V}:∀ {xs:List V} {us:List Value},Vals xs us->xs.all LK=true->us.any (KK x)=xs.any λy=>JO y x
 | _,_,.nil,_=>rfl
 | y::xs,u::us,.cons r t,f=>by
  rw[List.all_cons,Bool.and_eq_true]at f
  rw[List.any_cons,List.any_cons,i5 r f.1,WX t f.2]
theorem WY{A:Around}{s:Shared}{x:V}{v:Value}(rx:RelV x v)(fx:LK x=true):∀ {xs:List V} {us:List Value},Vals xs us->xs.all LK=true->∀ u∈us,SeqAt.EqAt A s u v (KK x u)
 | _,_,.nil,_=>λu hu=>by cases hu
 | y::xs,u::us,.cons r t,f=>λu' hu=>by
  rw[List.all_cons,Bool.and_eq_true]at f
  rcases List.mem_cons.mp hu with rfl | hu
  ·rw[i5 r f.1];exact Fw r rx f.1 fx
  ·exact WY rx fx t f.2 u' hu
def S9(x:V)(xs:List V):Bool:=xs.any λy=>JO y x
def i6(K:W.Frag)(neg:Bool):R2:=λx y H Q=>∃ p xs,y=.ref p/\(SqL K H p xs\/SqT K H p xs)/\LK x=true/\xs.all LK=true/\Q (.bl (if neg then !S9 x xs else S9 x xs)) H
theorem Fx:CP X (compareOp .In) (i6 X.K false):=by
 intro AB s σ H x y v u Q I rx ry h
 obtain⟨p,xs,rfl,hq,fx,fs,q⟩:=h
 cases ry
 rcases hq with hq | hq
 ·obtain⟨its,r,pl,hz⟩:=I.list hq
  refine SeqAt.in_listAt (KK x) pl.isList (λw hw=>WY rx fx r fs w (by simpa using hw)) ⟨.bl _,H,I,rfl,?_⟩
  rw[show its.toArray.any (KK x)=its.any (KK x) by simp,WX r fs]
  exact q
 ·obtain⟨its,r,pl,hz⟩:=I.tuple hq
  refine SeqAt.in_tupleAt (KK x) pl (λw hw=>WY rx fx r fs w (by simpa using hw)) ⟨.bl _,H,I,rfl,?_⟩
  rw[show its.toArray.any (KK x)=its.any (KK x) by simp,WX r fs]
  exact q
theorem Fy:HH X (.type "list") (λxs H Q=>∃ p ys,xs=[.ref p]/\(SqL X.K H p ys\/SqT X.K H p ys)/\∀ l,H l=none->Q (.ref l) (upd H l (.lst ys))):=by
 intro AB s σ H xs us Q I r h
 obtain⟨p,ys,rfl,hq,q⟩:=h
 obtain⟨u,rfl,rx⟩:=ML r
 cases rx
 have fin:∀ (its:List Value),Vals ys its->ys.length<=sizeLine->∀ (h':Heap) (c':Nat),(∀ b o',s.heap.get? b=some o'->h'.get? b=some o') →
   h'.get? s.heap.objs.size=some { cls:=.type "list",dict:=none,data:=.seq its.toArray c',slots:= #[] }->EP X AB σ Q (.ref s.heap.objs.size) { s with heap:=h' }:=λits r' hz h' c' kp e =>
  ⟨.ref s.heap.objs.size,_,I.laid (t':=s.toks) kp (Nat.le_refl _) (show ObjOk X.prog X.w _ h' _ (.lst ys)from⟨hz,its,c',r',e⟩),rfl,q _ (I.hok.fresh (Nat.le_refl _))⟩
 rcases hq with hq | hq
 ·obtain⟨its,r',pl,hz⟩:=I.list hq
  have EC:=r'.length
  obtain⟨o,ho,hc,n,hd⟩:=pl.isList
  exact call_list_seq p (.inl rfl) ho hc hd (λh' c' kp e=>fin its r' hz h' c' kp e) (by simp only[List.size_toArray]<;>omega)
 ·obtain⟨its,r',pl,hz⟩:=I.tuple hq
  have EC:=r'.length
  obtain⟨o,ho,hc,n,hd⟩:=pl
  exact call_list_seq p (.inr rfl) ho hc hd (λh' c' kp e=>fin its r' hz h' c' kp e) (by simp only[List.size_toArray]<;>omega)
theorem Fz:HH X (.type "tuple") (λxs H Q=>∃ p ys,xs=[.ref p]/\((SqL X.K H p ys/\∀ l,H l=none->Q (.ref l) (upd H l (.tup ys)))\/(SqT X.K H p ys/\Q (.ref p) H))):=by
 intro AB s σ H xs us Q I r h
 obtain⟨p,ys,rfl,h⟩:=h
 obtain⟨u,rfl,rx⟩:=ML r
 cases rx
 rcases h with⟨hq,q⟩ | ⟨hq,q⟩
 ·obtain⟨its,r',pl,hz⟩:=I.list hq
  have EC:=r'.length
  refine call_tuple_list pl.isList (λh' kp=> ?_) (by simp only[List.size_toArray]<;>omega)
  have I1:Inv X AB σ H { s with heap:=h' }:=I.kept (t':=s.toks) kp
  have I2:Inv X AB σ (upd H h'.objs.size (.tup ys)) { s with heap:=h'.push { cls:=.type "tuple",data:=.seq its.toArray } } :=
   I1.laid (t':=s.toks) (λb o e=>Heap.get?_push_of_some _ e) (Nat.le_refl _) (show ObjOk X.prog X.w _ _ _ (.tup ys)from⟨hz,its,r',IsTup.new _ _⟩)
  exact⟨.ref h'.objs.size,_,I2,rfl,q _ (I1.hok.fresh (Nat.le_refl _))⟩
 ·obtain⟨its,r',pl,hz⟩:=I.tuple hq
  exact call_tuple_same pl ⟨.ref p,H,I,rfl,q⟩
def WZ(K:W.Frag)(T:String)(x:V)(H:Hp):Prop:=match x with
 | .str _=>T="str"
 | .int _=>T="int"
 | .ref p=>(T="list"/\∃ xs,SqL K H p xs)\/(T="tuple"/\∃ o,K.lookup p=some o/\o.cls=.type "tuple"/\o.dict=none) ∨
   (T="dict"/\((∃ kvs,H p=some (.dK kvs))\/∃ kvs,H p=some (.dT kvs)))\/(T="set"/\∃ S n,H p=some (.set S n))
 | _=>False
theorem Gb{AB:List (Addr × Obj)}{σ:St}{H:Hp}{s:Shared}{T:String}{x:V}{v:Value}(I:Inv X AB σ H s)(r:RelV x v)(ty:WZ X.K T x H) :
  s.TypeIs v T/\∀ a,v=.ref a->∃ ob,s.heap.get? a=some ob/\ob.dict=none:=by
 cases x with
 | str z =>
  obtain⟨t,rfl⟩:=r
  cases (show T="str" from ty)
  exact⟨typeIs_str s z t,λ_ e=>nomatch e⟩
 | int i =>
  obtain⟨t,rfl⟩:=r
  cases (show T="int" from ty)
  exact⟨typeIs_int s i t,λ_ e=>nomatch e⟩
 | ref p =>
  cases r
  rcases ty with⟨rfl,xs,hq⟩ | ⟨rfl,o,hk,hc,hd⟩ | ⟨rfl,hk⟩ | ⟨rfl,S,n,hk⟩
  ·obtain⟨its,_,pl,_⟩:=I.list hq
   refine⟨pl.isList.typeIs,λa e=> ?_⟩
   cases e
   obtain⟨o,n,e,c,hd,_⟩:=pl
   exact⟨o,e,hd⟩
  ·refine⟨⟨o,I.kIn p o hk,hc⟩,λa e=> ?_⟩
   cases e
   exact⟨o,I.kIn _ o hk,hd⟩
  ·have z:∃ o,s.heap.get? p=some o/\o.ExactDict:=by
    rcases hk with⟨kvs,hk⟩ | ⟨kvs,hk⟩
    ·obtain⟨_,_,_,_,o,_,_,e,ex,_⟩:=I.hok p _ hk
     exact⟨o,e,ex⟩
    ·obtain⟨_,_,_,_,o,_,_,e,ex,_⟩:=I.hok p _ hk
     exact⟨o,e,ex⟩
   obtain⟨o,e,ex⟩:=z
   refine⟨⟨o,e,ex.1⟩,λa e2=> ?_⟩
   cases e2
   exact⟨o,e,ex.2.1⟩
  ·obtain⟨o,_,_,_,e,ex,_⟩:=I.hok p _ hk
   refine⟨⟨o,e,ex.1⟩,λa e2=> ?_⟩
   cases e2
   exact⟨o,e,ex.2.1⟩
 | _=>exact False.elim ty
def G4(K:W.Frag)(T:String)(r:V->List V->Hp->VK->Prop)(to:TE)(t:TA):TE:=λσ H Q=>to σ H λx H1=>WZ K T x H1/\t σ H1 λxs H2=>r x xs H2 Q
variable{o e:Expr}{es:List Expr}{to:TE}{t:TA}{name:Str}{DI D5:Pos}{T id:String}{r:V->List V->Hp->VK->Prop}
theorem IJ(pa:PlainAttrs T)(slot:Slot T name id)(hty:typeOf (.builtin id)=pure (.type "method_descriptor"))(hm:iW X id r)(ho:PE X o to)(ha:PA X (e::es) t)
  (hbase:attributeBase o name X.env (eval o X.env)=eval o X.env:=by rfl)
  (hfew:((backTo D5 (starEach (e::es) X.env)).all (λx=> !x.1) && (backToKw D5 (keywordEach [] X.env)).all (λx=>x.1.isSome)
   && decide ((e::es).length+([]:List Keyword).length+(if([]:List Keyword).isEmpty then 0 else 1)<30))=true:=by rfl)
  (hline:(DI.endLine == D5.line)=true:=by rfl) (hs:starEach (e::es) X.env=(false,eval e X.env)::starEach es X.env:=by rfl) (hplain:(backTo D5 (starEach es X.env)).any (·.1)=false:=by rfl) :
  PE X (.Call (.Attribute o name DI) (e::es) [] D5) (G4 X.K T r to t):=by
 intro AB s σ H Q I h
 refine wpAny_Call_method_late hbase hfew hline rfl (AW (ho AB s σ H _ I h) λv s1 hzz=> ?_)
 obtain⟨x,H1,I1,r1,ty,q1⟩:=hzz
 obtain⟨h1,h2⟩:=Gb I1 r1 ty
 refine⟨T,id,pa,slot,hty,h1,h2,?_⟩
 have hA:=ha D5 AB s1 σ H1 _ I1 q1
 rw[hs]at hA ⊢
 refine Calls.callWith_builtin (by show(false || (backTo D5 (starEach es X.env)).any (·.1))=false;rw[hplain]<;>rfl) (Calls.evalArgs_plain ?_)
 exact AW hA λus s2 ⟨vs,H2,I2,r2,q2⟩=>hm AB s2 σ H2 x vs v us Q I2 r1 r2 q2
end
end L2
namespace L2
def TC(X:Cx)(id:String)(r:V->List V->Hp->VK->Prop):Prop :=
 ∀ (AB:List (Addr × Obj)) (s:Shared) (σ:St) (H:Hp) (x:V) (xs:List V) (v:Value) (us:List Value) (Q:VK),Inv X AB σ H s->RelV x v->Vals xs us->r x xs H Q →
  wpAny (model X.prog X.w) X.A (call (.builtin id) (v::us)) (EP X AB σ Q) X.xe s
theorem Vals.one:∀ {x:V} {us:List Value},Vals [x] us->∃ u,us=[u]/\RelV x u
 | _,_,.cons r .nil=>⟨_,rfl,r⟩
theorem Vals.two:∀ {x y:V} {us:List Value},Vals [x,y] us->∃ u v,us=[u,v]/\RelV x u/\RelV y v
 | _,_,_,h=>by
  cases h with | cons r h=>cases h with | cons q h=>cases h;exact⟨_,_,rfl,r,q⟩
theorem Vals.eraseIdx:∀ {xs:List V} {us:List Value} (i:Nat),Vals xs us->Vals (xs.eraseIdx i) (us.eraseIdx i)
 | _,_,_,.nil=>.nil
 | _,_,0,.cons _ t=>t
 | _,_,i+1,.cons r t=>.cons r (Vals.eraseIdx i t)
theorem Vals.rep{xs:List V}{us:List Value}(h:Vals xs us):∀ k:Nat,Vals (List.replicate k xs).flatten (List.replicate k us).flatten
 | 0=>.nil
 | k+1=>by
  rw[List.replicate_succ,List.replicate_succ,List.flatten_cons,List.flatten_cons]
  exact Vals.append h (Vals.rep h k)
theorem TD(its:List Value):∀ (k:Nat) (BV:List Value),
  List.foldl (λx1 x2=>x1++x2) BV.toArray (List.replicate k its.toArray)=(BV++(List.replicate k its).flatten).toArray
 | 0,BV=>by simp
 | k+1,BV=>by
  have e:BV.toArray++its.toArray=(BV++its).toArray:=by simp
  have e2:(BV++its)++(List.replicate k its).flatten=BV++(List.replicate (k+1) its).flatten:=by
   rw[List.replicate_succ,List.flatten_cons,List.append_assoc]
  rw[<-e2,<-TD its k (BV++its),<-e,List.replicate_succ,List.foldl_cons]
section
variable{X:Cx}{AB:List (Addr × Obj)}{σ:St}{H:Hp}{s:Shared}{l b:Addr}{xs ys zs:List V}
theorem Inv.lset{its its':List Value}{n:Nat}{f:Array Value->Array Value}{t':Nat}(I:Inv X AB σ H s)(hH:H l=some (.lst xs))
  (e:s.heap.get? l=some { cls:=.type "list",data:=.seq its.toArray n }) (hf:f its.toArray=its'.toArray) (hv:Vals ys its') (hz:ys.length<=sizeLine) :
  Inv X AB σ (upd H l (.lst ys)) { s with heap:=s.heap.update l (Obj.mapSeq f),toks:=t' }:=by
 have q:=PySem.IsL.update e f
 rw[hf]at q
 refine I.write (x:=l) (e:=l) (by rw[hH];exact trivial) (.inl rfl) (λb' u hb hu=>(Heap.get?_update_other s.heap (Obj.mapSeq f) (Ne.symm hb)).trans hu) ⟨_,q⟩ ?_
 exact⟨hz,its',_,hv,q⟩
theorem Inv.lnew{its:List Value}{t':Nat}(I:Inv X AB σ H s)(hv:Vals ys its)(hz:ys.length<=sizeLine) :
  Inv X AB σ (upd H s.heap.objs.size (.lst ys)) { s with heap:=s.heap.push { cls:=.type "list",data:=.seq its.toArray },toks:=t' } :=
 I.laid (λ_ _ q=>Heap.get?_push_of_some _ q) (Nat.le_refl _) ⟨hz,its,0,hv,Heap.get?_push_size _ rfl⟩
theorem Inv.fresh(I:Inv X AB σ H s):H s.heap.objs.size=none:=I.hok.fresh (Nat.le_refl _)
theorem Inv.lstM(I:Inv X AB σ H s)(hH:H l=some (.lst xs)):xs.length<=sizeLine/\∃ (its:List Value) (n:Nat),Vals xs its/\xs.length=its.length/\s.heap.get? l=some { cls:=.type "list",data:=.seq its.toArray n }:=by
 obtain⟨z,its,n,r,e⟩:=I.hok l _ hH
 exact⟨z,its,n,r,r.length,e⟩
theorem W1{n:Nat}(h:n<=sizeLine):Builtin.List.listTooLong n=false:=by
 unfold Builtin.List.listTooLong
 exact decide_eq_false (by omega)
end
section
variable{X:Cx}
def W2:V->List V->Hp->VK->Prop:=λx vs H Q=>∃ l xs y,x=.ref l/\vs=[y]/\H l=some (.lst xs)/\xs.length<sizeLine/\Q .non (upd H l (.lst (xs++[y])))
theorem LM:TC X "list.append" W2:=by
 intro AB s σ H x vs v us Q I rx rv h
 obtain⟨l,xs,y,rfl,rfl,hH,hz,q⟩:=h
 cases rx
 obtain⟨u,rfl,ru⟩:=rv.one
 obtain⟨z,its,n,r,hl,e⟩:=I.lstM hH
 refine call_meets F.slot_list_append ⟨_,e,rfl⟩ F.entry_list_append (F.args_list_append_2 _ _) (PySem.list_append l its.toArray n u (by rw[List.size_toArray];omega)) ⟨e,?_⟩
 refine⟨.non,_,I.lset (its':=its++[u]) hH e (by simp) (r.append (.cons ru .nil)) ?_,rfl,q⟩
 rw[List.length_append,List.length_singleton]
 omega
def i7:V->List V->Hp->VK->Prop:=λx vs H Q=>∃ l b xs zs,x=.ref l/\vs=[.ref b]/\H l=some (.lst xs)/\H b=some (.lst zs)/\xs.length+zs.length<=sizeLine/\Q .non (upd H l (.lst (xs++zs)))
theorem Gc:TC X "list.extend" i7:=by
 intro AB s σ H x vs v us Q I rx rv h
 obtain⟨l,b,xs,zs,rfl,rfl,hH,hB,hz,q⟩:=h
 cases rx
 obtain⟨u,rfl,ru⟩:=rv.one
 cases ru
 obtain⟨z,its,n,r,hl,e⟩:=I.lstM hH
 obtain⟨z2,GR,n2,r2,EE,e2⟩:=I.lstM hB
 have hsz:its.toArray.size+GR.toArray.size<=sizeLine:=by rw[List.size_toArray,List.size_toArray];omega
 have hlong:¬ (!its.toArray.isEmpty && Builtin.List.listTooLong (its.toArray.size+GR.toArray.size))=true:=by
  rw[W1 hsz,Bool.and_false]
  exact Bool.false_ne_true
 refine call_meets F.slot_list_extend ⟨_,e,rfl⟩ F.entry_list_extend (F.args_list_extend_2 _ _)
  (AutoSeq1.list_extend_list_list_0 l its.toArray n b GR.toArray n2 hlong (by rw[List.size_toArray];omega) (by omega)) ⟨e,e2,?_⟩
 refine⟨.non,_,I.lset (its':=its++GR) hH e (by simp) (r.append r2) ?_,rfl,q⟩
 rw[List.length_append]
 omega
def W3:R2:=λx y H Q=>∃ l b xs zs,x=.ref l/\y=.ref b/\H l=some (.lst xs)/\H b=some (.lst zs)/\xs.length+zs.length<=sizeLine/\∀ p,H p=none->Q (.ref p) (upd H p (.lst (xs++zs)))
theorem Gd:CP X (binaryOp .Add) W3:=by
 intro AB s σ H x y v u Q I rx ry h
 obtain⟨l,b,xs,zs,rfl,rfl,hH,hB,hz,q⟩:=h
 cases rx
 cases ry
 obtain⟨z,its,n,r,hl,e⟩:=I.lstM hH
 obtain⟨z2,GR,n2,r2,EE,e2⟩:=I.lstM hB
 refine PySem.P.add_list e e2 ?_ (by rw[List.size_toArray,List.size_toArray];omega)
 have ea:its.toArray++GR.toArray=(its++GR).toArray:=by simp
 rw[ea]
 exact⟨.ref _,_,I.lnew (t':=s.toks) (r.append r2) (by rw[List.length_append];omega),rfl,q _ I.fresh⟩
def W8:R2:=λx y H Q=>∃ l k xs,x=.ref l/\y=.int k/\H l=some (.lst xs)/\ -(2 ^ 63)<=k/\k<2 ^ 63/\xs.length * k.toNat<=sizeLine ∧
 ∀ p,H p=none->Q (.ref p) (upd H p (.lst (List.replicate k.toNat xs).flatten))
theorem i8{α :Type}(xs:List α)(k:Nat):(List.replicate k xs).flatten.length=k * xs.length:=by
 induction k with
 | zero=>simp
 | succ k ih=>rw[List.replicate_succ,List.flatten_cons,List.length_append,ih,Nat.succ_mul,Nat.add_comm]
theorem Gg:CP X (binaryOp .Mult) W8:=by
 intro AB s σ H x y v u Q I rx ry h
 obtain⟨l,k,xs,rfl,rfl,hH,h1,h2,hz,q⟩:=h
 cases rx
 obtain⟨t,rfl⟩:=ry
 obtain⟨z,its,n,r,hl,e⟩:=I.lstM hH
 have EC:its.toArray.size * k.toNat<=sizeLine:=by rw[List.size_toArray,<-hl];exact hz
 have hcap:¬ its.toArray.size * k.toNat >(2 ^ 63 - 1) / 8:=by
  have:(sizeLine:Nat)<=(2 ^ 63 - 1) / 8:=by decide
  omega
 have hfit:¬ (!Builtin.List.listFitsIndex k)=true:=by
  rw[fitsIndex_both h1 h2]
  exact Bool.false_ne_true
 have hlong:¬ Builtin.List.listTooLong (its.toArray.size * k.toNat)=true:=by
  rw[W1 EC]
  exact Bool.false_ne_true
 have hnew:List.foldl (λx1 x2=>x1++x2) #[] (List.replicate (if its.toArray.isEmpty=true then 0 else k.toNat) its.toArray)=(List.replicate k.toNat its).flatten.toArray:=by
  have f0:∀ m:Nat,List.foldl (λx1 x2=>x1++x2) #[] (List.replicate m its.toArray)=(List.replicate m its).flatten.toArray:=λm=>by
   have:=TD its m []
   rw[List.nil_append]at this
   exact this
  rw[f0]
  cases its with
  | nil=>simp
  | cons a r'=>rw[if_neg (by simp)]
 refine wpAny_binaryOp_repeat_ref (T:="list") (U:="int") (by decide) ⟨_,e,rfl⟩ (λs'=>typeIs_int s' k t) noFill_list_mul F.fills_int_mul F.slot_int_rmul repeat_list F.slot_int_index.lookup
  (call_meets F.slot_int_rmul (typeIs_int s k t) F.entry_int_rmul (F.args_int_rmul_2 _ _) (int___rmul___int_list k t l its.toArray n)
   ⟨e,rfl,⟨_,e,rfl⟩,call_meets F.slot_list_mul ⟨_,e,rfl⟩ F.entry_list_mul (F.args_list_mul_2 _ _) (AutoListH.list___mul___list_int_3 l its.toArray n k t hfit hcap hlong) ⟨e,?_⟩⟩)
 rw[hnew]
 exact⟨.ref _,_,I.lnew (t':=s.toks) (r.rep k.toNat) (by rw[i8,Nat.mul_comm];exact hz),rfl,q _ I.fresh⟩
end
section
variable{prog:Program}{w:World}{A:Around}{E:Value->Shared->Prop}{s:Shared}
set_option maxRecDepth 100000 in
end
section
variable{X:Cx}
end
end L2
namespace L2
section
variable{κ :Type}[DecidableEq κ]
def CK(kvs:List (κ × V))(k: κ):Option V:=(kvs.find? λkv=>decide (kv.1=k)).map (·.2)
def DC(kvs:List (κ × V))(k: κ)(v:V):List (κ × V) :=
 if(kvs.any λkv=>decide (kv.1=k))=true then kvs.map (λkv=>if kv.1=k then(kv.1,v)else kv)else kvs++[(k,v)]
theorem JB{p: κ × V}{r:List (κ × V)}{k: κ}(e:p.1=k):CK (p::r) k=some p.2:=by simp[CK,List.find?_cons,e]
theorem JC{p: κ × V}{r:List (κ × V)}{k: κ}(e:¬ p.1=k):CK (p::r) k=CK r k:=by simp[CK,List.find?_cons,e]
theorem N1(k: κ):∀ kvs:List (κ × V),(kvs.any λkv=>decide (kv.1=k))=(CK kvs k).isSome
 | []=>rfl
 | p::r=>by
  rw[List.any_cons]
  by_cases e:p.1=k
  ·simp only[JB e,decide_eq_true e,Bool.true_or,Option.isSome_some]
  ·rw[JC e,decide_eq_false e,Bool.false_or];exact N1 k r
theorem i9(k j: κ)(y:V):∀ kvs:List (κ × V),CK (kvs.map λkv=>if kv.1=k then(kv.1,y)else kv) j=(CK kvs j).map λx=>if j=k then y else x
 | []=>rfl
 | p::r=>by
  have ih:=i9 k j y r
  rw[List.map_cons]
  by_cases h:p.1=k
  ·rw[if_pos h]
   by_cases e:p.1=j
   ·rw[JB (p:=(p.1,y)) e,JB e,Option.map_some,if_pos (e.symm.trans h)]
   ·rw[JC (p:=(p.1,y)) e,JC e,ih]
  ·rw[if_neg h]
   by_cases e:p.1=j
   ·rw[JB (p:=p) e,JB e,Option.map_some,if_neg (λz=>h (e.trans z))]
   ·rw[JC (p:=p) e,JC e,ih]
theorem jA(k j: κ)(y:V):∀ kvs:List (κ × V),CK kvs k=none->CK (kvs++[(k,y)]) j=if j=k then some y else CK kvs j
 | [],_=>by
  by_cases e:k=j
  ·rw[if_pos e.symm];exact JB (p:=(k,y)) e
  ·rw[if_neg (λz=>e z.symm)];exact JC (p:=(k,y)) e
 | p::r,hn=>by
  rw[List.cons_append]
  have hk:¬ p.1=k:=λz=>by rw[JB z]at hn;cases hn
  rw[JC hk]at hn
  have ih:=jA k j y r hn
  by_cases e:p.1=j
  ·rw[JB e,JB e,if_neg (λz=>hk (e.trans z))]
  ·rw[JC e,JC e,ih]
theorem TF(kvs:List (κ × V))(k j: κ)(y:V):CK (DC kvs k y) j=if j=k then some y else CK kvs j:=by
 unfold DC
 by_cases a:(kvs.any λkv=>decide (kv.1=k))=true
 ·rw[if_pos a,i9]
  rw[N1]at a
  by_cases e:j=k
  ·obtain⟨x,hx⟩:=Option.isSome_iff_exists.mp a
   rw[if_pos e,e,hx,Option.map_some,if_pos rfl]
  ·rw[if_neg e]
   cases CK kvs j with
   | none=>rfl
   | some x=>rw[Option.map_some,if_neg e]
 ·rw[if_neg a]
  refine jA k j y kvs ?_
  rw[N1]at a
  cases q:CK kvs k with
  | none=>rfl
  | some x=>rw[q]at a;exact(a rfl).elim
theorem Q5(kvs:List (κ × V))(k: κ)(v:V):(DC kvs k v).length<=kvs.length+1:=by
 unfold DC
 split
 ·rw[List.length_map];omega
 ·rw[List.length_append,List.length_cons,List.length_nil];omega
theorem jB{kvs:List (κ × V)}{k: κ}(v:V)(h:CK kvs k=none):DC kvs k v=kvs++[(k,v)]:=by
 unfold DC
 rw[N1,h]
 exact if_neg (by decide)
theorem RelO.isSome_eq{o:Option V}{u:Option Value}(r:RelO o u):o.isSome=u.isSome:=by
 cases o with
 | none=>cases u with
  | none=>rfl
  | some _=>exact(show False from r).elim
 | some _=>cases u with
  | none=>exact(show False from r).elim
  | some _=>rfl
theorem RelO.getD{o:Option V}{u:Option Value}{d:V}{d':Value}(r:RelO o u)(rd:RelV d d'):RelV (o.getD d) (u.getD d'):=by
 cases o with
 | none=>cases u with
  | none=>exact rd
  | some _=>exact(show False from r).elim
 | some _=>cases u with
  | none=>exact(show False from r).elim
  | some _=>exact r
theorem KV.val{kvs:List (κ × V)}{vs:List (κ × Value)}(r:KV kvs vs)(k: κ):RelO (CK kvs k) (valueAt vs k):=by
 unfold KV at r
 induction r with
 | nil=>exact True.intro
 | @cons p q ps qs h t ih =>
  obtain⟨h1,h2⟩:=h
  by_cases e:p.1=k
  ·have e':q.1=k:=h1.symm.trans e
   have b:valueAt (q::qs) k=some q.2:=by simp[valueAt,List.find?_cons,e']
   rw[JB e,b];exact h2
  ·have e':¬ q.1=k:=λz=>e (h1.trans z)
   have b:valueAt (q::qs) k=valueAt qs k:=by simp[valueAt,List.find?_cons,e']
   rw[JC e,b];exact ih
theorem KV.any{kvs:List (κ × V)}{vs:List (κ × Value)}(r:KV kvs vs)(k: κ):(kvs.any λkv=>decide (kv.1=k))=vs.any λkv=>decide (kv.1=k):=by
 unfold KV at r
 induction r with
 | nil=>rfl
 | cons h t ih=>rw[List.any_cons,List.any_cons,ih,h.1]
theorem KV.repl{kvs:List (κ × V)}{vs:List (κ × Value)}(r:KV kvs vs)(k: κ){y:V}{u:Value}(ry:RelV y u) :
  KV (kvs.map λkv=>if kv.1=k then(kv.1,y)else kv) (vs.map λkv=>if kv.1=k then(kv.1,u)else kv):=by
 unfold KV at r ⊢
 induction r with
 | nil=>exact .nil
 | @cons p q ps qs h t ih =>
  rw[List.map_cons,List.map_cons]
  refine .cons ?_ ih
  obtain⟨h1,h2⟩:=h
  by_cases e:p.1=k
  ·rw[if_pos e,if_pos (h1.symm.trans e)];exact⟨h1,ry⟩
  ·rw[if_neg e,if_neg (λz=>e (h1.trans z))];exact⟨h1,h2⟩
theorem KV.put{kvs:List (κ × V)}{vs:List (κ × Value)}(r:KV kvs vs)(k: κ){y:V}{u:Value}(ry:RelV y u):KV (DC kvs k y) (stored vs k u):=by
 unfold DC stored
 rw[r.any k]
 by_cases e:(vs.any λkv=>decide (kv.1=k))=true
 ·rw[if_pos e,if_pos e];exact r.repl k ry
 ·rw[if_neg e,if_neg e];exact Paired.snoc r ⟨rfl,ry⟩
theorem KV.length{kvs:List (κ × V)}{vs:List (κ × Value)}(r:KV kvs vs):kvs.length=vs.length:=Paired.length r
end
theorem N3{P:Program}{w:World}{k:A1}{u:Value}(r:RelV (kV k) u):(ER P w).is k u=true:=by
 cases k with
 | inl i=>obtain⟨t,e⟩:=(show ∃ t,u=Value.int i t from r);subst e;exact Bc P w i t
 | inr x=>obtain⟨t,e⟩:=(show ∃ t,u=Value.str x t from r);subst e;exact Bd P w x t
theorem jC{P:Program}{w:World}:∀ {ks:List A1} {us:List Value},Vals (ks.map kV) us->ItemsAre (ER P w) ks us
 | [],_,r=>by rw[List.map_nil]at r;cases r;exact .nil
 | k::ks,_,r=>by
  rw[List.map_cons]at r
  cases r with
  | cons h t=>exact .cons (N3 h) (jC t)
abbrev KT(H:Hp):List (List A1 × V)->List (List A1 × Addr × Value)->Prop:=Paired λp q=>p.1=q.1/\H q.2.1=some (.tup (p.1.map kV))/\RelV p.2 q.2.2
theorem KT.val{H:Hp}{kvs:List (List A1 × V)}{xs:List (List A1 × Addr × Value)}(r:KT H kvs xs)(k:List A1):RelO (CK kvs k) ((atKey xs k).map (·.2)):=by
 induction r with
 | nil=>exact True.intro
 | @cons p q ps qs h t ih =>
  obtain⟨h1,_,h2⟩:=h
  by_cases e:p.1=k
  ·have e':q.1=k:=h1.symm.trans e
   have b:atKey (q::qs) k=some q.2:=by simp[atKey,List.find?_cons,e']
   rw[JB e,b];exact h2
  ·have e':¬ q.1=k:=λz=>e (h1.trans z)
   have b:atKey (q::qs) k=atKey qs k:=by simp[atKey,List.find?_cons,e']
   rw[JC e,b];exact ih
theorem KT.repl{H:Hp}{kvs:List (List A1 × V)}{xs:List (List A1 × Addr × Value)}(r:KT H kvs xs)(k:List A1){y:V}{u:Value}(ry:RelV y u) :
  KT H (kvs.map λkv=>if kv.1=k then(kv.1,y)else kv) (xs.map (putAt k u)):=by
 induction r with
 | nil=>exact .nil
 | @cons p q ps qs h t ih =>
  rw[List.map_cons,List.map_cons]
  refine .cons ?_ ih
  obtain⟨h1,h2,h3⟩:=h
  unfold putAt
  by_cases e:p.1=k
  ·rw[if_pos e,if_pos (h1.symm.trans e)];exact⟨h1,h2,ry⟩
  ·rw[if_neg e,if_neg (λz=>e (h1.trans z))];exact⟨h1,h2,h3⟩
theorem KT.put{H:Hp}{kvs:List (List A1 × V)}{xs:List (List A1 × Addr × Value)}(r:KT H kvs xs)(k:List A1){b:Addr}{y:V}{u:Value}(hb:H b=some (.tup (k.map kV)))(ry:RelV y u) :
  KT H (DC kvs k y) (storedH xs k b u):=by
 have e:(kvs.any λkv=>decide (kv.1=k))=(atKey xs k).isSome:=by
  rw[N1,(r.val k).isSome_eq,Option.isSome_map]
 unfold DC storedH
 rw[e]
 by_cases q:(atKey xs k).isSome=true
 ·rw[if_pos q,if_pos q];exact r.repl k ry
 ·rw[if_neg q,if_neg q];exact Paired.snoc r ⟨rfl,hb,ry⟩
theorem KT.keeps{H H':Hp}{kvs:List (List A1 × V)}{xs:List (List A1 × Addr × Value)}(r:KT H kvs xs)(ht:∀ b ys,H b=some (.tup ys)->H' b=some (.tup ys)):KT H' kvs xs :=
 Paired.mapP r λ_ _ z=>⟨z.1,ht _ _ z.2.1,z.2.2⟩
section
variable{P:Program}{w:World}{H:Hp}{h:Heap}{a:Addr}
theorem jD{u:HO}(ok:HOk P w H h)(e:Rd H a u):ObjOk P w H h a u:=e.ok ok
theorem N5{kvs:List (A1 × V)}(ok:HOk P w H h)(e:Rd H a (.dK kvs)):kvs.length<=sizeLine/\(a == sysModules)=false/\∃ vs,KV kvs vs/\h.DictOf (ER P w) a vs :=
 show ObjOk P w H h a (.dK kvs)from jD ok e
theorem Gh{kvs:List (A1 × V)}(ok:HOk P w H h)(e:H a=some (.dK kvs)):kvs.length<=sizeLine/\(a == sysModules)=false/\∃ vs,KV kvs vs/\h.DictOf (ER P w) a vs:=N5 ok (.inl e)
theorem MN{ks:List A1}(ok:HOk P w H h)(e:H a=some (.tup (ks.map kV))):(tupleKind (ER P w)).is h ks a:=by
 obtain⟨_,its,r,o,h1,h2,n,h3⟩:=(show ObjOk P w H h a (.tup (ks.map kV))from ok a _ e)
 exact⟨o,its.toArray,n,h1,h2,h3,by simpa using jC r⟩
theorem N6{kvs:List (List A1 × V)}(ok:HOk P w H h)(e:Rd H a (.dT kvs)):kvs.length<=sizeLine/\(a == sysModules)=false ∧
  ∃ xs,KT H kvs xs/\h.DictOfH (tupleKind (ER P w)) a xs:=by
 obtain⟨z,y,xs,r,o,es,ep,h1,h2,h3,h4,h5⟩:=(show ObjOk P w H h a (.dT kvs)from jD ok e)
 refine⟨z,y,xs,r,o,es,ep,h1,h2,h3,h4,λx hx=> ?_,h5⟩
 have all:∀ {l:List (List A1 × V)} {m:List (List A1 × Addr × Value)},KT H l m->∀ x∈m,(tupleKind (ER P w)).is h x.1 x.2.1:=by
  intro l m q
  induction q with
  | nil=>intro x hx;exact nomatch hx
  | @cons p q ps qs hq t ih =>
   intro x hx
   rcases List.mem_cons.mp hx with e | hx
   ·subst e
    exact MN ok (by rw[<-hq.1];exact hq.2.1)
   ·exact ih x hx
 exact all r x hx
theorem TJ{kvs:List (List A1 × V)}(ok:HOk P w H h)(e:H a=some (.dT kvs)):kvs.length<=sizeLine/\(a == sysModules)=false ∧
  ∃ xs,KT H kvs xs/\h.DictOfH (tupleKind (ER P w)) a xs:=N6 ok (.inl e)
end
def DGet(H:Hp)(a:Addr)(y:V)(r:Option V):Prop :=
 (∃ kvs k,Rd H a (.dK kvs)/\y=kV k/\r=CK kvs k)\/∃ kvs k b,Rd H a (.dT kvs)/\y=.ref b/\H b=some (.tup (k.map kV))/\r=CK kvs k
def DPut(H:Hp)(a:Addr)(y v:V)(H':Hp):Prop :=
 (∃ kvs k,H a=some (.dK kvs)/\y=kV k/\kvs.length<sizeLine/\H'=upd H a (.dK (DC kvs k v))) ∨
 ∃ kvs k b,H a=some (.dT kvs)/\y=.ref b/\H b=some (.tup (k.map kV))/\kvs.length<sizeLine/\H'=upd H a (.dT (DC kvs k v))
theorem DGet.k{H:Hp}{a:Addr}{kvs:List (A1 × V)}{k:A1}(e:H a=some (.dK kvs)):DGet H a (kV k) (CK kvs k):=.inl ⟨kvs,k,.inl e,rfl,rfl⟩
theorem DGet.t{H:Hp}{a b:Addr}{kvs:List (List A1 × V)}{k:List A1}(e:H a=some (.dT kvs))(eb:H b=some (.tup (k.map kV))):DGet H a (.ref b) (CK kvs k):=.inr ⟨kvs,k,b,.inl e,rfl,eb,rfl⟩
theorem DPut.k{H:Hp}{a:Addr}{kvs:List (A1 × V)}{k:A1}{v:V}(e:H a=some (.dK kvs))(hl:kvs.length<sizeLine):DPut H a (kV k) v (upd H a (.dK (DC kvs k v))):=.inl ⟨kvs,k,e,rfl,hl,rfl⟩
section
variable{X:Cx}{AB:List (Addr × Obj)}{σ:St}{H:Hp}{s:Shared}{a:Addr}{y v:V}{u r:Value}{o:Option V}{A:Around}{E:Value->Shared->Prop}
theorem Inv.big(I:Inv X AB σ H s):sysModules<s.heap.objs.size:=by
 have h:mainGlobals<s.heap.objs.size:=(I.mod.glob.keeps I.bk).lt
 exact Nat.lt_trans (by decide) h
theorem Gj{Q:Value->Shared->Prop}(hu:A.units+1<cLine)(I:Inv X AB σ H s)(g:DGet H a y o)(ry:RelV y u)(h:∀ s',Inv X AB σ H s'->Q (.bool o.isSome) s') :
  wpAny (model X.prog X.w) A (compareOp .In u (.ref a)) Q E s:=by
 rcases g with⟨kvs,k,e,ey,l⟩ | ⟨kvs,k,b,e,ey,eb,l⟩
 ·subst ey
  obtain⟨z,hd,vs,rel,dd⟩:=N5 I.hok e
  refine wpAny_in_of (N3 ry) hd dd.mapOf ?_
  rw[<-(rel.val k).isSome_eq,<-l]
  exact h _ (I.tok _)
 ·subst ey
  cases (show u=Value.ref b from ry)
  obtain⟨z,hd,xs,rel,dd⟩:=N6 I.hok e
  refine wpAny_in_heap (tupleKind_room_in1 hu) (MN I.hok eb) hd dd ?_
  have q:=(rel.val k).isSome_eq
  rw[Option.isSome_map]at q
  rw[<-q,<-l]
  exact h _ (I.tok _)
theorem Gk{Q:Value->Shared->Prop}(hu:A.units+1<cLine)(I:Inv X AB σ H s)(g:DGet H a y o)(ry:RelV y u)(h:∀ s',Inv X AB σ H s'->Q (.bool (!o.isSome)) s') :
  wpAny (model X.prog X.w) A (compareOp .NotIn u (.ref a)) Q E s:=by
 rcases g with⟨kvs,k,e,ey,l⟩ | ⟨kvs,k,b,e,ey,eb,l⟩
 ·subst ey
  obtain⟨z,hd,vs,rel,dd⟩:=N5 I.hok e
  refine wpAny_notIn_of (N3 ry) hd dd.mapOf ?_
  rw[<-(rel.val k).isSome_eq,<-l]
  exact h _ (I.tok _)
 ·subst ey
  cases (show u=Value.ref b from ry)
  obtain⟨z,hd,xs,rel,dd⟩:=N6 I.hok e
  refine wpAny_notIn_heap (tupleKind_room_in1 hu) (MN I.hok eb) hd dd ?_
  have q:=(rel.val k).isSome_eq
  rw[Option.isSome_map]at q
  rw[<-q,<-l]
  exact h _ (I.tok _)
theorem TK{h':Heap}{t':Nat}{ob:HO}(I:Inv X AB σ H s)(mu:QT (H a))(hs:Heap.SameBut a s.heap h')(he:∃ q,h'.get? a=some q)(new:ObjOk X.prog X.w (upd H a ob) h' a ob) :
  Inv X AB σ (upd H a ob) { s with heap:=h',toks:=t' } :=
 I.write (x:=a) (e:=a) mu (.inl rfl) (λb q hb z=>(hs.2 b hb).trans z) he new
theorem Gm{P:Program}{w:World}{H':Hp}{h':Heap}{kvs:List (A1 × V)}{vs:List (A1 × Value)}(z:kvs.length<=sizeLine)(hd:(a == sysModules)=false)(rel:KV kvs vs)(dd:h'.DictOf (ER P w) a vs) :
  ObjOk P w H' h' a (.dK kvs):=⟨z,hd,vs,rel,dd⟩
theorem Gp{H':Hp}{Q:Unit->Shared->Prop}(hu:A.units+1<cLine)(I:Inv X AB σ H s)(g:DPut H a y v H')(ry:RelV y u)(rv:RelV v r)(h:∀ s',Inv X AB σ H' s'->Q () s') :
  wpAny (model X.prog X.w) A (setItem (.ref a) u r) Q E s:=by
 rcases g with⟨kvs,k,e,ey,l,eH⟩ | ⟨kvs,k,b,e,ey,eb,l,eH⟩
 ·subst ey eH
  obtain⟨z,hd,vs,rel,dd⟩:=Gh I.hok e
  have hz:vs.length<=sizeLine:=by rw[<-rel.length];exact z
  have hl:(DC kvs k v).length<=sizeLine:=by have:=Q5 kvs k v;omega
  refine wpAny_setItem_pairs (hsz:=hz) (N3 ry) dd λh' dd' hs=>h _ ?_
  have he:∃ q,h'.get? a=some q:=let ⟨q,_,_,hq,_⟩:=dd';⟨q,hq⟩
  exact TK I (by rw[e];exact True.intro) hs he (Gm hl hd (rel.put k rv) dd')
 ·subst ey eH
  cases (show u=Value.ref b from ry)
  obtain⟨z,hd,xs,rel,dd⟩:=TJ I.hok e
  have hz:xs.length<=sizeLine:=by rw[<-Paired.length rel];exact z
  have hl:(DC kvs k v).length<=sizeLine:=by have:=Q5 kvs k v;omega
  refine wpAny_setItem_heap (hsz:=hz) (tupleKind_room_in1 hu) (MN I.hok eb) dd λh' dd' hs=>h _ ?_
  obtain⟨q,es,ep,hq,h2,h3,h4,_,h5⟩:=dd'
  refine TK I (by rw[e];exact True.intro) hs ⟨q,hq⟩ ⟨hl,hd,_,(rel.put k eb rv).keeps λc ys ec=> ?_,q,es,ep,hq,h2,h3,h4,h5⟩
  rw[AO (DB ec e (λz=>nomatch z))]
  exact ec
end
section
variable{X:Cx}{AB:List (Addr × Obj)}{σ:St}{H:Hp}{s:Shared}{a:Addr}{kvs:List (A1 × V)}{k:A1}{u:Value}{A:Around}{E:Value->Shared->Prop}
end
def W9(ty td:TE):TE:=λσ H Q=>ty σ H λy H1=>td σ H1 λx H2=>∃ a o,x=.ref a/\DGet H2 a y o/\Q (.bl o.isSome) H2
def XA(ty td:TE):TE:=λσ H Q=>ty σ H λy H1=>td σ H1 λx H2=>∃ a o,x=.ref a/\DGet H2 a y o/\Q (.bl (!o.isSome)) H2
def XB(td ty tv:TE):TS:=λD σ H=>tv σ H λv H1=>td σ H1 λx H2=>ty σ H2 λy H3=>∃ a H4,x=.ref a/\DPut H3 a y v H4/\D.nx σ H4
section
variable{X:Cx}{o i e value:Expr}{pos pos' tpos:Pos}{td ty tv:TE}
theorem Gq(hu:X.A.units+1<cLine)(hi:PE X i ty)(ho:PE X o td):PC X .In i o (W9 ty td):=by
 intro AB s σ H Q I h
 refine AW (hi AB s σ H _ I h) λiv s1 ⟨y,H1,I1,ry,q1⟩=>AW (ho AB s1 σ H1 _ I1 q1) λu s2 hzz=> ?_
 obtain⟨x,H2,I2,rx,a,ov,ex,g,q2⟩:=hzz
 subst ex
 obtain rfl:u=Value.ref a:=rx
 exact Gj hu I2 g ry λs3 I3=>⟨.bl ov.isSome,H2,I3,rfl,q2⟩
theorem Gv(hu:X.A.units+1<cLine)(hi:PE X i ty)(ho:PE X o td):PC X .NotIn i o (XA ty td):=by
 intro AB s σ H Q I h
 refine AW (hi AB s σ H _ I h) λiv s1 ⟨y,H1,I1,ry,q1⟩=>AW (ho AB s1 σ H1 _ I1 q1) λu s2 hzz=> ?_
 obtain⟨x,H2,I2,rx,a,ov,ex,g,q2⟩:=hzz
 subst ex
 obtain rfl:u=Value.ref a:=rx
 exact Gk hu I2 g ry λs3 I3=>⟨.bl (!ov.isSome),H2,I3,rfl,q2⟩
theorem Gw(hu:X.A.units+1<cLine)(ho:PE X o td)(hi:PE X i ty)(hv:PE X value tv)(hs:swapsWith value (some (.Subscript o i pos')) pos.line X.env=pure false) :
  PS X (.Assign [.Subscript o i pos'] value pos) (XB td ty tv):=by
 intro AB s σ H D I h
 refine wpAny_Assign_Subscript (AW (hv AB s σ H _ I h) λr s1 ⟨v,H1,I1,rv,q1⟩=>AW (ho AB s1 σ H1 _ I1 q1) λu s2 ⟨x,H2,I2,rx,q2⟩=>AW (hi AB s2 σ H2 _ I2 q2) λiv s3 hzz=> ?_) hs
 obtain⟨y,H3,I3,ry,a,H4,ex,g,q3⟩:=hzz
 subst ex
 obtain rfl:u=Value.ref a:=rx
 exact Gp hu I3 g ry rv λs4 I4=>⟨σ,H4,I4,q3⟩
end
theorem Gx{P:Program}{w:World}{H:Hp}(h:Heap)(hb:sysModules<h.objs.size):ObjOk P w H (h.push { cls:=.type "dict",data:=.dict #[] }) h.objs.size (.dK []) :=
 ⟨Nat.zero_le _,beq_eq_false_iff_ne.mpr (Ne.symm (Nat.ne_of_lt hb)),[],.nil,Heap.DictOf.new h⟩
theorem jE{P:Program}{w:World}{H:Hp}(h:Heap)(hb:sysModules<h.objs.size):ObjOk P w H (h.push { cls:=.type "dict",data:=.dict #[] }) h.objs.size (.dT []) :=
 ⟨Nat.zero_le _,beq_eq_false_iff_ne.mpr (Ne.symm (Nat.ne_of_lt hb)),[],.nil,_,#[],0,Heap.get?_push_size _ rfl,⟨rfl,rfl,rfl⟩,rfl,rfl,List.nodup_nil⟩
def Q6:TE:=λ_ H Q=>∀ p,H p=none->Q (.ref p) (upd H p (.dK []))
def TM:TE:=λ_ H Q=>∀ p,H p=none->Q (.ref p) (upd H p (.dT []))
section
variable{X:Cx}{pos:Pos}
theorem XC:PE X (.Dict [] [] pos) Q6:=λAB s σ H Q I h =>
 wpAny_Dict_empty ⟨.ref s.heap.objs.size,_,I.laid (a:=s.heap.objs.size) (o:=.dK []) (t':=s.toks) (λ_ _ q=>Heap.get?_push_of_some _ q) (Nat.le_refl _) (Gx s.heap I.big),rfl,h _ (I.hok.fresh (Nat.le_refl _))⟩
theorem jF:PE X (.Dict [] [] pos) TM:=λAB s σ H Q I h =>
 wpAny_Dict_empty ⟨.ref s.heap.objs.size,_,I.laid (a:=s.heap.objs.size) (o:=.dT []) (t':=s.toks) (λ_ _ q=>Heap.get?_push_of_some _ q) (Nat.le_refl _) (jE s.heap I.big),rfl,h _ (I.hok.fresh (Nat.le_refl _))⟩
end
def MO:List (TE × TE)->St->Hp->(List (V × V)->Hp->Prop)->Prop
 | [],_,H,Q=>Q [] H
 | (tk,tv)::r,σ,H,Q=>tk σ H λx H1=>tv σ H1 λy H2=>MO r σ H2 λps H3=>Q ((x,y)::ps) H3
abbrev VV:List (V × V)->List (Value × Value)->Prop:=Paired λp q=>RelV p.1 q.1/\RelV p.2 q.2
def TN(X:Cx)(pos:Pos)(keys:List (Option Expr))(values:List Expr)(trs:List (TE × TE)):Prop :=
 ∀ (AB:List (Addr × Obj)) (s:Shared) (σ:St) (H:Hp) (Q:List (V × V)->Hp->Prop),Inv X AB σ H s->MO trs σ H Q →
  wpAny (model X.prog X.w) X.A (evalPairs (pairTrees keys values X.env pos)) (λvs s'=>∃ ps H',Inv X AB σ H' s'/\VV ps vs/\Q ps H') X.xe s
theorem TQ{X:Cx}{pos:Pos}:TN X pos [] [] []:=λAB s σ H Q I h=>pairTrees_nil_walk ⟨[],H,I,.nil,h⟩
theorem Q7{X:Cx}{pos:Pos}{k v:Expr}{ks:List (Option Expr)}{vs:List Expr}{tk tv:TE}{trs:List (TE × TE)}(hk:PE X k tk)(hv:PE X v tv)(hr:TN X pos ks vs trs) :
  TN X pos (some k::ks) (v::vs) ((tk,tv)::trs):=λAB s σ H Q I h =>
 pairTrees_cons_walk (AW (hk AB s σ H _ I h) λu s1 ⟨x,H1,I1,rx,q1⟩=>AW (hv AB s1 σ H1 _ I1 q1) λw2 s2 ⟨y,H2,I2,ry,q2⟩ =>
  AW (hr AB s2 σ H2 _ I2 q2) λws s3 ⟨ps,H3,I3,rel,q3⟩=>⟨(x,y)::ps,H3,I3,.cons ⟨rx,ry⟩ rel,q3⟩)
structure M1(X:Cx)(o:Expr)(m:Str)(DI:Pos)(e:Expr)(D5:Pos):Prop where
 base:attributeBase o m X.env (eval o X.env)=eval o X.env
 few:((backTo D5 (starEach [e] X.env)).all (λx=> !x.1) && (backToKw D5 (keywordEach [] X.env)).all (λx=>x.1.isSome)
  && decide (([e]:List Expr).length+([]:List Keyword).length+(if([]:List Keyword).isEmpty then 0 else 1)<30))=true
 line:(DI.endLine == D5.line)=true
 trees:backTo D5 (starEach [e] X.env)=[(false,eval e X.env)]
structure M2(X:Cx)(o:Expr)(m:Str)(DI:Pos)(e f:Expr)(D5:Pos):Prop where
 base:attributeBase o m X.env (eval o X.env)=eval o X.env
 few:((backTo D5 (starEach [e,f] X.env)).all (λx=> !x.1) && (backToKw D5 (keywordEach [] X.env)).all (λx=>x.1.isSome)
  && decide (([e,f]:List Expr).length+([]:List Keyword).length+(if([]:List Keyword).isEmpty then 0 else 1)<30))=true
 line:(DI.endLine == D5.line)=true
 trees:backTo D5 (starEach [e,f] X.env)=[(false,eval e X.env),(false,eval f X.env)]
def Q8(H:Hp)(a:Addr):Prop:=(∃ kvs,Rd H a (.dK kvs))\/∃ kvs,Rd H a (.dT kvs)
theorem jG{X:Cx}{AB:List (Addr × Obj)}{σ:St}{H:Hp}{s:Shared}{a:Addr}(I:Inv X AB σ H s)(d:Q8 H a) :
  s.TypeIs (.ref a) "dict"/\(∀ b,Value.ref a=.ref b->∃ ob,s.heap.get? b=some ob/\ob.dict=none)/\(a == sysModules)=false:=by
 rcases d with⟨kvs,e⟩ | ⟨kvs,e⟩
 ·obtain⟨_,hd,vs,_,dd⟩:=N5 I.hok e
  refine⟨dd.typeIs,λb q=> ?_,hd⟩
  cases q
  obtain⟨ob,_,_,h1,h2,_⟩:=dd
  exact⟨ob,h1,h2.2.1⟩
 ·obtain⟨_,hd,xs,_,dd⟩:=N6 I.hok e
  refine⟨dd.typeIs,λb q=> ?_,hd⟩
  cases q
  obtain⟨ob,_,_,h1,h2,_⟩:=dd
  exact⟨ob,h1,h2.2.1⟩
section
variable{X:Cx}{AB:List (Addr × Obj)}{σ:St}{H:Hp}{s:Shared}{a:Addr}{y d:V}{u r:Value}{o:Option V}{A:Around}{E:Value->Shared->Prop}
theorem Gy{Q:Value->Shared->Prop}(hu:A.units+1<cLine)(I:Inv X AB σ H s)(g:DGet H a y o)(ry:RelV y u)(h:∀ w' s',Inv X AB σ H s'->RelV (o.getD .non) w'->Q w' s') :
  wpAny (model X.prog X.w) A (call (.builtin "dict.get") [.ref a,u]) Q E s:=by
 rcases g with⟨kvs,k,e,ey,l⟩ | ⟨kvs,k,b,e,ey,eb,l⟩
 ·subst ey
  obtain⟨z,hd,vs,rel,dd⟩:=N5 I.hok e
  refine call_meetsIn PySem.F.slot_dict_get dd.typeIs PySem.F.entry_dict_get (PySem.F.args_dict_get_2 _ _) (meets_dict_get (ER X.prog X.w) a (N3 ry) hd) ⟨_,dd.mapOf,h _ _ (I.tok _) ?_⟩
  rw[l]
  exact(rel.val k).getD rfl
 ·subst ey
  cases (show u=Value.ref b from ry)
  obtain⟨z,hd,xs,rel,dd⟩:=N6 I.hok e
  refine call_meetsIn PySem.F.slot_dict_get dd.typeIs PySem.F.entry_dict_get (PySem.F.args_dict_get_2 _ _) (meetsH_dict_get (tupleKind (ER X.prog X.w)) a b hd) ⟨tupleKind_room_in1 hu,k,xs,MN I.hok eb,dd,h _ _ (I.tok _) ?_⟩
  rw[l]
  exact(rel.val k).getD rfl
theorem Gz{Q:Value->Shared->Prop}(hu:A.units+1<cLine)(I:Inv X AB σ H s)(g:DGet H a y o)(ry:RelV y u)(rd:RelV d r)(h:∀ w' s',Inv X AB σ H s'->RelV (o.getD d) w'->Q w' s') :
  wpAny (model X.prog X.w) A (call (.builtin "dict.get") [.ref a,u,r]) Q E s:=by
 rcases g with⟨kvs,k,e,ey,l⟩ | ⟨kvs,k,b,e,ey,eb,l⟩
 ·subst ey
  obtain⟨z,hd,vs,rel,dd⟩:=N5 I.hok e
  refine call_meetsIn PySem.F.slot_dict_get dd.typeIs PySem.F.entry_dict_get (PySem.F.args_dict_get_3 _ _ _) (meets_dict_get_default (ER X.prog X.w) a (N3 ry) hd r) ⟨_,dd.mapOf,h _ _ (I.tok _) ?_⟩
  rw[l]
  exact(rel.val k).getD rd
 ·subst ey
  cases (show u=Value.ref b from ry)
  obtain⟨z,hd,xs,rel,dd⟩:=N6 I.hok e
  refine call_meetsIn PySem.F.slot_dict_get dd.typeIs PySem.F.entry_dict_get (PySem.F.args_dict_get_3 _ _ _) (meetsH_dict_get_default (tupleKind (ER X.prog X.w)) a b hd r) ⟨tupleKind_room_in1 hu,k,xs,MN I.hok eb,dd,h _ _ (I.tok _) ?_⟩
  rw[l]
  exact(rel.val k).getD rd
end
def XD(td ty:TE):TE:=λσ H Q=>td σ H λx H1=>∃ a,x=.ref a/\Q8 H1 a/\ty σ H1 λy H2=>∃ o,DGet H2 a y o/\Q (o.getD .non) H2
def XF(td ty tx:TE):TE:=λσ H Q=>td σ H λx H1=>∃ a,x=.ref a/\Q8 H1 a/\ty σ H1 λy H2=>tx σ H2 λz H3=>∃ o,DGet H3 a y o/\Q (o.getD z) H3
section
variable{X:Cx}{o e f:Expr}{DI D5:Pos}{td ty tx:TE}
theorem Hb(hu:X.A.units+1<cLine)(ho:PE X o td)(he:PE X e ty)(m:M1 X o "get" DI e D5):PE X (.Call (.Attribute o "get" DI) [e] [] D5) (XD td ty):=by
 intro AB s σ H Q I h
 refine wpAny_Call_method m.base m.few m.line PySem.F.plainAttrs_dict PySem.F.slot_dict_get PySem.F.type_dict_get (AW (ho AB s σ H _ I h) λu s1 hzz=> ?_)
 obtain⟨x,H1,I1,rx,a,ex,d,q1⟩:=hzz
 subst ex
 obtain rfl:u=Value.ref a:=rx
 obtain⟨t1,t2,_⟩:=jG I1 d
 refine⟨t1,t2,?_⟩
 rw[m.trees]
 refine Calls.callWith_builtin rfl (Calls.evalArgs_plain (Calls.spliced_cons (AW (he AB s1 σ H1 _ I1 q1) λiv s2 ⟨y,H2,I2,ry,ov,g,q2⟩=>Calls.spliced_nil ?_)))
 exact Gy hu I2 g ry λw' s3 I3 rw'=>⟨_,H2,I3,rw',q2⟩
theorem Hc(hu:X.A.units+1<cLine)(ho:PE X o td)(he:PE X e ty)(hf:PE X f tx)(m:M2 X o "get" DI e f D5):PE X (.Call (.Attribute o "get" DI) [e,f] [] D5) (XF td ty tx):=by
 intro AB s σ H Q I h
 refine wpAny_Call_method m.base m.few m.line PySem.F.plainAttrs_dict PySem.F.slot_dict_get PySem.F.type_dict_get (AW (ho AB s σ H _ I h) λu s1 hzz=> ?_)
 obtain⟨x,H1,I1,rx,a,ex,d,q1⟩:=hzz
 subst ex
 obtain rfl:u=Value.ref a:=rx
 obtain⟨t1,t2,_⟩:=jG I1 d
 refine⟨t1,t2,?_⟩
 rw[m.trees]
 refine Calls.callWith_builtin rfl (Calls.evalArgs_plain (Calls.spliced_cons (AW (he AB s1 σ H1 _ I1 q1) λiv s2 ⟨y,H2,I2,ry,q2⟩ =>
  Calls.spliced_cons (AW (hf AB s2 σ H2 _ I2 q2) λfv s3 ⟨z,H3,I3,rz,ov,g,q3⟩=>Calls.spliced_nil ?_))))
 exact Gz hu I3 g ry rz λw' s4 I4 rw'=>⟨_,H3,I4,rw',q3⟩
end
section
variable{X:Cx}{AB:List (Addr × Obj)}{σ:St}{H:Hp}{s:Shared}{a:Addr}{kvs:List (A1 × V)}{A:Around}{E:Value->Shared->Prop}
end
section
variable{X:Cx}{AB:List (Addr × Obj)}{σ:St}{H:Hp}{s:Shared}{a:Addr}{y:V}{u:Value}{A:Around}{E:Value->Shared->Prop}
end
end L2
namespace Att
open PySem PySem.W PySem.Calls PyProof.Rows
theorem Hd{P:Params}{h:Heap}:∀ (ns:List Int) (vs:List Value),WellAll P h vs (ns.map WData.int)->IntsAre vs ns:=by
 intro ns
 induction ns with
 | nil =>
  intro vs w
  rw[List.map_nil]at w
  cases w
  exact .nil
 | cons n ns ih =>
  intro vs w
  rw[List.map_cons]at w
  cases w with
  | cons a b =>
   cases a
   exact .cons _ _ (ih _ b)
theorem Hg{l:OpenLaw}{n:Nat}(hn:l.most=some n){P:Params}{h:Heap}{args:List WData}{vals:List Value}
  (hpre:l.row.toRowW.claim.pre args=true) (hwl:WellAll P h vals args) :
  ∃ a vs ns,vals=[Value.ref a]/\args=[WData.list (ns.map WData.int)]/\h.get? a=some { cls:=.type "list",data:=.seq vs.toArray }/\IntsAre vs ns/\ns.length<=n:=by
 have hsh:WShape.hasAll [] args [.list .int]=true:=(pre_splitW hpre).1
 have hc:l.pre.holds [] { args:=args }=true:=(pre_splitW hpre).2
 obtain⟨d,r,rfl,h1,h2⟩:=hasAllW_cons hsh
 obtain rfl:=hasAllW_nil h2
 obtain⟨xs,rfl,h3⟩:=hasW_list h1
 obtain⟨ns,rfl⟩:=items_int h3
 have EC:ns.length<=n:=by
  unfold OpenLaw.pre at hc
  have h4:(WTm.not (.lt (.lit (.int (n:Int))) (.len (.arg 0)))).holds [] { args:=[.list (ns.map .int)] }=true:=by
   have h4:=(holds_andW hc).1
   rw[hn]at h4
   exact h4
  have h5:=condW_of h4 (w_not (w_lt w_lit (w_len_list (w_arg rfl))))
  rw[List.length_map]at h5
  refine Nat.le_of_not_lt λq=> ?_
  have q':(n:Int)<((ns.length:Nat):Int):=by omega
  first
   | (rw[decide_eq_true q']at h5;exact absurd h5 (by decide))
   | (simp at h5;omega)
 cases hwl with
 | cons w1 w2 =>
  cases w2
  cases w1 with
  | list ho hall=>exact⟨_,_,ns,rfl,rfl,ho,Hd ns _ hall,EC⟩
theorem Hh(l:OpenLaw)(args:List WData):l.row.toRowW.claim.post args (.bool true) args=true :=
 postW_of (r:=l.row.toRowW) (X:=(true == true))
  (show WShape.has [] (.bool true) .bool=true by first | rfl | decide | simp[WShape.has,WShape.arms,WShape.armsAll])
  (show(WTm.eq .res (.lit (.bool true))).value [] { args:=args,res:=some (.bool true),after:=args }=some (.bool (true == true))from w_eq_bool (w_res rfl) w_lit) rfl
theorem attach_call{l:OpenLaw}{n:Nat}{q:Program}{loose:List Str}{XP:(Str->Option Value)->Heap->Prop}{YP:World->Heap->Prop}{d:DefRec}
  (hn:l.most=some n) (hdf:d.params.defaults=[])
  (call:∀ (w:World) (s₀ s₁:Shared) (mg mb:Str->Option Value) (fa:Addr) (o:Obj) (pm cd doc:Value) (a:Addr) (vs:List Value) (ns:List Int),
   Ground q loose [] XP w s₀ mg mb s₁.heap->YP w s₁.heap →
   s₁.heap.get? fa=some o->o.data=.func (docDef d.name d.params d.body d.scope pm cd doc)->s₁.heap.CodeRec cd d.name->mg d.name=some (.ref fa) →
   s₁.heap.get? a=some { cls:=.type "list",data:=.seq vs.toArray }->IntsAre vs ns->ns.length<=n->s₁.gens= #[] →
   codeAny (model l.prog w) callerA (.call (.ref fa) ⟨[.ref a],[]⟩) (λr s'=>r=.ok (.ret (.bool true))/\OldK s₁.heap s'.heap/\s'.os=s₁.os/\AllBare s'.gens) s₁) :
  WalkO q loose XP YP l.row.toRowW d [] (λf vs=>PySem.call f vs):=by
 intro w s₀ s₁ mg mb G Y fa o pm cd doc dV kV ho hd HE hD hmg hg args vals as hpre hlay hrd hwl hlo
 obtain rfl:dV=.none:=Dflts.none hD hdf
 obtain rfl:kV=.none:=Dflts.noKw hD
 obtain⟨a,vs,ns,rfl,rfl,hobj,hints,EC⟩:=Hg hn hpre hwl
 refine enter_call (codeAny_mono (call w s₀ s₁ mg mb fa o pm cd doc a vs ns G Y ho (fd_plain hd) HE hmg hobj hints EC hg) λr s' hq=> ?_)
 obtain⟨rfl,h2,h3,h4⟩:=hq
 exact⟨.inl ⟨.bool true,.bool true,[],rfl,λ_=>rfl,.bool true,Hh l _,λ_=>⟨List.Pairwise.nil,λ_ hm=>(nomatch hm)⟩⟩,h2,h3,h4⟩
section
variable{prog:Program}{w:World}{A:Around}{E:Value->Shared->Prop}{s:Shared}{K:Frag}
end
end Att
namespace L2
theorem jH:∀ {vs:List Value} {ns:List Int},IntsAre vs ns->Vals (ns.map V.int) vs
 | _,_,.nil=>.nil
 | _,_,.cons n t h=>.cons ⟨t,rfl⟩ (jH h)
def XG(H:Hp):Prop:=∀ b,H b=none\/∃ o xs,H b=some (.frz o (.lst xs))
theorem Hj {P:Program} {w:World} {K:W.Frag} {mg mb:Str->Option Value} {CX:IH} {k:Nat} {fa a:Addr} {fd:FuncData} {x:Str} {sp:Sp} {s₁:Shared} {vs:List Value} {ns:List Int}
    (KX:K.In s₁.heap) (hns:s₁.heap.Ns mainGlobals mg) (hb:s₁.heap.Ns builtinsNs mb) (hbb:∀ x:Str,x≠"__name__"->mb x=bootBuiltins x) (hlim:s₁.heap.NoLimit) (hg:s₁.gens= #[])
    (ha:s₁.heap.get? a=some { cls:=.type "list",data:=.seq vs.toArray }) (hi:IntsAre vs ns) (hl:ns.length<=sizeLine) (hr:Room k callerA)
    (F:∀ base:Heap,K.In base->base.Ns mainGlobals mg->FnOk P w K mg base CX k fa fd [x] sp) (hbind:∀ (s:Shared) (u:Value),BindsTo s fd ⟨[u],[]⟩ [(x,u)])
    (hsp:∀ H:Hp,XG H->SqL K H a (ns.map V.int)->sp [.ref a] H (λv _=>v=.bl true) λ_ _ _=>False)
    (hCX:∀ H e s',CX [] H s₁ (λ_ _ _=>False) e s'->False) :
    codeAny (model P w) callerA (.call (.ref fa) ⟨[.ref a],[]⟩) (λr s'=>r=.ok (.ret (.bool true))/\OldK s₁.heap s'.heap/\s'.os=s₁.os/\AllBare s'.gens) s₁:=by
  have rv:=jH hi
  have lenV:=hi.length
  have core:∀ H:Hp,XG H->SqL K H a (ns.map V.int)->HOk P w H s₁.heap->(∀ b,H b≠none->b=a)->(H a≠none->K.lookup a=none) →
      codeAny (model P w) callerA (.call (.ref fa) ⟨[.ref a],[]⟩) (λr s'=>r=.ok (.ret (.bool true))/\OldK s₁.heap s'.heap/\s'.os=s₁.os/\AllBare s'.gens) s₁:=by
    intro H hO hS hok hA hK
    have base_of:∀ {b:Addr} {o:Obj},s₁.heap.get? b=some o->H b=none->(KG s₁.heap H).get? b=some o:=λe n=>Bh e n
    have noA:∀ {b:Addr} {o:Obj} {es:Array DictEntry} {ep:Nat},s₁.heap.get? b=some o->o.data=.dict es ep->H b=none:=λ{b o es ep} e d=>by
      cases q:H b with
      | none=>rfl
      | some u =>
        have e':b=a:=hA b (by rw[q];simp)
        subst e'
        rw[ha]at e;cases e
        have d':Data.seq vs.toArray _=Data.dict es ep:=d
        cases d'
    have nsK:∀ {b:Addr} {m:Str->Option Value},s₁.heap.Ns b m->(KG s₁.heap H).Ns b m:=λ{b m} ⟨o,es,ep,e,d,r⟩=>⟨o,es,ep,base_of e (noA e d),d,r⟩
    have hKb:K.In (KG s₁.heap H):=λb o e=>base_of (KX b o e) (by
      cases q:H b with
      | none=>rfl
      | some u =>
        have e':b=a:=hA b (by rw[q];simp)
        subst e'
        rw[hK (by rw[q];simp)]at e;cases e)
    have hM:Mod K mg (KG s₁.heap H):=⟨hKb,nsK hns,⟨mb,nsK hb,hbb⟩,let ⟨mc,h1,h2⟩:=hlim;⟨mc,nsK h1,h2⟩⟩
    have e0:Env0 P w K mg (KG s₁.heap H) callerA [] s₁ H:=⟨rfl,hM,λb o e=>Bj e,Nat.le_of_eq (Bg _ _),trivial,λb hb=>absurd (show b∈([]:List Addr)from hb) (by simp),hok,.of_eq hg⟩
    refine codeAny_mono ((F _ hKb (nsK hns)).run callerA [] s₁ H ⟨[.ref a],[]⟩ [.ref a] [.ref a] _ _ hr e0 (hbind s₁ (.ref a)) (.cons rfl .nil) (hsp H hO hS)) λr s' h=> ?_
    cases r with
    | error e=>exact(hCX H e s' h).elim
    | ok fl =>
      cases fl with
      | next=>exact False.elim h
      | brk=>exact False.elim h
      | cont=>exact False.elim h
      | ret u =>
        obtain⟨v,H',os,bare,un,hok',r',q⟩:=h
        have q':v=.bl true:=q
        subst q'
        obtain rfl:u=Value.bool true:=r'
        refine⟨rfl,OldK.of_keep λb o e=> ?_,os,bare⟩
        cases q:H b with
        | none=>exact un.keep b o e q (by intro z;exact absurd (show b∈([]:List Addr)from z) (by simp)) (by simp)
        | some u =>
          rcases hO b with z | ⟨ob,xs,z⟩
          ·rw[q]at z;cases z
          · have z2:=un.frzs b ob _ z
            obtain⟨e1,_⟩:=hok b _ z
            obtain⟨e2,_⟩:=hok' b _ z2
            rw[e]at e1;cases e1
            exact e2
  cases hk:K.lookup a with
  | some o =>
    have e:=KX a o hk
    rw[ha]at e
    cases e
    refine core (λ_=>none) (λ_=>.inl rfl) (.inr ⟨_,vs.toArray,_,hk,rfl,rfl,rfl,by rw[List.size_toArray,lenV];exact hl,by simpa using rv⟩) (λb u z=>by have z':(none:Option HO)=some u:=z;cases z') (λb z=>absurd rfl z) λz=>absurd rfl z
  | none =>
    refine core (λb=>if b=a then some (.frz { cls:=.type "list",data:=.seq vs.toArray } (.lst (ns.map V.int)))else none) (λb=> ?_) (.inl (.inr ⟨{ cls:=.type "list",data:=.seq vs.toArray },if_pos rfl⟩)) (λb u z=> ?_) (λb z=> ?_) λ_=>hk
    · by_cases hb:b=a
      ·exact .inr ⟨_,_,if_pos hb⟩
      ·exact .inl (if_neg hb)
    · by_cases hb:b=a
      · have z':=(if_pos hb).symm.trans z
        cases z'
        subst hb
        exact⟨ha,by rw[List.length_map];exact hl,vs,_,rv,ha⟩
      · have z':=(if_neg hb).symm.trans z
        cases z'
    · by_cases hb:b=a
      ·exact hb
      ·exact absurd (if_neg hb) z
end L2
namespace L2
theorem walk_of{l:W.OpenLaw}{n k:Nat}{q:Program}{loose:List Str}{XP:(Str->Option Value)->Heap->Prop}{YP:World->Heap->Prop}{d:DefRec}{K:Params->W.Frag}{CX:World->IH}{sp:World->Sp}{x:Str}
  (hn:l.most=some n) (hn2:n<=sizeLine) (hdf:d.params.defaults=[]) (hr:Room k callerA)
  (hY:∀ (w:World) (h:Heap),YP w h->(K w.params).In h)
  (F:∀ (w:World) (mg:Str->Option Value) (fa:Addr) (h:Heap),(K w.params).In h->h.Ns mainGlobals mg->mg d.name=some (.ref fa) →
   ∃ fd:FuncData,(∀ (s:Shared) (u:Value),BindsTo s fd ⟨[u],[]⟩ [(x,u)]) ∧
    ∀ base:Heap,(K w.params).In base->base.Ns mainGlobals mg->FnOk l.prog w (K w.params) mg base (CX w) k fa fd [x] (sp w))
  (hsp:∀ (w:World) (H:Hp) (a:Addr) (ns:List Int),ns.length<=n->XG H->SqL (K w.params) H a (ns.map V.int)->sp w [.ref a] H (λv _=>v=.bl true) λ_ _ _=>False)
  (hCX:∀ (w:World) (H:Hp) (s:Shared) (e:Value) (s':Shared),CX w [] H s (λ_ _ _=>False) e s'->False) :
  W.WalkO q loose XP YP l.row.toRowW d [] (λf vs=>PySem.call f vs):=by
 refine Att.attach_call hn hdf λw s₀ s₁ mg mb fa o pm cd doc a vs ns G Y ho hd HE hmg hobj hints EC hg=> ?_
 have KX:=hY w _ Y
 obtain⟨fd,hb,hF⟩:=F w mg fa _ KX G.T.g hmg
 exact Hj KX G.T.g G.T.b G.T.builtins G.T.nolimit hg hobj hints (Nat.le_trans EC hn2) hr hF hb (λH hO hS=>hsp w H a ns EC hO hS) λH e s'=>hCX w H s₁ e s'
end L2
namespace L2
def C0(s:Stmt)(j:Nat):Stmt:=match s with
 | .ClassDef _ _ _ body _ _ _ _ _ _ _=>body.getD j (.Pass ⟨0,0,0,0⟩)
 | _=>.Pass ⟨0,0,0,0⟩
def KL(s:Stmt):Arguments:=match s with
 | .FunctionDef _ a _ _ _ _ _ _ _ _=>a
 | _=>{ posonlyargs:=[],args:=[],vararg:=none,kwonlyargs:=[],kw_defaults:=[],kwarg:=none,defaults:=[] }
def IK(s:Stmt):List Stmt:=match s with
 | .FunctionDef _ _ b _ _ _ _ _ _ _=>b
 | _=>[]
def AZ(s:Stmt):Scope:=match s with
 | .FunctionDef _ _ _ _ _ _ sc _ _ _=>sc
 | _=>{ kind:=.function,names:=[],isGenerator:=false,isCoroutine:=false }
abbrev E0:XK:=λ_ _ _=>False
structure Fun(K:W.Frag)(x qual:Str)(st:Stmt)(f:Addr)(fd:FuncData):Prop where
 ex:∃ (oc:Value) (od:Option Addr) (kV doc pm:Value) (an:Option Addr) (CG ct:Value) (osl:Array (Option Value)),
  fd=W.fnOf x qual (KL st) (IK st) (AZ st) .none kV doc pm an CG ct/\K.lookup f=some ⟨oc,od,.func fd,osl⟩/\W.codeIn K CG qual=true
 kp:W.keepIn K (.ref f)=true
section
variable{P:Program}{w:World}{K:W.Frag}{mg:Str->Option Value}{base:Heap}
theorem Fun.binds{x qual:Str}{st:Stmt}{f:Addr}{fd:FuncData}{ps:List Str}(F:Fun K x qual st f fd)
  (h:∀ (kV doc pm:Value) (an:Option Addr) (CG ct:Value) (us:List Value),us.length=ps.length->bindArgs (W.fnOf x qual (KL st) (IK st) (AZ st) .none kV doc pm an CG ct) ⟨us,[]⟩=pure (ps.zip us)):Binds K fd ps []:=by
 obtain⟨oc,od,kV,doc,pm,an,CG,ct,osl,rfl,lk,HE⟩:=F.ex
 exact .all (h kV doc pm an CG ct)
theorem jI{x qual:Str}{st:Stmt}{f:Addr}{oc:Value}{od an:Option Addr}{osl:Array (Option Value)}{kV doc pm CG ct:Value}(l:K.lookup f=some ⟨oc,od,.func (W.fnOf x qual (KL st) (IK st) (AZ st) .none kV doc pm an CG ct),osl⟩)
  (c:W.codeIn K CG qual=true) (k:W.keepIn K (.ref f)=true):Fun K x qual st f (W.fnOf x qual (KL st) (IK st) (AZ st) .none kV doc pm an CG ct):=⟨⟨oc,od,kV,doc,pm,an,CG,ct,osl,rfl,l,c⟩,k⟩
end
theorem JP{A:Around}{k:Nat}(hr:Room k A):A.units+1<cLine:=Nat.lt_of_le_of_lt (Nat.add_le_add_left (by decide:1<=64) _) hr.units
section
variable{X:Cx}
theorem pv(i:Nat){x:Str}{pos:Pos}(hN:X.N[i]? =some x:=by rfl)(hv:ST X.env.scope x:=by first | exact Or.inl rfl | exact Or.inr (Or.inl rfl) | exact Or.inr (Or.inr rfl))(hd:(x ==("__debug__":Str))=false:=by decide)
  (HE:(x ==("__classdict__":Str))=false:=by decide):PE X (.Name x pos) (SV i):=hI hN hv hd HE
end
def Same(H H':Hp):Prop:=∀ b o,H b=some o->H' b=some o
theorem Same.refl(H:Hp):Same H H:=λ_ _ h=>h
theorem Same.trans{H H1 H2:Hp}(a:Same H H1)(b:Same H1 H2):Same H H2:=λc o h=>b c o (a c o h)
theorem Same.free{H H':Hp}(e:Same H H'){l:Addr}(h:H' l=Option.none):H l=Option.none:=by
 cases q:H l with
 | none=>rfl
 | some o =>
  rw[e l o q]at h
  cases h
theorem Same.seq{K:W.Frag}{H H':Hp}{a:Addr}{xs:List V}(e:Same H H')(h:SqL K H a xs):SqL K H' a xs:=by
 rcases h with(h | ⟨o,h⟩) | h
 ·exact .inl (.inl (e _ _ h))
 ·exact .inl (.inr ⟨o,e _ _ h⟩)
 ·exact .inr h
section
variable{κ :Type}[DecidableEq κ]
theorem Hk{kvs:List (κ × V)}{k: κ}(h:CK kvs k=none):¬ k∈kvs.map (·.1):=by
 intro m
 obtain⟨p,hp,e⟩:=List.mem_map.mp m
 have q:(kvs.any λkv=>decide (kv.1=k))=true:=List.any_eq_true.mpr ⟨p,hp,decide_eq_true e⟩
 rw[N1,h]at q
 exact absurd q (by simp)
theorem jJ:∀ {l:List κ} {k: κ},l.Nodup->¬ k∈l->(l++[k]).Nodup
 | [],k,_,_=>by simp
 | a::r,k,h,hk=>by
  obtain⟨h1,h2⟩:=List.nodup_cons.mp h
  show(a::(r++[k])).Nodup
  refine List.nodup_cons.mpr ⟨λm=> ?_,jJ h2 λm=>hk (List.mem_cons.mpr (Or.inr m))⟩
  rcases List.mem_append.mp m with q | q
  ·exact h1 q
  ·exact hk (List.mem_cons.mpr (Or.inl (List.mem_singleton.mp q).symm))
theorem Hl{kvs:List (κ × V)}{k: κ}(v:V)(hn:(kvs.map (·.1)).Nodup)(h:CK kvs k=none):((DC kvs k v).map (·.1)).Nodup:=by
 rw[jB v h,List.map_append]
 exact jJ hn (Hk h)
end
end L2
namespace L2
theorem XH{env:Env}:∀ (names:List (Str × NameKind)) (cs:List (Str × Addr)),
  (∀ x∈names,x.2=.free->∃ c,env.cells.lookup x.1=some c)->(∀ x c,cs.lookup x=some c->env.cells.lookup x=some c) →
  ∃ cl,(forIn names cs λx r=>(if(x.2 == NameKind.free)=true then do let a ← cellOf env x.1;pure (ForInStep.yield ((x.1,a)::r))else pure (ForInStep.yield r):Sem (ForInStep (List (Str × Addr)))))=pure cl ∧
   (∀ x c,cl.lookup x=some c->env.cells.lookup x=some c)/\(∀ x,(cs.lookup x).isSome=true->(cl.lookup x).isSome=true) ∧
   ∀ x∈names,x.2=.free->(cl.lookup x.1).isSome=true
 | [],cs,_,h=>⟨cs,rfl,h,λ_ z=>z,λ_ z=>nomatch z⟩
 | (n,k)::r,cs,hf,h=>by
  by_cases hk:k=.free
  ·subst hk
   obtain⟨c,hc⟩:=hf (n,.free) List.mem_cons_self rfl
   obtain⟨cl,e,h1,h2,h3⟩:=XH r ((n,c)::cs) (λx hx=>hf x (List.mem_cons_of_mem _ hx)) (λx c' hx=>by
    by_cases hxn:x=n
    ·subst hxn;simp only[List.lookup_cons,beq_self_eq_true]at hx;cases hx;exact hc
    ·have:(x == n)=false:=beq_eq_false_iff_ne.mpr hxn
     simp only[List.lookup_cons,this]at hx;exact h x c' hx)
   refine⟨cl,?_,h1,λx hx=>h2 x ?_,λx hx hxf=> ?_⟩
   ·rw[List.forIn_cons]
    show((if(NameKind.free == NameKind.free)=true then _ else _) >>= _)=_
    rw[if_pos (show(NameKind.free == NameKind.free)=true from rfl)]
    unfold cellOf
    show(((match env.cells.lookup n with | some a=>pure a | none=>_) >>= _) >>= _)=_
    rw[hc]
    exact e
   ·by_cases hxn:x=n
    ·subst hxn;simp
    ·have:(x == n)=false:=beq_eq_false_iff_ne.mpr hxn
     simp only[List.lookup_cons,this];exact hx
   ·rcases List.mem_cons.mp hx with rfl | hx
    ·exact h2 n (by simp)
    ·exact h3 x hx hxf
  ·obtain⟨cl,e,h1,h2,h3⟩:=XH r cs (λx hx=>hf x (List.mem_cons_of_mem _ hx)) h
   refine⟨cl,?_,h1,h2,λx hx hxf=> ?_⟩
   ·rw[List.forIn_cons]
    have hb:(k == NameKind.free)=false:=by simpa using hk
    show((if(k == NameKind.free)=true then _ else _) >>= _)=_
    rw[if_neg (by simp[hb])]
    exact e
   ·rcases List.mem_cons.mp hx with rfl | hx
    ·exact absurd hxf hk
    ·exact h3 x hx hxf
theorem jK{env:Env}{scope:Scope}(hf:∀ x∈scope.names,x.2=.free->∃ c,env.cells.lookup x.1=some c) :
  ∃ cl,closureFor scope env=pure cl/\(∀ x c,cl.lookup x=some c->env.cells.lookup x=some c)/\∀ x∈scope.names,x.2=.free->(cl.lookup x.1).isSome=true:=by
 obtain⟨cl,e,h1,_,h3⟩:=XH (env:=env) scope.names [] hf (λx c h=>by simp at h)
 refine⟨cl,?_,h1,h3⟩
 unfold closureFor
 show(forIn scope.names ([]:List (Str × Addr)) _ >>= _)=_
 have:(forIn scope.names ([]:List (Str × Addr)) λx r=>(if(x.2 == NameKind.free)=true then do let a ← cellOf env x.1;pure (ForInStep.yield ((x.1,a)::r))else pure (ForInStep.yield r):Sem (ForInStep (List (Str × Addr))))) >>=(λr=>(pure r:Sem _))=(pure cl:Sem _):=by rw[e];rfl
 exact this
theorem jL{env:Env}:∀ {names:List (Str × NameKind)} {x:Str},names.lookup x=some .free →
  (names.map λ(n,k)=>if(k == NameKind.free && env.scope.kind == .function && env.kindOf n == some .cell)then(n,NameKind.cell)else(n,k)).lookup x=some .cell ∨
  (names.map λ(n,k)=>if(k == NameKind.free && env.scope.kind == .function && env.kindOf n == some .cell)then(n,NameKind.cell)else(n,k)).lookup x=some .free
 | [],_,h=>by simp at h
 | (n,k)::r,x,h=>by
  by_cases hx:x=n
  ·subst hx
   simp only[List.lookup_cons,beq_self_eq_true]at h
   cases h
   show List.lookup x ((if _ then(x,NameKind.cell)else(x,NameKind.free))::_)=_\/List.lookup x ((if _ then(x,NameKind.cell)else(x,NameKind.free))::_)=_
   split
   ·exact .inl (by simp)
   ·exact .inr (by simp)
  ·have hb:(x == n)=false:=beq_eq_false_iff_ne.mpr hx
   simp only[List.lookup_cons,hb]at h
   have ih:=jL (env:=env) h
   show List.lookup x ((if _ then(n,NameKind.cell)else(n,k))::_)=_\/List.lookup x ((if _ then(n,NameKind.cell)else(n,k))::_)=_
   split<;>(simp only[List.lookup_cons,hb];exact ih)
theorem jM{env:Env}:∀ {names:List (Str × NameKind)} {x:Str},
  ((names.map λ(n,k)=>if(k == NameKind.free && env.scope.kind == .function && env.kindOf n == some .cell)then(n,NameKind.cell)else(n,k)).lookup x=some .cell ∨
  (names.map λ(n,k)=>if(k == NameKind.free && env.scope.kind == .function && env.kindOf n == some .cell)then(n,NameKind.cell)else(n,k)).lookup x=some .free)->(x,NameKind.free)∈names\/(x,NameKind.cell)∈names
 | [],_,h=>by simp at h
 | (n,k)::r,x,h=>by
  by_cases hx:x=n
  ·subst hx
   have h:List.lookup x ((if(k == NameKind.free && env.scope.kind == .function && env.kindOf x == some .cell)=true then(x,NameKind.cell)else(x,k))::_)=some .cell\/List.lookup x ((if(k == NameKind.free && env.scope.kind == .function && env.kindOf x == some .cell)=true then(x,NameKind.cell)else(x,k))::_)=some .free:=h
   split at h
   ·rename_i hc
    rw[Bool.and_eq_true,Bool.and_eq_true]at hc
    have:k=.free:=by simpa using hc.1.1
    subst this
    exact .inl List.mem_cons_self
   ·simp only[List.lookup_cons,beq_self_eq_true]at h
    rcases h with h | h
    ·cases h;exact .inr List.mem_cons_self
    ·cases h;exact .inl List.mem_cons_self
  ·have hb:(x == n)=false:=beq_eq_false_iff_ne.mpr hx
   have h:List.lookup x ((if(k == NameKind.free && env.scope.kind == .function && env.kindOf n == some .cell)=true then(n,NameKind.cell)else(n,k))::_)=some .cell\/List.lookup x ((if(k == NameKind.free && env.scope.kind == .function && env.kindOf n == some .cell)=true then(n,NameKind.cell)else(n,k))::_)=some .free:=h
   have h':=h
   split at h'
   all_goals
    simp only[List.lookup_cons,hb]at h'
    exact(jM h').imp (List.mem_cons_of_mem _) (List.mem_cons_of_mem _)
theorem F9{a b:Addr}{n:Nat}(h:a<n)(h2:n<=b):a≠b:=Nat.ne_of_lt (Nat.lt_of_lt_of_le h h2)
def Cx.block(X:Cx)(AB:List (Addr × Obj))(s:Shared)(H:Hp)(Nc:List Str)(scope:Scope)(cl:List (Str × Addr))(C:Addr)(fp:List Addr):Cx where
 prog:=X.prog
 w:=X.w
 K:=X.K
 mg:=X.mg
 base:=X.base
 A:=X.A
 N:=Nc
 s₀:=s
 H₀:=H
 env:=compEnvC scope cl C X.env
 outer:=X.stack
 stack:=X.stack
 ex:=fp
 fn:=λ_=>false
 calm:=X.calm
 pn:=X.pn++AB
 xe:=λ_ _=>False
structure N7(X:Cx)(scope:Scope)(tn cn:List Str)(cap:List Nat):Prop where
 kind:scope.kind=.function
 nocell:∀ y∈scope.names,y.2≠.cell
 names:∀ y∈scope.names,y.2=.local->scope.names.lookup y.1=some .local
 free:∀ y∈scope.names,y.2=.free->X.env.kindOf y.1=some .cell\/X.env.kindOf y.1=some .free
 drawn:∀ x∈cn,scope.names.lookup x=some .free
 caps:cap.map (λi=>X.N[i]?)=cn.map some
def KM(k:Nat)(cap:List Nat)(σ:St):St:=List.replicate k none++cap.map λi=>(σ[i]?).join
theorem HOk.track{P:Program}{w:World}{H:Hp}{h:Heap}{a:Addr}{o:HO}(x:HOk P w H h)(hn:H a=none)(new:ObjOk P w (upd H a o) h a o):HOk P w (upd H a o) h:=λb u e=>by
 by_cases hb:b=a
 ·subst hb;rw[AM]at e;cases e;exact new
 ·rw[AO hb]at e
  refine(x b u e).stay (λ_ _ _ q=>q) (λc q=> ?_) λc xs q=> ?_
  ·rw[AO (BX q hn)];exact q
  ·rw[AO (BX q hn)];exact q
section
variable{X:Cx}{AB:List (Addr × Obj)}{σ:St}{H:Hp}{s:Shared}
theorem Inv.pinlt(I:Inv X AB σ H s){p:Addr × Obj}(hp:p∈X.pn++AB):p.1<s.heap.objs.size:=Heap.lt_size (I.pin p hp).1
theorem Inv.stkne(I:Inv X AB σ H s){b:Addr}(h1:b≠X.env.locals)(h2:b∉X.fs):b∉E9 X.stack:=λz=>(List.mem_cons.mp (I.stkSub b z)).elim h1 h2
theorem Inv.stklt(I:Inv X AB σ H s){b:Addr}(h:b∈E9 X.stack):b<s.heap.objs.size:=by
 obtain⟨_,o,ho,_⟩:=I.stack.mem h
 exact Heap.lt_size ho
theorem Inv.block{scope:Scope}{tn cn:List Str}{cap:List Nat}{cl:List (Str × Addr)}{C:Addr}{fp:List Addr}{pins':List (Addr × Obj)}{s1:Shared}(I:Inv X AB σ H s)(S:N7 X scope tn cn cap)
  (C1:∀ x c,cl.lookup x=some c->X.env.cells.lookup x=some c) (GT:∀ x∈scope.names,x.2=.free->(cl.lookup x.1).isSome=true)
  (hf:∀ b∈fp,FpOk X AB H b) (hfl:∀ b∈fp,b<s.heap.objs.size) (hC:s.heap.objs.size<=C) (k:∀ b o,s.heap.get? b=some o->s1.heap.get? b=some o)
  (hos:s1.os=s.os) (hg:s1.gens=s.gens) (hns:∃ m,s1.heap.Ns C m)
  (hp:∀ p∈pins',s1.heap.get? p.1=some p.2/\H p.1=none/\p.1≠C/\p.1∉E9 X.stack/\∀ v,p.2.data≠.cell v) :
  Inv (X.block AB s H (tn++cn) scope cl C fp) pins' (KM tn.length cap σ) H s1:=by
 have ok:(X.block AB s H (tn++cn) scope cl C fp).Ok:=by
  refine⟨I.ok.mod,S.kind,I.ok.glob,I.ok.blt,hC,λx y c h1 h2=>I.ok.inj x y c (C1 x c h1) (C1 y c h2),λx hx=> ?_,λx c z _=>(by cases z),I.ok.hd,I.ok.frames,.inl rfl,λb hb=>⟨?_,λx c e=>(hf b hb).2.2.2.2.1 x c (C1 x c e)⟩,I.bs,Nat.le_trans I.ok.bsz I.sz,λb o e hb=> ?_,λb hb=>I.stkne (hf b hb).2.1 (hf b hb).2.2.1,I.stack,I.stkFree⟩
  ·rcases jM (env:=X.env) hx with z | z
   ·exact Option.isSome_iff_exists.mp (GT _ z rfl)
   ·exact absurd rfl (S.nocell _ z)
  ·exact Nat.ne_of_lt (Nat.lt_of_lt_of_le (hfl b hb) hC)
  ·rcases(hf b hb).2.2.2.1 with z | z
   ·exact I.ok.noex b o e z
   ·have h1:b<X.base.objs.size:=Heap.lt_size e
    exact absurd (Nat.lt_of_lt_of_le h1 (Nat.le_trans I.ok.bsz z)) (Nat.lt_irrefl _)
 refine⟨ok,hos,by rw[hg];exact I.bare,Un.kept k,?_,λx c e=> ?_,I.hok.fresh hC,λx c e=>I.freeC x c (C1 x c e),λp hp'=> ?_,I.hok.kept k,?_⟩
 ·obtain⟨m,hm⟩:=hns
  refine⟨m,hm,λi x v h1 h2 h3=> ?_⟩
  have hi:tn.length<=i:=by
   rcases Nat.lt_or_ge i tn.length with z | z
   ·unfold KM at h2
    rw[List.getElem?_append_left (by simpa using z),List.getElem?_replicate]at h2
    split at h2<;>cases h2
   ·exact z
  unfold KM at h2
  rw[List.getElem?_append_right (by simpa using hi),List.length_replicate,List.getElem?_map]at h2
  have h1':cn[i - tn.length]? =some x:=by
   have:(tn++cn)[i]? =some x:=h1
   rwa [List.getElem?_append_right hi]at this
  cases hq:cap[i - tn.length]? with
  | none=>rw[hq]at h2;cases h2
  | some j =>
   rw[hq]at h2
   have hj:X.N[j]? =some x:=by
    have:=congrArg (λl=>l[i - tn.length]?) S.caps
    simp only[List.getElem?_map,hq,h1',Option.map_some]at this
    exact Option.some.inj this
   have hv:σ[j]? =some (some v):=by
    cases hs:σ[j]? with
    | none=>simp[hs]at h2
    | some y=>simp only[Option.map_some,hs,Option.join_some]at h2;cases h2;rfl
   have hxf:(x,NameKind.free)∈scope.names:=PySem.mem_of_lookup (S.drawn x (List.mem_of_getElem? h1'))
   have hk:=S.free _ hxf rfl
   obtain⟨m0,_,hl0⟩:=I.loc
   obtain⟨u,r,q⟩:=hl0 j x v hj hv (hk.elim (λz=>.inr (.inl z)) λz=>.inr (.inr z))
   refine⟨u,r,.inr ⟨jL (S.drawn x (List.mem_of_getElem? h1')),?_⟩⟩
   rcases q with⟨kl,_⟩ | ⟨_,c,hc,z⟩
   ·have kl':X.env.kindOf x=some .local:=kl
    rcases hk with hk | hk<;>(rw[kl']at hk;cases hk)
   ·obtain⟨c',hc'⟩:=Option.isSome_iff_exists.mp (GT _ hxf rfl)
    have:=C1 _ _ hc'
    rw[hc]at this
    cases this
    exact⟨c,hc',z.keeps k⟩
 ·obtain⟨v,z⟩:=I.cell x c (C1 x c e)
  exact⟨v,z.keeps k⟩
 ·rcases List.mem_append.mp hp' with z | z
  ·obtain⟨e,n,ne,nf,d⟩:=I.pin p z
   exact⟨k _ _ e,n,Nat.ne_of_lt (Nat.lt_of_lt_of_le (Heap.lt_size e) hC),I.stkne ne nf,d⟩
  ·exact hp p z
 ·unfold KM
  show _=(tn++cn).length
  have:=congrArg List.length S.caps
  simp only[List.length_map]at this
  simp[this]
end
def DL:TT:=λ_ H Q=>Q true H
def Q9(X:Cx)(GP:List Expr)(t:TT):Prop :=
 ∀ (AB:List (Addr × Obj)) (s:Shared) (σ:St) (H:Hp) (Q:Bool->Hp->Prop),Inv X AB σ H s->t σ H Q →
  wpAny (model X.prog X.w) X.A (forIn GP true λc r=>if r=true then do let ok ← isTrue c X.env (eval c X.env);pure (ForInStep.yield ok)else pure (ForInStep.yield r)) (TP X AB σ Q) X.xe s
theorem FD{X:Cx}:Q9 X [] DL:=λAB s σ H Q I h=>wpAny_tests_nil ⟨H,I,h⟩
theorem EM{X:Cx}{c:Expr}{t:TT}(h:PT X c t):Q9 X [c] t:=λAB s σ H Q I q=>wpAny_tests_one (h AB s σ H Q I q)
theorem Hm {prog:Program} {w:World} {A:Around} {R:Result->Shared->Prop} {s:Shared} {GO target iter:Expr} {GP:List Expr} {scope:Scope} {pos:Pos} {it BV:Value} {env:Env} (Jn:Nat->Shared->Prop)
    (turn:∀ n s,Jn n s->wpAny (model prog w) A (pyNext it) (λr s₁=>match r with
      | none=>R (.ok .next) s₁
      | some v=>wpAny (model prog w) A (letOwnedTupleGo target it v) (λ_ s₂=>wpAny (model prog w) A (assign target env v) (λ_ s₃ =>
          wpAny (model prog w) A (forIn GP true λc r=>if r=true then do let ok ← isTrue c env (eval c env);pure (ForInStep.yield ok)else pure (ForInStep.yield r)) (λok s₄ =>
            if ok=true then wpAny (model prog w) A (eval GO env) (λx s₅ =>
              wpAny (model prog w) A (call (.builtin "list.append") [BV,x]) (λ_ s₆=>∃ m,m<n/\Jn m s₆) (λ_ _=>False) s₅) (λ_ _=>False) s₄
            else ∃ m,m<n/\Jn m s₄) (λ_ _=>False) s₃) (λ_ _=>False) s₂) (λ_ _=>False) s₁) (λ_ _=>False) s)
    (n:Nat) (h:Jn n s):codeAny (model prog w) A (.compLoop (.ListComp GO [⟨target,iter,GP,0⟩] scope pos) 0 it BV env) R s:=by
  refine codeAny_loop rfl Jn (λn' s' hJ=> ?_) n h
  show wpAny _ A ((compTurn (.ListComp GO [⟨target,iter,GP,0⟩] scope pos) 0 it BV env).onRaise (λx'=>do noteFrame x' env;theTreesLotGoes x')) _ _ s'
  refine wpAny_noted (wpAny_noRaise ?_)
  rw[compTurn_list]
  refine wpAny_bind (wpAny_standAt (wpAny_bind (AW (turn n' s' hJ) λr s₁ h₁=> ?_)))
  cases r with
  | none=>exact wpAny_pure h₁
  | some v =>
    refine wpAny_bind (AW h₁ λ_ s₂ h₂=> ?_)
    refine wpAny_bind (AW h₂ λ_ s₃ h₃=>wpAny_bind (AW h₃ λok s₄ h₄=> ?_))
    cases ok with
    | false=>exact wpAny_pure ⟨rfl,h₄⟩
    | true=>exact wpAny_bind (wpAny_bind (AW h₄ λx' s₅ h₅=>wpAny_bind (AW h₅ λ_ s₆ h₆=>wpAny_pure (wpAny_pure ⟨rfl,h₆⟩))))
def B6(wi:TI)(g:TG)(tt:TT)(te:TE)(k:Nat)(cap:List Nat):TE:=λσ H Q=>wi σ H λJ H1 =>
 ∃ W:Nat->Nat->St->List V->Hp->Prop,(∃ m,W 0 m (KM k cap σ) [] H1)/\∀ i m σ' ys H,W i m σ' ys H →
  (J.stop i H/\∀ p,H p=none->Q (.ref p) (upd H p (.lst ys))) ∨
  (J.go i H/\ys.length<sizeLine/\∀ x H',J.yld i H x H'->g x σ' H' λσ2 H2=>tt σ2 H2 λb H3 =>
   if b=true then ∃ N:VK,(∀ y H4,N y H4->∃ m',m'<m/\W (i+1) m' σ2 (ys++[y]) H4)/\te σ2 H3 N else ∃ m',m'<m/\W (i+1) m' σ2 ys H3)
structure CompDone(X:Cx)(fp:List Addr)(H:Hp)(s:Shared)(Q:VK)(BV:Value)(C:Addr)(r:Result)(s':Shared):Prop where
 ok:r=.ok .next
 ex:∃ (D:Addr) (ys:List V) (its:List Value) (n:Nat) (H':Hp),BV=.ref D/\Vals ys its/\ys.length<=sizeLine/\s'.heap.get? D=some { cls:=.type "list",data:=.seq its.toArray n }/\s.heap.objs.size<=D/\D≠C/\H' D=none/\H' C=none ∧
  (∃ m,s'.heap.Ns C m)/\Un (E9 X.stack) fp H H' s.heap s'.heap/\HOk X.prog X.w H' s'.heap/\∀ p,H' p=none->Q (.ref p) (upd H' p (.lst ys))
 ge:s.heap.objs.size<=C
 os:s'.os=s.os
 bare:AllBare s'.gens
section
variable{X:Cx}{AB:List (Addr × Obj)}{σ:St}{H:Hp}{s:Shared}
theorem jN {tg iter GO:Expr} {GP:List Expr} {scope:Scope} {pos:Pos} {g:TG} {tt:TT} {te:TE} {tn cn:List Str} {cap:List Nat} {cl:List (Str × Addr)} {it:Addr} {fp:List Addr} {tn':Nat->Heap->Prop} {J:It} {Q:VK} {E:Value->Shared->Prop}
    (I:Inv X AB σ H s) (S:N7 X scope tn cn cap) (hc:X.calm=true)
    (C1:∀ x c,cl.lookup x=some c->X.env.cells.lookup x=some c) (GT:∀ x∈scope.names,x.2=.free->(cl.lookup x.1).isSome=true)
    (T:MJ X.prog X.w X.K tg J fp it tn') (st:tn' 0 s.heap) (hf:∀ b∈fp,FpOk X AB H b)
    (hg:∀ C,PG (X.block AB s H (tn++cn) scope cl C fp) tg g) (ht:∀ C,Q9 (X.block AB s H (tn++cn) scope cl C fp) GP tt) (he:∀ C,PE (X.block AB s H (tn++cn) scope cl C fp) GO te)
    (W:Nat->Nat->St->List V->Hp->Prop) {m0:Nat} (w0:W 0 m0 (KM tn.length cap σ) [] H)
    (step:∀ i m σ' ys H,W i m σ' ys H →
      (J.stop i H/\∀ p,H p=none->Q (.ref p) (upd H p (.lst ys))) ∨
      (J.go i H/\ys.length<sizeLine/\∀ x H',J.yld i H x H'->g x σ' H' λσ2 H2=>tt σ2 H2 λb H3 =>
        if b=true then ∃ N:VK,(∀ y H4,N y H4->∃ m',m'<m/\W (i+1) m' σ2 (ys++[y]) H4)/\te σ2 H3 N else ∃ m',m'<m/\W (i+1) m' σ2 ys H3)) :
    wpAny (model X.prog X.w) X.A (newList []) (λBV s₃=>wpAny (model X.prog X.w) X.A (newFunctionEnv scope X.env.globals cl [] X.env.qual none .none (some X.env)) (λcenv s₄ =>
      codeAny (model X.prog X.w) X.A (.compStart (.ListComp GO [⟨tg,iter,GP,0⟩] scope pos) 0 (.ref it) BV { cenv with scope:=relabel scope X.env }) (CompDone X fp H s Q BV cenv.locals) s₄) E s₃) E s:=by
  refine wpAny_newObj_type (wpAny_newFunctionEnv S.nocell (by intro y hy;simp at hy) (λh₁ hns₁ hsb₁=> ?_) S.kind)
  dsimp only at hns₁ hsb₁ ⊢
  generalize hH2:s.heap.push { cls:=.type "list",dict:=none,data:=.seq ([]:List Value).toArray }=H2 at hns₁ hsb₁ ⊢
  have hCs:H2.objs.size=s.heap.objs.size+1:=by rw[<-hH2,Heap.size_push]
  generalize hCe:H2.objs.size=C at hns₁ hsb₁ ⊢
  have hC:C=s.heap.objs.size+1:=hCe.symm.trans hCs
  generalize hD:s.heap.objs.size=D at *
  have hDC:D≠C:=by rw[hC];exact Nat.ne_of_lt (Nat.lt_succ_self _)
  have old:∀ b o,s.heap.get? b=some o->h₁.get? b=some o:=λb o e=>by
    have hb:b<D:=by rw[<-hD];exact Heap.lt_size e
    have hbC:b≠C:=F9 hb (by rw[hC];exact Nat.le_succ _)
    exact hsb₁.extBut b o hbC (Heap.get?_push_of_some _ (hH2 ▸ Heap.get?_push_of_some _ e))
  have hDo:h₁.get? D=some { cls:=.type "list",data:=.seq ([]:List Value).toArray }:=by
    refine hsb₁.extBut _ _ hDC (Heap.get?_push_of_some _ ?_)
    rw[<-hH2,<-hD]
    exact Heap.get?_push_size _ rfl
  have hfl:∀ b∈fp,b<s.heap.objs.size:=λb hb=>by
    obtain⟨o,e,_⟩:=T.obj 0 _ st b hb
    exact Heap.lt_size e
  have hDn:H D=none:=by rw[<-hD];exact I.hok.fresh (Nat.le_refl _)
  have hDs:D∉E9 X.stack:=λz=>F9 (I.stklt z) (Nat.le_of_eq hD) rfl
  have I0:Inv (X.block AB s H (tn++cn) scope cl C fp) [(D,{ cls:=.type "list",data:=.seq ([]:List Value).toArray 0 })] (KM tn.length cap σ) H { s with heap:=h₁,toks:=s.toks+([]:List (Str × Value)).length } :=
    I.block S C1 GT hf hfl (by omega) old rfl rfl ⟨_,hns₁⟩ λp hp=>by
      rw[List.mem_singleton]at hp
      subst hp
      exact⟨hDo,hDn,hDC,hDs,λv z=>nomatch z⟩
  have fpok:∀ {H':Hp} {o:Obj},(∀ b∈fp,H' b=none)->∀ b∈fp,FpOk (X.block AB s H (tn++cn) scope cl C fp) [(D,o)] H' b:=λ{H' o} hn b hb=>by
    obtain⟨_,f1,f2,f3,f4,f5⟩:=hf b hb
    have hbl:=hfl b hb
    refine⟨hn b hb,?_,I.stkne f1 f2,.inl hb,λx c e=>f4 x c (C1 x c e),λp hp=> ?_⟩
    ·exact F9 hbl (by rw[hD,hC];exact Nat.le_succ _)
    · rcases List.mem_append.mp hp with z | z
      ·exact f5 p z
      ·rw[List.mem_singleton]at z;subst z;exact Ne.symm (F9 hbl (Nat.le_of_eq hD))
  have st1:tn' 0 h₁:=T.keep _ _ _ st λb _ o e=>old b o e
  have loop:∀ s₃:Shared,s₃={ s with heap:=h₁,toks:=s.toks+([]:List (Str × Value)).length } →
      codeAny (model X.prog X.w) X.A (.compLoop (.ListComp GO [⟨tg,iter,GP,0⟩] scope pos) 0 (.ref it) (.ref D) (compEnvC scope cl C X.env)) (CompDone X fp H s Q (.ref D) C) s₃:=by
    rintro s₃ rfl
    refine Hm (λn s'=>∃ i σ' ys its nn H',Inv (X.block AB s H (tn++cn) scope cl C fp) [(D,{ cls:=.type "list",data:=.seq (its:List Value).toArray nn })] σ' H' s'/\tn' i s'.heap/\(∀ b∈fp,H' b=none)/\Vals ys its/\ys.length<=sizeLine/\W i n σ' ys H') ?_ m0
      ⟨0,_,[],[],0,H,I0,st1,λb hb=>(hf b hb).1,.nil,Nat.zero_le _,w0⟩
    rintro n s4 ⟨i,σ4,ys,its,nn,H4,I4,st4,fr4,r4,l4,w4⟩
    rcases step i n σ4 ys H4 w4 with⟨stop,qn⟩ | ⟨go,BZ,next⟩
    · refine AW (T.done (X.block AB s H (tn++cn) scope cl C fp) rfl rfl rfl hc i _ s4 σ4 H4 _ I4 (fpok fr4) st4 stop) λr s5 ⟨hr,I5⟩=> ?_
      subst hr
      have hp:=I5.pin (D,_) (List.mem_append_right _ List.mem_cons_self)
      obtain⟨m5,hm5,_⟩:=I5.loc
      exact⟨rfl,⟨D,ys,its,nn,H4,rfl,r4,l4,hp.1,by omega,hDC,hp.2.1,I5.free,⟨m5,hm5⟩,I5.base,I5.hok,qn⟩,by omega,I5.os,I5.bare⟩
    · refine AW (T.item (X.block AB s H (tn++cn) scope cl C fp) rfl rfl rfl hc i _ s4 σ4 H4 _ I4 (fpok fr4) st4 go) λr s5 hzz=> ?_
      obtain⟨u,hr,h5⟩:=hzz
      subst hr
      refine AW h5 λ_ s6 hzz=> ?_
      obtain⟨x,H6,I6,r6,y6,st6,fr6⟩:=hzz
      have I6':=I6.pinned (fpok fr6) (T.obj _ _ st6)
      refine AW (hg C _ s6 σ4 H6 x u _ I6' r6 (next x H6 y6)) λ_ s7 hzz=> ?_
      obtain⟨σ7,H7,I7,q7⟩:=hzz
      refine AW (ht C _ s7 σ7 H7 _ I7 q7) λok s8 hzz=> ?_
      obtain⟨H8,I8,q8⟩:=hzz
      have keepst:∀ {σ9:St} {H9:Hp} {s9:Shared},Inv (X.block AB s H (tn++cn) scope cl C fp) ([(D,{ cls:=.type "list",data:=.seq its.toArray nn })]++QY fp s6.heap) σ9 H9 s9->(∀ b∈fp,∀ o,s6.heap.get? b=some o->s9.heap.get? b=some o)/\∀ b∈fp,H9 b=none:=λ{σ9 H9 s9} I9=>by
        refine⟨λb hb o e=>(I9.pin (b,o) (List.mem_append_right _ (List.mem_append_right _ (SZ hb e)))).1,λb hb=> ?_⟩
        obtain⟨o,e,_⟩:=T.obj _ _ st6 b hb
        exact(I9.pin (b,o) (List.mem_append_right _ (List.mem_append_right _ (SZ hb e)))).2.1
      cases ok with
      | false =>
        obtain⟨m',hm',w'⟩:=q8
        obtain⟨k1,k2⟩:=keepst I8
        exact⟨m',hm',i+1,σ7,ys,its,nn,H8,I8.unpinned,T.keep _ _ _ st6 k1,k2,r4,l4,w'⟩
      | true =>
        obtain⟨Nw,hN,q8⟩:=q8
        refine AW (he C _ s8 σ7 H8 Nw I8 q8) λv s9 hzz=> ?_
        obtain⟨y,H9,I9,r9,n9⟩:=hzz
        obtain⟨m',hm',w'⟩:=hN y H9 n9
        obtain⟨k1,k2⟩:=keepst I9
        have hp:=I9.pin (D,_) (List.mem_append_right _ (List.mem_append_left _ List.mem_cons_self))
        have e:=hp.1
        have EC:=r4.length
        refine call_meets F.slot_list_append ⟨_,e,rfl⟩ F.entry_list_append (F.args_list_append_2 _ _) (PySem.list_append D its.toArray nn v (by rw[List.size_toArray];omega)) ⟨e,?_⟩
        have q:=PySem.IsL.update e (λxs=>xs.push v)
        have Ia:Inv (X.block AB s H (tn++cn) scope cl C fp) [] σ7 H9 s9:=I9.pins_of λp hp=>nomatch hp
        have Ib:=Ia.turned (h':=s9.heap.update D (Obj.mapSeq (·.push v))) (t':=s9.toks) (it:=D) (λb o hb eb=>(Heap.get?_update_other _ _ (Ne.symm hb)).trans eb) hp.2.1 hDC (.inr (by show s.heap.objs.size<=D;omega))
          (λx c ec z=>by
            obtain⟨vv,zc⟩:=I.cell x c (C1 x c ec)
            exact F9 zc.lt (Nat.le_of_eq hD) z)
          (λp hp'=>by
            rw[List.append_nil]at hp'
            exact F9 (I.pinlt hp') (Nat.le_of_eq hD))
        have q':(s9.heap.update D (Obj.mapSeq (·.push v))).get? D=some { cls:=.type "list",data:=.seq (its++[v]).toArray (nn+1) }:=by
          rw[if_neg (by simp)]at q
          rw[<-List.push_toArray]
          exact q
        refine⟨m',hm',i+1,σ7,ys++[y],its++[v],nn+1,H9,Ib.pins_of (λp hp'=> ?_),T.keep _ _ _ st6 λb hb o eb=> ?_,k2,r4.append (.cons r9 .nil),?_,w'⟩
        · rw[List.mem_singleton]at hp'
          subst hp'
          exact⟨q',hp.2.1,hDC,hDs,λv' z=>nomatch z⟩
        · have hbl:=hfl b hb
          exact(Heap.get?_update_other _ _ (Ne.symm (F9 hbl (Nat.le_of_eq hD)))).trans (k1 b hb o eb)
        · rw[List.length_append,List.length_singleton]
          omega
  exact codeAny_compStart_list (loop _ rfl) (T.self _ 0 _ _ _ st1 (loop _ rfl))
theorem CompDone.inv{Q:VK}{BV:Value}{C:Addr}{r:Result}{s':Shared}{fp:List Addr}(I:Inv X AB σ H s)(hf:∀ b∈fp,FpOk X AB H b)(h:CompDone X fp H s Q BV C r s') :
  ∃ D H',BV=.ref D/\Inv X AB σ H' s'/\Q (.ref D) H'/\H' C=none/\∃ m,s'.heap.Ns C m:=by
 obtain⟨_,⟨D,ys,its,n,H',rfl,r4,l4,e,hD,hDC,hDn,hCn,hm,u,ok,q⟩,hC,os,bare⟩:=h
 have lt:∀ b o,s.heap.get? b=some o->b≠D:=λb o eb=>F9 (Heap.lt_size eb) hD
 have ltH:∀ b o,H b=some o->b≠D:=λb o eb=>F9 (I.hok.lt eb) hD
 refine⟨D,upd H' D (.lst ys),rfl,I.call' (ch:=fp) os ⟨u.keep,u.slot,λb o eb n' hx=> ?_,u.there,λb xs eb=> ?_,λb o x eb=> ?_,λb ps eb=> ?_⟩ (ok.track hDn ⟨l4,its,n,r4,e⟩) bare (λb hb=> ?_),q D hDn,?_,hm⟩
 ·rw[AO (lt b o eb)];exact u.free b o eb n' hx
 ·rw[AO (ltH b _ eb)];exact u.tups b xs eb
 ·rw[AO (ltH b _ eb)];exact u.frzs b o x eb
 ·rw[AO (ltH b _ eb)];exact u.tbls b ps eb
 ·obtain⟨_,f1,f2,f3,f4,f5⟩:=hf b hb
  exact⟨f3,f1,f4,f5⟩
 ·rw[AO (Ne.symm hDC)];exact hCn
theorem Inv.letgo{C:Addr}{h':Heap}{s1:Shared}{σ1:St}{H1:Hp}(I:Inv X AB σ H s)(hC:s.heap.objs.size<=C)(I1:Inv X AB σ1 H1 s1)(hn:H1 C=none)(hs:Heap.SameBut C s1.heap h'):Inv X AB σ1 H1 { s1 with heap:=h' }:=by
 refine I1.turned (t':=s1.toks) (it:=C) (λb o hb e=>(hs.2 b hb).trans e) hn (λz=> ?_) (.inr ?_) (λx c e z=> ?_) λp hp z=> ?_
 ·exact F9 I.lt hC z.symm
 ·exact Nat.le_trans I.sz hC
 ·obtain⟨v,zc⟩:=I.cell x c e
  exact F9 zc.lt hC z
 ·exact F9 (I.pinlt hp) hC z
variable{tg iter GO:Expr}{GP:List Expr}{scope:Scope}{pos:Pos}{wi:TI}{g:TG}{tt:TT}{te:TE}{tn cn:List Str}{cap:List Nat}
theorem DU(S:N7 X scope tn cn cap)(hc:X.calm=true)(hi:PI X tg iter wi)
  (hg:∀ AB s H cl C fp,PG (X.block AB s H (tn++cn) scope cl C fp) tg g) (ht:∀ AB s H cl C fp,Q9 (X.block AB s H (tn++cn) scope cl C fp) GP tt) (he:∀ AB s H cl C fp,PE (X.block AB s H (tn++cn) scope cl C fp) GO te)
  (hs:∀ x,foldedSetIterable iter X.env x=pure x:=by intro _;rfl):PE X (.ListComp GO [⟨tg,iter,GP,0⟩] scope pos) (B6 wi g tt te tn.length cap):=by
 intro AB s σ H Q I h
 obtain⟨cl,ecl,C1,GT⟩:=jK (env:=X.env) (scope:=scope) λx hx hxf=>I.ok.has x.1 (S.free x hx hxf)
 rw[eval_ListComp]
 refine wpAny_comprehension_free (use:=none) rfl hs ecl S.kind S.names (AW (hi AB s σ H _ I h) λv s1 h1=>AW h1 λitv s2 h2=> ?_)
 obtain⟨it,fp,tn',J,H2,e,I2,T,st2,f2,W,⟨m0,w0⟩,turn⟩:=h2
 subst e
 refine AW (jN I2 S hc C1 GT T st2 f2 (λC=>hg _ _ _ _ C _) (λC=>ht _ _ _ _ C _) (λC=>he _ _ _ _ C _) W w0 turn) λBV s3 h3=>AW h3 λcenv s4 h4=>codeAny_mono h4 λr s5 h5=> ?_
 have hr:=h5.ok
 subst hr
 obtain⟨D,H',rfl,I5,q5,hCn,m,hm⟩:=h5.inv I2 f2
 exact⟨m,hm,λh' hs'=>⟨.ref D,H',I2.letgo h5.ge I5 hCn hs',rfl,q5⟩⟩
theorem GA{i:Nat}{x:Str}{px spos:Pos}(S:N7 X scope tn cn cap)(hc:X.calm=true)(hN:X.N.Nodup)(hi':X.N[i]? =some x)(hx:X.env.scope.names.lookup x=some .local)(hi:PI X tg iter wi)
  (hg:∀ AB s H cl C fp,PG (X.block AB s H (tn++cn) scope cl C fp) tg g) (ht:∀ AB s H cl C fp,Q9 (X.block AB s H (tn++cn) scope cl C fp) GP tt) (he:∀ AB s H cl C fp,PE (X.block AB s H (tn++cn) scope cl C fp) GO te)
  (hsw:swapsWith (.ListComp GO [⟨tg,iter,GP,0⟩] scope pos) (some (.Name x px)) spos.line X.env=pure true:=by rfl)
  (hs:∀ x,foldedSetIterable iter X.env x=pure x:=by intro _;rfl):PS X (.Assign [.Name x px] (.ListComp GO [⟨tg,iter,GP,0⟩] scope pos) spos) (AS (B6 wi g tt te tn.length cap) (AG i)):=by
 intro AB s σ H D I h
 obtain⟨cl,ecl,C1,GT⟩:=jK (env:=X.env) (scope:=scope) λx hx hxf=>I.ok.has x.1 (S.free x hx hxf)
 rw[exec_Assign_Name_used _ _ _ _ hsw]
 refine wpAny_bind (wpAny_standAt (wpAny_bind ?_))
 unfold evalThenUse
 refine wpAny_bind ?_
 refine wpAny_comprehension_free (use:=some (assign (.Name x px) X.env)) rfl hs ecl S.kind S.names (AW (hi AB s σ H _ I h) λv s1 h1=>AW h1 λitv s2 h2=> ?_)
 obtain⟨it,fp,tn',J,H2,e,I2,T,st2,f2,W,⟨m0,w0⟩,turn⟩:=h2
 subst e
 refine AW (jN (Q:=λx' H1=>AG i x' σ H1 D.nx) I2 S hc C1 GT T st2 f2 (λC=>hg _ _ _ _ C _) (λC=>ht _ _ _ _ C _) (λC=>he _ _ _ _ C _) W w0 turn) λBV s3 h3=>AW h3 λcenv s4 h4=>codeAny_mono h4 λr s5 h5=> ?_
 have hr:=h5.ok
 subst hr
 obtain⟨Da,H',rfl,I5,q5,hCn,m,hm⟩:=h5.inv I2 f2
 show wpAny _ _ (assign (.Name x px) X.env (.ref Da)) _ _ s5
 refine wpAny_assign_Name (hG I5 hN hi' (.inl hx) (show RelV (.ref Da) (.ref Da)from rfl) (λs6 I6 hzz=> ?_) (.inr hx))
 obtain⟨a,hsb,ha⟩:=hzz
 refine⟨m,hm.sameBut hsb ?_,λh' hs'=> ?_⟩
 ·rcases ha with z | z
  ·exact Ne.symm (z ▸ F9 I2.lt h5.ge)
  ·obtain⟨vv,zc⟩:=I2.cell x a z
   exact Ne.symm (F9 zc.lt h5.ge)
 ·exact wpAny_pure (wpAny_pure ⟨σ.set i (some (.ref Da)),H',I2.letgo h5.ge I6 hCn hs',q5⟩)
end
end L2
namespace L2
theorem ObjOk.there{P:Program}{w:World}{H:Hp}{h:Heap}{a:Addr}{o:HO}(x:ObjOk P w H h a o):∃ ob,h.get? a=some ob:=by
 cases o with
 | lst xs=>obtain⟨_,_,_,_,e⟩:=x;exact⟨_,e⟩
 | tup xs=>obtain⟨_,_,_,ob,e,_⟩:=x;exact⟨_,e⟩
 | dK kvs=>obtain⟨_,_,_,_,ob,_,_,e,_⟩:=x;exact⟨_,e⟩
 | dT kvs=>obtain⟨_,_,_,_,ob,_,_,e,_⟩:=x;exact⟨_,e⟩
 | set S n=>obtain⟨ob,_,_,_,e,_⟩:=x;exact⟨_,e⟩
 | ins C dx fs=>obtain⟨_,_,_,e,_⟩:=x;exact⟨_,e⟩
 | own y=>exact x
 | xd fs=>obtain⟨_,⟨ob,_,_,e,_⟩,_⟩:=x;exact⟨_,e⟩
 | rng lo hi=>obtain⟨_,_,_,e⟩:=x;exact⟨_,e⟩
 | frz ob u=>obtain⟨e,_⟩:=x;exact⟨_,e⟩
 | tbl ps=>exact⟨_,show h.get? a=some _ from x⟩
 | met f y=>exact⟨_,show h.get? a=some _ from x⟩
 | ext φ =>exact x.2.1
theorem HOk.nh{P:Program}{w:World}{H:Hp}{h:Heap}{a:Addr}(x:HOk P w H h)(e:h.get? a=none):H a=none:=by
 cases q:H a with
 | none=>rfl
 | some o =>
  obtain⟨ob,e'⟩:=(x a o q).there
  rw[e]at e';cases e'
section
variable{X:Cx}{AB:List (Addr × Obj)}{σ:St}{H H':Hp}{s:Shared}{h':Heap}
theorem Inv.stepN{g':Array GenState}{t':Nat}{d':Drawn}{ch:List Addr}(I:Inv X AB σ H s)
  (E8:∀ b∈ch,(b∈X.ex\/X.s₀.heap.get? b=none)/\b≠X.env.locals/\(∀ x c,X.env.cells.lookup x=some c->c≠b)/\∀ p∈X.pn++AB,p.1≠b)
  (keep:∀ b o,b≠X.env.locals->b∉X.fs->b∉ch->s.heap.get? b=some o->H b=none->h'.get? b=some o)
  (slot:∀ b o,b≠X.env.locals->b∈X.fs->b∉ch->s.heap.get? b=some o->H b=none->∃ sl,h'.get? b=some { o with slots:=sl }) (free:∀ b o,b∉ch->s.heap.get? b=some o->H b=none->H' b=none)
  (there:∀ b o,b∉ch->s.heap.get? b=some o->∃ o',h'.get? b=some o')
  (tups:∀ b xs,H b=some (.tup xs)->H' b=some (.tup xs)) (frzs:∀ b o u,H b=some (.frz o u)->H' b=some (.frz o u)) (tbls:∀ b ps,H b=some (.tbl ps)->∃ more,H' b=some (.tbl (ps++more)))
  (ns:∀ m,s.heap.Ns X.env.locals m->h'.Ns X.env.locals m) (hok:HOk X.prog X.w H' h') (hg:AllBare g') :
  Inv X AB σ H' { s with heap:=h',gens:=g',drawn:=d',toks:=t' }:=by
 have neL:∀ b o,X.s₀.heap.get? b=some o->b≠X.env.locals:=λb o e=>Nat.ne_of_lt (Nat.lt_of_lt_of_le (Heap.lt_size e) I.ok.above)
 have neC:∀ b o,X.s₀.heap.get? b=some o->b∉X.ex->b∉ch:=λb o e hx hb=>by
  rcases(E8 b hb).1 with z | z
  ·exact hx z
  ·rw[e]at z;cases z
 have cellK:∀ x c,X.env.cells.lookup x=some c->∀ v,s.heap.IsCell c v->h'.IsCell c v:=λx c e v ⟨o,ho,hd⟩=>by
  have nch:c∉ch:=λz=>(E8 c z).2.2.1 x c e rfl
  by_cases hc:c∈X.fs
  ·obtain⟨sl,q⟩:=slot c o (I.cne x c e) hc nch ho (I.freeC x c e)
   exact⟨_,q,hd⟩
  ·exact⟨o,keep c o (I.cne x c e) hc nch ho (I.freeC x c e),hd⟩
 refine⟨I.ok,I.os,hg,⟨λb o e n hb hx=> ?_,λb o e n hb hx=> ?_,λb o e n hx=> ?_,λb o e hx=> ?_,λb xs e=>tups b xs (I.base.tups b xs e),λb o xs e=>frzs b o xs (I.base.frzs b o xs e),λb ps e=> ?_⟩,?_,λx c e=> ?_,?_,λx c e=> ?_,λp hp=> ?_,hok,I.len⟩
 ·exact keep b o (neL b o e) hb (neC b o e hx) (I.base.keep b o e n hb hx) (I.base.free b o e n hx)
 ·obtain⟨sl,e1⟩:=I.base.slot b o e n hb hx
  obtain⟨sl',e2⟩:=slot b _ (neL b o e) hb (neC b o e hx) e1 (I.base.free b o e n hx)
  exact⟨sl',e2⟩
 ·obtain⟨o',e1⟩:=I.base.there b o e hx
  exact free b o' (neC b o e hx) e1 (I.base.free b o e n hx)
 ·obtain⟨o',e1⟩:=I.base.there b o e hx
  exact there b o' (neC b o e hx) e1
 ·obtain⟨m1,e1⟩:=I.base.tbls b ps e
  obtain⟨m2,e2⟩:=tbls b _ e1
  exact⟨m1++m2,by rw[e2,Array.append_assoc]⟩
 ·obtain⟨m,hn,hl⟩:=I.loc
  refine⟨m,ns m hn,λi x v e1 e2 e3=> ?_⟩
  obtain⟨u,r,l⟩:=hl i x v e1 e2 e3
  refine⟨u,r,?_⟩
  rcases l with l | ⟨k,c,e,z⟩
  ·exact .inl l
  ·exact .inr ⟨k,c,e,cellK x c e _ z⟩
 ·obtain⟨v,z⟩:=I.cell x c e
  exact⟨v,cellK x c e v z⟩
 ·obtain⟨m,⟨o,_,_,ho,_⟩,_⟩:=I.loc
  exact free _ o (λz=>(E8 _ z).2.1 rfl) ho I.free
 ·obtain⟨v,o,ho,hd⟩:=I.cell x c e
  exact free c o (λz=>(E8 c z).2.2.1 x c e rfl) ho (I.freeC x c e)
 ·obtain⟨e,n,ne,nf,d⟩:=I.pin p hp
  have nch:p.1∉ch:=λz=>(E8 p.1 z).2.2.2 p hp rfl
  exact⟨keep p.1 p.2 ne nf nch e n,free p.1 p.2 nch e n,ne,nf,d⟩
end
structure Fly(bad:Addr->Prop)(H:Hp)(h:Heap)(e:Addr)(cls:Value):Prop where
 nb:¬ bad e
 free:H e=none
 ex:∃ (oe:Obj) (vs:Array Value),h.get? e=some oe/\oe.cls=cls/\oe.dict=none/\oe.data=.fields vs/\(vs[1]? =some .none ∨
  ∃ (T:Addr) (oT:Obj) (ts:Array Value),vs[1]? =some (.ref T)/\¬ bad T/\H T=none/\T≠e/\h.get? T=some oT/\oT.data=.fields ts/\ts[3]? =some .none)
theorem Fly.mono{bad bad':Addr->Prop}{H:Hp}{h:Heap}{e:Addr}{cls:Value}(F:Fly bad H h e cls)(k:∀ a,bad' a->bad a):Fly bad' H h e cls:=by
 obtain⟨nb,fr,oe,vs,h1,h2,h3,h4,h5⟩:=F
 refine⟨λz=>nb (k _ z),fr,oe,vs,h1,h2,h3,h4,?_⟩
 rcases h5 with z | ⟨T,oT,ts,a,b,c⟩
 ·exact .inl z
 ·exact .inr ⟨T,oT,ts,a,λz=>b (k _ z),c⟩
section
variable{M:Model}{A:Around}{E:Value->Shared->Prop}{s:Shared}
theorem jO{base:Heap}{env:Env}{outer:List Env}{L e:Addr}{oe:Obj}{vs:Array Value}{hd:Value}{nx:Bool}{Q:Unit->Shared->Prop}
  (G2:A.frames=some (env::outer)) (hl:s.heap.FunFrames base (env::outer)) (hf:env.frame=some L) (he:s.heap.get? e=some oe) (hdt:oe.data=.fields vs) (hsz:1<vs.size)
  (h:∀ h' T oT ts,(∀ b o,s.heap.get? b=some o->b≠e->b∉E9 (env::outer)->h'.get? b=some o)->(∀ b o,s.heap.get? b=some o->b≠e->∃ sl,h'.get? b=some { o with slots:=sl }) →
   h'.get? e=some (oe.mapFields (·.setIfInBounds 1 (.ref T)))->s.heap.objs.size<=T->h'.get? T=some oT->oT.data=.fields ts->ts[3]? =some (rawInt L)->Q () { s with heap:=h' }) :
  wpAny M A (do let a ← frameOf env;let pl ← entryPlaceOf L nx;let b ← EntryCells.newEntry hd a .none (rawInt L) .none pl;setField (.ref e) 1 b) Q E s:=by
 have hne:e∉(env::outer).filterMap (·.frame):=λz=>by
  obtain⟨_,o,ho,hn⟩:=hl.mem z
  rw[he]at ho;cases ho
  exact hn vs hdt
 refine wpAny_bind (wpAny_frameOf_fun G2 hl hf λh1 hs1=> ?_)
 refine wpAny_bind (wpAny_entryPlaceOf λpl CF=> ?_)
 unfold EntryCells.newEntry newFields
 refine wpAny_bind (wpAny_newObj_type ?_ (CF.sizeOk5 _ _ _ _ _))
 have he1:h1.get? e=some oe:=(hs1.2.1 e hne).trans he
 refine wpAny_setField (Heap.get?_push_of_some _ he1) hdt hsz ?_
 have hTe:h1.objs.size≠e:=Nat.ne_of_gt (Heap.lt_size he1)
 have hd3:=Obj.data_mapFields hdt (·.setIfInBounds 1 (Value.ref h1.objs.size))
 have keep:∀ b o,b≠e->h1.get? b=some o->((h1.push { cls:=.type "traceback",dict:=none,data:=.fields ([hd,.ref L,.none,rawInt L,.none]++(if pl.isEmpty then List.replicate 6 Value.none else pl)).toArray }).update e (Obj.mapFields (·.setIfInBounds 1 (Value.ref h1.objs.size)))).get? b=some o:=λb o hb e1=>by
  rw[Heap.get?_update_other _ _ (Ne.symm hb)]
  exact Heap.get?_push_of_some _ e1
 refine h _ h1.objs.size _ _ (λb o e1 hb hnf=>keep b o hb ((hs1.2.1 b hnf).trans e1)) (λb o e1 hb=> ?_) (Heap.get?_update_self _ (Heap.get?_push_of_some _ he1) (Obj.isFreed_of_fields hd3)) (by rw[hs1.1];exact Nat.le_refl _)
  ((Heap.get?_update_other _ _ (Ne.symm hTe)).trans (Heap.get?_push_size _ rfl)) rfl ?_
 ·obtain⟨sl,e2⟩:=hs1.2.2 b o e1
  exact⟨sl,keep b _ hb e2⟩
 ·first | (simp;done) | (rcases CF with rfl | ⟨_,_,_,_,_,_,_,rfl⟩<;>simp)
structure XI(fr:List Addr)(bad:Addr->Prop)(H:Hp)(e:Addr)(cls:Value)(h h':Heap):Prop where
 ch:∃ ch:List Addr,(∀ b∈ch,¬ bad b/\H b=none/\∃ o vs,h.get? b=some o/\o.data=.fields vs)/\(∀ b o,h.get? b=some o->b∉ch->b∉fr->h'.get? b=some o) ∧
  (∀ b o,h.get? b=some o->b∉ch->∃ sl,h'.get? b=some { o with slots:=sl })
 fly:Fly bad H h' e cls
theorem jP{A2:Around}{E2:Value->Shared->Prop}{base:Heap}{env:Env}{outer:List Env}{L e:Addr}{cls:Value}{bad:Addr->Prop}{H:Hp}{Q:Unit->Shared->Prop}
  (G2:A.frames=some (env::outer)) (hl:s.heap.FunFrames base (env::outer)) (hf:env.frame=some L) (F:Fly bad H s.heap e cls) (hb:∀ a,s.heap.objs.size<=a->¬ bad a) (hH:∀ a,s.heap.objs.size<=a->H a=none)
  (h:∀ h',XI (E9 (env::outer)) bad H e cls s.heap h'->Q () { s with heap:=h' }) :
  wpAny M A (noteFrame (.ref e) env) (λ_ s2=>wpAny M A2 (setFlight (.ref e) none) Q E2 s2) E s:=by
 obtain⟨nb,fr,oe,vs,he,MG,QM,hd,htb⟩:=F
 have DS:∀ (s1:Shared) (ch:List Addr) (h':Heap) (T:Addr) (oT:Obj) (ts:Array Value) (oe1:Obj),(∀ b o,s.heap.get? b=some o->s1.heap.get? b=some o\/b∈ch)->s1.heap.objs.size=s.heap.objs.size->e∈ch->(∀ b∈ch,¬ bad b/\H b=none/\∃ o vs,s.heap.get? b=some o/\o.data=.fields vs) →
   oe1.cls=cls->oe1.dict=none->oe1.data=.fields vs->1<vs.size →
   (∀ b o,s1.heap.get? b=some o->b≠e->b∉E9 (env::outer)->h'.get? b=some o)->(∀ b o,s1.heap.get? b=some o->b≠e->∃ sl,h'.get? b=some { o with slots:=sl }) →
   h'.get? e=some (oe1.mapFields (·.setIfInBounds 1 (.ref T)))->s1.heap.objs.size<=T->h'.get? T=some oT->oT.data=.fields ts->ts[3]? =some (rawInt L)->wpAny M A2 (setFlight (.ref e) none) Q E2 { s with heap:=h' }:=by
  intro s1 ch h' T oT ts oe1 hk1 hsz hech E8 hcls1 hdict1 hd1 hv k1 k2 e1 hT e2 hdT h3
  have hT':s.heap.objs.size<=T:=hsz ▸ hT
  have hTe:T≠e:=Ne.symm (F9 (Heap.lt_size he) hT')
  have hde:=Obj.data_mapFields hd1 (·.setIfInBounds 1 (Value.ref T))
  unfold setFlight
  refine wpAny_bind (wpAny_field e1 hde (x:=.ref T) (by simp[hv]) ?_)
  rw[if_pos (show(Value.ref T != Value.none)=true from by simp)]
  have hs3:3<ts.size:=(Array.getElem?_eq_some_iff.mp h3).1
  refine wpAny_setField e2 hdT hs3 (h _ ?_)
  have oth:∀ b,b≠T->(h'.update T (Obj.mapFields (·.setIfInBounds 3 ((none:Option Addr).elim Value.none λf=>rawInt f)))).get? b=h'.get? b:=λb hb'=>Heap.get?_update_other _ _ (Ne.symm hb')
  have ltT:∀ b o,s.heap.get? b=some o->b≠T:=λb o eb=>F9 (Heap.lt_size eb) hT'
  refine⟨⟨ch,E8,λb o eb hbc hbf=> ?_,λb o eb hbc=> ?_⟩,nb,fr,_,_,(oth e (Ne.symm hTe)).trans e1,(Obj.cls_mapFields _ _).trans hcls1,?_,hde,.inr ⟨T,_,_,by simp[hv],hb T hT',hH T hT',hTe,Heap.get?_update_self _ e2 (Obj.isFreed_of_fields (Obj.data_mapFields hdT _)),Obj.data_mapFields hdT _,by simp[hs3]⟩⟩
  ·rw[oth b (ltT b o eb)]
   rcases hk1 b o eb with z | z
   ·exact k1 b o z (λz'=>hbc (z' ▸ hech)) hbf
   ·exact absurd z hbc
  ·rw[oth b (ltT b o eb)]
   rcases hk1 b o eb with z | z
   ·exact k2 b o z (λz'=>hbc (z' ▸ hech))
   ·exact absurd z hbc
  ·obtain⟨c1,c2,c3,c4⟩:=oe1
   dsimp only at hd1
   subst hd1
   exact hdict1
 unfold noteFrame
 simp only[hf]
 rcases htb with h1 | ⟨T0,oT0,ts0,h1,nbT,frT,neT,eT,dT,h3⟩
 ·have hv:1<vs.size:=(Array.getElem?_eq_some_iff.mp h1).1
  refine wpAny_bind (wpAny_field he hd h1 ?_)
  rw[if_neg (by decide)]
  refine jO G2 hl hf he hd hv λh' T oT ts k1 k2 e1 hT e2 hdT h3=> ?_
  exact DS s [e] h' T oT ts oe (λb o eb=>.inl eb) rfl (by simp) (λb hb'=>by rw[List.mem_singleton]at hb';subst hb';exact⟨nb,fr,oe,vs,he,hd⟩) MG QM hd hv k1 k2 e1 hT e2 hdT h3
 ·have hv:1<vs.size:=(Array.getElem?_eq_some_iff.mp h1).1
  refine wpAny_bind (wpAny_field he hd h1 ?_)
  rw[if_pos (show(Value.ref T0 != Value.none)=true from by simp)]
  refine wpAny_bind (wpAny_field eT dT h3 ?_)
  rw[if_neg (show ¬ ((Value.none == rawInt L)=true)from by simp[rawInt])]
  refine wpAny_bind (wpAny_setField eT dT (Array.getElem?_eq_some_iff.mp h3).1 ?_)
  have oth:∀ b,b≠T0->(s.heap.update T0 (Obj.mapFields (·.setIfInBounds 3 Value.none))).get? b=s.heap.get? b:=λb hb'=>Heap.get?_update_other _ _ (Ne.symm hb')
  have nf:∀ b o,s.heap.get? b=some o->(∀ vs,o.data≠.fields vs)->b≠T0:=λb o eb hn z=>by rw[z,eT]at eb;cases eb;exact hn ts0 dT
  refine jO G2 (hl.of_keeps λb o eb hn=>⟨o,(oth b (nf b o eb hn)).trans eb,rfl⟩) hf ((oth e (Ne.symm neT)).trans he) hd hv λh' T oT ts k1 k2 e1 hT e2 hdT h3'=> ?_
  exact DS { s with heap:=s.heap.update T0 (Obj.mapFields (·.setIfInBounds 3 Value.none)) } [e,T0] h' T oT ts oe
   (λb o eb=>by
    by_cases z:b=T0
    ·exact .inr (by simp[z])
    ·exact .inl ((oth b z).trans eb))
   (Heap.size_after_update ..) (by simp)
   (λb hb'=>by
    rcases List.mem_cons.mp hb' with z | z
    ·subst z;exact⟨nb,fr,oe,vs,he,hd⟩
    ·rw[List.mem_singleton]at z;subst z;exact⟨nbT,frT,oT0,ts0,eT,dT⟩)
   MG QM hd hv k1 k2 e1 hT e2 hdT h3'
end
def Cx.bad(X:Cx)(AB:List (Addr × Obj)):Addr->Prop:=λa=>X.s₀.heap.get? a≠none\/∃ p∈X.pn++AB,p.1=a
structure XOk(X:Cx)(E:St->XK):Prop where
 po:PassesOwn (model X.prog X.w) X.A X.env X.xe
 ex:X.ex=[]
 calm:X.calm=true
 go:∀ (AB:List (Addr × Obj)) (σ:St) (H:Hp) (s:Shared) (e:Addr) (cls:Value),Inv X AB σ H s->Fly (X.bad AB) H s.heap e cls->E σ cls none H->X.xe (.ref e) s
section
variable{X:Cx}{AB:List (Addr × Obj)}{σ:St}{H:Hp}{s:Shared}
theorem Inv.notbad(I:Inv X AB σ H s)(hx:X.ex=[]){a:Addr}(h:s.heap.get? a=none):¬ X.bad AB a:=λz=>by
 rcases z with z | ⟨p,hp,rfl⟩
 ·cases q:X.s₀.heap.get? a with
  | none=>exact z q
  | some o =>
   obtain⟨o',e⟩:=I.base.there a o q (by rw[hx];simp)
   rw[h]at e;cases e
 ·have:=(I.pin p hp).1
  rw[h]at this;cases this
theorem jQ{h:Heap}{a:Addr}(z:h.objs.size<=a):h.get? a=none:=by
 cases q:h.get? a with
 | none=>rfl
 | some o=>exact absurd (Nat.lt_of_lt_of_le (Heap.lt_size q) z) (Nat.lt_irrefl _)
theorem Inv.noted{e:Addr}{cls:Value}{h':Heap}(I:Inv X AB σ H s)(N:XI (E9 X.stack) (X.bad AB) H e cls s.heap h'):Inv X AB σ H { s with heap:=h' }:=by
 obtain⟨⟨ch,E8,k1,k2⟩,_⟩:=N
 obtain⟨mL,⟨oL,esL,epL,hoL,dL,rL⟩,_⟩:=id I.loc
 have chne:∀ b∈ch,∀ o,s.heap.get? b=some o->∃ vs,o.data=.fields vs:=λb hb o eb=>by
  obtain⟨_,_,o',vs,e',d⟩:=E8 b hb
  rw[eb]at e';cases e'
  exact⟨vs,d⟩
 have hL:X.env.locals∉ch:=λz=>by
  obtain⟨vs,d⟩:=chne _ z _ hoL
  rw[dL]at d;cases d
 refine I.stepN (g':=s.gens) (t':=s.toks) (d':=s.drawn) (ch:=ch) (λb hb=>⟨.inr ?_,λz=>hL (z ▸ hb),λx c ec z=> ?_,λp hp z=>(E8 b hb).1 (.inr ⟨p,hp,z⟩)⟩)
  (λb o hbL hbf hbc eb _=>k1 b o eb hbc λz=>(List.mem_cons.mp (I.stkSub b z)).elim hbL hbf) (λb o _ _ hbc eb _=>k2 b o eb hbc) (λ_ _ _ _ n=>n) (λb o hbc eb=> ?_) (λ_ _ q=>q) (λ_ _ _ q=>q) (λb ps q=>⟨#[],by rw[q];simp⟩) (λm hm=> ?_) (λb o eb=> ?_) I.bare
 ·cases q:X.s₀.heap.get? b with
  | none=>rfl
  | some o=>exact absurd (.inl (by rw[q];simp)) (E8 b hb).1
 ·obtain⟨v,oc,hoc,hd⟩:=I.cell x c ec
  obtain⟨vs,d⟩:=chne c (z ▸ hb) oc hoc
  rw[hd]at d;cases d
 ·obtain⟨sl,q⟩:=k2 b o eb hbc
  exact⟨_,q⟩
 ·obtain⟨o',es',ep',ho',r'⟩:=hm
  rw[hoL]at ho';cases ho'
  obtain⟨sl,q⟩:=k2 _ _ hoL hL
  exact⟨_,es',ep',q,r'⟩
 ·refine(I.hok b o eb).stay (λc u hc q=>k1 c u q ?_ ?_) (λ_ q=>q) λ_ _ q=>q
  ·intro z
   have fr:=(E8 c z).2.1
   rcases hc with rfl | hc
   ·rw[eb]at fr;cases fr
   ·rw[hc]at fr;cases fr
  ·intro z
   have fr:=I.stkFree c z
   rcases hc with rfl | hc
   ·rw[eb]at fr;cases fr
   ·rw[hc]at fr;cases fr
def FE(P:Program)(w:World):IH:=λouter H s E e s'=>∃ (ea:Addr) (cls:Value) (H':Hp),e=.ref ea/\s'.os=s.os/\AllBare s'.gens/\Un (E9 outer) [] H H' s.heap s'.heap/\HOk P w H' s'.heap/\Fly (λa=>s.heap.get? a≠none) H' s'.heap ea cls/\E cls none H'
theorem jR{P:Program}{w:World}{outer:List Env}{H:Hp}{s:Shared}{e:Value}{s':Shared}(h:FE P w outer H s (λ_ _ _=>False) e s'):False:=by
 obtain⟨_,_,_,_,_,_,_,_,_,f⟩:=h
 exact f
theorem XOk.passes{E:St->XK}(x:XOk X E):II (FE X.prog X.w) X E:=λAB σ H s e s' I h=>by
 obtain⟨ea,cls,H',rfl,os,bare,un,hok,F,q⟩:=h
 refine x.go AB σ H' s' ea cls (I.call' (ch:=[]) os un hok bare λb z=>absurd z (by simp)) (F.mono λa z=> ?_) q
 rcases z with z | ⟨p,hp,rfl⟩
 ·cases q0:X.s₀.heap.get? a with
  | none=>exact absurd q0 z
  | some o =>
   obtain⟨o',e⟩:=I.base.there a o q0 (by rw[x.ex];simp)
   rw[e];simp
 ·rw[(I.pin p hp).1];simp
theorem HI{P:Program}{w:World}:II (FE P w) X (λ_=>E0):=λ_ _ _ _ _ _ _ h=>(jR h).elim
end
theorem Hq{P:Program}{w:World}{K:W.Frag}{mg:Str->Option Value}{base:Heap}{N:List Str}{qual:Str}{scope:Scope}{f:Addr}{cd:Value}{A:Around}{outer:List Env}{s:Shared}{H:Hp}{E:XK} :
  XOk (JA (FE P w) P w K mg base N qual scope f cd A outer s H E) (λ_=>E) where
 po:=PassesOwn.leaving
 ex:=rfl
 calm:=rfl
 go:=λAB σ H' s' e cls I F q=>by
  have G2:(A.deeper (envOfC qual scope s.heap.objs.size f cd)).frames=some (envOfC qual scope s.heap.objs.size f cd::outer):=I.ok.frames
  show wpAny _ _ (leaving _ _) _ _ _
  unfold leaving
  refine wpAny_bind (jP G2 I.stack rfl F (λa z=>I.notbad rfl (jQ z)) (λa z=>I.hok.fresh z) λh' N=> ?_)
  have I':=I.noted N
  exact⟨e,cls,H',rfl,I'.os,I'.bare,I'.base,I'.hok,N.fly.mono λa z=>.inl z,q⟩
structure Exc(K:W.Frag)(C:Addr):Prop where
 ex:W.excIn K C [.type "ValueError",.type "Exception",.type "BaseException",.type "object"] "ValueError.__new__"=true
theorem Exc.obj{K:W.Frag}{C:Addr}{h:Heap}(x:Exc K C)(X:K.In h):∃ (tl:List Value) (N:Addr) (nm q:Str) (bs:List Value) (hdct:Bool) (sn:List Str) (sub:List Value) (ab:Bool) (col:Option Bool) (dd:Option Addr) (k0 k1 k2 k3 k5:Option Value) (mN:Str->Option Value),
  h.get? C=some (excClassObj nm q C N bs tl hdct sn sub ab col dd k0 k1 k2 k3 k5 "ValueError.__new__")/\h.Ns N mN/\mN "__init__"=none/\OwnTail h [.type "ValueError",.type "Exception",.type "BaseException",.type "object"] tl:=by
 have q:=x.ex
 unfold W.excIn at q
 split at q
 ·rename_i dd cd sl ho
  split at q
  ·rename_i C' bm k0 k1 k2 k3 n k5 hm hs
   simp only[Bool.and_eq_true,beq_iff_eq,Bool.not_eq_true']at q
   obtain⟨⟨⟨⟨⟨rfl,rfl⟩,hdel⟩,ht⟩,hok⟩,hni⟩:=q
   obtain⟨nm,bs,mro,ns,qn,hd,sn,sub,ab,col,del⟩:=cd
   dsimp only at hm hdel hok hni
   subst hm hdel
   obtain⟨l⟩:=sl
   simp only at hs
   subst hs
   exact⟨bm,ns,nm,qn,bs,hd,sn,sub,ab,col,dd,k0,k1,k2,k3,k5,_,X _ _ ho,.of_isNs (W.isNs_of_in X hok),W.nsMap_none_of_in X hok hni,W.tail_of_in X ht⟩
  ·cases q
 ·cases q
def MP(C:Addr)(E:St->XK)(t:TA):TS:=λ_ σ H=>t σ H λvs H1=>vs.length<=sizeLine/\E σ (.ref C) none H1
section
variable{X:Cx}{E:St->XK}{C:Addr}{x:Str}{np D5 pos:Pos}{e:Expr}{es:List Expr}{t:TA}
theorem RA(hx:XOk X E)(c:Exc X.K C)(hg:Gl X x)(hm:X.mg x=some (.ref C))(ha:PA X (e::es) t)(hdb:(x ==("__debug__":Str))=false:=by decide)
  (he:starEach (e::es) X.env=(false,eval e X.env)::starEach es X.env:=by rfl) (CF:(backTo D5 (starEach es X.env)).any (·.1)=false:=by rfl) :
  PS X (.Raise (some (.Call (.Name x np) (e::es) [] D5)) none pos) (MP C E t):=by
 intro AB s σ H D I h
 obtain⟨tl,N,nm,q,bs,hdct,sn,sub,ab,col,dd,k0,k1,k2,k3,k5,mN,hC,hN,hni,T⟩:=c.obj I.mod.kin
 have hpl2:(backTo D5 (starEach (e::es) X.env)).any (·.1)=false:=by
  rw[he]
  show(false || (backTo D5 (starEach es X.env)).any (·.1))=false
  rw[CF];rfl
 refine wpAny_Raise_call_subT (C:=C) (nm:=nm) (q:=q) (N:=N) (bs:=bs) (bm:=tl) (hdct:=hdct) (sn:=sn) (sub:=sub) (ab:=ab) (col:=col) (dd:=dd) (k0:=k0) (k1:=k1) (k2:=k2) (k3:=k3) (k5:=k5)
  PySem.F.excBase_ValueError (mN:=mN) (T.hasType PySem.F.excBase_ValueError.hasBase) (I.ok.hd hx.calm) hpl2 hni (QU I hg hm ⟨rfl,?_⟩ hdb)
 have hq:=ha D5 AB s σ H _ I h
 rw[he]at hq ⊢
 refine Calls.evalArgs_plain (AW hq λus s1 ⟨vs,H1,I1,r,hz,q1⟩=>⟨rfl,?_,I1.bk _ _ hC,hN.keeps I1.bk,T.keeps I1.bk,λh' ea hM=> ?_⟩)
 ·show us.length<=_
  rw[<-r.length];exact hz
 ·have I2:Inv X AB σ H1 { s1 with heap:=h' }:=I1.kept (t':=s1.toks) hM.keeps
  obtain⟨tt,h1,h2,h3⟩:=hM.there
  refine hx.go AB σ H1 _ ea (.ref C) I2 ⟨λz=>I1.notbad hx.ex hM.new z,I1.hok.nh hM.new,_,_,h1,rfl,rfl,rfl,.inl rfl⟩ q1
end
end L2
namespace L2
section
variable(P:Program)(w:World)(K:W.Frag)(mg:Str->Option Value)(base:Heap)
structure BS(k:Nat)(x:Str)(ps:List Str)(sp:Sp):Prop where
 ex:∃ (f:Addr) (fd:FuncData),FnOk P w K mg base (FE P w) k f fd ps sp/\mg x=some (.ref f)/\W.keepIn K (.ref f)=true/\Binds K fd ps []
structure BQ(C:Addr)(k:Nat)(m:Str)(ps:List Str)(sp:Sp):Prop where
 ex:∃ (f:Addr) (fd:FuncData),FnOk P w K mg base (FE P w) k f fd ps sp/\S6 K C m f/\Binds K fd ps []
structure KN(C:Addr)(k:Nat)(x:Str)(ps:List Str)(sp:Sp):Prop where
 ex:∃ (f:Addr) (fd:FuncData),FnOk P w K mg base (FE P w) k f fd ps sp/\Mk K C f/\mg x=some (.ref C)/\Binds K fd ps []
end
section
variable{X:Cx}{E:St->XK}{k:Nat}{x m:Str}{ps:List Str}{sp:Sp}{C:Addr}{p pos DI:Pos}{e o:Expr}{es:List Expr}{ta:TE}{t:TA}
theorem jS(c:BS X.prog X.w X.K X.mg X.base k x ps sp)(hr:Room k X.A)(hp:II (FE X.prog X.w) X E)(hg:Gl X x)(ha:PA X (e::es) t)(hdb:(x ==("__debug__":Str))=false:=by decide)
  (he:starEach (e::es) X.env=(false,eval e X.env)::starEach es X.env:=by rfl) (CF:(backTo pos (starEach es X.env)).any (·.1)=false:=by rfl):PE X (.Call (.Name x p) (e::es) [] pos) (BE sp [] E t):=by
 obtain⟨f,fd,F,hm,hk,hb⟩:=c.ex
 exact Eg F hr hg hm hk hb .nil hp ha hdb he CF
theorem G5{pl:Sem Bool}(he:PE X o ta)(cl:Cls X.K C)(c:BQ X.prog X.w X.K X.mg X.base C k m ps sp)(hr:Room k X.A)(hp:II (FE X.prog X.w) X E)(ha:PA X (e::es) t)
  (hst:starEach (e::es) X.env=(false,eval e X.env)::starEach es X.env:=by rfl) (CF:(backTo pos (starEach es X.env)).any (·.1)=false:=by rfl)
  (ht:eval (.Call (.Attribute o m DI) (e::es) [] pos) X.env=(do
   let ov ← eval o X.env
   standAt DI.atName
   let (f,first) ← holding [ov] (getMethod ov m pl)
   callWith pos f first (backTo pos (starEach (e::es) X.env)) (backToKw pos (keywordEach [] X.env))):=by rfl):PE X (.Call (.Attribute o m DI) (e::es) [] pos) (BC C m sp [] E ta t):=by
 obtain⟨f,fd,F,hm,hb⟩:=c.ex
 exact Eh he cl hm F hr hb .nil hp ha hst CF ht
theorem Hv{pl:Sem Bool}(he:PE X o ta)(cl:Cls X.K C)(c:BQ X.prog X.w X.K X.mg X.base C k m ps sp)(hr:Room k X.A)(hp:II (FE X.prog X.w) X E)
  (ht:eval (.Call (.Attribute o m DI) [] [] pos) X.env=(do
   let ov ← eval o X.env
   standAt DI.atName
   let (f,first) ← holding [ov] (getMethod ov m pl)
   callWith pos f first (backTo pos (starEach [] X.env)) (backToKw pos (keywordEach [] X.env))):=by rfl):PE X (.Call (.Attribute o m DI) [] [] pos) (BC C m sp [] E ta BI):=by
 obtain⟨f,fd,F,hm,hb⟩:=c.ex
 exact Ej he cl hm F hr hb .nil hp ht
theorem MQ(c:KN X.prog X.w X.K X.mg X.base C k x ps sp)(hr:Room (k+1) X.A)(hp:II (FE X.prog X.w) X E)(hg:Gl X x)(ha:PA X (e::es) t)(hdb:(x ==("__debug__":Str))=false:=by decide)
  (he:starEach (e::es) X.env=(false,eval e X.env)::starEach es X.env:=by rfl) (CF:(backTo pos (starEach es X.env)).any (·.1)=false:=by rfl):PE X (.Call (.Name x p) (e::es) [] pos) (JM C sp [] E t):=by
 obtain⟨f,fd,F,M,hm,hb⟩:=c.ex
 exact El M F hr hg hm hb .nil hp ha hdb he CF
end
theorem Fun.okE{P:Program}{w:World}{K:W.Frag}{mg:Str->Option Value}{base:Heap}{x qual:Str}{st:Stmt}{f:Addr}{fd:FuncData}{N ps:List Str}{k:Nat}{sp:Sp}(F:Fun K x qual st f fd)(S:FnScope N ps (AZ st))(len:∀ vs H Q E,sp vs H Q E->vs.length=ps.length)
  (gW:∀ (CG:Value) (A:Around) (outer:List Env) (s:Shared) (H:Hp) (vs:List V) (Q:VK) (E:XK),Room k (A.deeper (envOfC qual (AZ st) s.heap.objs.size f CG))->sp vs H Q E →
   ∃ t,HG (JA (FE P w) P w K mg base N qual (AZ st) f CG A outer s H E) (IK st) t/\t { nx:=λ_ H'=>Q .non H',rt:=Q } (A4 N vs) H):FnOk P w K mg base (FE P w) (k+1) f fd ps sp:=by
 obtain⟨oc,od,kV,doc,pm,an,CG,ct,osl,rfl,l,c⟩:=F.ex
 exact Ep l c S len λA outer s H vs Q E hr h=>gW CG A outer s H vs Q E hr h
def GV(mg:Str->Option Value)(x:Str)(v:V):Prop:=∃ u,mg x=some u/\RelV v u
theorem LN{X:Cx}{x:Str}{v:V}{pos:Pos}(g:GV X.mg x v)(hg:Gl X x)(hd:(x ==("__debug__":Str))=false:=by decide):PE X (.Name x pos) (tC v):=by
 obtain⟨u,hm,r⟩:=g
 exact Bm hg hm r hd
theorem jT{α :Type}(p: α ->Bool):∀ (l:List α) (i:Nat),(∀ x,l[i]? =some x->p x=false)->(l.eraseIdx i).find? p=l.find? p
 | [],_,_=>rfl
 | x::r,0,h=>by
  have:p x=false:=h x rfl
  simp[List.eraseIdx,List.find?,this]
 | x::r,i+1,h=>by
  rw[List.eraseIdx_cons_succ]
  simp only[List.find?_cons]
  rw[jT p r i λy hy=>h y (by simpa using hy)]
theorem Hw{v:Value}{x y:Str}(h:v.isStr x=true)(hxy:y≠x):v.isStr y=false:=by
 cases v with
 | str z t =>
  have e:z=x:=by simpa [Value.isStr]using h
  subst e
  simp only[Value.isStr]
  exact beq_eq_false_iff_ne.mpr (Ne.symm hxy)
 | _=>simp[Value.isStr]at h
theorem Hx{M:Model}{A:Around}{E:Value->Shared->Prop}{s:Shared}{a:Addr}{m:Str->Option Value}{name:Str}{Q:Bool->Shared->Prop}(hn:s.heap.Ns a m)
  (hQ:∀ h' m',h'.Ns a m'->(∀ y,y≠name->m' y=m y)->Heap.SameBut a s.heap h'->Q (m name).isSome { s with heap:=h' }):wpAny M A (nsDel a name) Q E s:=by
 obtain⟨o,es,ep,ho,hd,hk,hm⟩:=id hn
 have hno:es.any (·.refKey)=false:=by
  rw[Array.any_eq_false'];intro e' he';obtain⟨n',t',h'⟩:=hk e' he';simp[DictEntry.refKey,h']
 have hiff:(m name).isSome=es.any (·.key.isStr name):=by
  rw[<-hm name]
  simp only[nsFind,findBy,Option.isSome_map]
  obtain⟨l⟩:=es
  rw[Bool.eq_iff_iff]
  simp[List.find?_isSome]
 have hhas:nsHas name o=pure (es.any (·.key.isStr name)):=by
  rw[nsHas_eq];unfold nsHasByArray;rw[hd]
  show(if(es.any λx=>x.key.isStr name)=true then _ else _)=_
  generalize (es.any λx=>x.key.isStr name)=b'
  cases b'<;>simp[hno]
 unfold nsDel
 refine wpAny_bind (wpAny_loadPart ho ?_)
 rw[hhas]
 refine wpAny_bind (wpAny_pure ?_)
 rw[<-hiff]
 cases hmn:(m name).isSome
 ·have z:=hQ s.heap m hn (λ_ _=>rfl) (.refl ..)
  rw[hmn]at z
  exact wpAny_pure z
 ·refine wpAny_bind (wpAny_updatePart ho (wpAny_pure ?_))
  have key:∃ m',(s.heap.update a (Obj.dropName name)).Ns a m'/\∀ y,y≠name->m' y=m y:=by
   obtain⟨cl,d,dt,sl⟩:=o
   obtain rfl:dt=.dict es ep:=hd
   cases hi:es.findIdx? (·.key.isStr name)with
   | some i =>
    refine⟨_,⟨_,_,ep+1,Heap.get?_update_self _ ho (by simp only[Obj.dropName_eq,Obj.dropNameByArray,hi]<;>rfl),(by simp only[Obj.dropName_eq,Obj.dropNameByArray,hi]<;>rfl),hk.erase i,λ_=>rfl⟩,λy hy=> ?_⟩
    rw[<-hm y]
    unfold nsFind findBy
    obtain⟨l⟩:=es
    congr 1
    have hi':l.findIdx? (·.key.isStr name)=some i:=by simpa using hi
    obtain⟨BZ,hp,_⟩:=List.findIdx?_eq_some_iff_getElem.mp hi'
    show Array.find? _ (Array.eraseIdxIfInBounds ⟨l⟩ i)=_
    rw[<-Array.find?_toList,<-Array.find?_toList]
    have:(Array.eraseIdxIfInBounds ⟨l⟩ i).toList=l.eraseIdx i:=by
     rw[Array.eraseIdxIfInBounds_eq]
     split
     ·simp
     ·rename_i hz;exact absurd BZ (by simpa using hz)
    rw[this]
    refine jT _ l i λx hx=> ?_
    rw[List.getElem?_eq_getElem BZ]at hx
    cases hx
    exact Hw hp hy
   | none=>exact⟨m,⟨_,_,ep,Heap.get?_update_self _ ho (by simp only[Obj.dropName_eq,Obj.dropNameByArray,hi]<;>rfl),(by simp only[Obj.dropName_eq,Obj.dropNameByArray,hi]<;>rfl),hk,hm⟩,λ_ _=>rfl⟩
  obtain⟨m',hm',hy⟩:=key
  have z:=hQ _ m' hm' hy (Heap.SameBut.update ..)
  rw[hmn]at z
  exact z
theorem TR{X:Cx}{AB:List (Addr × Obj)}{σ:St}{H:Hp}{s:Shared}{A:Around}{E:Value->Shared->Prop}{i:Nat}{n:Str}{pos:Pos}{Q:Unit->Shared->Prop}(I:Inv X AB σ H s)(hN:X.N.Nodup)(hi:X.N[i]? =some n)(hl:X.env.scope.names.lookup n=some .local)
  (h:∀ s',Inv X AB (σ.set i none) H s'->Q () s'):wpAny (model X.prog X.w) A (do bindName X.env n .none;unbindBehindTheSuite X.env n pos) Q E s:=by
 have hp:(X.env.scope.kind == .class || (X.env.scope.kind == .module && X.env.locals != X.env.globals))=false:=by rw[I.ok.kind];rfl
 have hk:X.env.kindOf n=some .local:=hl
 have hiσ:i<σ.length:=by rw[I.len];exact(List.getElem?_eq_some_iff.mp hi).1
 refine wpAny_bind (wpAny_bindName (SU I hN hi (.inl hl) (show RelV .non Value.none from rfl) (λs1 I1=> ?_) (.inr hl)))
 unfold unbindBehindTheSuite
 refine wpAny_onRaise ?_
 unfold unbindName
 refine wpAny_bind (wpAny_point (wpAny_bind ?_))
 unfold deleteName
 simp only[hk,hp]
 rw[if_neg (by decide)]
 obtain⟨m,hn,hloc⟩:=id I1.loc
 have hmn:∃ u,m n=some u:=by
  obtain⟨u,_,l⟩:=hloc i n .non hi (by rw[List.getElem?_set_self hiσ]) (.inl hl)
  rcases l with⟨_,e⟩ | ⟨z,_⟩
  ·exact⟨u,e⟩
  ·rw[hk]at z;rcases z with z | z<;>cases z
 refine wpAny_bind (Hx hn λh' m' hn' hy hs=> ?_)
 obtain⟨u,hu⟩:=hmn
 rw[hu]
 simp only[Option.isSome_some,Bool.not_true,Bool.false_eq_true,if_false]
 refine wpAny_pure (wpAny_point (h _ ?_))
 have nL:∀ b o,X.s₀.heap.get? b=some o->b≠X.env.locals:=λb o e=>F9 (Heap.lt_size e) I1.ok.above
 refine⟨I1.ok,I1.os,I1.bare,⟨λb o e n' hb hx=>(hs.2 b (nL b o e)).trans (I1.base.keep b o e n' hb hx),λb o e n' hb hx=> ?_,I1.base.free,λb o e hx=> ?_,I1.base.tups,I1.base.frzs,I1.base.tbls⟩,⟨m',hn',λj y v e1 e2 e3=> ?_⟩,λx c e=> ?_,I1.free,I1.freeC,λp hp'=> ?_,λb o e=> ?_,?_⟩
 ·obtain⟨sl,q⟩:=I1.base.slot b o e n' hb hx
  exact⟨sl,(hs.2 b (nL b o e)).trans q⟩
 ·obtain⟨o',q⟩:=I1.base.there b o e hx
  exact⟨o',(hs.2 b (nL b o e)).trans q⟩
 ·have hj:j≠i:=λz=>by
   subst z
   rw[List.getElem?_set_self hiσ]at e2
   cases e2
  rw[List.getElem?_set_ne (Ne.symm hj)]at e2
  obtain⟨u',r',l⟩:=hloc j y v e1 (by rw[List.getElem?_set_ne (Ne.symm hj)];exact e2) e3
  refine⟨u',r',?_⟩
  rcases l with⟨z,e⟩ | ⟨z,c,e,q⟩
  ·exact .inl ⟨z,by rw[hy y λz=>hj (WF hN e1 (z ▸ hi))];exact e⟩
  ·exact .inr ⟨z,c,e,q.sameBut hs (I1.cne y c e)⟩
 ·obtain⟨v,q⟩:=I1.cell x c e
  exact⟨v,q.sameBut hs (I1.cne x c e)⟩
 ·obtain⟨q1,q2,q3,q4⟩:=I1.pin p hp'
  exact⟨(hs.2 _ q3).trans q1,q2,q3,q4⟩
 ·refine(I1.hok b o e).stay (λc u' hc q=>(hs.2 c ?_).trans q) (λ_ q=>q) λ_ _ q=>q
  intro z
  have fr:=I1.free
  rw[<-z]at fr
  rcases hc with rfl | hc
  ·rw[e]at fr;cases fr
  ·rw[hc]at fr;cases fr
 ·rw[List.length_set];exact I.len
abbrev Cx.tri(X:Cx)(pn:List (Addr × Obj))(xe:Value->Shared->Prop):Cx:={ X with pn:=pn,xe:=xe }
abbrev Cx.hand(X:Cx)(e:Addr):Cx:={ X with A:=X.A.mark (some (.ref e)),calm:=false,xe:=λ_ _=>False }
section
variable{X:Cx}{AB:List (Addr × Obj)}{σ:St}{H:Hp}{s:Shared}
theorem Cx.Ok.tri{pn:List (Addr × Obj)}{xe:Value->Shared->Prop}(ok:X.Ok):(X.tri pn xe).Ok :=
 ⟨ok.mod,ok.kind,ok.glob,ok.blt,ok.above,ok.inj,ok.has,ok.cab,ok.hd,ok.frames,ok.stk,ok.exf,ok.bs,ok.bsz,ok.noex,ok.exfs,ok.funs,ok.frf⟩
theorem Inv.tri{xe:Value->Shared->Prop}(I:Inv X AB σ H s):Inv (X.tri (X.pn++AB) xe) [] σ H s :=
 ⟨I.ok.tri,I.os,I.bare,I.base,I.loc,I.cell,I.free,I.freeC,λp hp=>I.pin p (by simpa using hp),I.hok,I.len⟩
theorem Cx.Ok.untri{pn:List (Addr × Obj)}{xe:Value->Shared->Prop}(ok:(X.tri pn xe).Ok):X.Ok :=
 ⟨ok.mod,ok.kind,ok.glob,ok.blt,ok.above,ok.inj,ok.has,ok.cab,ok.hd,ok.frames,ok.stk,ok.exf,ok.bs,ok.bsz,ok.noex,ok.exfs,ok.funs,ok.frf⟩
theorem Inv.untri{pl:List (Addr × Obj)}{xe:Value->Shared->Prop}(I:Inv (X.tri (X.pn++AB) xe) pl σ H s):Inv X AB σ H s :=
 ⟨I.ok.untri,I.os,I.bare,I.base,I.loc,I.cell,I.free,I.freeC,λp hp=>I.pin p (List.mem_append_left _ hp),I.hok,I.len⟩
theorem Cx.Ok.hand{e:Addr}(ok:X.Ok):(X.hand e).Ok :=
 ⟨ok.mod,ok.kind,ok.glob,ok.blt,ok.above,ok.inj,ok.has,ok.cab,(λz=>nomatch z),ok.frames,ok.stk,ok.exf,ok.bs,ok.bsz,ok.noex,ok.exfs,ok.funs,ok.frf⟩
theorem Inv.hand{e:Addr}(I:Inv X AB σ H s):Inv (X.hand e) AB σ H s:=⟨I.ok.hand,I.os,I.bare,I.base,I.loc,I.cell,I.free,I.freeC,I.pin,I.hok,I.len⟩
theorem Inv.unhand{e:Addr}(ok:X.Ok)(I:Inv (X.hand e) AB σ H s):Inv X AB σ H s:=⟨ok,I.os,I.bare,I.base,I.loc,I.cell,I.free,I.freeC,I.pin,I.hok,I.len⟩
end
def KO(e:Addr)(cls:Value):Heap->Prop:=λh=>∃ oe vs,h.get? e=some oe/\oe.cls=cls/\oe.dict=none/\oe.data=.fields vs
abbrev TH:=Value->Ends->St->Hp->Prop
def jU:TH:=λ_ _ _ _=>False
def Ends.drop(D:Ends)(i:Nat):Ends:={ nx:=λσ H=>D.nx (σ.set i none) H,rt:=D.rt,bk:=λσ H=>D.bk (σ.set i none) H,ct:=λσ H=>D.ct (σ.set i none) H }
def jV(p:Value->Option Bool)(i:Nat)(ts:TS)(DS:TH):TH:=λcls D σ H =>
 (p cls=some true/\∀ e,H e=none->ts (D.drop i) (σ.set i (some (.ref e))) (upd H e (.ext (KO e cls))))\/(p cls=some false/\DS cls D σ H)
def PH(X:Cx)(hs:List ExceptHandler)(th:TH):Prop :=
 ∀ (AB:List (Addr × Obj)) (s:Shared) (σ:St) (H:Hp) (D:Ends) (e:Addr) (cls:Value),X.ex=[]->Inv X AB σ H s->Fly (X.bad AB) H s.heap e cls->th cls D σ H →
  wpAny (model X.prog X.w) X.A (handleBy (.ref e) X.env hs) (SP X AB D) X.xe s
def PX(X:Cx)(t:Expr)(p:Value->Option Bool):Prop :=
 ∀ (AB:List (Addr × Obj)) (s:Shared) (σ:St) (H:Hp) (e:Addr) (cls:Value) (b:Bool) (Q:Bool->Shared->Prop) (E:Value->Shared->Prop),Inv X AB σ H s->Fly (X.bad AB) H s.heap e cls->p cls=some b →
  (∀ s',Inv X AB σ H s'->Fly (X.bad AB) H s'.heap e cls->Q b s')->wpAny (model X.prog X.w) (X.A.mark (some (.ref e))) (eval t X.env) (λc s1=>wpAny (model X.prog X.w) (X.A.mark (some (.ref e))) (excMatches (.ref e) c) Q E s1) E s
def XJ(tb:(St->XK)->TS)(th:TH):TS:=λD σ H=>tb (λσ' cls _ H'=>th cls D σ' H') D σ H
section
variable{X:Cx}{hs:List ExceptHandler}{h₀:ExceptHandler}{th:TH}{body:List Stmt}{tb:(St->XK)->TS}{pos:Pos}
theorem Hy:PH X [] jU:=λ_ _ _ _ _ _ _ _ _ _ h=>h.elim
theorem Hz{bad:Addr->Prop}{H:Hp}{h:Heap}{e:Addr}{cls:Value}{M:Model}(F:Fly bad H h e cls):W.Looks M h (typeOf (.ref e)) cls:=by
 obtain⟨_,_,oe,vs,h1,h2,_⟩:=F
 subst h2
 exact(W.Looks.ld h1).andThen .now
theorem Jb{x:Str}{np:Pos}{C:Value}(hg:Gl X x)(hm:X.mg x=some C)(hd:(x ==("__debug__":Str))=false:=by decide):PX X (.Name x np) (λcls=>W.exmOne X.K cls C):=by
 intro AB s σ H e cls b Q E I F hp h
 have I2:Inv (X.hand e) AB σ H s:=I.hand
 refine QU (X:=X.hand e) I2 hg hm ?_ hd
 exact W.exm_one I.kIn (Hz F) hp _ _ _ s (λ_ _ z=>z) (h s I F)
theorem Jc{M:Model}{A:Around}{E:Value->Shared->Prop}{s:Shared}{bad:Addr->Prop}{H:Hp}{fr:List Addr}{e:Addr}{cls:Value}{Q:Unit->Shared->Prop}(F:Fly bad H s.heap e cls)
  (h:∀ h',XI fr bad H e cls s.heap h'->Q () { s with heap:=h' }):wpAny M A (setFlight (.ref e) none) Q E s:=by
 have F0:=F
 obtain⟨nb,frr,oe,vs,he,MG,QM,hd,htb⟩:=F
 unfold setFlight
 rcases htb with h1 | ⟨T,oT,ts,h1,nbT,frT,neT,eT,dT,h3⟩
 ·refine wpAny_bind (wpAny_field he hd h1 ?_)
  rw[if_neg (by decide)]
  exact wpAny_pure (h s.heap ⟨⟨[],(λb hb=>nomatch hb),λb o eb _ _=>eb,λb o eb _=>⟨o.slots,eb⟩⟩,F0⟩)
 ·refine wpAny_bind (wpAny_field he hd h1 ?_)
  rw[if_pos (show(Value.ref T != Value.none)=true from by simp)]
  have hs3:3<ts.size:=(Array.getElem?_eq_some_iff.mp h3).1
  refine wpAny_setField eT dT hs3 (h _ ?_)
  have oth:∀ b,b≠T->(s.heap.update T (Obj.mapFields (·.setIfInBounds 3 ((none:Option Addr).elim Value.none λf=>rawInt f)))).get? b=s.heap.get? b:=λb hb'=>Heap.get?_update_other _ _ (Ne.symm hb')
  refine⟨⟨[T],λb hb=> ?_,λb o eb hb _=>(oth b λz=>hb (by simp[z])).trans eb,λb o eb hb=>⟨o.slots,(oth b λz=>hb (by simp[z])).trans eb⟩⟩,nb,frr,oe,vs,(oth e (Ne.symm neT)).trans he,MG,QM,hd,.inr ⟨T,_,_,h1,nbT,frT,neT,Heap.get?_update_self _ eT (Obj.isFreed_of_fields (Obj.data_mapFields dT _)),Obj.data_mapFields dT _,by simp[hs3]⟩⟩
  rw[List.mem_singleton]at hb
  subst hb
  exact⟨nbT,frT,oT,ts,eT,dT⟩
theorem SP.unhand{AB:List (Addr × Obj)}{D:Ends}{e:Addr}{f:Flow}{s:Shared}(ok:X.Ok)(h:SP (X.hand e) AB D f s):SP X AB D f s:=by
 cases f with
 | next=>obtain⟨σ1,H1,I1,q⟩:=h;exact⟨σ1,H1,I1.unhand ok,q⟩
 | brk=>obtain⟨σ1,H1,I1,q⟩:=h;exact⟨σ1,H1,I1.unhand ok,q⟩
 | cont=>obtain⟨σ1,H1,I1,q⟩:=h;exact⟨σ1,H1,I1.unhand ok,q⟩
 | ret u=>obtain⟨v,σ1,H1,I1,r,q⟩:=h;exact⟨v,σ1,H1,I1.unhand ok,r,q⟩
theorem Jd{t:Expr}{n:Str}{i:Nat}{b₀:Stmt}{suite:List Stmt}{hp:Pos}{p:Value->Option Bool}{ts:TS}{DS:List ExceptHandler}{tr:TH}(hN:X.N.Nodup)(hi:X.N[i]? =some n)(hl:X.env.scope.names.lookup n=some .local)(ht:PX X t p)
  (hsu:∀ e,HG (X.hand e) (b₀::suite) ts) (hr:PH X DS tr):PH X (.ExceptHandler (some t) (some n) (b₀::suite) hp::DS) (jV p i ts tr):=by
 intro AB s σ H D e cls hx I F h
 have hmain:∃ b,p cls=some b/\(b=true->∀ e,H e=none->ts (D.drop i) (σ.set i (some (.ref e))) (upd H e (.ext (KO e cls))))/\(b=false->tr cls D σ H):=by
  rcases h with⟨h1,h2⟩ | ⟨h1,h2⟩
  ·exact⟨true,h1,λ_=>h2,λz=>nomatch z⟩
  ·exact⟨false,h1,(λz=>nomatch z),λ_=>h2⟩
 obtain⟨b,hp',hT,hF⟩:=hmain
 refine wpAny_handleBy_cons (codeAny_handlers_test (ht AB s σ H e cls b _ _ I F hp' λs' I' F'=> ?_)) (by intro z;cases z)
 cases b with
 | false=>exact hr AB s' σ H D e cls hx I' F' (hF rfl)
 | true =>
  refine codeAny_handlers_suite_as (Jc (fr:=E9 X.stack) F' λh' N=> ?_)
  have I2:=I'.noted N
  obtain⟨nb,fr,oe,vs,he,MG,QM,hd,_⟩:=N.fly
  have I3:Inv X AB σ (upd H e (.ext (KO e cls))) { s' with heap:=h' }:=by
   have hs0:X.s₀.heap.get? e=none:=by
    cases q:X.s₀.heap.get? e with
    | none=>rfl
    | some o=>exact absurd (.inl (by rw[q];simp)) nb
   have ltH:∀ b o,H b=some o->b≠e:=λb o eb z=>by rw[z,fr]at eb;cases eb
   refine⟨I2.ok,I2.os,I2.bare,⟨I2.base.keep,I2.base.slot,λb o eb n' hx'=> ?_,I2.base.there,λb xs eb=> ?_,λb o u eb=> ?_,λb ps eb=> ?_⟩,I2.loc,I2.cell,?_,λx c ec=> ?_,λp hp=> ?_,I2.hok.track fr ?_,I2.len⟩
   ·rw[AO (λz=>by rw[z,hs0]at eb;cases eb)];exact I2.base.free b o eb n' hx'
   ·rw[AO (ltH _ _ (I2.base.tups b xs eb))];exact I2.base.tups b xs eb
   ·rw[AO (ltH _ _ (I2.base.frzs b o u eb))];exact I2.base.frzs b o u eb
   ·obtain⟨m,q⟩:=I2.base.tbls b ps eb
    exact⟨m,by rw[AO (ltH _ _ q)];exact q⟩
   ·obtain⟨m,⟨oL,es,ep,hoL,dL,_⟩,_⟩:=I2.loc
    rw[AO (λz=>by rw[z]at hoL;rw[show h'.get? e=some oe from he]at hoL;cases hoL;rw[hd]at dL;cases dL)]
    exact I2.free
   ·obtain⟨v,oc,hoc,hdc⟩:=I2.cell x c ec
    rw[AO (λz=>by rw[z]at hoc;rw[show h'.get? e=some oe from he]at hoc;cases hoc;rw[hd]at hdc;cases hdc)]
    exact I2.freeC x c ec
   ·obtain⟨q1,q2,q3⟩:=I2.pin p hp
    refine⟨q1,?_,q3⟩
    rw[AO (λz=>nb (.inr ⟨p,hp,z⟩))];exact q2
   ·refine⟨⟨oe,vs,he,MG,QM,hd⟩,⟨oe,he⟩,λh1 h2 hq k=> ?_⟩
    obtain⟨o1,v1,z1,z2⟩:=hq
    exact⟨o1,v1,k _ z1,z2⟩
  refine SU I3 hN hi (.inl hl) (show RelV (.ref e) (.ref e)from rfl) (λs4 I4=> ?_) (.inr hl)
  refine wpAny_mono (hsu e AB s4 _ _ (D.drop i) I4.hand (hT rfl e fr)) (λf s5 h5=> ?_) λ_ _ z=>z.elim
  have h6:=h5.unhand I.ok
  show wpAny _ _ (do bindName X.env n .none;unbindBehindTheSuite X.env n hp) _ _ _
  cases f with
  | next =>
   obtain⟨σ1,H1,I1,q⟩:=h6
   exact TR I1 hN hi hl λs7 I7=>⟨_,H1,I7,q⟩
  | brk =>
   obtain⟨σ1,H1,I1,q⟩:=h6
   exact TR I1 hN hi hl λs7 I7=>⟨_,H1,I7,q⟩
  | cont =>
   obtain⟨σ1,H1,I1,q⟩:=h6
   exact TR I1 hN hi hl λs7 I7=>⟨_,H1,I7,q⟩
  | ret u =>
   obtain⟨v,σ1,H1,I1,r,q⟩:=h6
   exact TR I1 hN hi hl λs7 I7=>⟨v,_,H1,I7,r,q⟩
theorem Jg(hx:X.ex=[])(hcalm:X.calm=true)(hst:X.stack=X.env::X.outer)(G2:X.env.frame=some X.env.locals)(hb:∀ (E:St->XK) (pn:List (Addr × Obj)) (xe:Value->Shared->Prop),XOk (X.tri pn xe) E->HG (X.tri pn xe) body (tb E))(hh:PH X (h₀::hs) th) :
  PS X (.Try body (h₀::hs) [] [] pos) (XJ tb th):=by
 intro AB s σ H D I h
 refine wpAny_Try_except ?_
 let xe:Value->Shared->Prop:=λe s₁=>wpAny (model X.prog X.w) X.A (noteFrame e X.env) (λ_ s₂=>wpAny (model X.prog X.w) X.A (setFlight e none) (λ_ s₃=>wpAny (model X.prog X.w) X.A (handleBy e X.env (h₀::hs)) (SP X AB D) X.xe s₃) X.xe s₂) X.xe s₁
 have xok:XOk (X.tri (X.pn++AB) xe) (λσ' cls _ H'=>th cls D σ' H'):=by
  refine⟨PassesOwn.looking,hx,hcalm,λpl σ' H' s' e cls I' F' q=> ?_⟩
  have Iu:=I'.untri
  refine jP (hst ▸ Iu.ok.frames) (hst ▸ Iu.stack) G2 F' (λa z=>I'.notbad hx (jQ z)) (λa z=>I'.hok.fresh z) λh' N=> ?_
  rw[<-hst]at N
  have I2:Inv (X.tri (X.pn++AB) xe) pl σ' H' { s' with heap:=h' }:=I'.noted N
  exact hh AB _ σ' H' D e cls hx I2.untri (N.fly.mono λa z=>by
   rcases z with z | ⟨p,hp,z⟩
   ·exact .inl z
   ·exact .inr ⟨p,List.mem_append_left _ hp,z⟩) q
 refine wpAny_mono (hb _ _ xe xok [] s σ H D I.tri h) (λf s1 hs1=> ?_) λ_ _ z=>z
 cases f with
 | next =>
  obtain⟨σ1,H1,I1,q⟩:=hs1
  exact wpAny_execs_nil ⟨σ1,H1,I1.untri,q⟩
 | brk=>obtain⟨σ1,H1,I1,q⟩:=hs1;exact⟨σ1,H1,I1.untri,q⟩
 | cont=>obtain⟨σ1,H1,I1,q⟩:=hs1;exact⟨σ1,H1,I1.untri,q⟩
 | ret u=>obtain⟨v,σ1,H1,I1,r,q⟩:=hs1;exact⟨v,σ1,H1,I1.untri,r,q⟩
end
end L2
namespace L2
mutual
inductive Rep(K:W.Frag)(H:Hp):V->PyData->Prop
 | non:Rep K H .non .none
 | bl (b:Bool):Rep K H (.bl b) (.bool b)
 | int (i:Int):Rep K H (.int i) (.int i)
 | str (x:Str):Rep K H (.str x) (.str x)
 | lst {a:Addr} {xs:List V} {ds:List PyData}:SqL K H a xs->RepAll K H xs ds->Rep K H (.ref a) (.list ds)
 | tup {a:Addr} {xs:List V} {ds:List PyData}:SqT K H a xs->RepAll K H xs ds->Rep K H (.ref a) (.tuple ds)
inductive RepAll(K:W.Frag)(H:Hp):List V->List PyData->Prop
 | nil:RepAll K H [] []
 | cons {v:V} {d:PyData} {vs:List V} {ds:List PyData}:Rep K H v d->RepAll K H vs ds->RepAll K H (v::vs) (d::ds)
end
section
variable{X:Cx}{AB:List (Addr × Obj)}{σ:St}{H:Hp}{s:Shared}
mutual
theorem Rep.reads(I:Inv X AB σ H s):∀ {v:V} {d:PyData} {u:Value},Rep X.K H v d->RelV v u->∃ as,Reads s.heap u d as
 | _,_,_,.non,r=>by cases (show _=Value.none from r);exact⟨_,.none⟩
 | _,_,_,.bl b,r=>by cases (show _=Value.bool b from r);exact⟨_,.bool b⟩
 | _,_,_,.int i,r=>by obtain⟨t,e⟩:=(show ∃ t,_=Value.int i t from r);cases e;exact⟨_,.int i t⟩
 | _,_,_,.str x,r=>by obtain⟨t,e⟩:=(show ∃ t,_=Value.str x t from r);cases e;exact⟨_,.str x t⟩
 | _,_,_,.lst (a:=a) h hr,r=>by
  cases (show _=Value.ref a from r)
  obtain⟨its,rv,p,_⟩:=I.list h
  obtain⟨as,q⟩:=RepAll.reads I hr rv
  obtain⟨o,e1,e2,n,e3⟩:=p.isList
  exact⟨_,.list e1 e2 e3 q⟩
 | _,_,_,.tup (a:=a) h hr,r=>by
  cases (show _=Value.ref a from r)
  obtain⟨its,rv,p,_⟩:=I.tuple h
  obtain⟨as,q⟩:=RepAll.reads I hr rv
  obtain⟨o,e1,e2,n,e3⟩:=p
  exact⟨_,.tuple e1 e2 e3 q⟩
theorem RepAll.reads(I:Inv X AB σ H s):∀ {vs:List V} {ds:List PyData} {us:List Value},RepAll X.K H vs ds->Vals vs us->∃ as,ReadsAll s.heap us ds as
 | _,_,_,.nil,.nil=>⟨_,.nil⟩
 | _,_,_,.cons h hr,.cons r rr=>by
  obtain⟨as,q⟩:=Rep.reads I h r
  obtain⟨bs,q2⟩:=RepAll.reads I hr rr
  exact⟨_,.cons q q2⟩
end
end
abbrev shp(d:PyData):Prop:=PySem.SeqAt.shaped d=true
def CD(K:W.Frag):R2:=λx y H Q=>if G3 x y=true then Q (.bl (decide (x=y))) H else ∃ d e,Rep K H x d/\Rep K H y e/\shp d/\shp e/\Q (.bl (PyData.eqv d e)) H
def DH(K:W.Frag):R2:=λx y H Q=>if G3 x y=true then Q (.bl (!decide (x=y))) H else ∃ d e,Rep K H x d/\Rep K H y e/\shp d/\shp e/\Q (.bl (!PyData.eqv d e)) H
section
variable{X:Cx}
theorem C3(hu:X.A.units+64<cLine):CP X (compareOp .Eq) (CD X.K):=by
 intro AB s σ H x y v u Q I rx ry h
 unfold CD at h
 split at h
 ·rename_i hs
  exact Cy AB s σ H x y v u Q I rx ry ⟨hs,h⟩
 ·obtain⟨d,e,rd,re,sd,se,q⟩:=h
  obtain⟨as,ra⟩:=rd.reads I rx
  obtain⟨bs,rb⟩:=re.reads I ry
  exact eq_dataH ra rb sd se hu ⟨.bl _,H,I,rfl,q⟩
theorem GB(hu:X.A.units+64<cLine):CP X (compareOp .NotEq) (DH X.K):=by
 intro AB s σ H x y v u Q I rx ry h
 unfold DH at h
 split at h
 ·rename_i hs
  exact Cz AB s σ H x y v u Q I rx ry ⟨hs,h⟩
 ·obtain⟨d,e,rd,re,sd,se,q⟩:=h
  obtain⟨as,ra⟩:=rd.reads I rx
  obtain⟨bs,rb⟩:=re.reads I ry
  exact ne_dataH ra rb sd se hu ⟨.bl _,H,I,rfl,q⟩
def XL(K:W.Frag):R2:=λx y H Q=>∃ a b ys,x=.ref a/\y=.ref b/\SqT K H a []/\SqT K H b ys/\Q (.ref b) H
theorem Jh:CP X (binaryOp .Add) (XL X.K):=by
 intro AB s σ H x y v u Q I rx ry h
 obtain⟨a,b,ys,rfl,rfl,ha,hb,q⟩:=h
 cases rx
 cases ry
 obtain⟨its,r1,⟨⟨c1,c2,c3,c4⟩,e1,e2,n1,e3⟩,_⟩:=I.tuple ha
 obtain⟨GR,r2,⟨⟨d1,d2,d3,d4⟩,f1,f2,n2,f3⟩,_⟩:=I.tuple hb
 obtain rfl:c1=_:=e2
 obtain rfl:c3=_:=e3
 obtain rfl:d1=_:=f2
 obtain rfl:d3=_:=f3
 cases r1
 exact concat_meets ⟨_,e1,rfl⟩ ⟨_,f1,rfl⟩ noFill_tuple_add seq_tuple_add PySem.F.slot_tuple_add PySem.F.entry_tuple_add (PySem.F.args_tuple_add_2 _ _) (tuple_addW0 a b #[] GR.toArray n1 n2 c2 d2 c4 d4 rfl) ⟨e1,f1,.ref b,H,I,rfl,q⟩
def BT(K:W.Frag):R2:=λx y H Q=>match x,y with
 | .int i,.int j=>Q (.int (i+j)) H
 | .str i,.str j=>i.length+j.length<=sizeLine/\Q (.str (i++j)) H
 | .ref _,.ref _=>W3 x y H Q\/WU K x y H Q\/XL K x y H Q
 | _,_=>False
theorem B2:CP X (binaryOp .Add) (BT X.K):=by
 intro AB s σ H x y v u Q I rx ry h
 cases x<;>cases y<;>simp only[BT]at h
 ·exact Cm AB s σ H _ _ v u Q I rx ry ⟨_,_,rfl,rfl,h⟩
 ·exact Dj AB s σ H _ _ v u Q I rx ry ⟨_,_,rfl,rfl,h⟩
 ·rcases h with h | h
  ·exact Gd AB s σ H _ _ v u Q I rx ry h
  rcases h with h | h
  ·exact Fc AB s σ H _ _ v u Q I rx ry h
  ·exact Jh AB s σ H _ _ v u Q I rx ry h
def JQ:R2:=λx y H Q=>match x,y with
 | .int i,.int j=>Q (.bl (decide (i<j))) H
 | .str i,.str j=>Q (.bl (decide (i.cps.toList<j.cps.toList))) H
 | _,_=>False
def MR:R2:=λx y H Q=>match x,y with
 | .int i,.int j=>Q (.bl (decide (i<=j))) H
 | .str i,.str j=>Q (.bl (!decide (j.cps.toList<i.cps.toList))) H
 | _,_=>False
end
end L2
namespace L2
theorem Jj:fillsNumberSlot (.type "tuple") "mul"=pure false :=
 PySem.fillsNumberSlot_seq (id:="tuple.__mul__") (r:=some (.builtin "tuple.__rmul__")) F.slot_tuple_mul.lookup (by decide +kernel) F.slot_tuple_rmul.lookup (by decide +kernel)
theorem Jk:seqRepeat? (.type "tuple")=pure (some (.builtin "tuple.__mul__")):=by
 unfold seqRepeat?
 rw[PySem.seqSlot_of (T:="tuple") (name:="__mul__") (id:="tuple.__mul__") F.slot_tuple_mul.lookup (by decide +kernel),PySem.seqSlot_of (T:="tuple") (name:="__rmul__") (id:="tuple.__rmul__") F.slot_tuple_rmul.lookup (by decide +kernel)]
 rfl
theorem Jl(a:Int)(t:Tok)(l:Addr)(BO:Array Value)(dd:Option Addr)(n:Nat)(sl:Array (Option Value)) :
  Meets (Builtin.«int.__rmul__» ⟨[.int a t,.ref l],[]⟩) (λ_ R s=>s.heap.get? l=some ⟨.type "tuple",dd,.seq BO n,sl⟩/\R (.ok (.ret Value.notImplemented)) s) :=
 .of_wp λprog w A R s h=>by obtain⟨hp,g,d,tk,os⟩:=s;obtain⟨hl,h⟩:=h;wp_walk;exact⟨_,rfl,h⟩
theorem Jm(l:Addr)(BO:Array Value)(dd:Option Addr)(n:Nat)(sl:Array (Option Value))(x:Int)(u:Tok)(h1:1<x)(h2:x<2 ^ 63)(hne:BO.isEmpty=false)(hz:BO.size * x.toNat<=sizeLine) :
  Meets (Builtin.«tuple.__mul__» ⟨[.ref l,.int x u],[]⟩) (λ_ R s=>s.heap.get? l=some ⟨.type "tuple",dd,.seq BO n,sl⟩ ∧
   R (.ok (.ret (Value.ref s.heap.objs.size))) { s with heap:=s.heap.push { cls:=Value.type "tuple",data:=Data.seq (List.foldl (λx1 x2=>x1++x2) #[] (List.replicate x.toNat BO)) } }) :=
 .of_wp λprog w A R s h=>by
  obtain⟨hp,g,d,tk,os⟩:=s;obtain⟨hl,h⟩:=h
  have hsl:(sizeLine:Nat)<=(2 ^ 63 - 1) / 8:=by decide
  have EC:(List.foldl (λx1 x2=>x1++x2) #[] (List.replicate x.toNat BO)).size<=sizeLine:=by
   have:=TD BO.toList x.toNat []
   simp only[List.nil_append,Array.toArray_toList]at this
   rw[this]
   simp only[List.size_toArray,List.length_flatten,List.map_replicate,List.sum_replicate_nat,Array.length_toList]
   rw[Nat.mul_comm];exact hz
  have hx:∃ N:Nat,(BO.size:Int) * x=(N:Int)/\N<=sizeLine:=⟨BO.size * x.toNat,by rw[Int.natCast_mul,Int.toNat_of_nonneg (by omega)],hz⟩
  obtain⟨N,hx,hN⟩:=hx
  unfold Builtin.«tuple.__mul__»
  wp_walk
  refine wpAny_ite_false (by simp;omega) ?_
  wp_walk
  refine wpAny_ite_false (by simp only[hne,Bool.false_or];simp;omega) ?_
  refine wpAny_ite_false (by simp only[hne,Bool.or_false];simp;omega) ?_
  refine wpAny_ite_false (by rw[hx];exact decide_eq_false (by omega)) ?_
  refine wpAny_ite_false (by rw[hx];unfold Builtin.Tuple.tupleTooMany;simp;omega) ?_
  wp_walk
  exact⟨_,rfl,h⟩
theorem Jp(l:Addr)(BO:Array Value)(dd:Option Addr)(n:Nat)(sl:Array (Option Value))(u:Tok) :
  Meets (Builtin.«tuple.__mul__» ⟨[.ref l,.int 1 u],[]⟩) (λ_ R s=>s.heap.get? l=some ⟨.type "tuple",dd,.seq BO n,sl⟩/\R (.ok (.ret (Value.ref l))) s) :=
 .of_wp λprog w A R s h=>by
  obtain⟨hp,g,d,tk,os⟩:=s;obtain⟨hl,h⟩:=h
  unfold Builtin.«tuple.__mul__»
  wp_walk
  exact⟨_,rfl,h⟩
def XM(K:W.Frag):R2:=λx y H Q=>∃ a k xs,x=.ref a/\y=.int k/\SqT K H a xs/\xs≠[]/\1<=k/\k<2 ^ 63/\xs.length * k.toNat<=sizeLine ∧
 (k=1->Q (.ref a) H)/\(k≠1->∀ p,H p=none->Q (.ref p) (upd H p (.tup (List.replicate k.toNat xs).flatten)))
section
variable{X:Cx}
theorem Inv.tnew{AB:List (Addr × Obj)}{σ:St}{H:Hp}{s:Shared}{ys:List V}{its:List Value}(I:Inv X AB σ H s)(hv:Vals ys its)(hz:ys.length<=sizeLine) :
  Inv X AB σ (upd H s.heap.objs.size (.tup ys)) { s with heap:=s.heap.push { cls:=.type "tuple",data:=.seq its.toArray } } :=
 I.laid (t':=s.toks) (λ_ _ q=>Heap.get?_push_of_some _ q) (Nat.le_refl _) ⟨hz,its,hv,_,Heap.get?_push_size _ rfl,rfl,0,rfl⟩
theorem Jq:CP X (binaryOp .Mult) (XM X.K):=by
 intro AB s σ H x y v u Q I rx ry h
 obtain⟨a,k,xs,rfl,rfl,hx,hne,h1,h2,hz,q1,q2⟩:=h
 cases rx
 obtain⟨t,rfl⟩:=ry
 obtain⟨its,r,⟨⟨c1,c2,c3,c4⟩,e1,e2,n,e3⟩,_⟩:=I.tuple hx
 obtain rfl:c1=_:=e2
 obtain rfl:c3=_:=e3
 have hl:=r.length
 have he:its.toArray.isEmpty=false:=by
  cases its with
  | nil=>exact absurd (List.length_eq_zero_iff.mp hl) hne
  | cons b t=>rfl
 refine wpAny_binaryOp_repeat_ref (T:="tuple") (U:="int") (by decide) ⟨_,e1,rfl⟩ (λs'=>typeIs_int s' k t) Jj F.fills_int_mul F.slot_int_rmul Jk F.slot_int_index.lookup
  (call_meets F.slot_int_rmul (typeIs_int s k t) F.entry_int_rmul (F.args_int_rmul_2 _ _) (Jl k t a its.toArray c2 n c4) ⟨e1,rfl,⟨_,e1,rfl⟩,?_⟩)
 by_cases hk:k=1
 ·subst hk
  exact call_meets F.slot_tuple_mul ⟨_,e1,rfl⟩ F.entry_tuple_mul (F.args_tuple_mul_2 _ _) (Jp a its.toArray c2 n c4 t) ⟨e1,.ref a,H,I,rfl,q1 rfl⟩
 ·refine call_meets F.slot_tuple_mul ⟨_,e1,rfl⟩ F.entry_tuple_mul (F.args_tuple_mul_2 _ _) (Jm a its.toArray c2 n c4 k t (by omega) h2 he (by rw[List.size_toArray,<-hl];exact hz)) ⟨e1,?_⟩
  have f0:=TD its k.toNat []
  rw[List.nil_append]at f0
  rw[f0]
  exact⟨.ref _,_,I.tnew (r.rep k.toNat) (by rw[i8,Nat.mul_comm];exact hz),rfl,q2 hk _ I.fresh⟩
abbrev N9:R2:=IY λi j=>.int (i - j)
abbrev CA:R2:=rI (λ_ j=>0<j) λi j=>.int (i % j)
abbrev HJ:R2:=rI hX λi j=>.int (i / j)
abbrev jW:R2:=rI hZ λi j=>.int (i ^ j.toNat)
abbrev Jv:V->Hp->VK->Prop:=rU λi=>.int (-i)
abbrev Jw:hU:=By λi j=>i+j
def LP(z:Str)(k:Int):Str:=if k<1 then Str.empty else if(k == 1 || z.length == 0)=true then z else⟨(List.replicate k.toNat z.cps).foldl (· ++·) #[]⟩
theorem Jx(z:Str)(k:Nat):(Str.mk ((List.replicate k z.cps).foldl (· ++·) #[])).length=k * z.length:=by
 have e:∀ (m:Nat) (BV:Array Nat),((List.replicate m z.cps).foldl (· ++·) BV).size=BV.size+m * z.cps.size:=λm=>by
  induction m with
  | zero=>intro BV;simp
  | succ m ih=>intro BV;rw[List.replicate_succ,List.foldl_cons,ih,Array.size_append,Nat.succ_mul];omega
 have:=e k #[]
 simpa [Str.length]using this
def Jy:R2:=λx y H Q=>∃ z k,x=.str z/\y=.int k/\0<=k/\k<=1000/\z.length<=1000/\Q (.str (LP z k)) H
theorem Jz:CP X (binaryOp .Mult) Jy:=by
 intro AB s σ H x y v u Q I rx ry h
 obtain⟨z,k,rfl,rfl,h1,h2,h3,q⟩:=h
 obtain⟨t,rfl⟩:=rx
 obtain⟨t',rfl⟩:=ry
 refine PySem.P.mul_str (by simp;omega) (λa _=> ?_) (λa _=> ?_) ?_
 ·have:(1000:Int)<=(2 ^ 63 - 1) / k:=(Int.le_ediv_iff_mul_le (by omega)).mpr (by omega)
  omega
 ·have h4:z.length * k.toNat<=1000 * 1000:=Nat.mul_le_mul h3 (by omega)
  have h5:(1000 * 1000:Nat)<=sizeLine:=by decide
  unfold Builtin.Str.tooLong
  exact decide_eq_false (by omega)
 ·unfold LP at q
  split
  ·rename_i c
   rw[if_pos c]at q
   exact⟨by show(0:Nat)<=sizeLine;omega,.str _,H,I.tok _,⟨_,rfl⟩,q⟩
  ·rename_i c
   rw[if_neg c]at q
   split
   ·rename_i d
    rw[if_pos d]at q
    exact⟨.str _,H,I,⟨_,rfl⟩,q⟩
   ·rename_i d
    rw[if_neg d]at q
    exact⟨by rw[Jx];have:=Nat.mul_le_mul (show k.toNat<=1000 by omega) h3;show _<=2 ^ 24;omega,.str _,H,I.tok _,⟨_,rfl⟩,q⟩
def FF(K:W.Frag):R2:=λx y H Q=>match x,y with
 | .int i,.int j=>CMul i j/\Q (.int (i * j)) H
 | .str z,.int k=>0<=k/\k<=1000/\z.length<=1000/\Q (.str (LP z k)) H
 | .ref _,.int _=>W8 x y H Q\/XM K x y H Q
 | _,_=>False
theorem G6:CP X (binaryOp .Mult) (FF X.K):=by
 intro AB s σ H x y v u Q I rx ry h
 cases x<;>cases y<;>simp only[FF]at h
 ·exact Cp AB s σ H _ _ v u Q I rx ry ⟨_,_,rfl,rfl,h⟩
 ·exact Jz AB s σ H _ _ v u Q I rx ry ⟨_,_,rfl,rfl,h⟩
 ·rcases h with h | h
  ·exact Gg AB s σ H _ _ v u Q I rx ry h
  ·exact Jq AB s σ H _ _ v u Q I rx ry h
def KP:R2:=λx y H Q=>match x,y with
 | .int i,.int j=>Q (.bl (decide (j<i))) H
 | _,_=>False
def TU:R2:=λx y H Q=>match x,y with
 | .int i,.int j=>Q (.bl (decide (j<=i))) H
 | _,_=>False
theorem OA:CP X (compareOp .Lt) JQ:=by
 intro AB s σ H x y v u Q I rx ry h
 cases x<;>cases y<;>simp only[JQ]at h
 ·exact Db AB s σ H _ _ v u Q I rx ry ⟨_,_,rfl,rfl,h⟩
 ·obtain⟨t,rfl⟩:=rx
  obtain⟨t',rfl⟩:=ry
  exact PySem.P.lt_str ⟨.bl _,H,I,rfl,h⟩
theorem XN:CP X (compareOp .LtE) MR:=by
 intro AB s σ H x y v u Q I rx ry h
 cases x<;>cases y<;>simp only[MR]at h
 ·exact Dc AB s σ H _ _ v u Q I rx ry ⟨_,_,rfl,rfl,h⟩
 ·obtain⟨t,rfl⟩:=rx
  obtain⟨t',rfl⟩:=ry
  exact PySem.P.le_str ⟨.bl _,H,I,rfl,h⟩
theorem OB:CP X (compareOp .Gt) KP:=by
 intro AB s σ H x y v u Q I rx ry h
 cases x<;>cases y<;>simp only[KP]at h
 exact Dd AB s σ H _ _ v u Q I rx ry ⟨_,_,rfl,rfl,h⟩
theorem Kb:CP X (compareOp .GtE) TU:=by
 intro AB s σ H x y v u Q I rx ry h
 cases x<;>cases y<;>simp only[TU]at h
 exact Dg AB s σ H _ _ v u Q I rx ry ⟨_,_,rfl,rfl,h⟩
abbrev HK:R2:=λx y H Q=>y=.non/\Q (.bl (decide (x=.non))) H
abbrev G7:R2:=λx y H Q=>y=.non/\Q (.bl (!decide (x=.non))) H
variable{a:Expr}{ta:TE}{tA:TT}{pos:Pos}
abbrev OC(K:W.Frag)(ta:TE):TT:=λσ H Q=>ta σ H λx H'=>∃ k,LI K x H' k/\Q k H'
def AY(K:W.Frag):R2:=i0 K
theorem BB:IxR X (AY X.K):=Fk
def Kc:V->Option Int->Option Int->Hp->VK->Prop:=λx lo hi H Q=>∃ z,x=.str z/\z.length<=sizeLine/\Q (.str (Txt.slice z lo hi)) H
theorem jX{v:Value}{lo:Option Int}(p:IsPart v lo):∃ l:Option (Int × Tok),v=partValue l/\l.map (·.1)=lo:=by
 cases p with
 | none=>exact⟨none,rfl,rfl⟩
 | int i t=>exact⟨some (i,t),rfl,rfl⟩
theorem Kd:SlR X Kc:=by
 intro AB s σ H x v vl vu lo hi sl Q I rx hs pl pu h
 obtain⟨z,rfl,hz,q⟩:=h
 obtain⟨t,rfl⟩:=rx
 obtain⟨l,rfl,rfl⟩:=jX pl
 obtain⟨u,rfl,rfl⟩:=jX pu
 refine⟨"str",_,PySem.F.slot_str_getitem.lookup,typeIs_str _ _ _,?_⟩
 exact wpAny_getItem_str_slice (l:=l) (u:=u) (st:=none) hs rfl (post_val_or_str ⟨Nat.le_trans (Txt.slice_le z _ _) hz,λt' k=>⟨.str _,H,I.tok k,⟨t',rfl⟩,q⟩⟩)
def MS(K:W.Frag):V->Option Int->Option Int->Hp->VK->Prop:=λx lo hi H Q=>match x with
 | .str z=>z.length<=sizeLine/\Q (.str (Txt.slice z lo hi)) H
 | _=>i4 K x lo hi H Q\/iU K x lo hi H Q
theorem TX:SlR X (MS X.K):=by
 intro AB s σ H x v vl vu lo hi sl Q I rx hs pl pu h
 cases x<;>first
  | exact Kd AB s σ H _ v vl vu lo hi sl Q I rx hs pl pu ⟨_,rfl,h⟩
  | exact(SlR.or Fv Fb) AB s σ H _ v vl vu lo hi sl Q I rx hs pl pu h
abbrev DD:V->V->V->Hp->(Hp->Prop)->Prop:=i3
theorem ET:WK X DD:=Fm
def DV(K:W.Frag)(tl:TE):TI:=λσ H R=>tl σ H λx H1=>∃ a,x=.ref a/\(((∃ xs,SqL K H1 a xs)/\R (ID K a) H1)\/((∃ xs,SqT K H1 a xs)/\R (QX K a) H1))
def CY(K:W.Frag):List V->Hp->VK->Prop:=λxs H Q=>∃ x n,xs=[x]/\NY K x H n/\Q (.int n) H
theorem DE:HH X (.builtin "len") (CY X.K):=Dm
def MT(K:W.Frag):List V->Hp->VK->Prop:=λxs H Q=>∃ p ys,xs=[.ref p]/\(SqL K H p ys\/SqT K H p ys)/\∀ l,H l=none->Q (.ref l) (upd H l (.lst ys))
theorem TY:HH X (.type "list") (MT X.K):=Fy
def RB(K:W.Frag):List V->Hp->VK->Prop:=λxs H Q=>∃ p ys,xs=[.ref p]/\((SqL K H p ys/\∀ l,H l=none->Q (.ref l) (upd H l (.tup ys)))\/(SqT K H p ys/\Q (.ref p) H))
theorem jY:HH X (.type "tuple") (RB X.K):=Fz
def RC(K:W.Frag):List V->Hp->VK->Prop:=λxs H Q=>(∃ i,xs=[.int i]/\Q (.int i) H)\/∃ k,xs=[.bl k]/\Q (.int (if k then 1 else 0)) H
abbrev LQ:=W2
abbrev Kg:=i7
end
end L2
namespace L2
section
variable{X:Cx}{tg a:Expr}{ta:TE}{pos:Pos}
theorem EG{l:Expr}{tl:TE}(hl:PE X l tl):PI X tg l (DV X.K tl):=by
 intro AB s σ H R I h
 refine AW (hl AB s σ H _ I h) λv s1 hzz=> ?_
 obtain⟨x,H1,I1,r1,q1⟩:=hzz
 obtain⟨a,e,q1⟩:=q1
 subst e
 cases r1
 have fp1:∀ b∈[s1.heap.objs.size],FpOk X AB H1 b:=λb hb=>by
  have e:b=s1.heap.objs.size:=by simpa using hb
  subst e
  exact I1.fpOk (Nat.le_refl _) (I1.hok.fresh (Nat.le_refl _))
 rcases q1 with⟨⟨xs,hq⟩,q⟩ | ⟨⟨xs,hq⟩,q⟩
 ·obtain⟨its,rv,p,hz⟩:=I1.list hq
  refine wpAny_pyIter_list p.isList ?_
  exact⟨s1.heap.objs.size,[s1.heap.objs.size],_,_,H1,rfl,I1.kept (t':=s1.toks) λb o e=>Heap.get?_push_of_some _ e,Bz a _,⟨_,Heap.get?_push_size _ rfl,rfl,rfl⟩,fp1,q⟩
 ·obtain⟨its,rv,p,hz⟩:=I1.tuple hq
  refine wpAny_pyIter_tuple (show s1.heap.IsTuple a its.toArray from p) ?_
  exact⟨s1.heap.objs.size,[s1.heap.objs.size],_,_,H1,rfl,I1.kept (t':=s1.toks) λb o e=>Heap.get?_push_of_some _ e,Cb a _,⟨_,Heap.get?_push_size _ rfl,rfl,rfl⟩,fp1,q⟩
def XO(K:W.Frag)(ta:TE):TE:=λσ H Q=>ta σ H λx H1=>∃ k,LI K x H1 k/\Q (.bl (!k)) H1
theorem Kh(ha:PE X a ta):PE X (.UnaryOp .Not a pos) (XO X.K ta):=by
 intro AB s σ H Q I h
 refine UnaryOp_ (AW (ha AB s σ H _ I h) λv s1 hzz=> ?_)
 obtain⟨x,H1,I1,r1,k,t1,q1⟩:=hzz
 exact not_of (AW (iF AB s1 σ H1 x v (λc H2=>c=k/\H2=H1) I1 r1 ⟨k,t1,rfl,rfl⟩) λc s2 ⟨H2,I2,e1,e2⟩=>by
  subst e1;subst e2;exact⟨.bl (!c),_,I2,rfl,q1⟩)
end
def XQ(scope outer:Scope)(N cn:List Str)(cap:List Nat):Bool :=
 scope.kind == .function && scope.names.all (λy=>y.2 != .cell) && scope.names.all (λy=>y.2 != .local || scope.names.lookup y.1 == some .local) &&
 scope.names.all (λy=>y.2 != .free || outer.names.lookup y.1 == some .cell || outer.names.lookup y.1 == some .free) && cn.all (λx=>scope.names.lookup x == some .free) && (cap.map (λi=>N[i]?) == cn.map some)
theorem Kj{X:Cx}{scope outer:Scope}{N tn cn:List Str}{cap:List Nat}(h1:X.env.scope=outer)(h2:X.N=N)(h:XQ scope outer N cn cap=true):N7 X scope tn cn cap:=by
 unfold XQ at h
 simp only[Bool.and_eq_true,List.all_eq_true,Bool.or_eq_true,bne_iff_ne,beq_iff_eq]at h
 obtain⟨⟨⟨⟨⟨k1,k2⟩,k3⟩,k4⟩,k5⟩,k6⟩:=h
 refine⟨k1,k2,λy hy hl=>(k3 y hy).resolve_left λz=>z hl,λy hy hf=> ?_,k5,by rw[h2];exact k6⟩
 have z:=k4 y hy
 show X.env.scope.names.lookup y.1=_\/X.env.scope.names.lookup y.1=_
 rw[h1]
 rcases z with(z | z) | z
 ·exact absurd hf z
 ·exact .inl z
 ·exact .inr z
structure RD(K:W.Frag)(C:Addr):Prop where
 ga:W.findIn K (.ref C) "__getattribute__"=some (some (.builtin "BaseException.__getattribute__"))
 gt:W.findIn K (.ref C) "__getattr__"=some none
 be:W.mroIn K C (.type "BaseException")=some true
 cl:W.isClsIn K C=true
 ha:W.findIn K (.ref C) "__class__"=some (some (.builtin "object.__class__"))
 hn:W.specialIn K (.builtin "object.__class__") "__get__"=some (some (.builtin "getset_descriptor.__get__"))
 tk:W.takesIn K (.builtin "object.__class__")=some true
 mr:W.mroIn K C (.type "object")=some true
theorem Kk{K:W.Frag}{C:Addr}{od:Option Obj}{name:Str}{a g:Value}(hc:(W.clsIn K C).isSome=true)(ha:W.findIn K (.ref C) name=some (some a))(hg:W.specialIn K a "__get__"=some (some g))(ht:W.takesIn K a=some true) :
  W.findObj K C od name=some (.bind g a):=by
 obtain⟨cd,hc⟩:=Option.isSome_iff_exists.mp hc
 unfold W.findObj
 rw[hc,Option.bind_some,ha,Option.bind_some]
 simp[hg,ht]
theorem Kl{K:W.Frag}{M:Model}{A:Around}{E:Value->Shared->Prop}{Q:Unit->Shared->Prop}{s:Shared}{x D:Addr}{ox:Obj}{nm:Value}(c:RD K D)(X:K.In s.heap)(I:W.InstAt s.heap x ox D none)(k:Q () s) :
  wpAny M A (checkBuiltinCall "BaseException.__getattribute__" ⟨[.ref x,nm],[]⟩) Q E s:=by
 have e1:builtinKind "BaseException.__getattribute__"=some .slot:=by decide +kernel
 have e2:splitId "BaseException.__getattribute__"=some ("BaseException","__getattribute__"):=by decide +kernel
 have L:W.Looks M s.heap (isInstance (.ref x) (.type "BaseException")) true:=(I.type (M:=M)).andThen (W.looks_mroIn (M:=M) X c.be)
 have ar:=PySem.F.args_bexc_ga (.ref x) nm
 obtain⟨hh,g,d,t,os⟩:=s
 simp only[checkBuiltinCall,e1,e2]
 refine wpAny_bind (L.at ?_)
 simp only[Bool.not_true,Bool.false_eq_true,if_false]
 cases hs:Manifest.signature? "BaseException.__getattribute__" with
 | none=>exact wpAny_pure k
 | some sig =>
  simp only[argsOk,hs]at ar
  have z:Bind.checkArgs "BaseException.__getattribute__" sig ⟨[.ref x,nm],[]⟩=pure ():=ar
  show wpAny M A (Bind.checkArgs "BaseException.__getattribute__" sig ⟨[.ref x,nm],[]⟩) Q E _
  rw[z];exact wpAny_pure k
theorem Km{K:W.Frag}{prog:Program}{w:World}{A:Around}{E:Value->Shared->Prop}{Q:Option Value->Shared->Prop}{s:Shared}{x D:Addr}{ox:Obj}(c:RD K D)(X:K.In s.heap)(I:W.InstAt s.heap x ox D none)
  (k:Q (some (.ref D)) { s with toks:=s.toks+1 }):wpAny (model prog w) A (getAttr? (.ref x) "__class__") Q E s:=by
 obtain⟨hh,g,d,t,os⟩:=s
 have L0:=I.type (M:=model prog w)
 have L1:=W.looks_findIn (M:=model prog w) X c.ga
 have L2:=W.looks_findIn (M:=model prog w) X c.gt
 have L3:=W.looks_find (M:=model prog w) X I (Kk (name:="__class__") c.cl c.ha c.hn c.tk)
 unfold getAttr? getAttrBy? getAttrBy
 refine wpAny_bind (wpAny_mkText (wpAny_bind (wpAny_attempt (wpAny_holding (wpAny_bind (L0.at (wpAny_bind (L1.at ?_))))))))
 show wpAny _ _ (getAttrByItsOwn _ _ _ _ _ _) _ _ _
 unfold getAttrByItsOwn
 refine wpAny_bind (L2.at (wpAny_bind (wpAny_attempt (wpAny_holding ?_))))
 show wpAny _ _ (boundAndCalled _ _ _) _ _ _
 unfold boundAndCalled
 rw[PySem.F.attr_ValueError.ga.bind (.ref x)]
 refine wpAny_bind (wpAny_pure (wpAny_call (codeAny_call_builtin PySem.F.attr_ValueError.ga.plain PySem.F.entry_bexc_ga (Kl c X I ?_))))
 refine wpAny_bind (wpAny_pure (wpAny_bind (wpAny_pure (wpAny_bind (L0.at (wpAny_bind (L3.at ?_)))))))
 show wpAny _ _ (holding [_] (call _ _) >>= ret) _ _ _
 refine wpAny_bind (wpAny_holding (wpAny_call (W.class_get (ox:=ox) (od:=none) X I c.mr (wpAny_pure ?_))))
 exact W.handed_on rfl (wpAny_pure k)
theorem Kp{K:W.Frag}{x D:Addr}(c:RD K D):W.KitX K (.ref x) (.ref D) (KO x (.ref D)):=by
 have inst:∀ {h:Heap},KO x (.ref D) h->∃ ox,W.InstAt h x ox D none:=λ{h} ⟨oe,vs,e1,e2,e3,e4⟩=>by
  refine⟨oe,e1,e2,?_,?_⟩
  ·unfold W.notCls;rw[e4]
  ·rw[e3];trivial
 have cls:∃ cd,W.clsIn K D=some cd:=Option.isSome_iff_exists.mp c.cl
 refine⟨λM h _ p=>(inst p).elim λ_ I=>I.type,λM h X p=> ?_,λh tp dd its n sl X htp=> ?_,λ{prog w A E Q s} X p k=> ?_⟩
 ·obtain⟨cd,hc⟩:=cls
  unfold W.clsIn at hc
  split at hc
  ·rename_i c' d' cd' sl' ho
   intro A' Q' E' s' k q
   unfold isType loadHead
   exact wpAny_bind (wpAny_loadPart (k _ _ (X _ _ ho)) (wpAny_pure q))
  ·cases hc
 ·obtain⟨cd,hc⟩:=cls
  refine Bool.eq_false_iff.mpr λq=> ?_
  have e:D=tp:=Value.ref.inj (beq_iff_eq.mp q)
  subst e
  unfold W.clsIn at hc
  split at hc
  ·rename_i c' d' cd' sl' ho
   have z:=(X _ _ ho).symm.trans htp
   cases z
  ·cases hc
 ·obtain⟨ox,I⟩:=inst p
  exact Km c X I k
def TyX(K:W.Frag)(H:Hp)(x:V)(t:Value):Prop:=IG K H x t\/∃ a C,x=.ref a/\t=.ref C/\H a=some (.ext (KO a (.ref C)))/\RD K C
inductive ClsV:V->Value->Prop
 | own (C:Addr):ClsV (.ref C) (.ref C)
 | ty (n:String):ClsV (.ty n) (.type n)
theorem ClsV.rel{y:V}{c u:Value}(h:ClsV y c)(r:RelV y u):u=c:=by
 cases h<;>exact r
theorem jZ:∀ {ys:List V} {cs us:List Value},Paired ClsV ys cs->Vals ys us->us=cs
 | _,_,_,.nil,.nil=>rfl
 | _,_,_,.cons h t,.cons r rr=>by rw[h.rel r,jZ t rr]
def OD(K:W.Frag):List V->Hp->VK->Prop:=λxs H Q=>∃ x y t b,xs=[x,y]/\TyX K H x t ∧
 ((∃ c,ClsV y c/\W.kitOne K t c=some b)\/∃ p ys cs,y=.ref p/\SqT K H p ys/\Paired ClsV ys cs/\W.kitAny K t cs=some b)/\Q (.bl b) H
section
variable{X:Cx}
theorem TyX.kit{AB:List (Addr × Obj)}{σ:St}{H:Hp}{s:Shared}{x:V}{t u:Value}(I:Inv X AB σ H s)(h:TyX X.K H x t)(r:RelV x u):∃ φ :Heap->Prop,W.KitX X.K u t φ /\ φ s.heap/\u≠.builtin "__main__.__loader__#opaque":=by
 rcases h with h | ⟨a,C,rfl,rfl,e,c⟩
 ·cases h with
  | non=>cases (show u=Value.none from r);exact⟨_,W.kitx_none,trivial,λz=>nomatch z⟩
  | bl y=>cases (show u=Value.bool y from r);exact⟨_,W.kitx_bool,trivial,λz=>nomatch z⟩
  | int i=>obtain⟨t,q⟩:=(show ∃ t,u=Value.int i t from r);cases q;exact⟨_,W.kitx_int,trivial,λz=>nomatch z⟩
  | str y=>obtain⟨t,q⟩:=(show ∃ t,u=Value.str y t from r);cases q;exact⟨_,W.kitx_str,trivial,λz=>nomatch z⟩
  | flt y=>obtain⟨t,q⟩:=(show ∃ t,u=Value.float y t from r);cases q;exact⟨_,W.kitx_float,trivial,λz=>nomatch z⟩
  | @lst a xs ea =>
   cases (show u=Value.ref a from r)
   obtain⟨_,_,n,_,h1⟩:=(show ObjOk X.prog X.w H s.heap a (.lst xs)from I.hok a _ ea)
   exact⟨_,W.kitx_list,⟨_,h1,rfl⟩,λz=>nomatch z⟩
  | @frz a ob xs ea =>
   cases (show u=Value.ref a from r)
   obtain⟨_,_,_,n,_,h1⟩:=(show ObjOk X.prog X.w H s.heap a (.frz ob (.lst xs))from I.hok a _ ea)
   exact⟨_,W.kitx_list,⟨_,h1,rfl⟩,λz=>nomatch z⟩
  | @tup a xs ea =>
   cases (show u=Value.ref a from r)
   obtain⟨_,_,_,p⟩:=(show ObjOk X.prog X.w H s.heap a (.tup xs)from I.hok a _ ea)
   obtain⟨o,h1,h2,_⟩:=p
   exact⟨_,W.kitx_tuple,⟨o,h1,h2⟩,λz=>nomatch z⟩
  | @dK a kvs ea =>
   cases (show u=Value.ref a from r)
   obtain⟨_,_,vs,_,p⟩:=(show ObjOk X.prog X.w H s.heap a (.dK kvs)from I.hok a _ ea)
   obtain⟨o,es,ep,h1,h2,_⟩:=p
   exact⟨_,W.kitx_dict,⟨o,h1,h2.1⟩,λz=>nomatch z⟩
  | @dT a kvs ea =>
   cases (show u=Value.ref a from r)
   obtain⟨_,_,xs,_,o,es,ep,h1,h2,_⟩:=(show ObjOk X.prog X.w H s.heap a (.dT kvs)from I.hok a _ ea)
   exact⟨_,W.kitx_dict,⟨o,h1,h2.1⟩,λz=>nomatch z⟩
  | @ins a C dx fs ea cl ha hn htk hm =>
   cases (show u=Value.ref a from r)
   obtain⟨mA,O,_⟩:=S5 I.hok ea
   obtain⟨od,J,_⟩:=O.look
   exact⟨_,W.kitx_own (cl.get _) cl.hd ha hn htk hm,J,λz=>nomatch z⟩
 ·cases (show u=Value.ref a from r)
  have p:KO a (.ref C) s.heap:=(show ObjOk X.prog X.w H s.heap a (.ext (KO a (.ref C)))from I.hok a _ e).1
  exact⟨_,Kp c,p,λz=>nomatch z⟩
theorem XR:HH X (.builtin "isinstance") (OD X.K):=by
 intro AB s σ H xs us Q I r h
 obtain⟨x,y,t,b,rfl,ty,hc,q⟩:=h
 obtain⟨u,v,rfl,rx,ry⟩:=Vals.two r
 obtain⟨φ,Z,p,ne⟩:=ty.kit I rx
 rcases hc with⟨c,hy,e⟩ | ⟨pt,ys,cs,rfl,hs,hcs,e⟩
 ·have:=hy.rel ry
  subst this
  exact W.kia_one Z I.kIn p e ne λtk=>⟨.bl b,H,I.tok tk,rfl,q⟩
 ·cases (show v=Value.ref pt from ry)
  obtain⟨its,rv,⟨⟨c1,c2,c3,c4⟩,e1,e2,n,e3⟩,_⟩:=I.tuple hs
  obtain rfl:c1=_:=e2
  obtain rfl:c3=_:=e3
  have:=jZ hcs rv
  subst this
  exact W.kia_tup Z I.kIn p e1 e ne λtk=>⟨.bl b,H,I.tok tk,rfl,q⟩
end
end L2
namespace L2
def FU(J:It)(g:TG)(tt:TT)(te:TE)(k:Nat)(cap:List Nat)(σ:St)(H1:Hp)(Q:VK):Prop :=
 ∃ W:Nat->Nat->St->List V->Hp->Prop,(∃ m,W 0 m (KM k cap σ) [] H1)/\∀ i m σ' ys H,W i m σ' ys H →
  (J.stop i H/\∀ p,H p=none->Q (.ref p) (upd H p (.lst ys))) ∨
  (J.go i H/\ys.length<sizeLine/\∀ x H',J.yld i H x H'->g x σ' H' λσ2 H2=>tt σ2 H2 λb H3 =>
   if b=true then ∃ N:VK,(∀ y H4,N y H4->∃ m',m'<m/\W (i+1) m' σ2 (ys++[y]) H4)/\te σ2 H3 N else ∃ m',m'<m/\W (i+1) m' σ2 ys H3)
def KQ(J:It)(g:TG)(tb:TS)(D:Ends)(σ:St)(H1:Hp):Prop :=
 ∃ W:Nat->Nat->St->Hp->Prop,(∃ m,W 0 m σ H1)/\∀ i m σ H,W i m σ H →
  (J.stop i H/\D.nx σ H)\/(J.go i H/\∃ N:St->Hp->Prop,(∀ σ' H',N σ' H'->∃ m',m'<m/\W (i+1) m' σ' H')/\∀ x H',J.yld i H x H'->g x σ H' λσ2 H2=>tb { D with nx:=N,ct:=N,bk:=D.nx } σ2 H2)
section
variable{K:W.Frag}{ta tb tc to ti tv tl:TE}{tt tA tB' tu:TT}{s1 s2:TS}{r r':R2}{σ:St}{H:Hp}{Q:VK}{D:Ends}{QB:Bool->Hp->Prop}{as:TA}{g:TG}{gs:LH}{te:TE}{k i:Nat}{cap:List Nat}{f m:Str}{C:Addr}{sp:Sp}{D7:List V}{E:St->XK}{v:V}{vs:List V}{QA:List V->Hp->Prop}{QG:St->Hp->Prop}{QO:Option Int->Hp->Prop}
theorem Kq:AF s1 s2 D σ H=(s1 { D with nx:=s2 D } σ H):=rfl
theorem Kv:CH D σ H=(D.nx σ H):=rfl
theorem Kw:AS ta g D σ H=(ta σ H λx H1=>g x σ H1 D.nx):=rfl
theorem Kx:DJ ta D σ H=(ta σ H λ_ H1=>D.nx σ H1):=rfl
theorem Ky:A5 ta D σ H=(ta σ H D.rt):=rfl
theorem Kz:WJ D σ H=(D.rt .non H):=rfl
theorem Lb:B9 tt s1 s2 D σ H=(tt σ H λb H1=>if b=true then s1 D σ H1 else s2 D σ H1):=rfl
theorem Lc:tC v σ H Q=(Q v H):=rfl
theorem Ld:AC r ta tb σ H Q=(ta σ H λx H1=>tb σ H1 λy H2=>r x y H2 Q):=rfl
theorem Lg:A7 ta σ H QB=(ta σ H λx H'=>∃ k,x=.bl k/\QB k H'):=rfl
theorem Lh:Q0 r r' ta tb tc σ H Q=(ta σ H λx H1=>tb σ H1 λy H2=>r x y H2 λz H3=>∃ k,z=.bl k/\(if k=true then tc σ H3 λw' H4=>r' y w' H4 Q else Q (.bl false) H3)):=rfl
theorem Lj:LE tt σ H QB=(tt σ H λc H1=>QB (!c) H1):=rfl
theorem Ll:JL tt tu σ H QB=(tt σ H λc H1=>if c=true then tu σ H1 QB else QB false H1):=rfl
theorem Lm:KH tt tu σ H QB=(tt σ H λc H1=>if c=true then QB true H1 else tu σ H1 QB):=rfl
theorem Lp:QW ta tb σ H Q=(ta σ H λx H1=>∃ c,x=.bl c/\if c=true then tb σ H1 Q else Q (.bl false) H1):=rfl
theorem Lq:XO K ta σ H Q=(ta σ H λx H1=>∃ k,LI K x H1 k/\Q (.bl (!k)) H1):=rfl
theorem Lw:OC K ta σ H QB=(ta σ H λx H'=>∃ k,LI K x H' k/\QB k H'):=rfl
theorem Lx:WI tt ta tb σ H Q=(tt σ H λc H1=>if c=true then ta σ H1 Q else tb σ H1 Q):=rfl
theorem Ly:BI σ H QA=(QA [] H):=rfl
theorem Lz:DZ ta as σ H QA=(ta σ H λx H1=>as σ H1 λxs H2=>QA (x::xs) H2):=rfl
theorem Mb:CV as σ H Q=(as σ H λxs H1=>xs.length<=sizeLine/\∀ p,H1 p=none->Q (.ref p) (upd H1 p (.tup xs))):=rfl
theorem Mc:CQ as σ H Q=(as σ H λxs H1=>xs.length<=sizeLine/\∀ p,H1 p=none->Q (.ref p) (upd H1 p (.lst xs))):=rfl
theorem Md:BE sp D7 E as σ H Q=(as σ H λvs H1=>sp (vs++D7) H1 Q (E σ)):=rfl
theorem Mg:BC C m sp D7 E ta as σ H Q=(ta σ H λx H1=>∃ a dx fs,x=.ref a/\H1 a=some (.ins C dx fs)/\fs.lookup m=none/\as σ H1 λvs H2=>sp (x::(vs++D7)) H2 Q (E σ)):=rfl
theorem Mh:JM C sp D7 E as σ H Q=(as σ H λvs H1=>∀ x dx,H1 x=none->H1 dx=none->dx≠x->sp (.ref x::(vs++D7)) (upd (upd H1 dx (.own x)) x (.ins C dx [])) (λv H2=>v=.non/\Q (.ref x) H2) (E σ)):=rfl
theorem Mj:BR K ta f σ H Q=(ta σ H λx H1=>∃ a C dx fs v,x=.ref a/\H1 a=some (.ins C dx fs)/\Cls K C/\NoAttr K C f/\fs.lookup f=some v/\Q v H1):=rfl
theorem Ml:EL K ta tv f D σ H=(tv σ H λy H1=>ta σ H1 λx H2=>∃ a C dx fs,x=.ref a/\H2 a=some (.ins C dx fs)/\Cls K C/\NoAttr K C f/\fs.length<1000/\D.nx σ (upd H2 a (.ins C dx (CS f y fs)))):=rfl
theorem Mm{rc:List V->Hp->VK->Prop}:B5 rc as σ H Q=as σ H λvs H1=>rc vs H1 Q:=rfl
theorem Mp:MP C E as D σ H=(as σ H λvs H1=>vs.length<=sizeLine/\E σ (.ref C) none H1):=rfl
theorem Mq{sb:(St->XK)->TS}{th:TH}:XJ sb th D σ H=sb (λσ' cls _ H'=>th cls D σ' H') D σ H:=rfl
theorem Mv:AG i v σ H QG=(QG (σ.set i (some v)) H):=rfl
theorem Mw{rs:SX}:EK to ti rs v σ H QG=to σ H λo H1=>ti σ H1 λi H2=>rs o i v H2 λH3=>QG σ H3:=rfl
theorem Mx:GH K k gs v σ H QG=(∃ a xs,v=.ref a/\SqT K H a xs/\xs.length=k/\gs xs σ H QG):=rfl
theorem My:GG vs σ H QG=((vs=[]/\QG σ H)):=rfl
theorem Mz:DQ g gs vs σ H QG=(∃ v r,vs=v::r/\g v σ H λσ' H'=>gs r σ' H' QG):=rfl
theorem Nb{rs:V->Option Int->Option Int->Hp->VK->Prop}{ol oh:TO}:N0 rs ta ol oh σ H Q=ta σ H λx H1=>ol σ H1 λl H2=>oh σ H2 λu H3=>rs x l u H3 Q:=rfl
theorem Nd:S7 σ H QO=(QO none H):=rfl
theorem Ng:LJ ta σ H QO=(ta σ H λx H1=>∃ i,x=.int i/\QO (some i) H1):=rfl
theorem Nh{T:String}{rm:V->List V->Hp->VK->Prop}:G4 K T rm ta as σ H Q=ta σ H λx H1=>WZ K T x H1/\as σ H1 λxs H2=>rm x xs H2 Q:=rfl
theorem Nj:DL σ H QB=(QB true H):=rfl
theorem Nk:B6 (DR as) g tt te k cap σ H Q=(as σ H λvs H1=>∃ j:Int,vs=[.int j]/\ -(2 ^ 62)<=j/\j<2 ^ 62/\FU (GU 0 j.toNat) g tt te k cap σ H1 Q):=rfl
theorem Nl:B6 (DV K tl) g tt te k cap σ H Q=(tl σ H λx H1=>∃ a,x=.ref a/\(((∃ xs,SqL K H1 a xs)/\FU (ID K a) g tt te k cap σ H1 Q)\/((∃ xs,SqT K H1 a xs)/\FU (QX K a) g tt te k cap σ H1 Q))):=rfl
theorem Nm:FA (DR as) g s1 D σ H=(as σ H λvs H1=>∃ j:Int,vs=[.int j]/\ -(2 ^ 62)<=j/\j<2 ^ 62/\KQ (GU 0 j.toNat) g s1 D σ H1):=rfl
theorem Np:FA (DV K tl) g s1 D σ H=(tl σ H λx H1=>∃ a,x=.ref a/\(((∃ xs,SqL K H1 a xs)/\KQ (ID K a) g s1 D σ H1)\/((∃ xs,SqT K H1 a xs)/\KQ (QX K a) g s1 D σ H1))):=rfl
theorem Nq{rd:V->V->Hp->VK->Prop}:WS K ta tv rd f D σ H=(ta σ H λx H1=>∃ a C dx fs v,x=.ref a/\H1 a=some (.ins C dx fs)/\Cls K C/\NoAttr K C f/\fs.lookup f=some v/\tv σ H1 λy H2=>rd v y H2 λz H3=>∃ dx' fs',H3 a=some (.ins C dx' fs')/\fs'.length<1000/\D.nx σ (upd H3 a (.ins C dx' (CS f z fs')))):=rfl
end
end L2
namespace L2
section
variable{K:W.Frag}{σ:St}{H:Hp}{Q:VK}{P:Bool->Prop}{PI':Int->Prop}{PV:V->Prop}{QB:Bool->Hp->Prop}{v:V}{x:Option V}{i j:Int}{n:Nat}{b b':Bool}{s s':Str}{p q:Addr}{f:Int->Int->V}{C:Int->Int->Prop}
def EA(i:Nat):TE:=λσ H Q=>match σ[i]? with
 | some (some v)=>Q v H
 | _=>False
theorem j0:EA 0 (some v::σ) H Q=Q v H:=rfl
theorem Nv:EA (n+1) (x::σ) H Q=EA n σ H Q:=rfl
theorem Nx(i:Nat):EA i=SV i:=by
 funext σ H Q
 unfold EA SV
 cases σ[i]? with
 | none=>simp
 | some o=>cases o<;>simp
theorem Ny{P:Bool->Prop}:(∃ k,V.bl b=V.bl k/\P k)=P b:=by simp
theorem Nz{P:Int->Prop}:(∃ k,V.int i=V.int k/\P k)=P i:=by simp
theorem Pb{P:Addr->Prop}:(∃ k,V.ref p=V.ref k/\P k)=P p:=by simp
theorem Pc{P:Bool->Prop}:(∃ k,LI K (.bl b) H k/\P k)=P b:=by simp[LI]
theorem Pd:BT K (.int i) (.int j) H Q=Q (.int (i+j)) H:=rfl
theorem Pg:BT K (.str s) (.str s') H Q=(s.length+s'.length<=sizeLine/\Q (.str (s++s')) H):=rfl
theorem j3:BT K (.ref p) (.ref q) H Q=(W3 (.ref p) (.ref q) H Q\/WU K (.ref p) (.ref q) H Q\/XL K (.ref p) (.ref q) H Q):=rfl
theorem Ph{x y:Str}:MR (.str x) (.str y) H Q=Q (.bl (!decide (y.cps.toList<x.cps.toList))) H:=rfl
theorem Pj{x y:Str}:JQ (.str x) (.str y) H Q=Q (.bl (decide (x.cps.toList<y.cps.toList))) H:=rfl
theorem Pk{x:Str}{lo hi:Option Int}:MS K (.str x) lo hi H Q=(x.length<=sizeLine/\Q (.str (Txt.slice x lo hi)) H):=rfl
theorem Pl:FF K (.int i) (.int j) H Q=(CMul i j/\Q (.int (i * j)) H):=rfl
theorem Pm{z:Str}{j:Int}:FF K (.str z) (.int j) H Q=(0<=j/\j<=1000/\z.length<=1000/\Q (.str (LP z j)) H):=rfl
theorem Pp:FF K (.ref p) (.int j) H Q=(W8 (.ref p) (.int j) H Q\/XM K (.ref p) (.int j) H Q):=rfl
theorem Pq:IY f (.int i) (.int j) H Q=Q (f i j) H:=by simp[IY]
theorem Pw:rI C f (.int i) (.int j) H Q=(C i j/\Q (f i j) H):=by simp[rI]
theorem Px:JQ (.int i) (.int j) H Q=Q (.bl (decide (i<j))) H:=rfl
theorem Py:MR (.int i) (.int j) H Q=Q (.bl (decide (i<=j))) H:=rfl
theorem Pz:KP (.int i) (.int j) H Q=Q (.bl (decide (j<i))) H:=rfl
theorem Qb:TU (.int i) (.int j) H Q=Q (.bl (decide (j<=i))) H:=rfl
theorem j4:CD K (.int i) (.int j) H Q=Q (.bl (decide (i=j))) H:=by simp[CD,G3]
theorem Qc:CD K (.str s) (.str s') H Q=Q (.bl (decide (s=s'))) H:=by simp[CD,G3]
theorem j5:CD K .non (.int j) H Q=Q (.bl false) H:=by simp[CD,G3]
theorem j6:DH K (.int i) (.int j) H Q=Q (.bl (!decide (i=j))) H:=by simp[DH,G3]
theorem j7:DH K .non (.int j) H Q=Q (.bl true) H:=by simp[DH,G3]
theorem Qd:HK v .non H Q=Q (.bl (decide (v=.non))) H:=by simp[HK]
theorem Qg:G7 v .non H Q=Q (.bl (!decide (v=.non))) H:=by simp[G7]
theorem Qh:Q4 (.int i) (.int j) H Q=Q (.int (i+j)) H:=by simp[Q4]
theorem Qj:CY K [v] H Q=∃ n:Nat,NY K v H n/\Q (.int n) H:=by simp[CY]
theorem Qk:RC K [.bl b] H Q=Q (.int (if b then 1 else 0)) H:=by simp[RC]
theorem j8:MT K [.ref p] H Q=∃ ys,(SqL K H p ys\/SqT K H p ys)/\∀ l,H l=none->Q (.ref l) (upd H l (.lst ys)):=by simp[MT]
theorem Ql:RB K [.ref p] H Q=∃ ys,((SqL K H p ys/\∀ l,H l=none->Q (.ref l) (upd H l (.tup ys)))\/(SqT K H p ys/\Q (.ref p) H)):=by simp[RB]
end
theorem AA{X:Cx}(i:Nat){x:Str}{pos:Pos}(hN:X.N[i]? =some x:=by rfl)(hv:ST X.env.scope x:=by first | exact Or.inl rfl | exact Or.inr (Or.inl rfl) | exact Or.inr (Or.inr rfl))(hd:(x ==("__debug__":Str))=false:=by decide)
  (HE:(x ==("__classdict__":Str))=false:=by decide):PE X (.Name x pos) (EA i):=by
 rw[Nx]
 exact hI hN hv hd HE
end L2
namespace L2
abbrev A0(Q:VK):Ends:={ nx:=λ_ H'=>Q .non H',rt:=Q }
abbrev B3(cap:List Nat)(σ:St):St:=cap.map λi=>(σ[i]?).join
section
variable{K:W.Frag}{te:TE}{cap:List Nat}{σ:St}{H:Hp}{Q:VK}
theorem LR{lo:Int}{n:Nat}(hn:n<=sizeLine)(Pv:Nat->List V->Hp->Prop)(h0:Pv 0 [] H)(hs:∀ i ys H,i<n->ys.length=i->Pv i ys H->te (some (.int (lo+i))::B3 cap σ) H λy H2=>Pv (i+1) (ys++[y]) H2)
  (hd:∀ ys H,ys.length=n->Pv n ys H->∀ p,H p=none->Q (.ref p) (upd H p (.lst ys))) :
  FU (GU lo n) (AG 0) DL te 1 cap σ H Q:=by
 refine⟨λi m σ' ys H=>m=n - i/\i<=n/\ys.length=i/\(∃ x0,σ'=x0::B3 cap σ)/\Pv i ys H,⟨n,by simp,Nat.zero_le _,rfl,⟨none,rfl⟩,h0⟩,?_⟩
 rintro i m σ' ys H ⟨rfl,hi,hl,⟨x0,rfl⟩,p⟩
 by_cases BZ:i<n
 ·refine .inr ⟨BZ,by omega,λx H' y=> ?_⟩
  obtain⟨e,y⟩:=y
  subst e y
  simp only[AG,DL,if_true]
  refine⟨_,λy H4 q=>⟨n - (i+1),by omega,rfl,BZ,?_,⟨_,rfl⟩,q⟩,hs i ys _ BZ hl p⟩
  rw[List.length_append,List.length_singleton,hl]
 ·have e:i=n:=by omega
  subst e
  exact .inl ⟨Nat.le_refl _,hd ys H hl p⟩
theorem XS{b:Addr}{xs:List V}(hn:xs.length<=sizeLine)(Pv:Nat->List V->Hp->Prop)(h0:Pv 0 [] H)(hq:∀ i ys H,i<=xs.length->Pv i ys H->SqL K H b xs)
  (hs:∀ i x ys H,xs[i]? =some x->ys.length=i->Pv i ys H->te (some x::B3 cap σ) H λy H2=>Pv (i+1) (ys++[y]) H2)
  (hd:∀ ys H,ys.length=xs.length->Pv xs.length ys H->∀ p,H p=none->Q (.ref p) (upd H p (.lst ys))) :
  FU (ID K b) (AG 0) DL te 1 cap σ H Q:=by
 refine⟨λi m σ' ys H=>m=xs.length - i/\i<=xs.length/\ys.length=i/\(∃ x0,σ'=x0::B3 cap σ)/\Pv i ys H,⟨xs.length,by simp,Nat.zero_le _,rfl,⟨none,rfl⟩,h0⟩,?_⟩
 rintro i m σ' ys H ⟨rfl,hi,hl,⟨x0,rfl⟩,p⟩
 have q:=hq i ys H hi p
 by_cases BZ:i<xs.length
 ·refine .inr ⟨⟨xs,xs[i],q,by simp[BZ]⟩,by omega,λx H' y=> ?_⟩
  obtain⟨e,y⟩:=y
  subst e
  have hx:=y xs q
  simp only[AG,DL,if_true]
  refine⟨_,λy H4 q=>⟨xs.length - (i+1),by omega,rfl,BZ,?_,⟨_,rfl⟩,q⟩,hs i x ys _ hx hl p⟩
  rw[List.length_append,List.length_singleton,hl]
 ·have e:i=xs.length:=by omega
  subst e
  exact .inl ⟨⟨xs,q,Nat.le_refl _⟩,hd ys H hl p⟩
theorem Qm{lo:Int}{n:Nat}(hn:n<=sizeLine)(f:Nat->V)(hs:∀ i,i<n->∀ Q':VK,Q' (f i) H->te (some (.int (lo+i))::B3 cap σ) H Q')
  (hd:∀ p,H p=none->Q (.ref p) (upd H p (.lst ((List.range n).map f)))) :
  FU (GU lo n) (AG 0) DL te 1 cap σ H Q:=by
 refine LR hn (λi ys H'=>H'=H/\ys=(List.range i).map f) ⟨rfl,rfl⟩ (λi ys H' hi hl ⟨e1,e2⟩=> ?_) (λys H' hl ⟨e1,e2⟩=> ?_)
 ·subst e1
  refine hs i hi _ ⟨rfl,?_⟩
  rw[e2,List.range_succ,List.map_append];rfl
 ·subst e1;subst e2;exact hd
theorem KR{b:Addr}{xs:List V}{g:TG}{tb:TS}{D:Ends}(Pv:Nat->St->Hp->Prop)(h0:Pv 0 σ H)(hl:∀ i σ H,i<=xs.length->Pv i σ H->SqL K H b xs)
  (hs:∀ i x σ H,xs[i]? =some x->Pv i σ H->g x σ H λσ2 H2=>tb { D with nx:=Pv (i+1),ct:=Pv (i+1),bk:=D.nx } σ2 H2) (hd:∀ σ H,Pv xs.length σ H->D.nx σ H):KQ (ID K b) g tb D σ H:=Cj Pv h0 hl hs hd
theorem RE{lo:Int}{n:Nat}{g:TG}{tb:TS}{D:Ends}(Pv:Nat->St->Hp->Prop)(h0:Pv 0 σ H)
  (hs:∀ i σ H,i<n->Pv i σ H->g (.int (lo+i)) σ H λσ2 H2=>tb { D with nx:=Pv (i+1),ct:=Pv (i+1),bk:=D.nx } σ2 H2) (hd:∀ σ H,Pv n σ H->D.nx σ H):KQ (GU lo n) g tb D σ H:=Ck Pv h0 hs hd
end
theorem j9{K:W.Frag}{H:Hp}{x y:V}{t c:Value}{b:Bool}{Q:VK}(ty:TyX K H x t)(cv:ClsV y c)(k:W.kitOne K t c=some b)(q:Q (.bl b) H):OD K [x,y] H Q:=⟨x,y,t,b,rfl,ty,.inl ⟨c,cv,k⟩,q⟩
theorem Qp{K:W.Frag}{H:Hp}{x:V}{p:Addr}{ys:List V}{cs:List Value}{t:Value}{b:Bool}{Q:VK}(ty:TyX K H x t)(hs:SqT K H p ys)(hc:Paired ClsV ys cs)(k:W.kitAny K t cs=some b)(q:Q (.bl b) H):OD K [x,.ref p] H Q:=⟨x,.ref p,t,b,rfl,ty,.inr ⟨p,ys,cs,rfl,hs,hc,k⟩,q⟩
theorem AV{H:Hp}{p:Addr}{o:HO}(h:H p=none):Same H (upd H p o):=λb u e=>by rw[AO (BX e h)];exact e
theorem FQ{α β :Type}{F: α -> β ->Prop}:∀ {l:List α} {m:List β} {i:Nat} {y: β},Paired F l m->m[i]? =some y->∃ x,l[i]? =some x/\F x y
 | _,_,_,_,.nil,e=>by simp at e
 | _,_,0,_,.cons r _,e=>by simp at e;subst e;exact⟨_,rfl,r⟩
 | _,_,i+1,y,.cons _ t,e=>by
  obtain⟨u,h1,h2⟩:=FQ (i:=i) (y:=y) t (by simpa using e)
  exact⟨u,by simpa using h1,h2⟩
theorem XT{α β :Type}{F: α -> β ->Prop}{x: α}{y: β}(r:F x y):∀ {l:List α} {m:List β} (i:Nat),Paired F l m->Paired F (l.set i x) (m.set i y)
 | _,_,_,.nil=>.nil
 | _,_,0,.cons _ t=>.cons r t
 | _,_,i+1,.cons q t=>.cons q (XT r i t)
theorem B0{K:W.Frag}{H:Hp}{p:Addr}{xs:List V}{i:Int}{n:Nat}{v:V}{Q:VK}(h:SqL K H p xs)(hi:i=n)(hx:xs[n]? =some v)(q:Q v H):AY K (.ref p) (.int i) H Q :=
 .inl ⟨p,xs,i,v,rfl,rfl,h,hi ▸ WW hx,q⟩
theorem small(n:Nat)(h:n<=100000):n<=sizeLine:=Nat.le_trans h (by decide)
theorem kA{α :Type}(x: α):∀ w:Nat,(List.replicate w [x]).flatten=List.replicate w x
 | 0=>rfl
 | w+1=>by rw[List.replicate_succ,List.flatten_cons,kA x w];rfl
theorem KS{f:Str}{v:V}{fs:List (Str × V)}{n:Nat}(h:fs.length+1<n):(CS f v fs).length<n:=Nat.lt_of_le_of_lt (WQ f v fs) h
theorem kB{d:PyData}(h:shp d):PyData.eqv d d=true:=PySem.SeqAt.eqv_refl d (PySem.SeqAt.canLay_of_shaped h)
end L2
namespace L2
def ItK(k:Bool)(h:Heap)(j a:Addr)(i:Nat):Prop:=if k then h.IsListIter j a i else h.IsTupleIter j a i
def kC(k:Bool)(h:Heap)(a:Addr)(xs:Array Value):Prop:=if k then h.IsList a xs else h.IsTuple a xs
theorem ItK.up{k:Bool}{h h':Heap}{j a:Addr}{i:Nat}(x:ItK k h j a i)(q:∀ o,h.get? j=some o->h'.get? j=some o):ItK k h' j a i:=by
 cases k<;>exact(let ⟨o,e,r⟩:=x;⟨o,q o e,r⟩)
theorem ItK.ob{k:Bool}{h:Heap}{j a:Addr}{i:Nat}(x:ItK k h j a i):∃ o,h.get? j=some o/\o.data=.fields #[.ref a,.int i 0]:=by
 cases k<;>exact(let ⟨o,e,_,r⟩:=x;⟨o,e,r⟩)
section
variable{P:Program}{w:World}{A:Around}{E:Value->Shared->Prop}{s:Shared}
theorem Qq{j t:Addr}{i:Nat}{its:Array Value}{Q:Value->Shared->Prop}(z:A.handled=none)(c:s.heap.IsTupleIter j t i)(d:s.heap.IsTuple t its)(e:its[i]? =none)
  (q:∀ h' x,Heap.ExtBut j s.heap h'->(∃ o,h'.get? x=some o/\o.cls=.type "StopIteration")->E (.ref x) { s with heap:=h' }):wpAny (model P w) A (Builtin.SmallTypes.nextOf (.ref j)) Q E s:=by
 obtain⟨oj,e1,e2,e3⟩:=id c
 obtain⟨ot,f1,_,n,f2⟩:=d
 unfold Builtin.SmallTypes.nextOf
 refine wpAny_bind (wpAny_callSpecial?_slot (name:=Str.ofString "__next__") c.typeIs F.slot_tuple_iterator_next (wpAny_call_entry F.slot_tuple_iterator_next c.typeIs F.entry_tuple_iterator_next ?_ (F.args_tuple_iterator_next_1 _)))
 show wpAny (model P w) _ (field (.ref j) 0 >>= _) _ _ s
 refine wpAny_bind (wpAny_field e1 e3 (x:=.ref t) rfl ?_)
 show wpAny (model P w) _ (field (.ref j) 1 >>= _) _ _ s
 refine wpAny_bind (wpAny_field e1 e3 (x:=.int i 0) rfl ?_)
 show wpAny (model P w) _ (seqItems? (.ref t) >>= _) _ _ s
 refine wpAny_bind (wpAny_seqItems f1 f2 ?_)
 simp only[Int.toNat_natCast,e]
 refine wpAny_bind (wpAny_rule (wpAny_bind (wpAny_setField e1 e3 (by simp) ?_)))
 show wpAny (model P w) _ (newExc (.type "StopIteration") [] >>= _) _ _ _
 refine wpAny_bind ?_
 simp only[newExc,newTuple]
 refine wpAny_bind (wpAny_newObj_type (wpAny_bind (m:=firstArgMember _ _) (wpAny_of_eq (a:=Value.none) (by first | rfl | (simp only[firstArgMember];rfl)) (wpAny_newObj_type ?_ (by size_fits)))) (by size_fits))
 simp only[raiseNew]
 refine wpAny_bind (wpAny_handled ?_)
 rw[show A.in1.handled=none from z]
 exact wpAny_bind (wpAny_pure (wpAny_throw (q _ _ (((Heap.SameBut.update ..).extBut.push _).push _) ⟨_,Heap.get?_push_size _ rfl,rfl⟩)))
theorem Qv{k:Bool}{j t:Addr}{i:Nat}{its:Array Value}{Q:Value->Shared->Prop}(z:A.handled=none)(c:ItK k s.heap j t i)(d:kC k s.heap t its)(e:its[i]? =none)
  (q:∀ h' x,Heap.ExtBut j s.heap h'->(∃ o,h'.get? x=some o/\o.cls=.type "StopIteration")->E (.ref x) { s with heap:=h' }):wpAny (model P w) A (Builtin.SmallTypes.nextOf (.ref j)) Q E s:=by
 cases k
 ·exact Qq z c d e q
 ·exact wpAny_nextOf_list_end z c d e q
end
section
variable{P:Program}{w:World}{A:Around}{E:Value->Shared->Prop}{s:Shared}
end
theorem Inv.turnedS{X:Cx}{AB:List (Addr × Obj)}{σ:St}{H:Hp}{s:Shared}{h':Heap}{t':Nat}{fp:List Addr}(I:Inv X AB σ H s)(k:∀ b o,b∉fp->s.heap.get? b=some o->h'.get? b=some o)(hf:∀ b∈fp,FpOk X AB H b):Inv X AB σ H { s with heap:=h',toks:=t' }:=by
 have nit:∀ b u,H b=some u->b∉fp:=λb u e z=>by rw[(hf b z).1]at e;cases e
 refine I.step (g':=s.gens) (d':=s.drawn) (ch:=fp) (λb hb=> ?_) (λb o _ _ hc e _=>k b o hc e) (λb o _ _ hc e _=>⟨o.slots,k b o hc e⟩) (λ_ _ _ _ n=>n)
  (λb o hc e=>⟨o,k b o hc e⟩) (λ_ _ e=>e) (λ_ _ _ e=>e) (λb ps e=>⟨#[],by rw[e];simp⟩) (λm hm=> ?_) (λb u e=> ?_) I.bare
 ·obtain⟨_,f1,_,f3,f4,f5⟩:=hf b hb
  exact⟨f3,f1,f4,f5⟩
 ·obtain⟨o,es,ep,ho,r⟩:=hm
  exact⟨o,es,ep,k _ o (λz=>(hf _ z).2.1 rfl) ho,r⟩
 ·refine(I.hok b u e).stay (λc v hc q=>k c v ?_ q) (λ_ q=>q) λ_ _ q=>q
  rcases hc with z | z
  ·rw[z];exact nit b u e
  ·exact nit c _ z
def XU(K:W.Frag)(k:Bool)(H:Hp)(a:Addr)(xs:List V):Prop:=if k then SqL K H a xs else SqT K H a xs
theorem Inv.seqK{X:Cx}{AB:List (Addr × Obj)}{σ:St}{H:Hp}{s:Shared}{k:Bool}{a:Addr}{xs:List V}(I:Inv X AB σ H s)(q:XU X.K k H a xs):∃ its,Vals xs its/\kC k s.heap a its.toArray:=by
 cases k
 ·obtain⟨its,rv,p,_⟩:=I.tuple q
  exact⟨its,rv,p⟩
 ·obtain⟨its,rv,p,_⟩:=I.list q
  exact⟨its,rv,p.isList⟩
theorem Inv.seqK_inj{X:Cx}{AB:List (Addr × Obj)}{σ:St}{H:Hp}{s:Shared}{k:Bool}{a:Addr}{xs ys:List V}(I:Inv X AB σ H s)(p:XU X.K k H a xs)(q:XU X.K k H a ys):xs=ys:=by
 cases k
 ·exact I.tuple_inj p q
 ·exact I.list_inj p q
structure zqc(z T U j j':Addr):Prop where
 a1:T≠z
 a2:U≠z
 a3:j≠z
 a4:j'≠z
 a5:T≠U
 a6:T≠j
 a7:T≠j'
 a8:U≠j
 a9:U≠j'
 a10:j≠j'
theorem FpOk.upd{X:Cx}{AB:List (Addr × Obj)}{H:Hp}{a b:Addr}{o:HO}(f:FpOk X AB H b)(n:b≠a):FpOk X AB (upd H a o) b:=⟨(AO n).trans f.1,f.2⟩
section
variable{X:Cx}{tg:Expr}
end
end L2
namespace L2
section
variable{X:Cx}{tg:Expr}
def XV(K:W.Frag):List V->Hp->VK->Prop:=λxs H Q=>∃ i j,xs=[.int i,.int j]/\Q (.int (if j > i then j else i)) H
theorem Qw(hc:X.calm=true):HH X (.builtin "max") (XV X.K):=Dl hc
end
theorem Qx{K:W.Frag}{i j:Int}{H:Hp}{Q:VK}:XV K [.int i,.int j] H Q=Q (.int (if j > i then j else i)) H:=propext ⟨λ⟨_,_,e,q⟩=>by cases e;exact q,λq=>⟨_,_,rfl,q⟩⟩
section
variable{P:Program}{w:World}{A:Around}{E:Value->Shared->Prop}{s:Shared}
end
section
variable{X:Cx}
end
end L2
namespace L2
open PySem
abbrev Qy(l:List Nat):Prop:=l.Pairwise (· <·)
structure zqd(xs:Array Nat)(j r:Nat):Prop where
 le:r<=xs.size
 lo:∀ i v,i<r->xs.toList[i]? =some v->v<j
 hi:∀ i v,r<=i->xs.toList[i]? =some v->j<=v
def NotIn(t:SetTable)(j:Nat):Prop:=t.place[SetTable.below t.place j]? ≠some j
structure Led(led:Bool)(t:SetTable):Prop where
 rise:Qy t.place.toList
 led:t.led=led
end L2
namespace L2
open PySem PyProof.Rows
def leads(w:World):Bool:= !w.params.followText "set-order"
def iv:Value->Int
 | .int n _=>n
 | _=>0
section
variable{P:Program}{w:World}{A:Around}{E:Value->Shared->Prop}{s:Shared}
end
section
variable{P:Program}{w:World}{A:Around}{R:Result->Shared->Prop}{I:Addr}{fp wr:List Addr}{G:Array GenState->Array GenState->Prop}{n:Nat}{T:Nat->Value->Prop}{St:Nat->Shared->Prop}
end
section
variable{P:Program}{w:World}{A:Around}{E:Value->Shared->Prop}{s:Shared}
end
end L2
namespace L2
open PySem PyProof.Rows
section
variable{P:Program}{w:World}{A:Around}{E:Value->Shared->Prop}{s:Shared}
end
end L2
namespace L2
open PySem PyProof.Rows
structure zqf(P:Program)(w:World)(A:Around)(h h1:Heap)(a I:Addr)(ms:List Int):Prop where
 ex:∃ (fp:List Addr) (ord:List Value) (ks:List Int) (St:Nat->Heap->Prop),(∀ b∈fp,b=a\/h.objs.size<=b)/\Walks P w A I fp [I] ord.length (λi v=>ord[i]? =some v) St/\St 0 h1/\IntsAre ord ks/\ks.Perm ms
 new:h.objs.size<=I
section
variable{P:Program}{w:World}{A:Around}{E:Value->Shared->Prop}{s:Shared}
end
end L2
namespace L2
open PySem PyProof.Rows
section
variable{P:Program}{w:World}{A:Around}{E:Value->Shared->Prop}{s:Shared}
end
end L2
namespace L2
section
variable{X:Cx}
end
end L2
namespace L2
section
variable{X:Cx}{tg:Expr}
end
section
variable{K:W.Frag}{tt:TT}{cap:List Nat}{σ:St}{H:Hp}{Q:VK}
theorem KU{n:Nat}(p:Nat->Bool)(hn:n<=sizeLine)(ht:∀ i,i<n->∀ QB:Bool->Hp->Prop,QB (p i) H->tt (some (.int (i:Int))::B3 cap σ) H QB)
  (hd:∀ q,H q=none->Q (.ref q) (upd H q (.lst (((List.range n).filter p).map λ(i:Nat)=>V.int i)))):FU (GU 0 n) (AG 0) tt (EA 0) 1 cap σ H Q:=by
 refine⟨λi m σ' ys H'=>m=n - i/\i<=n/\H'=H/\(∃ x0,σ'=x0::B3 cap σ)/\ys=((List.range i).filter p).map λ(i:Nat)=>V.int i,⟨n,by simp,Nat.zero_le _,rfl,⟨none,rfl⟩,rfl⟩,?_⟩
 rintro i m σ' ys H' ⟨rfl,hi,rfl,⟨x0,rfl⟩,rfl⟩
 by_cases BZ:i<n
 ·refine .inr ⟨BZ,?_,λx H2 y=> ?_⟩
  ·rw[List.length_map]
   have:=List.length_filter_le p (List.range i)
   rw[List.length_range]at this
   omega
  ·obtain⟨e,y⟩:=y
   subst e y
   rw[Int.zero_add]
   simp only[AG,List.set_cons_zero]
   refine ht i BZ _ ?_
   cases hp:p i with
   | true =>
    rw[if_pos rfl]
    refine⟨λv H4=>v=.int i/\H4=H2,λy H4 ⟨e1,e2⟩=>⟨n - (i+1),by omega,rfl,BZ,e2,⟨_,rfl⟩,?_⟩,?_⟩
    ·rw[e1,List.range_succ,List.filter_append,List.map_append]
     simp[hp]
    ·simp[EA]
   | false =>
    rw[if_neg Bool.false_ne_true]
    refine⟨n - (i+1),by omega,rfl,BZ,rfl,⟨_,rfl⟩,?_⟩
    rw[List.range_succ,List.filter_append,List.map_append]
    simp[hp]
 ·have e:i=n:=by omega
  subst e
  exact .inl ⟨Nat.le_refl _,hd⟩
end
section
variable{K:W.Frag}{td ty tv te:TE}{D:Ends}{σ:St}{H:Hp}{Q:VK}{QB:Bool->Hp->Prop}
theorem Qz:W9 ty td σ H Q=(ty σ H λy H1=>td σ H1 λx H2=>∃ a o,x=.ref a/\DGet H2 a y o/\Q (.bl o.isSome) H2):=rfl
theorem Rb:XA ty td σ H Q=(ty σ H λy H1=>td σ H1 λx H2=>∃ a o,x=.ref a/\DGet H2 a y o/\Q (.bl (!o.isSome)) H2):=rfl
theorem Rc:XB td ty tv D σ H=(tv σ H λv H1=>td σ H1 λx H2=>ty σ H2 λy H3=>∃ a H4,x=.ref a/\DPut H3 a y v H4/\D.nx σ H4):=rfl
theorem Rg:XD td ty σ H Q=(td σ H λx H1=>∃ a,x=.ref a/\Q8 H1 a/\ty σ H1 λy H2=>∃ o,DGet H2 a y o/\Q (o.getD .non) H2):=rfl
theorem Rh:Q6 σ H Q=(∀ p,H p=none->Q (.ref p) (upd H p (.dK []))):=rfl
theorem Rj:TM σ H Q=(∀ p,H p=none->Q (.ref p) (upd H p (.dT []))):=rfl
theorem Rk:tB te σ H QB=(te σ H λx H1=>∃ c,x=.bl c/\QB c H1):=rfl
variable{a b:Addr}{i j:Int}{z:Str}{kvs:List (A1 × V)}{kvt:List (List A1 × V)}{v:V}
theorem dS(e:H a=some (.dK kvs)):DGet H a (.str z) (CK kvs (.inr z)):=DGet.k (k:=.inr z) e
theorem Rl(e:H a=some (.dT kvt))(eb:H b=some (.tup [.int i,.int j])):DGet H a (.ref b) (CK kvt [.inl i,.inl j]):=DGet.t (k:=[.inl i,.inl j]) e eb
theorem pS(e:H a=some (.dK kvs))(hl:kvs.length<100000):DPut H a (.str z) v (upd H a (.dK (DC kvs (.inr z) v))):=DPut.k (k:=.inr z) e (Nat.lt_of_lt_of_le hl (by decide))
end
end L2
namespace L2
section
variable{X:Cx}
abbrev XW(K:W.Frag):R2:=i6 K false
theorem Rm(hu:X.A.units+64<cLine):CP X (compareOp .In) (XW X.K):=Fx
end
theorem SqT.same{K:W.Frag}{H H':Hp}{a:Addr}{xs:List V}(e:Same H H')(h:SqT K H a xs):SqT K H' a xs:=by
 rcases h with(h | ⟨o,h⟩) | h
 ·exact .inl (.inl (e _ _ h))
 ·exact .inl (.inr ⟨o,e _ _ h⟩)
 ·exact .inr h
mutual
theorem Rep.same{K:W.Frag}{H H':Hp}(s:Same H H'):∀ {v:V} {d:PyData},Rep K H v d->Rep K H' v d
 | _,_,.non=>.non
 | _,_,.bl b=>.bl b
 | _,_,.int i=>.int i
 | _,_,.str x=>.str x
 | _,_,.lst h r=>.lst (s.seq h) (RepAll.same s r)
 | _,_,.tup h r=>.tup (SqT.same s h) (RepAll.same s r)
theorem RepAll.same{K:W.Frag}{H H':Hp}(s:Same H H'):∀ {vs:List V} {ds:List PyData},RepAll K H vs ds->RepAll K H' vs ds
 | _,_,.nil=>.nil
 | _,_,.cons h r=>.cons (Rep.same s h) (RepAll.same s r)
end
def Dat(K:W.Frag)(H:Hp)(n:Nat)(v:V)(d:PyData):Prop:=Rep K H v d/\d.canLay0=true/\d.depth<=n
section
variable{K:W.Frag}{H:Hp}{n:Nat}{Q:VK}
theorem Dat.int(i:Int):Dat K H n (.int i) (.int i):=⟨.int i,rfl,Nat.zero_le _⟩
theorem Dat.non:Dat K H n .non .none:=⟨.non,rfl,Nat.zero_le _⟩
theorem XX:∀ {xs:List V} {ds:List PyData},Paired (Dat K H n) xs ds->RepAll K H xs ds/\PyData.canLayAll0 ds=true/\PyData.depthAll ds<=n
 | _,_,.nil=>⟨.nil,rfl,Nat.zero_le _⟩
 | _,_,.cons h t=>by
  obtain⟨a1,a2,a3⟩:=XX t
  refine⟨.cons h.1 a1,?_,?_⟩
  ·simp[PyData.canLayAll0,h.2.1,a2]
  ·simp only[PyData.depthAll];exact Nat.max_le.mpr ⟨h.2.2,a3⟩
theorem Dat.lst{p:Addr}{xs:List V}{ds:List PyData}(h:SqL K H p xs)(hs:Paired (Dat K H n) xs ds):Dat K H (n+1) (.ref p) (.list ds):=by
 obtain⟨a1,a2,a3⟩:=XX hs
 exact⟨.lst h a1,by simpa [PyData.canLay0]using a2,by simpa [PyData.depth]using a3⟩
theorem Dat.tup{p:Addr}{xs:List V}{ds:List PyData}(h:SqT K H p xs)(hs:Paired (Dat K H n) xs ds):Dat K H (n+1) (.ref p) (.tuple ds):=by
 obtain⟨a1,a2,a3⟩:=XX hs
 exact⟨.tup h a1,by simpa [PyData.canLay0]using a2,by simpa [PyData.depth]using a3⟩
theorem Dat.shp{v:V}{d:PyData}(h:Dat K H n v d)(hn:n<=64):shp d:=by
 unfold L2.shp PySem.SeqAt.shaped
 rw[h.2.1]
 simpa using Nat.le_trans h.2.2 hn
theorem XY:∀ (l:List Int),Paired (Dat K H n) (l.map V.int) (l.map PyData.int)
 | []=>.nil
 | x::r=>.cons (.int x) (XY r)
theorem Rp{p q:Addr}{d:PyData}(hn:n<=64)(h1:Dat K H n (.ref p) d)(h2:Dat K H n (.ref q) d)(hq:Q (.bl true) H):CD K (.ref p) (.ref q) H Q:=by
 unfold CD
 rw[if_neg (by simp[G3])]
 refine⟨_,_,h1.1,h2.1,h1.shp hn,h1.shp hn,?_⟩
 rw[kB (h1.shp hn)]
 exact hq
theorem TZ{p q:Addr}{d:PyData}(hn:n<=64)(h1:Dat K H n (.ref p) d)(h2:Dat K H n (.ref q) d)(hq:Q (.bl false) H):DH K (.ref p) (.ref q) H Q:=by
 unfold DH
 rw[if_neg (by simp[G3])]
 refine⟨_,_,h1.1,h2.1,h1.shp hn,h1.shp hn,?_⟩
 rw[kB (h1.shp hn)]
 exact hq
theorem XZ{p q:Addr}{xs:List V}{ds:List PyData}(hn:n<=63)(h1:SqL K H p xs)(hd:Paired (Dat K H n) xs ds)(h2:SqL K H q [])(hq:Q (.bl (!decide (xs=[]))) H):DH K (.ref p) (.ref q) H Q:=by
 unfold DH
 rw[if_neg (by simp[G3])]
 have e1:=Dat.lst h1 hd
 have e2:Dat K H 1 (.ref q) (.list []):=Dat.lst h2 .nil
 refine⟨_,_,e1.1,e2.1,e1.shp (by omega),e2.shp (by omega),?_⟩
 cases hd with
 | nil=>exact hq
 | cons _ _=>exact hq
theorem Rq{p q:Addr}{xs:List V}{ds:List PyData}(hn:n<=63)(h1:SqL K H p xs)(hd:Paired (Dat K H n) xs ds)(h2:SqL K H q [])(hq:Q (.bl (decide (xs=[]))) H):CD K (.ref p) (.ref q) H Q:=by
 unfold CD
 rw[if_neg (by simp[G3])]
 have e1:=Dat.lst h1 hd
 have e2:Dat K H 1 (.ref q) (.list []):=Dat.lst h2 .nil
 refine⟨_,_,e1.1,e2.1,e1.shp (by omega),e2.shp (by omega),?_⟩
 cases hd with
 | nil=>exact hq
 | cons _ _=>exact hq
end
end L2
namespace L2
end L2
namespace L2
section
variable{prog:Program}{w:World}{A:Around}{E:Value->Shared->Prop}{s:Shared}{d it:Addr}{od:Obj}{es:Array DictEntry}{ep i:Nat}
end
end L2
namespace L2
theorem X0:∀ {ys:List Str} {us:List Value},Vals (ys.map V.str) us->StrsAre us ys
 | [],_,.nil=>.nil
 | y::r,_,.cons h t=>by
  obtain⟨tk,rfl⟩:=h
  exact .cons _ _ (X0 t)
section
variable{X:Cx}
def kD(K:W.Frag):V->List V->Hp->VK->Prop:=λx vs H Q=>∃ (z:Str) (p:Addr) (ys:List Str),x=.str z/\vs=[.ref p]/\SqL K H p (ys.map V.str)/\z.length<=16/\(ys.map (·.length)).sum+ys.length<=1048576/\Q (.str (Txt.join z ys)) H
theorem Rv:iW X "str.join" (kD X.K):=by
 intro AB s σ H x vs v us Q I rx rv h
 obtain⟨z,p,ys,rfl,rfl,hp,hz,hw,q⟩:=h
 obtain⟨t,rfl⟩:=rx
 obtain⟨u,rfl,ru⟩:=rv.one
 cases ru
 obtain⟨its,r,pl,hz'⟩:=I.list hp
 exact join_listW pl.isList (X0 r) hz hw λt' k=>⟨.str _,H,I.tok k,⟨t',rfl⟩,q⟩
end
section
variable{K:W.Frag}{tt:TT}{te:TE}{cap:List Nat}{σ:St}{H:Hp}{Q:VK}
end
end L2
namespace L2
section
variable{X:Cx}{tg:Expr}
end
section
variable{K:W.Frag}{tt:TT}{cap:List Nat}{σ:St}{H:Hp}{Q:VK}
end
def X6(n i:Nat)(P:Prop):Prop:=∃ m',m'<n - i/\m'=n - (i+1)/\i+1<=n/\P
theorem Rw{n i:Nat}{P:Prop}(h:i<n)(p:P):X6 n i P:=⟨_,by omega,rfl,h,p⟩
theorem X7{K:W.Frag}{g:TG}{tt:TT}{te:TE}{k:Nat}{cap:List Nat}{σ:St}{H:Hp}{Q:VK}{b:Addr}{xs:List V}(hn:xs.length<=sizeLine)(Pv:Nat->St->List V->Hp->Prop)(h0:Pv 0 (KM k cap σ) [] H)(hq:∀ i σ' ys H,Pv i σ' ys H->SqL K H b xs/\ys.length<=i)
  (hs:∀ i x σ' ys H,i<xs.length->xs[i]? =some x->Pv i σ' ys H->g x σ' H λσ2 H2=>tt σ2 H2 λc H3=>if c=true then ∃ N:VK,(∀ y H4,N y H4->X6 xs.length i (Pv (i+1) σ2 (ys++[y]) H4))/\te σ2 H3 N else X6 xs.length i (Pv (i+1) σ2 ys H3))
  (hd:∀ σ' ys H,Pv xs.length σ' ys H->∀ p,H p=none->Q (.ref p) (upd H p (.lst ys))):FU (ID K b) g tt te k cap σ H Q:=by
 refine⟨λi m σ' ys H=>m=xs.length - i/\i<=xs.length/\Pv i σ' ys H,⟨xs.length,by simp,Nat.zero_le _,h0⟩,?_⟩
 rintro i m σ' ys H ⟨rfl,hi,p⟩
 obtain⟨q,hl⟩:=hq i σ' ys H p
 by_cases BZ:i<xs.length
 ·refine .inr ⟨⟨xs,xs[i],q,by simp[BZ]⟩,by omega,λx H' y=> ?_⟩
  obtain⟨e,y⟩:=y
  subst e
  exact hs i x σ' ys _ BZ (y xs q) p
 ·have e:i=xs.length:=by omega
  subst e
  exact .inl ⟨⟨xs,q,Nat.le_refl _⟩,hd σ' ys H p⟩
section
variable{P:Program}{w:World}{A:Around}{E:Value->Shared->Prop}{s:Shared}
end
section
variable{X:Cx}
end
end L2
namespace L2
section
variable{P:Program}{w:World}{A:Around}{E:Value->Shared->Prop}{s:Shared}
theorem Rx{e it l:Addr}{i:Nat}{BO:Array Value}{x old:Value}{Q:Option Value->Shared->Prop}(he:IsEnum s.heap e it i old)(hi:s.heap.IsListIter it l i)(hl:s.heap.IsList l BO)(ex:BO[i]? =some x)(ne:e≠it)
  (q:∀ h',IsEnumOut h' e it (i+1) x s.heap.objs.size->h'.IsListIter it l (i+1)->h'.get? s.heap.objs.size=some { cls:=Value.type "tuple",data:=Data.seq #[Value.int i s.toks,x] }->(∀ b o,b≠e->b≠it->s.heap.get? b=some o->h'.get? b=some o) →
   Q (some (.ref s.heap.objs.size)) { s with heap:=h',toks:=s.toks+1 }):wpAny (model P w) A (pyNext (.ref e)) Q E s:=by
 have ty:s.TypeIs (.ref e) "enumerate":=⟨_,he,rfl⟩
 unfold pyNext
 exact wpAny_bind (wpAny_attempt (wpAny_callSpecial?_slot (name:=Str.ofString "__next__") ty F.slot_enumerate_next (wpAny_call_entry F.slot_enumerate_next ty F.entry_enumerate_next
  (enumerate_next_item he hi hl ex ne λh' a1 a2 a3 _ a4=>wpAny_pure (q h' a1 a2 a3 a4)) (F.args_enumerate_next_1 _))))
theorem Ry{e it l:Addr}{i:Nat}{BO:Array Value}{old:Value}{Q:Fin->Shared->Prop}(hh:A.handled=none)(he:IsEnum s.heap e it i old)(hi:s.heap.IsListIter it l i)(hl:s.heap.IsList l BO)(ex:BO[i]? =none)
  (q:∀ h' x,Heap.ExtBut it s.heap h'->(∃ o,h'.get? x=some o/\o.cls=.type "StopIteration")->E (.ref x) { s with heap:=h' }):wpAny (model P w) A (Builtin.«enumerate.__next__» ⟨[.ref e],[]⟩) Q E s:=by
 show wpAny (model P w) A (field (.ref e) 2 >>= _) _ _ s
 refine wpAny_bind (wpAny_field he rfl (x:=.ref it) rfl ?_)
 exact wpAny_bind (Qv (k:=true) hh hi hl ex q)
theorem Rz{e it l:Addr}{i:Nat}{BO:Array Value}{old:Value}{Q:Option Value->Shared->Prop}(hh:A.handled=none)(he:IsEnum s.heap e it i old)(hi:s.heap.IsListIter it l i)(hl:s.heap.IsList l BO)(ex:BO[i]? =none)
  (q:∀ h',Heap.ExtBut it s.heap h'->Q none { s with heap:=h' }):wpAny (model P w) A (pyNext (.ref e)) Q E s:=by
 have ty:s.TypeIs (.ref e) "enumerate":=⟨_,he,rfl⟩
 unfold pyNext
 refine wpAny_bind (wpAny_attempt (wpAny_callSpecial?_slot (name:=Str.ofString "__next__") ty F.slot_enumerate_next (wpAny_call_entry F.slot_enumerate_next ty F.entry_enumerate_next (Ry hh he hi hl ex λh' x kk ⟨o,e1,e2⟩=> ?_) (F.args_enumerate_next_1 _))))
 exact wpAny_bind (wpAny_isInstance (T:="StopIteration") (b:=true) ⟨o,e1,e2⟩ isSubtype_stop (wpAny_pure (q _ kk)))
end
def MU(K:W.Frag)(a:Addr):It :=
  ⟨λi H=>∃ xs x,SqL K H a xs/\xs[i]? =some x,
   λi H v H'=>∃ t,H t=none/\v=.ref t/\∃ x,H'=upd H t (.tup [.int (i:Int),x])/\∀ xs,SqL K H a xs->xs[i]? =some x,
   λi H=>∃ xs,SqL K H a xs/\xs.length<=i⟩
def EnSt(e it l:Addr)(i:Nat)(h:Heap):Prop:=(∃ old,IsEnum h e it i old)/\h.IsListIter it l i
theorem EnSt.lt{e it l:Addr}{i:Nat}{h:Heap}(q:EnSt e it l i h):∀ b∈[e,it],b<h.objs.size:=by
 obtain⟨⟨old,h1⟩,o,h2,_⟩:=q
 intro b hb
 simp only[List.mem_cons,List.not_mem_nil,or_false]at hb
 rcases hb with rfl | rfl
 ·exact Heap.lt_size h1
 ·exact Heap.lt_size h2
theorem Sb{P:Program}{w:World}{K:W.Frag}{elts:List Expr}{kn:Nat}{pos:Pos}{e it l:Addr}(ne:e≠it) :
  MJ P w K (.Tuple elts kn pos) (MU K l) [e,it] e (λi h=>EnSt e it l i h) where
 mem:=by simp
 obj:=λi h st b hb=>by
  obtain⟨⟨old,h1⟩,h2⟩:=st
  obtain⟨o4,e4,d4⟩:=ItK.ob (k:=true) h2
  simp only[List.mem_cons,List.not_mem_nil,or_false]at hb
  rcases hb with rfl | rfl
  ·exact⟨_,h1,λv q=>by cases q⟩
  ·exact⟨_,e4,λv q=>by rw[d4]at q;cases q⟩
 keep:=λi h h' ⟨⟨old,h1⟩,h2⟩ q=>⟨⟨old,q e (by simp) _ h1⟩,ItK.up (k:=true) h2 λo x=>q it (by simp) o x⟩
 item:=by
  intro X hP hw hK hc i AB s σ H E I hf st hg
  subst hP hw hK
  obtain⟨xs,x,hx,ex⟩:=hg
  obtain⟨its,rv,d1⟩:=I.seqK (k:=true) hx
  obtain⟨u,hu,ru⟩:=rv.get ex
  have lt:=EnSt.lt st
  obtain⟨⟨old,h1⟩,h2⟩:=st
  refine Rx h1 h2 d1 (x:=u) (by simpa using hu) ne λh' g1 g2 g3 kk=>⟨_,rfl,?_⟩
  refine wpAny_letOwnedTupleGo_enum g1 λh2' z2 sb=> ?_
  have I1:=I.tnew (ys:=[.int (i:Int),x]) (its:=[Value.int (i:Int) s.toks,u]) (.cons (show RelV (.int (i:Int)) (Value.int (i:Int) s.toks)from⟨s.toks,rfl⟩) (.cons ru .nil)) (by show 2<=sizeLine;decide)
  have f':∀ b∈[e,it],b≠s.heap.objs.size:=λb hb=>Nat.ne_of_lt (lt b hb)
  have nz:s.heap.objs.size≠e:=(f' e (by simp)).symm
  have I2:Inv X AB σ (upd H s.heap.objs.size (.tup [.int (i:Int),x])) { s with heap:=h2',toks:=s.toks+1 }:=by
   refine Inv.turnedS (s:={ s with heap:=s.heap.push { cls:=Value.type "tuple",data:=Data.seq #[Value.int i s.toks,u] } }) (t':=s.toks+1) (fp:=[e,it]) I1 (λb o hb eo=> ?_) λb hb=>(hf b hb).upd (f' b hb)
   simp only[List.mem_cons,List.not_mem_nil,or_false,not_or]at hb
   rcases Heap.get?_push_cases eo with⟨e1,e2⟩ | e1
   ·subst e1 e2
    exact sb.extBut _ _ nz g3
   ·exact sb.extBut _ _ hb.1 (kk _ _ hb.1 hb.2 e1)
  exact⟨.ref s.heap.objs.size,_,I2,rfl,⟨s.heap.objs.size,I.fresh,rfl,x,rfl,λys' q=>by rw[I.seqK_inj (k:=true) q hx];exact ex⟩,
   ⟨⟨_,z2⟩,ItK.up (k:=true) g2 λo x=>sb.extBut _ _ ne.symm x⟩,λb hb=>((hf b hb).upd (f' b hb)).1⟩
 done:=by
  intro X hP hw hK hc i AB s σ H E I hf st hg
  subst hP hw hK
  obtain⟨xs,hx,en⟩:=hg
  obtain⟨its,rv,d1⟩:=I.seqK (k:=true) hx
  obtain⟨⟨old,h1⟩,h2⟩:=st
  have e1:=rv.length
  refine Rz (I.ok.hd hc) h1 h2 d1 (by simp;omega) λh' kk=>⟨rfl,I.turnedS (t':=s.toks) (fp:=[e,it]) (λb o hb eo=> ?_) hf⟩
  simp only[List.mem_cons,List.not_mem_nil,or_false,not_or]at hb
  exact kk _ _ hb.2 eo
 self:=λ_ _ _ _ _ st h=>by
  obtain⟨⟨old,h1⟩,_⟩:=st
  exact wpAny_pyIter_enum h1 h
section
variable{X:Cx}
def IL(K:W.Frag)(ta:TA):TI:=λσ H R=>ta σ H λvs H1=>∃ a:Addr,vs=[.ref a]/\(∃ xs,SqL K H1 a xs)/\R (MU K a) H1
theorem KW{a:Expr}{ta:TA}{p pos p2:Pos}{elts:List Expr}{kn:Nat}(hg:Gl X "enumerate")(hm:X.mg "enumerate"=none)(ha:PA X [a] ta)(hs:starEach [a] X.env=[(false,eval a X.env)]:=by rfl) :
  PI X (.Tuple elts kn p2) (.Call (.Name "enumerate" p) [a] [] pos) (IL X.K ta):=by
 intro AB s σ H R I h
 refine Call_ (NV I hg hm boot_enumerate (PyProof.Rows.callWith_type1 (AW (ha pos AB s σ H _ I h) λus s1 hzz=> ?_) (by rw[hs];rfl) (by rfl)))
 obtain⟨vs,H1,I1,r1,q1⟩:=hzz
 obtain⟨l,e,⟨xs,hx⟩,q⟩:=q1
 subst e
 obtain⟨u,rfl,rx⟩:=ML r1
 cases rx
 obtain⟨its,rv,d1⟩:=I1.seqK (k:=true) hx
 refine call_enumerate_list d1 λh' z1 z2 sz kk=>wpAny_pyIter_enum z1 ?_
 have I2:Inv X AB σ H1 { s1 with heap:=h' }:=I1.kept (t':=s1.toks) kk
 refine⟨_,[s1.heap.objs.size+1,s1.heap.objs.size],_,_,H1,rfl,I2,Sb (Nat.ne_of_gt (by omega)),⟨⟨_,z1⟩,z2⟩,λb hb=>I1.fpOk ?_ (I1.hok.fresh ?_),q⟩
 all_goals
  simp only[List.mem_cons,List.not_mem_nil,or_false]at hb
  rcases hb with rfl | rfl<;>omega
end
theorem Sc{K:W.Frag}{as:TA}{g:TG}{s1:TS}{D:Ends}{σ:St}{H:Hp}:FA (IL K as) g s1 D σ H=(as σ H λvs H1=>∃ a:Addr,vs=[.ref a]/\(∃ xs,SqL K H1 a xs)/\KQ (MU K a) g s1 D σ H1):=rfl
theorem kE{K:W.Frag}{σ:St}{H:Hp}{a:Addr}{xs:List V}{g:TG}{tb:TS}{D:Ends}(Pv:Nat->St->Hp->Prop)(h0:Pv 0 σ H)(ha:∀ i σ H,i<=xs.length->Pv i σ H->SqL K H a xs)
  (hs:∀ i x σ H t,xs[i]? =some x->Pv i σ H->H t=none->g (.ref t) σ (upd H t (.tup [.int (i:Int),x])) λσ2 H2=>tb { D with nx:=Pv (i+1),ct:=Pv (i+1),bk:=D.nx } σ2 H2) (hd:∀ σ H,Pv xs.length σ H->D.nx σ H):KQ (MU K a) g tb D σ H:=by
 refine⟨λi m σ H=>i+m=xs.length/\Pv i σ H,⟨xs.length,by omega,h0⟩,λi m σ H ⟨e,p⟩=> ?_⟩
 have h1:=ha i σ H (by omega) p
 by_cases hi:i<xs.length
 ·refine .inr ⟨⟨xs,xs[i],h1,List.getElem?_eq_getElem hi⟩,Pv (i+1),λσ' H' q=>⟨m - 1,by omega,by omega,q⟩,λv H' ⟨t,ht,e,x,e',q1⟩=> ?_⟩
  subst e e'
  exact hs i x σ H t (q1 _ h1) p ht
 ·have e:i=xs.length:=by omega
  subst e
  exact .inl ⟨⟨xs,h1,Nat.le_refl _⟩,hd _ _ p⟩
end L2
namespace L2
section
variable{X:Cx}
theorem kF:∀ {us:List Value} {ys:List Str},StrsAre us ys->Vals (ys.map V.str) us
 | _,_,.nil=>.nil
 | _,_,.cons z t h=>.cons ⟨_,rfl⟩ (kF h)
def X8(K:W.Frag):List V->Hp->VK->Prop:=λxs H Q=>∃ (p:Addr) (ys:List Str),xs=[.ref p]/\SqL K H p (ys.map V.str)/\ys.length<64 ∧
  ∀ (D:Addr) (ks:List Str),H D=none->ks.Perm ys->sortedS ks=true->Q (.ref D) (upd H D (.lst (ks.map V.str)))
theorem kG(hc:X.calm=true):HH X (.builtin "sorted") (X8 X.K):=by
 intro AB s σ H xs us Q I r h
 obtain⟨p,ys,rfl,hp,hn,q⟩:=h
 obtain⟨u,rfl,rx⟩:=ML r
 cases rx
 obtain⟨its,rv,pl,hz⟩:=I.list hp
 have hi:=X0 rv
 have EC:its.length=ys.length:=by have:=rv.length;simpa using this.symm
 refine sorted_strs pl.isList hi (by omega) λout ks ho pk hr=> ?_
 obtain⟨c,g⟩:=sortedAll_at s.heap its out
 have hD:s.heap.objs.size<=s.heap.objs.size+1:=Nat.le_succ _
 refine⟨.ref _,_,I.laid (t':=s.toks) (λb o e=>sortedAll_old e) hD ?_,rfl,q _ ks (I.hok.fresh hD) pk hr⟩
 have hl:ks.length<64:=by rw[pk.length_eq];exact hn
 exact⟨by rw[List.length_map,sizeLine_eq];omega,out.toList,c,kF ho,g⟩
def Sd(K:W.Frag):List V->Hp->VK->Prop:=λxs H Q=>∃ i j,xs=[.int i,.int j]/\Q (.int (if j<i then j else i)) H
theorem Sg{K:W.Frag}{i j:Int}{H:Hp}{Q:VK}:Sd K [.int i,.int j] H Q=Q (.int (if j<i then j else i)) H:=propext ⟨λ⟨_,_,e,q⟩=>by cases e;exact q,λq=>⟨_,_,rfl,q⟩⟩
theorem X9:∀ {l:List Str},sortedS l=true->l.Pairwise λa b=>¬ b.cps.toList<a.cps.toList
 | [],_=>.nil
 | [x],_=>List.pairwise_singleton _ _
 | x::y::r,h=>by
  have h':(!Spec.ltCps y.cps.toList x.cps.toList && risingS y r)=true:=h
  rw[Bool.and_eq_true,Bool.not_eq_true',ltCps_eq,decide_eq_false_iff_not]at h'
  have ih:(y::r).Pairwise λa b=>¬ b.cps.toList<a.cps.toList:=X9 (l:=y::r) h'.2
  refine List.pairwise_cons.mpr ⟨λz hz=> ?_,ih⟩
  rcases List.mem_cons.mp hz with e | hz
  ·rw[e];exact h'.1
  ·have h2:=(List.pairwise_cons.mp ih).1 z hz
   exact λBZ=>by
    have a1:x.cps.toList<=y.cps.toList:=List.not_lt.mp h'.1
    have a2:y.cps.toList<=z.cps.toList:=List.not_lt.mp h2
    exact absurd BZ (List.not_lt.mpr (List.le_trans a1 a2))
theorem kH{l m:List Str}(h1:sortedS l=true)(h2:sortedS m=true)(p:l.Perm m):l=m :=
 List.Perm.eq_of_pairwise (λa b _ _ h h'=>by
  have e:=List.le_antisymm (List.not_lt.mp h) (List.not_lt.mp h')
  cases a;cases b
  exact congrArg Str.mk (Array.toList_inj.mp e)) (X9 h1) (X9 h2) p
end
end L2
namespace L2
section
variable{P:Program}{w:World}{A:Around}{E:Value->Shared->Prop}{s:Shared}
end
section
variable{X:Cx}
end
end L2
namespace L2
section
variable{X:Cx}{AB:List (Addr × Obj)}{σ:St}{H:Hp}{s:Shared}
variable{tg iter GO:Expr}{GP:List Expr}{scope:Scope}{pos:Pos}{td:TE}{g:TG}{tt:TT}{te:TE}{tn cn:List Str}{cap:List Nat}
end
end L2
namespace L2
theorem FnScope.go{N P:List Str}{sc:Scope}(h1:sc.kind=.function:=by exact rfl)(h2:sc.isCoroutine=false:=by exact rfl)(h3:sc.isGenerator=false:=by exact rfl)(h4:N.Nodup:=by decide +kernel)(h5:N.take P.length=P:=by exact rfl)(h6:∀ x∈P,sc.names.lookup x=some .local\/sc.names.lookup x=some .cell:=by decide +kernel)(h7:∀ y∈sc.names,y.2≠.free:=by decide +kernel):FnScope N P sc:=⟨h1,h2,h3,h4,h5,h6,h7⟩
theorem Room.m{j k:Nat}{A:Around}(r:Room k A)(h:j<=k:=by decide):Room j A:=r.mono h
abbrev FP(P:Program)(w:World)(K:W.Frag)(mg:Str->Option Value)(base:Heap)(k:Nat)(f:Addr)(fd:FuncData)(ps:List Str)(sp:Sp):Prop:=FnOk P w K mg base (FE P w) k f fd ps sp
theorem Fun.okF{P:Program}{w:World}{K:W.Frag}{mg:Str->Option Value}{base:Heap}{x qual:Str}{st:Stmt}{f:Addr}{fd:FuncData}{N ps:List Str}{k:Nat}{sp:Sp}(F:Fun K x qual st f fd)(rd:(St->XK)->TS)(S:FnScope N ps (AZ st))(len:∀ {vs H Q E},sp vs H Q E->vs.length=ps.length)
  (ok:∀ {vs H Q E},sp vs H Q E->rd (λ_=>E) { nx:=λ_ H'=>Q .non H',rt:=Q } (A4 N vs) H)
  (hb:∀ (CG:Value) (A:Around) (outer:List Env) (s:Shared) (H:Hp) (E:XK),Room k (A.deeper (envOfC qual (AZ st) s.heap.objs.size f CG))->XOk (JA (FE P w) P w K mg base N qual (AZ st) f CG A outer s H E) (λ_=>E) →
   HG (JA (FE P w) P w K mg base N qual (AZ st) f CG A outer s H E) (IK st) (rd λ_=>E)):FP P w K mg base (k+1) f fd ps sp :=
 F.okE S (λ_ _ _ _=>len) λCG A outer s H _ _ E hr h=>⟨_,hb CG A outer s H E hr Hq,ok h⟩
section
variable{X:Cx}{pos:Pos}
theorem BF(i:Nat){x:Str}{e:Expr}{te:TE}{pos':Pos}(hN:X.N.Nodup)(he:PE X e te)(hi:X.N[i]? =some x:=by exact rfl)(hx:NU X.env.scope x:=by exact Or.inl rfl)(hs:swapsWith e (some (.Name x pos')) pos.line X.env=pure false:=by rfl)(hf:X.fn x=true\/X.env.scope.names.lookup x=some .local:=by first | exact .inl rfl | exact .inr rfl | assumption) :
  PS X (.Assign [.Name x pos'] e pos) (AS te (AG i)):=IC hN hi hx he hs hf
theorem BJ(i:Nat){x:Str}(hN:X.N.Nodup)(hi:X.N[i]? =some x:=by exact rfl)(hx:NU X.env.scope x:=by exact Or.inl rfl)(hf:X.fn x=true\/X.env.scope.names.lookup x=some .local:=by first | exact .inl rfl | exact .inr rfl | assumption):PG X (.Name x pos) (AG i):=hV hN hi hx hf
end
end L2
namespace L2
section
variable{X:Cx}{pos:Pos}
theorem AT{a:Expr}{ta:TE}{i:Int}{j pos'}(ha:PE X a ta):PE X (.Subscript a (.Constant (.int i) j pos') pos) (AC (AY X.K) ta (tC (.int i))):=A9 BB ha AK (λ_ _=>rfl)
theorem FnScope.cp{scope outer:Scope}{N P tn cn:List Str}{cap:List Nat}(_:FnScope N P outer)(h:XQ scope outer N cn cap=true:=by decide +kernel)(h1:X.env.scope=outer:=by exact rfl)(h2:X.N=N:=by exact rfl):N7 X scope tn cn cap:=Kj h1 h2 h
end
section
variable{X:Cx}{E:St->XK}{k j:Nat}{x m:Str}{ps:List Str}{sp:Sp}{C:Addr}{p pos DI:Pos}{e o e1 e2 e3:Expr}{es:List Expr}{ta tb tc td:TE}{t:TA}
theorem AI(h:PE X e ta)(s:starEach [e] X.env=(false,eval e X.env)::starEach [] X.env:=by rfl):PA X [e] (DZ ta BI):=KI h DT s
theorem BM(h:PE X e ta)(h1:PE X e1 tb)(s:starEach [e,e1] X.env=(false,eval e X.env)::starEach [e1] X.env:=by rfl)(s1:starEach [e1] X.env=(false,eval e1 X.env)::starEach [] X.env:=by rfl):PA X [e,e1] (DZ ta (DZ tb BI)):=KI h (AI h1 s1) s
theorem EB(h:PE X e ta)(h1:PE X e1 tb)(h2:PE X e2 tc)(s:starEach [e,e1,e2] X.env=(false,eval e X.env)::starEach [e1,e2] X.env:=by rfl)(s1:starEach [e1,e2] X.env=(false,eval e1 X.env)::starEach [e2] X.env:=by rfl)(s2:starEach [e2] X.env=(false,eval e2 X.env)::starEach [] X.env:=by rfl):PA X [e,e1,e2] (DZ ta (DZ tb (DZ tc BI))):=KI h (BM h1 h2 s1 s2) s
theorem JR(h:PE X e ta)(h1:PE X e1 tb)(h2:PE X e2 tc)(h3:PE X e3 td)(s:starEach [e,e1,e2,e3] X.env=(false,eval e X.env)::starEach [e1,e2,e3] X.env:=by rfl)(s1:starEach [e1,e2,e3] X.env=(false,eval e1 X.env)::starEach [e2,e3] X.env:=by rfl)(s2:starEach [e2,e3] X.env=(false,eval e2 X.env)::starEach [e3] X.env:=by rfl)(s3:starEach [e3] X.env=(false,eval e3 X.env)::starEach [] X.env:=by rfl):PA X [e,e1,e2,e3] (DZ ta (DZ tb (DZ tc (DZ td BI)))):=KI h (EB h1 h2 h3 s1 s2 s3) s
theorem BK(c:BS X.prog X.w X.K X.mg X.base k x ps sp)(hr:Room j X.A)(hx:XOk X E)(ha:PA X (e::es) t)(hj:k<=j:=by decide)(hg:Gl X x:=by exact rfl)(hdb:(x ==("__debug__":Str))=false:=by decide)
  (he:starEach (e::es) X.env=(false,eval e X.env)::starEach es X.env:=by rfl) (CF:(backTo pos (starEach es X.env)).any (·.1)=false:=by rfl):PE X (.Call (.Name x p) (e::es) [] pos) (BE sp [] E t):=jS c (hr.mono hj) hx.passes hg ha hdb he CF
theorem D0{pl:Sem Bool}(he:PE X o ta)(cl:Cls X.K C)(c:BQ X.prog X.w X.K X.mg X.base C k m ps sp)(hr:Room j X.A)(hx:XOk X E)(ha:PA X (e::es) t)(hj:k<=j:=by decide)
  (hst:starEach (e::es) X.env=(false,eval e X.env)::starEach es X.env:=by rfl) (CF:(backTo pos (starEach es X.env)).any (·.1)=false:=by rfl)
  (ht:eval (.Call (.Attribute o m DI) (e::es) [] pos) X.env=(do
   let ov ← eval o X.env
   standAt DI.atName
   let (f,first) ← holding [ov] (getMethod ov m pl)
   callWith pos f first (backTo pos (starEach (e::es) X.env)) (backToKw pos (keywordEach [] X.env))):=by rfl):PE X (.Call (.Attribute o m DI) (e::es) [] pos) (BC C m sp [] E ta t):=G5 he cl c (hr.mono hj) hx.passes ha hst CF ht
theorem DM{pl:Sem Bool}(he:PE X o ta)(cl:Cls X.K C)(c:BQ X.prog X.w X.K X.mg X.base C k m ps sp)(hr:Room j X.A)(hx:XOk X E)(hj:k<=j:=by decide)
  (ht:eval (.Call (.Attribute o m DI) [] [] pos) X.env=(do
   let ov ← eval o X.env
   standAt DI.atName
   let (f,first) ← holding [ov] (getMethod ov m pl)
   callWith pos f first (backTo pos (starEach [] X.env)) (backToKw pos (keywordEach [] X.env))):=by rfl):PE X (.Call (.Attribute o m DI) [] [] pos) (BC C m sp [] E ta BI):=Hv he cl c (hr.mono hj) hx.passes ht
end
theorem Fun.okL{P:Program}{w:World}{K:W.Frag}{mg:Str->Option Value}{base:Heap}{x qual:Str}{st:Stmt}{f:Addr}{fd:FuncData}{N ps:List Str}{k:Nat}{sp:Sp}(F:Fun K x qual st f fd)(rd:(St->XK)->TS)(S:FnScope N ps (AZ st))
  (ok:∀ {vs H Q E},sp vs H Q E->rd (λ_=>E) { nx:=λ_ H'=>Q .non H',rt:=Q } (A4 N vs) H)
  (hb:∀ (CG:Value) (A:Around) (outer:List Env) (s:Shared) (H:Hp) (E:XK),Room k (A.deeper (envOfC qual (AZ st) s.heap.objs.size f CG))->XOk (JA (FE P w) P w K mg base N qual (AZ st) f CG A outer s H E) (λ_=>E) →
   HG (JA (FE P w) P w K mg base N qual (AZ st) f CG A outer s H E) (IK st) (rd λ_=>E))
  (len:∀ {vs H Q E},sp vs H Q E->vs.length=ps.length:=by
   intro _ _ _ _ h
   repeat (first | (obtain⟨rfl,_⟩:=h;rfl) | (refine Or.elim h ?_ ?_<;>(clear h;intro h)) | obtain⟨_,h⟩:=h)):FP P w K mg base (k+1) f fd ps sp:=F.okF rd S len ok hb
theorem Sh{α :Type}{P:List α ->Prop}(h:P []):∀ us:List α,us.length=0->P us
 | [],_=>h
theorem YA{α :Type}{P:List α ->Prop}(h:∀ a,P [a]):∀ us:List α,us.length=1->P us
 | [a],_=>h a
theorem YB{α :Type}{P:List α ->Prop}(h:∀ a b,P [a,b]):∀ us:List α,us.length=2->P us
 | [a,b],_=>h a b
theorem YC{α :Type}{P:List α ->Prop}(h:∀ a b c,P [a,b,c]):∀ us:List α,us.length=3->P us
 | [a,b,c],_=>h a b c
theorem YD{α :Type}{P:List α ->Prop}(h:∀ a b c d,P [a,b,c,d]):∀ us:List α,us.length=4->P us
 | [a,b,c,d],_=>h a b c d
theorem YE{α :Type}{P:List α ->Prop}(h:∀ a b c d e,P [a,b,c,d,e]):∀ us:List α,us.length=5->P us
 | [a,b,c,d,e],_=>h a b c d e
theorem YF{α :Type}{P:List α ->Prop}(h:∀ a b c d e f,P [a,b,c,d,e,f]):∀ us:List α,us.length=6->P us
 | [a,b,c,d,e,f],_=>h a b c d e f
theorem YG{α :Type}{P:List α ->Prop}(h:∀ a b c d e f g,P [a,b,c,d,e,f,g]):∀ us:List α,us.length=7->P us
 | [a,b,c,d,e,f,g],_=>h a b c d e f g
def YH(x qual:Str)(st:Stmt)(ps:List Str):Prop:=∀ (kV doc pm:Value) (an:Option Addr) (CG ct:Value) (us:List Value),us.length=ps.length->bindArgs (W.fnOf x qual (KL st) (IK st) (AZ st) .none kV doc pm an CG ct) ⟨us,[]⟩=pure (ps.zip us)
structure GF(K:W.Frag)(x:Str)(st:Stmt):Prop where
 ex:∃ (f:Addr) (fd:FuncData),W.nsIn K mainGlobals x=some (some (.ref f))/\Fun K x x st f fd
structure GM(K:W.Frag)(C:Addr)(m q:Str)(st:Stmt):Prop where
 ex:∃ (f:Addr) (fd:FuncData),W.findIn K (.ref C) m=some (some (.ref f))/\W.isFn K (.ref f)=true/\Fun K m q st f fd
structure GC(K:W.Frag)(C:Addr)(x:Str):Prop where
 ac:W.nsIn K mainGlobals x=some (some (.ref C))
 c:Cls K C
structure GN(K:W.Frag)(C:Addr)(x q:Str)(st:Stmt):Prop where
 m:GM K C "__init__" q st
 mks:W.makesIn K C=true
 kc:W.keepIn K (.ref C)=true
 ac:W.nsIn K mainGlobals x=some (some (.ref C))
structure GX(K:W.Frag)(C:Addr)(x:Str):Prop where
 ac:W.nsIn K mainGlobals x=some (some (.ref C))
 ex:W.excIn K C [.type "ValueError",.type "Exception",.type "BaseException",.type "object"] "ValueError.__new__"=true
section
variable{K:W.Frag}{x q:Str}{st:Stmt}{C f:Addr}{oc:Value}{od an:Option Addr}{osl:Array (Option Value)}{kV doc pm CG ct:Value}
theorem gf(a:W.nsIn K mainGlobals x=some (some (.ref f)))(l:K.lookup f=some ⟨oc,od,.func (W.fnOf x x (KL st) (IK st) (AZ st) .none kV doc pm an CG ct),osl⟩)
  (c:W.codeIn K CG x=true) (k:W.keepIn K (.ref f)=true):GF K x st:=⟨_,_,a,jI l c k⟩
theorem gm(a:W.findIn K (.ref C) x=some (some (.ref f)))(l:K.lookup f=some ⟨oc,od,.func (W.fnOf x q (KL st) (IK st) (AZ st) .none kV doc pm an CG ct),osl⟩)
  (c:W.codeIn K CG q=true) (k:W.keepIn K (.ref f)=true) (i:W.isFn K (.ref f)=true):GM K C x q st:=⟨_,_,a,i,jI l c k⟩
theorem gn{y:Str}(a:W.findIn K (.ref C) "__init__"=some (some (.ref f)))(l:K.lookup f=some ⟨oc,od,.func (W.fnOf "__init__" q (KL st) (IK st) (AZ st) .none kV doc pm an CG ct),osl⟩)
  (c:W.codeIn K CG q=true) (k:W.keepIn K (.ref f)=true) (i:W.isFn K (.ref f)=true) (m:W.makesIn K C=true) (n:W.keepIn K (.ref C)=true) (s:W.nsIn K mainGlobals y=some (some (.ref C))):GN K C y q st:=⟨gm a l c k i,m,n,s⟩
theorem gc(a:W.nsIn K mainGlobals x=some (some (.ref C)))(l:W.plainGet K C Str.empty=true)(c:W.hasDictIn K C=true)(k:W.plainOver K C=true)(i:W.findIn K (.ref C) "__setattr__"=some (some (.builtin "object.__setattr__"))):GC K C x:=⟨a,l,c,k,i⟩
end
section
variable{P:Program}{w:World}{K:W.Frag}{h:Heap}{mg:Str->Option Value}{base:Heap}{x q:Str}{st:Stmt}{C:Addr}{k:Nat}{ps:List Str}{sp:Sp}
theorem GF.cal(g:GF K x st)(X:K.In h)(G:h.Ns mainGlobals mg)(ok:∀ {f fd},Fun K x x st f fd->FP P w K mg base k f fd ps sp)
  (b:YH x x st ps:=by intro _ _ _ _ _ _;first | exact YA λ_=>rfl | exact YB λ_ _=>rfl | exact YC λ_ _ _=>rfl | exact YD λ_ _ _ _=>rfl | exact YE λ_ _ _ _ _=>rfl | exact Sh rfl | exact YF λ_ _ _ _ _ _=>rfl | exact YG λ_ _ _ _ _ _ _=>rfl):BS P w K mg base k x ps sp:=by
 obtain⟨f,fd,a,F⟩:=g.ex
 exact⟨f,fd,ok F,W.mg_of X G a,F.kp,F.binds b⟩
theorem GM.cal(g:GM K C x q st)(ok:∀ {f fd},Fun K x q st f fd->FP P w K mg base k f fd ps sp)
  (b:YH x q st ps:=by intro _ _ _ _ _ _;first | exact YA λ_=>rfl | exact YB λ_ _=>rfl | exact YC λ_ _ _=>rfl | exact YD λ_ _ _ _=>rfl | exact YE λ_ _ _ _ _=>rfl | exact YF λ_ _ _ _ _ _=>rfl | exact YG λ_ _ _ _ _ _ _=>rfl):BQ P w K mg base C k x ps sp:=by
 obtain⟨f,fd,a,i,F⟩:=g.ex
 exact⟨f,fd,ok F,⟨a,i,F.kp⟩,F.binds b⟩
theorem GN.cal(g:GN K C x q st)(X:K.In h)(G:h.Ns mainGlobals mg)(ok:∀ {f fd},Fun K "__init__" q st f fd->FP P w K mg base k f fd ps sp)
  (b:YH "__init__" q st ps:=by intro _ _ _ _ _ _;first | exact YA λ_=>rfl | exact YB λ_ _=>rfl | exact YC λ_ _ _=>rfl | exact YD λ_ _ _ _=>rfl | exact YE λ_ _ _ _ _=>rfl | exact YF λ_ _ _ _ _ _=>rfl | exact YG λ_ _ _ _ _ _ _=>rfl):KN P w K mg base C k x ps sp:=by
 obtain⟨f,fd,a,i,F⟩:=g.m.ex
 exact⟨f,fd,ok F,⟨g.mks,a,i,g.kc⟩,W.mg_of X G g.ac,F.binds b⟩
theorem GF.law{fa:Addr}(g:GF K x st)(X:K.In h)(G:h.Ns mainGlobals mg)(hfa:mg x=some (.ref fa))
  (b:∀ (kV doc pm:Value) (an:Option Addr) (CG ct:Value) (s:Shared) (v:Value),BindsTo s (W.fnOf x x (KL st) (IK st) (AZ st) .none kV doc pm an CG ct) ⟨[v],[]⟩ [("script",v)]) :
  ∃ fd:FuncData,(∀ (s:Shared) (v:Value),BindsTo s fd ⟨[v],[]⟩ [("script",v)])/\Fun K x x st fa fd:=by
 obtain⟨f,fd,a,F⟩:=g.ex
 have e:=hfa.symm.trans (W.mg_of X G a)
 cases e
 obtain⟨oc,od,kV,doc,pm,an,CG,ct,osl,rfl,lk,HE⟩:=F.ex
 exact⟨_,b kV doc pm an CG ct,F⟩
end
end L2
namespace L2
def YI(K:W.Frag)(to ti tv:TE)(rd:V->V->Hp->VK->Prop):TS:=λD σ H=>to σ H λx H1=>ti σ H1 λy H2=>∃ p xs,∃ n:Nat,∃ v,x=.ref p/\y=.int n/\SqL K H2 p xs/\xs[n]? =some v/\tv σ H2 λz H3=>rd v z H3 λu H4=>DD (.ref p) (.int n) u H4 λH5=>D.nx σ H5
theorem Sj{K:W.Frag}{to ti tv:TE}{rd:V->V->Hp->VK->Prop}{D:Ends}{σ:St}{H:Hp}:YI K to ti tv rd D σ H=(to σ H λx H1=>ti σ H1 λy H2=>∃ p xs,∃ n:Nat,∃ v,x=.ref p/\y=.int n/\SqL K H2 p xs/\xs[n]? =some v/\tv σ H2 λz H3=>rd v z H3 λu H4=>DD (.ref p) (.int n) u H4 λH5=>D.nx σ H5):=rfl
section
variable{X:Cx}{o i value:Expr}{td ty tv:TE}{tpos pos:Pos}
theorem Sk{op:Operator}{rd:V->V->Hp->VK->Prop}(ho:PE X o td)(hi:PE X i ty)(hv:PE X value tv)(hop:WR X op rd)
  (ha:∀ ov iv new,augStore i ov iv new=(do holding [new,ov,iv] (setItem ov iv new);release [new,ov,iv] [];pure .next):=by intros;rfl):PS X (.AugAssign (.Subscript o i tpos) op value pos) (YI X.K td ty tv rd):=by
 intro AB s σ H D I h
 refine wpAny_AugAssign_SubscriptAny (AW (ho AB s σ H _ I h) λu s1 ⟨x,H1,I1,rx,q1⟩=>AW (hi AB s1 σ H1 _ I1 q1) λiv s2 hzz=> ?_) ha
 obtain⟨y,H2,I2,ry,p,xs,n,v,ex,ey,hq,hx,q2⟩:=hzz
 subst ex ey
 obtain rfl:u=Value.ref p:=rx
 have ry':=ry
 obtain⟨t,rfl⟩:=ry
 obtain⟨its,r,pl,hz⟩:=I2.list hq
 obtain⟨w,ew,rw'⟩:=r.get hx
 have hl:=r.length
 have hn:=MK
 have BZ:=(List.getElem?_eq_some_iff.mp hx).1
 refine wpAny_getItem_list pl.isList (by omega) (by omega) (x:=w) (by simpa using ew) ?_
 refine AW (hv AB s2 σ H2 _ I2 q2) λw2 s4 ⟨y2,H3,I4,ry2,q3⟩=>AW (hop AB s4 σ H3 v y2 w w2 _ I4 rw' ry2 q3) λw3 s5 hzz=> ?_
 obtain⟨z,H4,I5,rz,q4⟩:=hzz
 exact AW (ET AB s5 σ H4 (.ref p) (.int n) z _ _ _ _ I5 rfl ry' rz q4) λ_ s6 ⟨H5,I6,q5⟩=>⟨σ,H5,I6,q5⟩
end
theorem Sl(l:Addr)(BO:Array Value)(n:Nat)(b:Addr)(items2:Array Value)(n2:Nat)(d:Option Addr)(sl:Array (Option Value))(hs0:¬(!BO.isEmpty && Builtin.List.listTooLong (BO.size+items2.size))=true)(hs1:BO.size<=sizeLine)(hs2:BO.size+items2.size<=sizeLine+1) :
  Meets (Builtin.«list.extend» ⟨[.ref l,.ref b],[]⟩) (λ_ R s=>s.heap.get? l=some { cls:=.type "list",dict:=none,data:=.seq BO n,slots:= #[] }/\s.heap.get? b=some { cls:=.type "tuple",dict:=d,data:=.seq items2 n2,slots:=sl }/\R (.ok (.ret Value.none)) { s with heap:=s.heap.update l (Obj.mapSeq λx=>x++items2),toks:=s.toks }) :=
 .of_wp λprog w A R s h=>by
  obtain⟨hp,g,d,tk,os⟩:=s;obtain⟨hl,hb,h⟩:=h;have f1:=AutoSeq1.idx_int;have f2:=AutoSeq1.sub_tuple_tuple;have f3:=AutoSeq1.sub_list_list;have f4:=AutoSeq1.sub_tuple_list;have f5:=AutoSeq1.sub_list_tuple;
  have hz':(BO++items2).size<=sizeLine+1:=by rw[Array.size_append];exact hs2
  wp_walk using (wpAny_updateSeq hl rfl (hz:=hs1) (_hz':=hz')),AutoSeq1.wpAny_loadPart' hl,AutoSeq1.wpAny_loadPart' hb;exact⟨_,rfl,h⟩
def kI(K:W.Frag):V->List V->Hp->VK->Prop:=λx vs H Q=>∃ l b xs zs,x=.ref l/\vs=[.ref b]/\H l=some (.lst xs)/\SqT K H b zs/\xs.length+zs.length<=sizeLine/\Q .non (upd H l (.lst (xs++zs)))
theorem Sm{X:Cx}:TC X "list.extend" (kI X.K):=by
 intro AB s σ H x vs v us Q I rx rv h
 obtain⟨l,b,xs,zs,rfl,rfl,hH,hB,hz,q⟩:=h
 cases rx
 obtain⟨u,rfl,ru⟩:=rv.one
 cases ru
 obtain⟨z,its,n,r,hl,e⟩:=I.lstM hH
 obtain⟨GR,r2,⟨o,e2,hc,n2,hd⟩,hz2⟩:=I.tuple hB
 have EE:=r2.length
 obtain⟨oc,od,odat,osl⟩:=o
 have hc:oc=.type "tuple":=hc
 have hd:odat=.seq GR.toArray n2:=hd
 subst hc hd
 have hsz:its.toArray.size+GR.toArray.size<=sizeLine:=by rw[List.size_toArray,List.size_toArray];omega
 have hlong:¬ (!its.toArray.isEmpty && Builtin.List.listTooLong (its.toArray.size+GR.toArray.size))=true:=by
  rw[W1 hsz,Bool.and_false]
  exact Bool.false_ne_true
 refine call_meets F.slot_list_extend ⟨_,e,rfl⟩ F.entry_list_extend (F.args_list_extend_2 _ _)
  (Sl l its.toArray n b GR.toArray n2 _ _ hlong (by rw[List.size_toArray];omega) (by omega)) ⟨e,e2,?_⟩
 refine⟨.non,_,I.lset (its':=its++GR) hH e (by simp) (r.append r2) ?_,rfl,q⟩
 rw[List.length_append]
 omega
def OE(c:Int)(n:Nat):It:=⟨λi _=>i<n,λi H x H'=>H'=H/\x=.int ((i:Nat) * c),λi _=>n<=i⟩
theorem Sq{P:Program}{w:World}{K:PySem.W.Frag}{tg:Expr}(it:Addr)(c:Int)(n:Nat):MJ P w K tg (OE c n) [it] it (λi h=>IsRangeIter h it (0+(i:Nat) * c) ((n:Int) - (i:Nat)) c) where
 mem:=by simp
 obj:=λi h st b hb=>by
  have e:b=it:=by simpa using hb
  subst e
  exact⟨_,st,λv z=>by
   have z':Data.fields _=Data.cell v:=z
   cases z'⟩
 keep:=λi h h' st k=>k it (by simp) _ st
 item:=by
  intro X hP hw hK hc i AB s σ H E I hf st hg
  subst hP hw hK
  obtain⟨f0,f1,f2,f3,f4,f5⟩:=hf it (by simp)
  have W:=Walks.range (prog:=X.prog) (w:=X.w) (I.ok.hd hc) it 0 c n
  refine W.item i s _ _ hg st λv h' tk hv st' kk=> ?_
  obtain⟨t,rfl⟩:=hv
  have I1:Inv X AB σ H { s with heap:=h',toks:=tk }:=I.turned (λb o hb e=>kk b o (by simpa using hb) e) f0 f1 f3 f4 f5
  refine⟨_,rfl,SY (s:={ s with heap:=h',toks:=tk }) (n:="range_iterator") st' rfl rfl (by decide) ⟨.int ((i:Nat) * c),H,I1,⟨t,?_⟩,⟨rfl,rfl⟩,st',λb hb=>(hf b hb).1⟩⟩
  rw[Int.zero_add]
 done:=by
  intro X hP hw hK hc i AB s σ H E I hf st hg
  subst hP hw hK
  obtain⟨f0,f1,f2,f3,f4,f5⟩:=hf it (by simp)
  exact wpAny_pyNext_range_end (I.ok.hd hc) st (by have:n<=i:=hg;omega) λh' eb=>⟨rfl,I.turned (t':=s.toks) (λb o hb e=>eb b o hb e) f0 f1 f3 f4 f5⟩
 self:=λ_ _ _ _ _ st h=>wpAny_pyIter_rangeiter st h
theorem kJ{m c:Nat}(hc:1<=c):Builtin.Range.rangeSize 0 ((m * c:Nat):Int) c=m:=by
 unfold Builtin.Range.rangeSize
 rw[if_pos (show(c:Int) > 0 by omega)]
 by_cases h:m=0
 ·subst h;simp
 ·have h1:0<m * c:=Nat.mul_pos (by omega) (by omega)
  rw[if_pos (by omega)]
  have:((m * c:Nat):Int) - 0 - 1=((m * c - 1:Nat):Int):=by omega
  rw[this,<-Int.natCast_ediv]
  have e:(m * c - 1) / c=m - 1:=by
   rw[Nat.div_eq_iff (by omega)]
   have:=Nat.sub_mul m 1 c
   have h2:c<=m * c:=Nat.le_mul_of_pos_left c (by omega)
   constructor<;>omega
  rw[e]
  omega
theorem Sv{m c:Nat}(hc:1<=c)(hc':c<100000)(hm:m * c<100000):Builtin.Range.small 0 ((m * c:Nat):Int) c=true:=by
 have hm':m<=m * c:=Nat.le_mul_of_pos_right m (by omega)
 unfold Builtin.Range.small
 rw[kJ hc]
 simp only[Builtin.Range.rangeFitsLong,Bool.and_eq_true,Bool.or_eq_true,decide_eq_true_eq,beq_iff_eq]
 refine⟨by omega,.inr ?_⟩
 rw[if_pos (show(c:Int) > 0 by omega)]
 simp only[Bool.and_eq_true,decide_eq_true_eq]
 omega
section
variable{X:Cx}{tg:Expr}
theorem Sw{AB:List (Addr × Obj)}{σ:St}{H:Hp}{s:Shared}{R:It->Hp->Prop}{E:Value->Shared->Prop}{m c:Nat}{t u v:Tok}{tk:Nat}(I:Inv X AB σ H s)(h1:1<=c)(h2:c<100000)(h3:m * c<100000)
  (q:R (OE c m) H):wpAny (model X.prog X.w) X.A (pyIter (.ref s.heap.objs.size)) (WL X AB σ tg R) E { s with heap:=s.heap.push { cls:=.type "range",data:=.fields #[.int 0 t,.int ((m * c:Nat):Int) u,.int c v] },toks:=tk }:=by
 refine wpAny_pyIter_range (IsRange.new ..) (Sv h1 h2 h3) ?_
 have I1:Inv X AB σ H { s with heap:=s.heap.push { cls:=.type "range",data:=.fields #[.int 0 t,.int ((m * c:Nat):Int) u,.int c v] },toks:=tk }:=I.kept λb o e=>Heap.get?_push_of_some _ e
 refine⟨(s.heap.push { cls:=.type "range",data:=.fields #[.int 0 t,.int ((m * c:Nat):Int) u,.int c v] }).objs.size,[(s.heap.push { cls:=.type "range",data:=.fields #[.int 0 t,.int ((m * c:Nat):Int) u,.int c v] }).objs.size],_,_,H,rfl,
  I1.kept (t':=tk) λb o e=>Heap.get?_push_of_some _ e,Sq _ c m,?_,λb hb=> ?_,q⟩
 ·have e1:(0:Int)+((0:Nat):Int) * (c:Int)=0:=by simp
  have e2:(m:Int) - ((0:Nat):Int)=Builtin.Range.rangeSize 0 ((m * c:Nat):Int) c:=by rw[kJ h1];omega
  show IsRangeIter _ _ (0+((0:Nat):Int) * (c:Int)) ((m:Int) - ((0:Nat):Int)) c
  rw[e1,e2]
  exact Heap.get?_push_size _ rfl
 ·have e:b=(s.heap.push { cls:=.type "range",data:=.fields #[.int 0 t,.int ((m * c:Nat):Int) u,.int c v] }).objs.size:=by simpa using hb
  subst e
  exact I1.fpOk (Nat.le_refl _) (I1.hok.fresh (Nat.le_refl _))
def T1(ta:TA):TI:=λσ H R=>ta σ H λvs H1=>∃ m c:Nat,vs=[.int 0,.int ((m * c:Nat):Int),.int c]/\(1<=c/\c<100000/\m * c<100000)/\R (OE c m) H1
theorem Sx{a b c:Expr}{ta:TA}{p pos:Pos}(hg:Gl X "range")(hm:X.mg "range"=none)(ha:PA X [a,b,c] ta)(hs:starEach [a,b,c] X.env=[(false,eval a X.env),(false,eval b X.env),(false,eval c X.env)]:=by rfl)(hs2:starEach [b,c] X.env=[(false,eval b X.env),(false,eval c X.env)]:=by rfl) :
  PI X tg (.Call (.Name "range" p) [a,b,c] [] pos) (T1 ta):=by
 intro AB s σ H R I h
 refine Call_ (NV I hg hm boot_range (PyProof.Rows.callWith_type1 (AW (ha pos AB s σ H _ I h) λus s1 hzz=> ?_) (by rw[hs,hs2]) (by rw[hs2];rfl)))
 obtain⟨vs,H1,I1,r1,q1⟩:=hzz
 obtain⟨m,c,e,⟨q1,q2,q3⟩,q⟩:=q1
 subst e
 cases r1 with
 | cons r rr =>
  cases rr with
  | cons r' rr =>
   cases rr with
   | cons r2 rr =>
    cases rr
    obtain⟨t,rfl⟩:=r
    obtain⟨t',rfl⟩:=r'
    obtain⟨t2,rfl⟩:=r2
    exact call_range_3 (by omega) (Sw I1 q1 q2 q3 q) (Or.inl (PyProof.noPylong_small (by omega)))
end
section
variable{K:W.Frag}{g:TG}{tt:TT}{te:TE}{k:Nat}{cap:List Nat}{σ:St}{H:Hp}{Q:VK}
theorem Sy{as:TA}:B6 (T1 as) g tt te k cap σ H Q=(as σ H λvs H1=>∃ m c:Nat,vs=[.int 0,.int ((m * c:Nat):Int),.int c]/\(1<=c/\c<100000/\m * c<100000)/\FU (OE c m) g tt te k cap σ H1 Q):=rfl
theorem Sz{as:TA}:B6 (IL K as) g tt te k cap σ H Q=(as σ H λvs H1=>∃ a:Addr,vs=[.ref a]/\(∃ xs,SqL K H1 a xs)/\FU (MU K a) g tt te k cap σ H1 Q):=rfl
theorem kK{b:Addr}{xs:List V}(p:Nat->Bool)(hn:xs.length<=sizeLine)(Pv:Nat->List V->Hp->Prop)(h0:Pv 0 [] H)(hq:∀ i ys H,i<=xs.length->Pv i ys H->SqL K H b xs/\ys.length<=i)
  (ht:∀ i x ys H,xs[i]? =some x->Pv i ys H->∀ QB:Bool->Hp->Prop,QB (p i) H->tt (some x::B3 cap σ) H QB)
  (hs:∀ i x ys H,xs[i]? =some x->p i=true->Pv i ys H->te (some x::B3 cap σ) H λy H3=>Pv (i+1) (ys++[y]) H3)
  (hf:∀ i x ys H,xs[i]? =some x->p i=false->Pv i ys H->Pv (i+1) ys H)
  (hd:∀ ys H,Pv xs.length ys H->∀ q,H q=none->Q (.ref q) (upd H q (.lst ys))):FU (ID K b) (AG 0) tt te 1 cap σ H Q:=by
 refine⟨λi m σ' ys H=>m=xs.length - i/\i<=xs.length/\(∃ x0,σ'=x0::B3 cap σ)/\Pv i ys H,⟨xs.length,by simp,Nat.zero_le _,⟨none,rfl⟩,h0⟩,?_⟩
 rintro i m σ' ys H ⟨rfl,hi,⟨x0,rfl⟩,P⟩
 obtain⟨q,hl⟩:=hq i ys H hi P
 by_cases BZ:i<xs.length
 ·refine .inr ⟨⟨xs,xs[i],q,by simp[BZ]⟩,by omega,λx H' y=> ?_⟩
  obtain⟨e,y⟩:=y
  subst e
  have ex:=y xs q
  refine ht i x ys _ ex P _ ?_
  cases hp:p i with
  | true =>
   rw[if_pos rfl]
   exact⟨_,λy H4 q=>⟨_,by omega,rfl,BZ,⟨_,rfl⟩,q⟩,hs i x ys _ ex hp P⟩
  | false =>
   rw[if_neg Bool.false_ne_true]
   exact⟨_,by omega,rfl,BZ,⟨_,rfl⟩,hf i x ys _ ex hp P⟩
 ·have e:i=xs.length:=by omega
  subst e
  exact .inl ⟨⟨xs,q,Nat.le_refl _⟩,hd ys H P⟩
theorem YJ{b:Addr}{xs:List V}(p:Nat->Bool)(hn:xs.length<=sizeLine)(Pv:Nat->List V->Hp->Prop)(h0:Pv 0 [] H)(hq:∀ i ys H,i<=xs.length->Pv i ys H->SqL K H b xs/\ys.length<=i)
  (hu:∀ i ys H t o,Pv i ys H->H t=none->Pv i ys (upd H t o))
  (ht:∀ i x ys H,xs[i]? =some x->Pv i ys H->∀ QB:Bool->Hp->Prop,QB (p i) H->tt (some (.int (i:Int))::some x::B3 cap σ) H QB)
  (hs:∀ i x ys H,xs[i]? =some x->p i=true->Pv i ys H->te (some (.int (i:Int))::some x::B3 cap σ) H λy H3=>Pv (i+1) (ys++[y]) H3)
  (hf:∀ i x ys H,xs[i]? =some x->p i=false->Pv i ys H->Pv (i+1) ys H)
  (hd:∀ ys H,Pv xs.length ys H->∀ q,H q=none->Q (.ref q) (upd H q (.lst ys))):FU (MU K b) (GH K 2 (DQ (AG 0) (DQ (AG 1) GG))) tt te 2 cap σ H Q:=by
 refine⟨λi m σ' ys H=>m=xs.length - i/\i<=xs.length/\(∃ x0 x1,σ'=x0::x1::B3 cap σ)/\Pv i ys H,⟨xs.length,by simp,Nat.zero_le _,⟨none,none,rfl⟩,h0⟩,?_⟩
 rintro i m σ' ys H ⟨rfl,hi,⟨x0,x1,rfl⟩,P⟩
 obtain⟨q,hl⟩:=hq i ys H hi P
 by_cases BZ:i<xs.length
 ·refine .inr ⟨⟨xs,xs[i],q,by simp[BZ]⟩,by omega,λv H' hzz=> ?_⟩
  obtain⟨t,ht0,e,x,e',q1⟩:=hzz
  subst e e'
  have ex:=q1 xs q
  refine⟨t,[.int (i:Int),x],rfl,SqT.of AM,rfl,?_⟩
  have P':=hu i ys H t (.tup [.int (i:Int),x]) P ht0
  refine⟨_,_,rfl,⟨_,_,rfl,⟨rfl,?_⟩⟩⟩
  refine ht i x ys _ ex P' _ ?_
  cases hp:p i with
  | true =>
   rw[if_pos rfl]
   exact⟨_,λy H4 q=>⟨_,by omega,rfl,BZ,⟨_,_,rfl⟩,q⟩,hs i x ys _ ex hp P'⟩
  | false =>
   rw[if_neg Bool.false_ne_true]
   exact⟨_,by omega,rfl,BZ,⟨_,_,rfl⟩,hf i x ys _ ex hp P'⟩
 ·have e:i=xs.length:=by omega
  subst e
  exact .inl ⟨⟨xs,q,Nat.le_refl _⟩,hd ys H P⟩
end
end L2
namespace L2
section
variable{prog:Program}{w:World}{K:Type}[DecidableEq K]{knd:HeapKind prog w K}{A:Around}{E:Value->Shared->Prop}{s:Shared}
theorem Tb{d a:Addr}{xs:List (K × Addr × Value)}{k:K}{v:Value}{Q:Unit->Shared->Prop}(hu:knd.room A)(hkey:knd.is s.heap k a)(hm:s.heap.DictOfH knd d xs)
  (hQ:∀ h',h'.DictOfH knd d (storedH xs k a v)->Heap.SameBut d s.heap h'->Q () { s with heap:=h' }) (hsz:xs.length<=sizeLine) :
  wpAny (model prog w) A (dictSetHashed d (.ref a) (knd.hash k) v) Q E s:=by
 obtain⟨o,es,ep,ho,hc,hd,he,his,hn⟩:=hm
 have keep:∀ {f:Obj->Obj} {x:K × Addr × Value},x∈xs->knd.is (s.heap.update d f) x.1 x.2.1:=λhx=>knd.keeps (his _ hx) ho hd (Heap.SameBut.update ..)
 unfold dictSetHashed
 try with_reducible refine wpAny_holding ?_
 refine wpAny_bind (wpAny_dictFind_heap hu hkey ho hd he his hn (λhno=> ?_) λj p hj=> ?_)
 ·have e1:=storedH_new (atKey_none_of_get hno) a v
  refine wpAny_bind (wpAny_rule (wpAny_updateDictKeys (hz:=by have e:=size_of_entries he;omega) ho hd (hQ _ ?_ (Heap.SameBut.update ..))))
  rw[e1]
  refine⟨_,_,ep+1,Heap.get?_update_self _ ho (Obj.isFreed_of_dict (Obj.data_mapDictKeys hd _)),hc.mapDictKeys _,Obj.data_mapDictKeys hd _,by simp[he,entryOfKey],λx hx=> ?_,?_⟩
  ·rcases List.mem_append.mp hx with hx | hx
   ·exact keep hx
   ·cases List.mem_singleton.mp hx
    exact knd.keeps hkey ho hd (Heap.SameBut.update ..)
  ·rw[List.map_append,List.nodup_append]
   refine⟨hn,by simp,λx hx y hy e=>not_mem_keys_of_get hno ?_⟩
   rw[show k=y from(List.mem_singleton.mp hy).symm,<-e]
   exact hx
 ·have e1:=storedH_old (atKey_of_get hn hj) a v
  refine wpAny_bind (wpAny_rule (wpAny_bind (wpAny_updateDict ho hd (wpAny_point (hQ _ ?_ (Heap.SameBut.update ..))))))
  rw[e1]
  refine⟨_,_,ep,Heap.get?_update_self _ ho (Obj.isFreed_of_dict (Obj.data_mapDict hd _)),hc.mapDict _,Obj.data_mapDict hd _,?_,λx hx=> ?_,by rw[keys_map_putAt];exact hn⟩
  ·have:=modify_map_putAt (entryOfKey knd) (λe:DictEntry=>{ e with val:=v }) k v (λ_ _=>rfl) hn hj
   rw[<-he]at this
   obtain⟨l⟩:=es
   simpa using this
  ·obtain⟨y,hy,rfl⟩:=List.mem_map.mp hx
   unfold putAt
   have kk:=λf=>keep (f:=f) hy
   split
   ·exact kk _
   ·exact kk _
def JS(xs ys:List (K × Addr × Value)):List (K × Addr × Value):=ys.foldl (λBV y=>storedH BV y.1 y.2.1 y.2.2) xs
theorem Tc(xs:List (K × Addr × Value))(k:K)(a:Addr)(v:Value):(storedH xs k a v).length<=xs.length+1:=by
 unfold storedH
 split
 ·rw[List.length_map];omega
 ·rw[List.length_append];exact Nat.le_refl _
theorem kL:∀ (ys xs:List (K × Addr × Value)),(JS xs ys).length<=xs.length+ys.length
 | [],xs=>Nat.le_refl _
 | y::ys,xs=>by
  have h1:=kL ys (storedH xs y.1 y.2.1 y.2.2)
  have h2:=Tc xs y.1 y.2.1 y.2.2
  show(JS (storedH xs y.1 y.2.1 y.2.2) ys).length<=_
  rw[List.length_cons];omega
theorem Td{xs ys:List (K × Addr × Value)}{i:Nat}{y:K × Addr × Value}(h:ys[i]? =some y):JS xs (ys.take (i+1))=storedH (JS xs (ys.take i)) y.1 y.2.1 y.2.2:=by
 have:ys.take (i+1)=ys.take i++[y]:=by rw[List.take_add_one,h];rfl
 unfold JS
 rw[this,List.foldl_append]
 rfl
theorem Tg{a:Addr}{o:Obj}{Q:Bool->Shared->Prop}(ho:s.heap.get? a=some o)(hc:o.cls=.type "tuple")(h:Q false s):wpAny (model prog w) A (Builtin.Dict.quietEq (.ref a)) Q E s:=by
 unfold Builtin.Dict.quietEq
 refine wpAny_bind (wpAny_specialOf ⟨o,ho,hc⟩ F.slot_tuple_eq.lookup (wpAny_pure ?_))
 exact h
def T2(knd:HeapKind prog w K)(ys:List (K × Addr × Value)):Prop:=(ys.map λy=>knd.hash y.1).Nodup
theorem Th{id:String}{d:Addr}{o:Obj}{es ep}{ys:List (K × Addr × Value)}{Q:Array DictEntry->Shared->Prop}(ho:s.heap.get? d=some o)(hd:o.data=.dict es ep)(he:es.toList=ys.map (entryOfKey knd))(ht:∀ y∈ys,∃ ob,s.heap.get? y.2.1=some ob/\ob.cls=.type "tuple")(ap:T2 knd ys)(h:Q es s) :
  wpAny (model prog w) A (Builtin.Dict.entriesForEmpty id d) Q E s:=by
 unfold Builtin.Dict.entriesForEmpty
 refine wpAny_bind (wpAny_dictEntries ho hd ?_)
 have one:∀ e∈es.toList,(es.filter (·.hash == e.hash)).size<=1:=λe hm=>by
  rw[<-Array.length_toList,Array.toList_filter,he,List.filter_map,List.length_map]
  rw[he]at hm
  obtain⟨y,hy,rfl⟩:=List.mem_map.mp hm
  have:(ys.filter ((λx:DictEntry=>x.hash ==(entryOfKey knd y).hash) ∘ entryOfKey knd)).length=(ys.map λy=>knd.hash y.1).count (knd.hash y.1):=by
   rw[List.count_eq_countP,List.countP_map,List.countP_eq_length_filter]
   rfl
  rw[this]
  exact List.nodup_iff_count.mp ap _
 refine wpAny_bind ?_
 rw[<-Array.forIn_toList]
 refine wpAny_forIn_list _ (λDS _ s'=>s'=s/\∀ e∈DS,e∈es.toList) _ ?_ ?_ _ _ ⟨rfl,λe h=>h⟩
 ·rintro e DS b s' ⟨rfl,hall⟩
  have hm:=hall e List.mem_cons_self
  have hm':=hm
  rw[he]at hm'
  obtain⟨y,hy,ey⟩:=List.mem_map.mp hm'
  obtain⟨ob,h1,h2⟩:=ht y hy
  have ek:e.key=.ref y.2.1:=by rw[<-ey];rfl
  rw[ek]
  refine wpAny_bind (Tg h1 h2 ?_)
  simp only[Bool.not_false,if_true]
  rw[if_neg (by have:=one e hm;omega)]
  exact wpAny_pure ⟨rfl,λe' h'=>hall e' (List.mem_cons_of_mem _ h')⟩
 ·rintro b s' ⟨rfl,_⟩
  exact wpAny_pure h
theorem Tj{nm:String}{d o:Addr}{xs ys:List (K × Addr × Value)}{Q:Unit->Shared->Prop}(hu:knd.room A)(hdo:d≠o)(hoS:(o == sysModules)=false)
  (hd:s.heap.DictOfH knd d xs) (ho:s.heap.DictOfH knd o ys) (ht:∀ y∈ys,∃ ob,s.heap.get? y.2.1=some ob/\ob.cls=.type "tuple") (ap:xs=[]->T2 knd ys)
  (hQ:∀ h',(h'.DictOfH knd d (JS xs ys)\/(xs=[]/\h'.DictOfH knd d ys))->Heap.SameBut d s.heap h'->Q () { s with heap:=h' })
  (hsz:xs.length+ys.length<=sizeLine) :
  wpAny (model prog w) A (Builtin.Dict.mergeDict nm d o) Q E s:=by
 obtain⟨od,esd,epd,hod,HE,hdd,hed,hisd,hnd⟩:=id hd
 obtain⟨oo,HZ,epo,hoo,hco,hdo',heo,hiso,hno⟩:=id ho
 have szo:=size_of_entries heo
 unfold Builtin.Dict.mergeDict
 rw[if_neg (by simpa using hdo)]
 unfold Builtin.Dict.showsAll
 rw[if_neg (by rw[hoS];exact Bool.false_ne_true)]
 refine wpAny_bind (wpAny_pure ?_)
 refine wpAny_bind (wpAny_dictEntries hoo hdo' ?_)
 dsimp only
 split
 any_goals (refine wpAny_bind (wpAny_dictEntries hod hdd ?_);split)
 ·rename_i hemp
  have hxs:xs=[]:=by
   have h0:esd= #[]:=Array.isEmpty_iff.mp hemp
   rw[h0]at hed
   exact List.map_eq_nil_iff.mp hed.symm
  refine wpAny_bind (Th (knd:=knd) hoo hdo' heo ht (ap hxs) ?_)
  split
  ·have hto:HZ.size<=sizeLine+1:=by omega
   refine wpAny_bind (wpAny_updateDictKeysTo hod hdd (wpAny_pure (hQ _ (.inr ⟨hxs,_,_,epd+1,Heap.get?_update_self _ hod (Obj.isFreed_of_dict (Obj.data_mapDictKeys hdd _)),HE.mapDictKeys _,
    Obj.data_mapDictKeys hdd _,heo,λx hx=>knd.keeps (hiso x hx) hod hdd (Heap.SameBut.update ..),hno⟩) (Heap.SameBut.update ..))) hto)
  ·rename_i hne
   have h0:HZ= #[]:=Array.isEmpty_iff.mp (by simpa using hne)
   have hm0:ys=[]:=List.length_eq_zero_iff.mp (by rw[<-szo,h0];rfl)
   subst hm0
   exact wpAny_pure (hQ _ (.inl hd) (Heap.SameBut.refl _ _))
 all_goals
  refine wpAny_bind (wpAny_dictEpoch hoo hdo' (wpAny_bind (wpAny_dictEntries hoo hdo' (wpAny_bind ?_))))
  rw[Std.Legacy.Range.forIn_eq_forIn_range']
  simp only[Std.Legacy.Range.size,Nat.sub_zero,Nat.add_sub_cancel,Nat.div_one]
  refine wpAny_forIn_list _
   (λDS _ s'=>∃ h' i,s'={ s with heap:=h' }/\DS=List.range' i (HZ.size - i)/\i<=HZ.size/\h'.DictOfH knd d (JS xs (ys.take i))/\Heap.SameBut d s.heap h')
   _ ?_ ?_ _ _ ⟨s.heap,0,rfl,by simp,Nat.zero_le _,hd,Heap.SameBut.refl _ _⟩
  ·rintro x DS b s' ⟨h',i,rfl,hr,hi,hd',hs'⟩
   have BZ:i<HZ.size:=by
    rcases Nat.lt_or_ge i HZ.size with h | h
    ·exact h
    ·rw[Nat.sub_eq_zero_of_le h]at hr;simp at hr
   obtain⟨rfl,hrest⟩:x=i/\DS=List.range' (i+1) (HZ.size - (i+1)):=by
    rw[show HZ.size - i=(HZ.size - (i+1))+1 by omega,List.range'_succ]at hr
    injection hr with h1 h2
    exact⟨h1,h2⟩
   have hoo':h'.get? o=some oo:=(hs'.2 o (Ne.symm hdo)).trans hoo
   obtain⟨y,hy⟩:∃ y,ys[x]? =some y:=⟨ys[x]'(by omega),List.getElem?_eq_getElem _⟩
   have hk:knd.is h' y.1 y.2.1:=knd.keeps (hiso y (List.mem_of_getElem? hy)) hod hdd hs'
   refine wpAny_bind (wpAny_dictEntries hoo' hdo' ?_)
   rw[entry_at heo x,hy]
   have hmx:(JS xs (ys.take x)).length<=sizeLine:=by
    have e1:=kL (ys.take x) xs
    have e2:(ys.take x).length<=ys.length:=by rw[List.length_take];omega
    omega
   refine wpAny_bind (wpAny_holding (Tb (s:={ s with heap:=h' }) hu hk hd' (λh2 hd2 hs2=> ?_) hmx))
   have hoo2:h2.get? o=some oo:=(hs2.2 o (Ne.symm hdo)).trans hoo'
   refine wpAny_bind (wpAny_dictEpoch hoo2 hdo' ?_)
   rw[if_neg (by simp)]
   exact wpAny_pure ⟨h2,x+1,rfl,hrest,BZ,by rw[Td hy];exact hd2,hs'.trans hs2⟩
  ·rintro b s' ⟨h',i,rfl,hr,hi,hd',hs'⟩
   have hin:i=HZ.size:=by
    rcases Nat.lt_or_ge i HZ.size with h | h
    ·rw[show HZ.size - i=(HZ.size - (i+1))+1 by omega,List.range'_succ]at hr;exact nomatch hr
    ·exact Nat.le_antisymm hi h
   refine wpAny_pure (hQ h' (.inl ?_) hs')
   rw[hin,szo,List.take_length]at hd';exact hd'
theorem Tk(knd:HeapKind prog w K)(d o:Addr)(hdo:d≠o)(hoS:(o == sysModules)=false) :
  MeetsIn prog w (Builtin.«dict.update» ⟨[.ref d,.ref o],[]⟩) (λA R s=>knd.room A.in1/\∃ xs ys,s.heap.DictOfH knd d xs/\s.heap.DictOfH knd o ys/\(∀ y∈ys,∃ ob,s.heap.get? y.2.1=some ob/\ob.cls=.type "tuple")/\(xs=[]->T2 knd ys)/\xs.length+ys.length<=sizeLine ∧
   ∀ h',(h'.DictOfH knd d (JS xs ys)\/(xs=[]/\h'.DictOfH knd d ys))->Heap.SameBut d s.heap h'->R (.ok (.ret .none)) { s with heap:=h' }) :=
 .of_wp λA R s ⟨hu,xs,ys,hd,ho,ht,ap,hsz,h⟩=>by
  unfold Builtin.«dict.update» Builtin.Dict.selfAndRest
  refine wpAny_bind (wpAny_bind (wpAny_notOrdered_dict hd.typeIs ?_))
  show wpAny _ _ (pure (d,[Value.ref o])) _ _ s
  refine wpAny_pure ?_
  show wpAny _ _ (Builtin.Dict.updateFrom "dict.update" d (.ref o) [] .none) _ _ s
  unfold Builtin.Dict.updateFrom
  refine wpAny_bind (wpAny_typeOf ho.typeIs ?_)
  rw[if_neg (by decide)]
  unfold Builtin.Dict.merge Builtin.Dict.readDirectly
  refine wpAny_bind (wpAny_bind (wpAny_bind (wpAny_isInstance ho.typeIs isSubtype_dict_dict ?_)))
  simp only[Bool.not_true,Bool.false_eq_true,if_false]
  refine wpAny_bind (wpAny_specialOf ho.typeIs F.slot_dict_iter.lookup (wpAny_pure ?_))
  simp only[beq_self_eq_true,if_true]
  refine wpAny_bind (wpAny_pure (Tj hu hdo hoS hd ho ht ap (λh' hd' hs'=> ?_) hsz))
  show wpAny _ _ (Builtin.Dict.addKeywords d [] >>= _) _ _ _
  exact wpAny_bind (wpAny_pure (wpAny_pure ⟨.none,rfl,h h' hd' hs'⟩))
end
def FB(kvs more:List (List A1 × V)):List (List A1 × V):=more.foldl (λBV kv=>DC BV kv.1 kv.2) kvs
theorem KT.merge{H:Hp}:∀ {more:List (List A1 × V)} {ys:List (List A1 × Addr × Value)} {kvs:List (List A1 × V)} {xs:List (List A1 × Addr × Value)},KT H more ys->KT H kvs xs->KT H (FB kvs more) (JS xs ys):=by
 intro more ys kvs xs r
 unfold KT at r
 induction r generalizing kvs xs with
 | nil=>intro q;exact q
 | @cons p q ps qs h t ih =>
  intro r0
  have e:KT H (DC kvs p.1 p.2) (storedH xs q.1 q.2.1 q.2.2):=by
   have:=r0.put p.1 h.2.1 h.2.2
   rw[<-h.1];exact this
  exact ih e
theorem YK:∀ (more kvs:List (List A1 × V)),(FB kvs more).length<=kvs.length+more.length
 | [],kvs=>Nat.le_refl _
 | p::r,kvs=>by
  have h1:=YK r (DC kvs p.1 p.2)
  have h2:=Q5 kvs p.1 p.2
  show(FB (DC kvs p.1 p.2) r).length<=_
  rw[List.length_cons];omega
theorem YL:∀ (more BV:List (List A1 × V)),((BV++more).map (·.1)).Nodup->FB BV more=BV++more
 | [],BV,_=>by simp[FB]
 | p::r,BV,h=>by
  have e:DC BV p.1 p.2=BV++[p]:=by
   unfold DC
   rw[if_neg]
   rw[List.any_eq_true]
   rintro ⟨x,hx,he⟩
   rw[List.map_append,List.nodup_append]at h
   exact h.2.2 x.1 (List.mem_map.mpr ⟨x,hx,rfl⟩) p.1 (by simp) (of_decide_eq_true he)
  show FB (DC BV p.1 p.2) r=_
  rw[e,YL r (BV++[p]) (by rw[List.append_assoc];exact h),List.append_assoc]
  rfl
theorem KT.keys{H:Hp}{kvs:List (List A1 × V)}{xs:List (List A1 × Addr × Value)}(r:KT H kvs xs):kvs.map (·.1)=xs.map (·.1):=by
 unfold KT at r
 induction r with
 | nil=>rfl
 | cons h t ih=>rw[List.map_cons,List.map_cons,ih,h.1]
def RF(more:List (List A1 × V)):Prop:=∀ (P:Program) (w:World),((more.map (·.1)).map (tupleKind (ER P w)).hash).Nodup
def kM:V->List V->Hp->VK->Prop:=λx vs H Q=>∃ d o kvs more,x=.ref d/\vs=[.ref o]/\d≠o/\H d=some (.dT kvs)/\H o=some (.dT more)/\(kvs=[]->RF more)/\kvs.length+more.length<=sizeLine/\Q .non (upd H d (.dT (FB kvs more)))
theorem Tl{X:Cx}(hu:X.A.units+1<cLine):TC X "dict.update" kM:=by
 intro AB s σ H x vs v us Q I rx rv h
 obtain⟨d,o,kvs,more,rfl,rfl,hdo,hH,hO,ap,hz,q⟩:=h
 cases rx
 obtain⟨u,rfl,ru⟩:=rv.one
 cases ru
 obtain⟨z1,hd1,xs,rel1,dd1⟩:=TJ I.hok hH
 obtain⟨z2,hd2,ys,rel2,dd2⟩:=TJ I.hok hO
 have l1:kvs.length=xs.length:=Paired.length rel1
 have l2:more.length=ys.length:=Paired.length rel2
 have nd:(more.map (·.1)).Nodup:=by
  obtain⟨_,_,_,_,_,_,_,_,hn⟩:=dd2
  rw[rel2.keys];exact hn
 refine call_meetsIn PySem.F.slot_dict_update dd1.typeIs PySem.F.entry_dict_update (PySem.F.args_dict_update_2 _ _) (Tk (tupleKind (ER X.prog X.w)) d o hdo hd2) ⟨tupleKind_room_in1 hu,xs,ys,dd1,dd2,λy hy=> ?_,λe=> ?_,by omega,λh' dd hs=> ?_⟩
 ·obtain⟨_,_,_,_,_,_,_,his,_⟩:=dd2
  obtain⟨ob,_,_,h1,h2,_⟩:=his y hy
  exact⟨ob,h1,h2⟩
 ·have:=ap (List.length_eq_zero_iff.mp (by rw[l1,e];rfl)) X.prog X.w
  unfold T2
  rw[rel2.keys,List.map_map]at this
  exact this
 ·have hl:(FB kvs more).length<=sizeLine:=by have:=YK more kvs;omega
  have tk:∀ {kvs':List (List A1 × V)} {xs':List (List A1 × Addr × Value)},KT H kvs' xs'->KT (upd H d (.dT (FB kvs more))) kvs' xs':=λr=>r.keeps λc ys ec=>by
   rw[AO (DB ec hH (λz=>nomatch z))]
   exact ec
  have fin:∀ {xs'},KT H (FB kvs more) xs'->h'.DictOfH (tupleKind (ER X.prog X.w)) d xs'->EP X AB σ Q .none { s with heap:=h' }:=λ{xs'} r dd'=>by
   obtain⟨ob,es,ep,hq,h2,h3,h4,_,h5⟩:=dd'
   exact⟨.non,_,TK (ob:=.dT (FB kvs more)) I (by rw[hH];exact True.intro) hs ⟨ob,hq⟩ ⟨hl,hd1,_,tk r,ob,es,ep,hq,h2,h3,h4,h5⟩,rfl,q⟩
  rcases dd with dd | ⟨e,dd⟩
  ·exact fin (rel2.merge rel1) dd
  ·have e0:kvs=[]:=List.length_eq_zero_iff.mp (by rw[l1,e];rfl)
   refine fin ?_ dd
   rw[e0,YL more [] nd]
   exact rel2
def T3(H:Hp)(ps:List (V × V))(kvs:List (List A1 × V)):Prop:=Paired (λ(q:V × V) (kv:List A1 × V)=>(∃ b,q.1=.ref b/\H b=some (.tup (kv.1.map kV)))/\q.2=kv.2) ps kvs
theorem Tm{H:Hp}{p:Addr}{o o':HO}:upd (upd H p o) p o'=upd H p o':=by
 funext x
 by_cases e:x=p
 ·rw[e,AM,AM]
 ·rw[AO e,AO e,AO e]
theorem Tp{H:Hp}{p:Addr}{o:HO}(h:H p=some o):upd H p o=H:=by
 funext x
 by_cases e:x=p
 ·rw[e,AM,h]
 ·rw[AO e]
theorem Tq{X:Cx}{AB:List (Addr × Obj)}{σ:St}{d:Addr}{E:Value->Shared->Prop}(hu:X.A.units+1<cLine):∀ (ws:List (Value × Value)) (ps:List (V × V)) (kvs BV:List (List A1 × V)) (s:Shared) (H:Hp) (Q:PUnit->Shared->Prop),Inv X AB σ H s->H d=some (.dT BV)->VV ps ws->T3 H ps kvs->BV.length+kvs.length<=sizeLine →
  (∀ s',Inv X AB σ (upd H d (.dT (FB BV kvs))) s'->Q PUnit.unit s')->wpAny (model X.prog X.w) X.A (storeAll d ws) Q E s:=by
 intro ws
 induction ws with
 | nil =>
  intro ps kvs BV s H Q I e rel kr hz h
  cases rel
  cases kr
  unfold storeAll
  rw[List.forIn_nil]
  refine wpAny_pure (h s ?_)
  show Inv X AB σ (upd H d (.dT BV)) s
  rw[Tp e]
  exact I
 | cons x ws ih =>
  intro ps kvs BV s H Q I e rel kr hz h
  cases rel with
  | @cons p _ ps _ rp rel =>
   cases kr with
   | @cons _ kv _ kvs hk kr =>
    obtain⟨⟨b,eb,hb⟩,ev⟩:=hk
    obtain⟨u,v⟩:=x
    have r1:RelV p.1 u:=rp.1
    have r2:RelV p.2 v:=rp.2
    rw[eb]at r1
    cases (show u=Value.ref b from r1)
    rw[ev]at r2
    rw[List.length_cons]at hz
    obtain⟨z,hd,xs,rl,dd⟩:=TJ I.hok e
    have hx:xs.length<=sizeLine:=by rw[<-Paired.length rl];exact z
    have hl:(DC BV kv.1 kv.2).length<=BV.length+1:=Q5 BV kv.1 kv.2
    unfold storeAll
    rw[List.forIn_cons]
    refine wpAny_bind (wpAny_bind (wpAny_dictSet_heap (hsz:=hx) (knd:=tupleKind (ER X.prog X.w)) (show X.A.units<cLine by omega) (MN I.hok hb) dd λh' dd' hs=>wpAny_pure ?_))
    have tk:∀ {o':HO} {c:Addr} {ys:List V},H c=some (.tup ys)->upd H d o' c=some (.tup ys):=λec=>by
     rw[AO (DB ec e (λz=>nomatch z))]
     exact ec
    obtain⟨q,es,ep,hq,h2,h3,h4,_,h5⟩:=dd'
    have I':Inv X AB σ (upd H d (.dT (DC BV kv.1 kv.2))) { s with heap:=h',toks:=s.toks+(tupleKind (ER X.prog X.w)).draws kv.1 } :=
     TK (ob:=.dT (DC BV kv.1 kv.2)) I (by rw[e];exact True.intro) hs ⟨q,hq⟩ ⟨by omega,hd,_,(rl.put kv.1 hb r2).keeps λc ys ec=>tk ec,q,es,ep,hq,h2,h3,h4,h5⟩
    refine ih ps kvs (DC BV kv.1 kv.2) _ _ Q I' AM rel (Paired.mapP kr λq kv' ⟨⟨b',e1,e2⟩,e3⟩=>⟨⟨b',e1,tk e2⟩,e3⟩) (by omega) λs' i=>h s' ?_
    rw[Tm]at i
    exact i
def OF(trs:List (TE × TE)):TE:=λσ H Q=>∀ p,H p=none->MO trs σ (upd H p (.dT [])) λps H2=>H2 p=some (.dT [])/\∃ kvs:List (List A1 × V),T3 H2 ps kvs/\kvs.length<=15/\Q (.ref p) (upd H2 p (.dT (FB [] kvs)))
theorem T5{X:Cx}{pos:Pos}{keys:List (Option Expr)}{values:List Expr}{trs:List (TE × TE)}(hu:X.A.units+1<cLine)(h:TN X pos keys values trs)(hall:keys.all (·.isSome)=true)(hl:keys.length=values.length)(h0:keys≠[])
  (h15:keys.length<=15):PE X (.Dict keys values pos) (OF trs):=by
 intro AB s σ H Q I q
 have hn:=I.hok.fresh (Nat.le_refl s.heap.objs.size)
 have I1:=I.laid (a:=s.heap.objs.size) (o:=.dT []) (h':=s.heap.push { cls:=.type "dict",data:=.dict #[] }) (t':=s.toks) (λ_ _ q=>Heap.get?_push_of_some _ q) (Nat.le_refl _) (jE s.heap I.big)
 refine wpAny_Dict_any hall hl h0 h15 (AW (h AB _ σ _ _ I1 (q _ hn)) λws s2 hzz=> ?_)
 obtain⟨ps,H2,I2,rel,e,kvs,kr,lk,q2⟩:=hzz
 refine Tq hu ws ps kvs [] s2 H2 _ I2 e rel kr ?_ λs' i=>⟨.ref s.heap.objs.size,_,i,rfl,q2⟩
 rw[sizeLine_eq,List.length_nil];omega
theorem Tv{trs:List (TE × TE)}{σ:St}{H:Hp}{Q:VK}:OF trs σ H Q=∀ p,H p=none->MO trs σ (upd H p (.dT [])) λps H2=>H2 p=some (.dT [])/\∃ kvs:List (List A1 × V),T3 H2 ps kvs/\kvs.length<=15/\Q (.ref p) (upd H2 p (.dT (FB [] kvs))):=rfl
theorem Tw{td ty tx:TE}{σ:St}{H:Hp}{Q:VK}:XF td ty tx σ H Q=(td σ H λx H1=>∃ a,x=.ref a/\Q8 H1 a/\ty σ H1 λy H2=>tx σ H2 λz H3=>∃ o,DGet H3 a y o/\Q (o.getD z) H3):=rfl
theorem Tx{σ:St}{H:Hp}{QP:List (V × V)->Hp->Prop}:MO [] σ H QP=QP [] H:=rfl
theorem Ty{tk tv:TE}{r:List (TE × TE)}{σ:St}{H:Hp}{QP:List (V × V)->Hp->Prop}:MO ((tk,tv)::r) σ H QP=(tk σ H λx H1=>tv σ H1 λy H2=>MO r σ H2 λps H3=>QP ((x,y)::ps) H3):=rfl
end L2
namespace L2
abbrev Ad:=String->Addr
def SameBut(F:Addr->Prop)(H H':Hp):Prop:=∀ b o,H b=some o->¬ F b->H' b=some o
structure FG(K:W.Frag)(a:Ad):Prop where
 cl:Cls K (a "Plank")
 nC:NoAttr K (a "Plank") "contents"
 nW:NoAttr K (a "Plank") "width"
 nN:NoAttr K (a "Plank") "written"
def pf(cl:Addr)(w n:Int):List (Str × V):=[("contents",.ref cl),("width",.int w),("written",.int n)]
theorem kN:¬ ("contents":Str)="width":=by decide +kernel
theorem YM:¬ ("contents":Str)="written":=by decide +kernel
theorem YN:¬ ("width":Str)="written":=by decide +kernel
theorem T6(cl:Addr)(w n:Int):(pf cl w n).lookup ("contents":Str)=some (V.ref cl):=by simp[pf]
theorem kO(cl:Addr)(w n:Int):(pf cl w n).lookup ("width":Str)=some (V.int w):=by
 have h:(("width":Str) == "contents")=false:=beq_eq_false_iff_ne.mpr (Ne.symm kN)
 simp[pf,List.lookup_cons,h]
theorem kP(cl:Addr)(w n:Int):(pf cl w n).lookup ("written":Str)=some (V.int n):=by
 have h:(("written":Str) == "contents")=false:=beq_eq_false_iff_ne.mpr (Ne.symm YM)
 have h2:(("written":Str) == "width")=false:=beq_eq_false_iff_ne.mpr (Ne.symm YN)
 simp[pf,List.lookup_cons,h,h2]
theorem Tz(cl:Addr)(w n:Int):CS "written" (.int n) (CS "width" (.int w) (CS "contents" (.ref cl) []))=pf cl w n:=by
 simp only[CS,pf]
 rw[if_neg kN]
 simp only[CS]
 rw[if_neg YM,if_neg YN]
theorem Ub(cl:Addr)(w n m:Int):CS "written" (.int m) (pf cl w n)=pf cl w m:=by
 simp only[CS,pf]
 rw[if_neg YM,if_neg YN]
 simp
theorem OG(cl:Addr)(w n:Int){m:Str}(h1:¬ m="contents")(h2:¬ m="width")(h3:¬ m="written"):(pf cl w n).lookup m=none:=by
 have e1:=beq_eq_false_iff_ne.mpr h1
 have e2:=beq_eq_false_iff_ne.mpr h2
 have e3:=beq_eq_false_iff_ne.mpr h3
 simp[pf,List.lookup_cons,e1,e2,e3]
structure PlankAt(a:Ad)(H:Hp)(p cl:Addr)(w:Nat)(rows:List (List V))(n:Nat):Prop where
 ob:∃ dx,H p=some (.ins (a "Plank") dx (pf cl w n))
 ls:∃ ts:List Addr,H cl=some (.lst (ts.map V.ref))/\Paired (λt r=>H t=some (.tup r)) ts rows
 wd:∀ r∈rows,r.length=w
 sz:rows.length<=1000
 sw:w<=1000
theorem PlankAt.ne{a:Ad}{H:Hp}{p cl:Addr}{w:Nat}{rows:List (List V)}{n:Nat}(P:PlankAt a H p cl w rows n):p≠cl:=by
 obtain⟨⟨dx,h1⟩,⟨ts,h2,_⟩,_⟩:=P
 exact DB h1 h2 (by intro z;cases z)
theorem PlankAt.same{a:Ad}{H H':Hp}{p cl:Addr}{w:Nat}{rows:List (List V)}{n:Nat}(P:PlankAt a H p cl w rows n)(s:Same H H'):PlankAt a H' p cl w rows n:=by
 obtain⟨⟨dx,e1⟩,⟨ts,e2,e3⟩,r1,r2,r3⟩:=P
 exact⟨⟨dx,s _ _ e1⟩,⟨ts,s _ _ e2,Paired.mapP e3 λt r q=>s _ _ q⟩,r1,r2,r3⟩
def T7(K:W.Frag)(a:Ad):Sp:=λvs H Q _=>∃ (p dx:Addr) (m w:Nat),vs=[.ref p,.int m,.int w]/\FG K a/\H p=some (.ins (a "Plank") dx [])/\m<=1000/\1<=w/\w<=1000 ∧
 ∀ cl H',H cl=none->PlankAt a H' p cl w (List.replicate m (List.replicate w .non)) 0->SameBut (· =p) H H'->Q .non H'
def IM(K:W.Frag)(a:Ad):Sp:=λvs H Q _=>∃ p cl w rows n,vs=[.ref p]/\FG K a/\PlankAt a H p cl w rows n/\Q (.int rows.length) H
def T8(K:W.Frag)(a:Ad):Sp:=λvs H Q _=>∃ (p cl:Addr) (w:Nat) (rows:List (List V)) (n:Nat),vs=[.ref p]/\FG K a/\PlankAt a H p cl w rows n/\Q (.int w) H
def OH(K:W.Frag)(a:Ad):Sp:=λvs H Q _=>∃ (p cl:Addr) (w:Nat) (rows:List (List V)) (n:Nat),vs=[.ref p]/\FG K a/\PlankAt a H p cl w rows n/\Q (.int n) H
def LS(K:W.Frag)(a:Ad):Sp:=λvs H Q E=>∃ (p cl:Addr) (w:Nat) (rows:List (List V)) (n:Nat) (b:Int),vs=[.ref p,.int b]/\FG K a/\PlankAt a H p cl w rows n ∧
 (0<=b->b<rows.length->Q .non H)/\(b<0\/rows.length<=b->E (.ref (a "NoBlock")) none H)
def G8(K:W.Frag)(a:Ad):Sp:=λvs H Q E=>∃ (p cl:Addr) (w:Nat) (rows:List (List V)) (n:Nat) (b:Int),vs=[.ref p,.int b]/\FG K a/\PlankAt a H p cl w rows n ∧
 (∀ (i:Nat) row,b=i->rows[i]? =some row->∀ l,H l=none->Q (.ref l) (upd H l (.lst row)))/\(b<0\/rows.length<=b->E (.ref (a "NoBlock")) none H)
def OI(K:W.Frag)(a:Ad):Sp:=λvs H Q E=>∃ (p cl:Addr) (w:Nat) (rows:List (List V)) (n:Nat) (b:Int) (v:Addr) (xs:List V),vs=[.ref p,.int b,.ref v]/\FG K a/\PlankAt a H p cl w rows n/\SqL K H v xs/\xs.length<=2000 ∧
 (∀ (i:Nat),b=i->i<rows.length->xs.length=w->∀ H',PlankAt a H' p cl w (rows.set i xs) (n+1)->SameBut (λx=>x=p\/x=cl) H H'->Q .non H') ∧
 (b<0\/rows.length<=b\/xs.length≠w->E (.ref (a "NoBlock")) none H)
end L2
namespace L2
theorem BY{K:W.Frag}{H:Hp}{p:Addr}{xs:List V}{i:Int}{n:Nat}{v:V}{Q:VK}(h:H p=some (.tup xs))(hi:i=n)(hx:xs[n]? =some v)(q:Q v H):AY K (.ref p) (.int i) H Q :=
 .inr (.inl ⟨p,xs,i,v,rfl,rfl,SqT.of h,by rw[hi];exact WW hx,q⟩)
theorem YO{C C' dx dx':Addr}{fs fs':List (Str × V)}(h:fs≠fs'):HO.ins C dx fs≠HO.ins C' dx' fs':=by
 intro z
 injection z with _ _ z
 exact h z
theorem YQ{K:W.Frag}{H:Hp}{p:Addr}{xs:List V}{lo hi:Option Int}{Q:VK}(h:SqL K H p xs)(q:∀ r,H r=none->Q (.ref r) (upd H r (.lst (GI xs lo hi)))):MS K (.ref p) lo hi H Q:=.inl ⟨p,xs,rfl,h,q⟩
theorem SameBut.refl{F:Addr->Prop}(H:Hp):SameBut F H H:=λ_ _ e _=>e
theorem SameBut.trans{F:Addr->Prop}{H H' H2:Hp}(s:SameBut F H H')(t:SameBut F H' H2):SameBut F H H2:=λb o e n=>t _ _ (s _ _ e n) n
theorem SameBut.wide{F G:Addr->Prop}{H H':Hp}(s:SameBut F H H')(i:∀ x,F x->G x):SameBut G H H':=λb o e n=>s _ _ e λz=>n (i _ z)
theorem Same.sb{F:Addr->Prop}{H H':Hp}(s:Same H H'):SameBut F H H':=λb o e _=>s b o e
theorem SqL.on{K:W.Frag}{H H':Hp}{x:Addr}{xs:List V}(h:SqL K H x xs)(k:∀ o,H x=some o->H' x=some o):SqL K H' x xs:=by
 rcases h with(h | ⟨o,h⟩) | h
 ·exact .inl (.inl (k _ h))
 ·exact .inl (.inr ⟨o,k _ h⟩)
 ·exact .inr h
theorem SqL.sb{K:W.Frag}{F:Addr->Prop}{H H':Hp}{x:Addr}{xs:List V}(h:SqL K H x xs)(s:SameBut F H H')(f:∀ o,H x=some o->¬ F x):SqL K H' x xs:=by
 rcases h with(h | ⟨o,h⟩) | h
 ·exact .inl (.inl (s _ _ h (f _ h)))
 ·exact .inl (.inr ⟨o,s _ _ h (f _ h)⟩)
 ·exact .inr h
theorem SameBut.upd{F:Addr->Prop}{H H':Hp}{p:Addr}{o:HO}(s:SameBut F H H')(h:F p\/H p=none):SameBut F H (upd H' p o):=λb u e n=>by
 have:b≠p:=by
  rcases h with h | h
  ·exact λz=>n (z ▸ h)
  ·exact BX e h
 rw[AO this];exact s _ _ e n
structure Ch where
 blk:Nat
 cell:Nat
 val:V
 nd:List Int
def kQ:List Ch->Int->Int->Option Nat
 | [],_,_=>none
 | c::r,i,j=>if(c.blk:Int)=i/\(c.cell:Int)=j then some r.length else kQ r i j
def kR(cs:List Ch)(i j:Int):Option Nat:=kQ cs.reverse i j
def YR:List Ch->Nat->List Nat
 | [],_=>[]
 | c::r,b=>if c.blk=b then YR r b++[r.length]else YR r b
def Uc(cs:List Ch)(b:Nat):List Nat:=YR cs.reverse b
def Ud(pl:Addr)(v:V)(nt:Addr):List (Str × V):=[("place",.ref pl),("value",v),("needs",.ref nt)]
def bf(gp m mi lt ou:Addr):List (Str × V):=[("ground",.ref gp),("made",.ref m),("made_in",.ref mi),("latest",.ref lt),("outs",.ref ou)]
def EN(a b:Str):Bool:=a == b
section
variable{pl nt gp m mi lt ou:Addr}{v:V}
theorem BL{a b:Str}(h:EN a b=false):(a == b)=false:=h
theorem kS{f g:Str}{x y:V}{r:List (Str × V)}(h:EN g f=false):CS f y ((g,x)::r)=(g,x)::CS f y r:=by
 have:¬ g=f:=λe=>by rw[e]at h;simp[EN]at h
 simp[CS,this]
theorem Ug{f:Str}{y:V}:CS f y []=[(f,y)]:=rfl
theorem YS:(bf gp m mi lt ou).lookup ("ground":Str)=some (V.ref gp):=by simp[bf]
theorem Uh:(bf gp m mi lt ou).lookup ("made":Str)=some (V.ref m):=by
 simp[bf,List.lookup_cons,BL (a:="made") (b:="ground") (by decide +kernel)]
theorem Uj:(bf gp m mi lt ou).lookup ("latest":Str)=some (V.ref lt):=by
 simp[bf,List.lookup_cons,BL (a:="latest") (b:="ground") (by decide +kernel),BL (a:="latest") (b:="made") (by decide +kernel),BL (a:="latest") (b:="made_in") (by decide +kernel)]
theorem OJ{x:Str}(h:(EN x "ground" || EN x "made" || EN x "made_in" || EN x "latest" || EN x "outs")=false):(bf gp m mi lt ou).lookup x=none:=by
 simp only[Bool.or_eq_false_iff]at h
 obtain⟨⟨⟨⟨h1,h2⟩,h3⟩,h4⟩,h5⟩:=h
 simp[bf,List.lookup_cons,BL h1,BL h2,BL h3,BL h4,BL h5]
end
structure zqg(K:W.Frag)(C D:Addr):Prop where
 cl:Cls K C
 nG:NoAttr K C "ground"
 nM:NoAttr K C "made"
 nI:NoAttr K C "made_in"
 nL:NoAttr K C "latest"
 nO:NoAttr K C "outs"
 cc:Cls K D
 nP:NoAttr K D "place"
 nV:NoAttr K D "value"
 nN:NoAttr K D "needs"
def ChAt(D:Addr)(H:Hp)(x:Addr)(c:Ch):Prop:=∃ dx pl nt,H x=some (.ins D dx (Ud pl c.val nt))/\H pl=some (.tup [.int c.blk,.int c.cell])/\H nt=some (.tup (c.nd.map V.int))
structure BA where
 b:Addr
 gp:Addr
 m:Addr
 mi:Addr
 lt:Addr
 ou:Addr
 ls:List Addr
 cl:Addr
def BA.F(A:BA)(x:Addr):Prop:=x=A.m\/x=A.mi\/x∈A.ls\/x=A.lt\/x=A.ou\/x=A.cl
def KeysOk(FO:List (A1 × V))(n:Nat):Prop:=(FO.map (·.1)).Nodup/\∀ p∈FO,∃ x:Nat,p.1=Sum.inl (x:Int)/\x<n
theorem KeysOk.mono{FO:List (A1 × V)}{n m:Nat}(h:KeysOk FO n)(hm:n<=m):KeysOk FO m:=⟨h.1,λp hp=>by obtain⟨x,e,hx⟩:=h.2 p hp;exact⟨x,e,by omega⟩⟩
theorem KeysOk.len{FO:List (A1 × V)}{n:Nat}(h:KeysOk FO n):FO.length<=n:=by
 have:=List.Nodup.length_le_of_subset (l₂:=(List.range n).map λ(k:Nat)=>(Sum.inl (k:Int):A1)) h.1 λk hk=>by
  obtain⟨p,hp,rfl⟩:=List.mem_map.mp hk
  obtain⟨x,e,hx⟩:=h.2 p hp
  rw[e]
  exact List.mem_map.mpr ⟨x,List.mem_range.mpr hx,rfl⟩
 simpa using this
theorem KeysOk.put{FO:List (A1 × V)}{n:Nat}(h:KeysOk FO n){k:Nat}(hk:k<n)(hn:CK FO (.inl (k:Int))=none)(v:V):KeysOk (DC FO (.inl (k:Int)) v) n:=by
 refine⟨Hl v h.1 hn,λp hp=> ?_⟩
 rw[jB v hn]at hp
 rcases List.mem_append.mp hp with hp | hp
 ·exact h.2 p hp
 ·rw[List.mem_singleton.mp hp];exact⟨k,rfl,hk⟩
structure BookIn(C D:Addr)(H:Hp)(A:BA)(w:Nat)(cs:List Ch)(outs:Int->Bool):Prop where
 ob:∃ dx,H A.b=some (.ins C dx (bf A.gp A.m A.mi A.lt A.ou))
 made:∃ chs:List Addr,H A.m=some (.lst (chs.map V.ref))/\Paired (ChAt D H) chs cs
 mil:H A.mi=some (.lst (A.ls.map V.ref))
 mic:∀ (i:Nat) l,A.ls[i]? =some l->H l=some (.lst ((Uc cs i).map λ(k:Nat)=>V.int k))
 nd:A.ls.Nodup
 lat:∃ kvs,H A.lt=some (.dT kvs)/\(∀ i j:Int,CK kvs [.inl i,.inl j]=(kR cs i j).map λ(k:Nat)=>V.int k)/\kvs.length<=cs.length
 out:∃ FO,H A.ou=some (.dK FO)/\(∀ k:Int,(CK FO (.inl k)).isSome=outs k)/\KeysOk FO cs.length
 sz:cs.length<=990
 inn:∀ c∈cs,c.blk<A.ls.length/\c.cell<w
 need:∀ (k:Nat) c,cs[k]? =some c->(∀ x∈c.nd,0<=x/\x<k)/\c.nd.Pairwise (· <·)/\c.nd.length<=100
 ap:A.m≠A.mi/\A.m∉A.ls/\A.mi∉A.ls/\A.cl≠A.m/\A.cl≠A.mi/\A.cl∉A.ls
 chn:∀ (k:Nat) c,cs[k]? =some c->∀ j,kR (cs.take k) c.blk c.cell=some j->(j:Int)∈c.nd
structure BookAt(a:Ad)(C:Addr)(H:Hp)(A:BA)(w:Nat)(rows:List (List V))(n:Nat)(cs:List Ch)(outs:Int->Bool):Prop where
 bk:BookIn C (a "Change") H A w cs outs
 pk:PlankAt a H A.gp A.cl w rows n
 nb:A.ls.length=rows.length
def LT(o:Option HO):Prop:=(∀ xs,o≠some (.tup xs))/\∀ C dx fs,o≠some (.ins C dx fs)
theorem ChAt.sb{D:Addr}{G:Addr->Prop}{H H':Hp}(s:SameBut G H H')(g:∀ x,G x->LT (H x)){x:Addr}{c:Ch}(h:ChAt D H x c):ChAt D H' x c:=by
 obtain⟨dx,pl,nt,e1,e2,e3⟩:=h
 exact⟨dx,pl,nt,s _ _ e1 λz=>(g _ z).2 _ _ _ e1,s _ _ e2 λz=>(g _ z).1 _ e2,s _ _ e3 λz=>(g _ z).1 _ e3⟩
theorem BookIn.sb{C D:Addr}{G:Addr->Prop}{H H':Hp}{A:BA}{w:Nat}{cs:List Ch}{outs:Int->Bool}(B:BookIn C D H A w cs outs)(s:SameBut G H H')(g:∀ x,G x->LT (H x))(f:∀ x,G x->¬ A.F x):BookIn C D H' A w cs outs:=by
 obtain⟨⟨dx,e1⟩,⟨chs,e2,e3⟩,e4,e5,e6,⟨kvs,e7,e8⟩,⟨FO,e9,e10⟩,r1,r2,r3,r4,r5⟩:=B
 refine⟨⟨dx,s _ _ e1 λz=>(g _ z).2 _ _ _ e1⟩,⟨chs,s _ _ e2 λz=>f _ z (.inl rfl),Paired.mapP e3 λx c h=>h.sb s g⟩,s _ _ e4 λz=>f _ z (.inr (.inl rfl)),λi l h=>s _ _ (e5 i l h) λz=>f _ z (.inr (.inr (.inl (List.mem_of_getElem? h)))),e6,
  ⟨kvs,s _ _ e7 λz=>f _ z (.inr (.inr (.inr (.inl rfl)))),e8⟩,⟨FO,s _ _ e9 λz=>f _ z (.inr (.inr (.inr (.inr (.inl rfl))))),e10⟩,r1,r2,r3,r4,r5⟩
theorem PlankAt.sbL{a:Ad}{G:Addr->Prop}{H H':Hp}{p cl:Addr}{w:Nat}{rows:List (List V)}{n:Nat}(P:PlankAt a H p cl w rows n)(s:SameBut G H H')(g:∀ x,G x->LT (H x))(h:¬ G cl):PlankAt a H' p cl w rows n:=by
 obtain⟨⟨dx,e1⟩,⟨ts,e2,e3⟩,r1,r2,r3⟩:=P
 exact⟨⟨dx,s _ _ e1 λz=>(g _ z).2 _ _ _ e1⟩,⟨ts,s _ _ e2 h,Paired.mapP e3 λt r q=>s _ _ q λz=>(g _ z).1 _ q⟩,r1,r2,r3⟩
theorem BookAt.sb{a:Ad}{C:Addr}{G:Addr->Prop}{H H':Hp}{A:BA}{w:Nat}{rows:List (List V)}{n:Nat}{cs:List Ch}{outs:Int->Bool}(B:BookAt a C H A w rows n cs outs)(s:SameBut G H H')(g:∀ x,G x->LT (H x))(f:∀ x,G x->¬ A.F x):BookAt a C H' A w rows n cs outs :=
 ⟨B.bk.sb s g f,B.pk.sbL s g λz=>f _ z (.inr (.inr (.inr (.inr (.inr rfl))))),B.nb⟩
theorem BookAt.same{a:Ad}{C:Addr}{H H':Hp}{A:BA}{w:Nat}{rows:List (List V)}{n:Nat}{cs:List Ch}{outs:Int->Bool}(B:BookAt a C H A w rows n cs outs)(s:Same H H'):BookAt a C H' A w rows n cs outs :=
 B.sb (G:=λ_=>False) (Same.sb s) (λ_ z=>z.elim) λ_ z=>z.elim
theorem BookAt.off{a:Ad}{C:Addr}{H:Hp}{A:BA}{w:Nat}{rows:List (List V)}{n:Nat}{cs:List Ch}{outs:Int->Bool}(B:BookAt a C H A w rows n cs outs){x:Addr}(h:H x=none):¬ A.F x:=by
 obtain⟨⟨_,⟨chs,e2,_⟩,e4,e5,_,⟨kvs,e7,_⟩,⟨FO,e9,_⟩,_⟩,⟨_,⟨ts,e11,_⟩,_⟩,_⟩:=B
 rintro (z | z | z | z | z | z)
 ·rw[z,e2]at h;cases h
 ·rw[z,e4]at h;cases h
 ·obtain⟨i,hi,e⟩:=List.getElem_of_mem z
  have:=e5 i x (by rw[<-e];exact List.getElem?_eq_getElem hi)
  rw[this]at h;cases h
 ·rw[z,e7]at h;cases h
 ·rw[z,e9]at h;cases h
 ·rw[z,e11]at h;cases h
theorem JD{α :Type}{l:List α}{x: α}(h:x∈l):∃ i:Nat,l[i]? =some x:=by
 obtain⟨i,hi,e⟩:=List.getElem_of_mem h
 exact⟨i,by rw[<-e];exact List.getElem?_eq_getElem hi⟩
theorem T9{H:Hp}{x:Addr}{xs:List V}(h:H x=some (.lst xs)):LT (H x):=by
 rw[h];exact⟨λ_ z=>(by cases z),λ_ _ _ z=>(by cases z)⟩
theorem Uk{H:Hp}{x:Addr}{xs:List (A1 × V)}(h:H x=some (.dK xs)):LT (H x):=by
 rw[h];exact⟨λ_ z=>(by cases z),λ_ _ _ z=>(by cases z)⟩
theorem Ul{H:Hp}{x:Addr}{xs:List (List A1 × V)}(h:H x=some (.dT xs)):LT (H x):=by
 rw[h];exact⟨λ_ z=>(by cases z),λ_ _ _ z=>(by cases z)⟩
theorem BookAt.loose{a:Ad}{C:Addr}{H:Hp}{A:BA}{w:Nat}{rows:List (List V)}{n:Nat}{cs:List Ch}{outs:Int->Bool}(B:BookAt a C H A w rows n cs outs){x:Addr}(h:A.F x):LT (H x):=by
 obtain⟨⟨_,⟨chs,e2,_⟩,e4,e5,_,⟨kvs,e7,_⟩,⟨FO,e9,_⟩,_⟩,⟨_,⟨ts,e11,_⟩,_⟩,_⟩:=B
 rcases h with z | z | z | z | z | z
 ·exact T9 (z ▸ e2)
 ·exact T9 (z ▸ e4)
 ·obtain⟨i,e⟩:=JD z
  exact T9 (e5 i x e)
 ·exact Ul (z ▸ e7)
 ·exact Uk (z ▸ e9)
 ·exact T9 (z ▸ e11)
structure zqh(cs:List Ch)(outs:Int->Bool)(ns:List Int)(R:Int->Bool):Prop where
 all:∀ x∈ns,R x=true
 up:∀ (k:Nat) (c:Ch),cs[k]? =some c->outs k=false->R k=true->∀ y∈c.nd,R y=true
 only:∀ x,R x=true->x∈ns\/∃ (k:Nat) (c:Ch),cs[k]? =some c/\outs k=false/\R k=true/\x∈c.nd
end L2
namespace L2
structure FV(K:W.Frag)(a:Ad):Prop where
 cl:Cls K (a "Layout")
 n1:NoAttr K (a "Layout") "name_blocks"
 n2:NoAttr K (a "Layout") "record_blocks"
 n3:NoAttr K (a "Layout") "piece_blocks"
 n4:NoAttr K (a "Layout") "width"
section
variable{n r c w:Int}
def lf(n r c w:Int):List (Str × V):=[("name_blocks",.int n),("record_blocks",.int r),("piece_blocks",.int c),("width",.int w)]
theorem UA:(lf n r c w).lookup ("name_blocks":Str)=some (V.int n):=by simp[lf]
theorem RG:(lf n r c w).lookup ("record_blocks":Str)=some (V.int r):=by
 simp[lf,List.lookup_cons,BL (a:="record_blocks") (b:="name_blocks") (by decide +kernel)]
theorem YT:(lf n r c w).lookup ("piece_blocks":Str)=some (V.int c):=by
 simp[lf,List.lookup_cons,BL (a:="piece_blocks") (b:="name_blocks") (by decide +kernel),BL (a:="piece_blocks") (b:="record_blocks") (by decide +kernel)]
theorem OK:(lf n r c w).lookup ("width":Str)=some (V.int w):=by
 simp[lf,List.lookup_cons,BL (a:="width") (b:="name_blocks") (by decide +kernel),BL (a:="width") (b:="record_blocks") (by decide +kernel),BL (a:="width") (b:="piece_blocks") (by decide +kernel)]
theorem EH{x:Str}(h:(EN x "name_blocks" || EN x "record_blocks" || EN x "piece_blocks" || EN x "width")=false):(lf n r c w).lookup x=none:=by
 simp only[Bool.or_eq_false_iff]at h
 obtain⟨⟨⟨h1,h2⟩,h3⟩,h4⟩:=h
 simp[lf,List.lookup_cons,BL h1,BL h2,BL h3,BL h4]
theorem Um:CS "width" (.int w) (CS "piece_blocks" (.int c) (CS "record_blocks" (.int r) (CS "name_blocks" (.int n) [])))=lf n r c w:=by
 repeat (first | rw[Ug] | rw[kS (by decide +kernel)])
 rfl
end
structure LayAt(a:Ad)(H:Hp)(p:Addr)(n r c w:Nat):Prop where
 ob:∃ dx,H p=some (.ins (a "Layout") dx (lf n r c w))
 hn:n<=100
 hr:r<=100
 hc:c<=100
 h1:1<=w
 hw:w<=100
theorem LayAt.same{a:Ad}{H H':Hp}{p:Addr}{n r c w:Nat}(L:LayAt a H p n r c w)(s:Same H H'):LayAt a H' p n r c w:=by
 obtain⟨⟨dx,e⟩,z1,z2,z3,z4,z5⟩:=L
 exact⟨⟨dx,s _ _ e⟩,z1,z2,z3,z4,z5⟩
theorem LayAt.sb{a:Ad}{F:Addr->Prop}{H H':Hp}{p:Addr}{n r c w:Nat}(L:LayAt a H p n r c w)(s:SameBut F H H')(f:¬ F p):LayAt a H' p n r c w:=by
 obtain⟨⟨dx,e⟩,z1,z2,z3,z4,z5⟩:=L
 exact⟨⟨dx,s _ _ e f⟩,z1,z2,z3,z4,z5⟩
def RH(K:W.Frag)(a:Ad):Sp:=λvs H Q _=>∃ (p dx:Addr) (n r c w:Nat),vs=[.ref p,.int n,.int r,.int c,.int w]/\FV K a/\H p=some (.ins (a "Layout") dx [])/\n<=100/\r<=100/\c<=100/\1<=w/\w<=100 ∧
 ∀ H',LayAt a H' p n r c w->SameBut (· =p) H H'->Q .non H'
def LU(x y:Int)(Q:VK)(H:Hp):Prop:=∀ t,H t=none->Q (.ref t) (upd H t (.tup [.int x,.int y]))
def IN(K:W.Frag)(a:Ad):Sp:=λvs H Q _=>∃ (p:Addr) (n r c w k:Nat) (b:Int),vs=[.ref p,.int b,.int k]/\FV K a/\LayAt a H p n r c w/\LU (b+k / w) (k % w) Q H
def OL(K:W.Frag)(a:Ad):Sp:=λvs H Q _=>∃ (p:Addr) (n r c w k:Nat),vs=[.ref p,.int k]/\FV K a/\LayAt a H p n r c w/\LU (0+k / w) (k % w) Q H
def KY(K:W.Frag)(a:Ad):Sp:=λvs H Q _=>∃ (p:Addr) (n r c w k:Nat),vs=[.ref p,.int k]/\FV K a/\LayAt a H p n r c w/\LU (n+k / w) (k % w) Q H
def OM(K:W.Frag)(a:Ad):Sp:=λvs H Q _=>∃ (p:Addr) (n r c w k:Nat),vs=[.ref p,.int k]/\FV K a/\LayAt a H p n r c w/\LU (n+r+k / w) (k % w) Q H
def MV(K:W.Frag)(a:Ad):Sp:=λvs H Q _=>∃ (p:Addr) (n r c w k:Nat),vs=[.ref p,.int k]/\FV K a/\LayAt a H p n r c w/\LU (n+r+c+k / w) (k % w) Q H
def ON(K:W.Frag)(a:Ad):Sp:=λvs H Q _=>∃ (p:Addr) (n r c w k:Nat),vs=[.ref p,.int k]/\FV K a/\LayAt a H p n r c w/\LU (n+r+c+r+k / w) (k % w) Q H
def LV(K:W.Frag)(a:Ad):Sp:=λvs H Q _=>∃ (p:Addr) (n r c w:Nat),vs=[.ref p]/\FV K a/\LayAt a H p n r c w/\Q (.int (n+r+c)) H
def UB(K:W.Frag)(a:Ad):Sp:=λvs H Q _=>∃ (p:Addr) (n r c w:Nat),vs=[.ref p]/\FV K a/\LayAt a H p n r c w/\Q (.int (n+r+c+r+c)) H
def OO(K:W.Frag)(a:Ad):Sp:=λvs H Q _=>∃ (p:Addr) (n r c w:Nat),vs=[.ref p]/\FV K a/\LayAt a H p n r c w/\∀ t,H t=none->Q (.ref t) (upd H t (.tup [.int (n * w),.int (r * w),.int (c * w)]))
def RI(K:W.Frag)(a:Ad):Sp:=λvs H Q _=>∃ (p:Addr) (n r c w:Nat),vs=[.ref p]/\FV K a/\FG K a/\LayAt a H p n r c w ∧
 ∀ x cl H',H x=none->H cl=none->PlankAt a H' x cl w (List.replicate (n+r+c+r+c) (List.replicate w .non)) 0->Same H H'->Q (.ref x) H'
end L2
namespace L2
def OP(ns:List Int)(k:Nat):Int:=ns.getD k 0
def LX(K:W.Frag)(a:Ad):Sp:=λvs H Q _=>∃ (s:Addr) (ns:List Int) (k:Nat),vs=[.ref s,.int k]/\SqL K H s (ns.map V.int)/\ns.length<=1000/\Q (.int (OP ns k)) H
theorem YU{K:W.Frag}{a:Ad}{s:Addr}{k:Int}{H:Hp}{Q:VK}{E:XK}:LX K a [.ref s,.int k] H Q E=∃ (ns:List Int) (n:Nat),k=n/\SqL K H s (ns.map V.int)/\ns.length<=1000/\Q (.int (OP ns n)) H:=by simp[LX,and_assoc]
def GoodV:Nat->Hp->V->Prop
 | 0,_,_=>False
 | _+1,_,.int _=>True
 | _+1,_,.non=>True
 | _+1,_,.str z=>PyData.strOk z=true
 | n+1,H,.ref p=>∃ xs,H p=some (.tup xs)/\xs.length<=100/\∀ v∈xs,GoodV n H v
 | _,_,_=>False
def good7(H:Hp)(rows:List (List V)):Prop:=∀ r∈rows,∀ v∈r,GoodV 7 H v
def AU(l:List Nat):List V:=l.map λ(k:Nat)=>V.int k
abbrev GD:=Option (Str × Nat)
abbrev GJ:=Option (Int × List Nat)
structure Vw where
 nm:List GD
 rc:List GJ
 pc:List (Option Str)
 rm:List (Option Int)
 pm:List (Option Int)
def AD{α :Type}(l:List (Option α))(k:Nat):Option α :=(l[k]?).join
def HL:GJ->List Nat
 | none=>[]
 | some (_,ps)=>ps
def CN(nm:List GD):List Nat:=nm.filterMap λc=>c.map (·.2)
def DN(rc:List GJ):List Nat:=rc.flatMap HL
def led(vw:Vw)(r:Nat):Nat:=(CN vw.nm).count r
def FC(vw:Vw)(p:Nat):Nat:=(DN vw.rc).count p
def JT(vw:Vw):List GJ:=((List.range vw.rc.length).filter λr=>decide (0<led vw r)).map (AD vw.rc)
def FW(vw:Vw)(p:Nat):Nat:=(DN (JT vw)).count p
def DO(n:Nat)(p:Nat->Bool)(f:Nat->List V):List (List V):=((List.range n).filter p).map f
def G9(vw:Vw)(k:Nat):Bool:=match AD vw.nm k with
 | none=>false
 | some c=>(AD vw.rc c.2).isNone
def HM(vw:Vw)(k:Nat):Bool:=match AD vw.nm k with
 | none=>false
 | some c=>(List.range k).any λj=>match AD vw.nm j with
  | none=>false
  | some d=>decide (d.1=c.1)
def IP(vw:Vw)(r:Nat):Bool:=match AD vw.rc r with
 | none=>false
 | some c=>decide (c.1<(led vw r:Int))
def GW(vw:Vw)(r:Nat):Bool:=match AD vw.rc r with
 | none=>false
 | some c=>decide (0<led vw r) && decide ((led vw r:Int)<c.1)
def OQ(vw:Vw):List (List V):=DO vw.nm.length (G9 vw) (λk=>[.str "lost",.int k])++DO vw.nm.length (HM vw) (λk=>[.str "twice",.int k])
def MW(vw:Vw):List (List V):=DO vw.pc.length (λp=>decide (1<FC vw p)) (λp=>[.str "shared",.int p])++DO vw.pc.length (λp=>decide (0<FC vw p) && (AD vw.pc p).isNone) (λp=>[.str "empty",.int p])++DO vw.rc.length (IP vw) (λr=>[.str "few",.int r])
def OR(vw:Vw):List (List V):=DO vw.rc.length (λr=>decide (0<led vw r) && !decide (AD vw.rm r=some 1)) (λr=>[.str "free",.str "record",.int r])++DO vw.pc.length (λp=>decide (0<FC vw p) && !decide (AD vw.pm p=some 1)) (λp=>[.str "free",.str "piece",.int p])
def faults(vw:Vw):List (List V):=OQ vw++MW vw++OR vw
def OS(vw:Vw):List (List V):=DO vw.rc.length (GW vw) (λr=>[.str "many",.int r,.int (led vw r)])++DO vw.rc.length (λr=>(AD vw.rc r).isSome && decide (led vw r=0)) (λr=>[.str "left",.str "record",.int r])
def OT(vw:Vw):List (List V):=DO vw.pc.length (λp=>decide (AD vw.pm p=some 1) && decide (FW vw p=0)) (λp=>[.str "left",.str "piece",.int p])
def OU(vw:Vw):List (List V):=DO vw.rc.length (λr=>decide (AD vw.rm r=some 1) && (AD vw.rc r).isNone) (λr=>[.str "marked",.int r])
def JU(vw:Vw):List (List V):=OS vw++OT vw++OU vw
structure E5(vw:Vw):Prop where
 n1:∀ c,some c∈vw.nm->c.2<vw.rc.length/\PyData.strOk c.1=true
 n2:∀ c,some c∈vw.rc->(∀ p∈c.2,p<vw.pc.length)/\c.2.length<=10
 n3:∀ s,some s∈vw.pc->PyData.strOk s=true
 l1:vw.rm.length=vw.rc.length
 l2:vw.pm.length=vw.pc.length
 bn:vw.nm.length<=100
 br:vw.rc.length<=100
 bp:vw.pc.length<=100
def NmV(H:Hp)(v:V):GD->Prop
 | none=>v=.non
 | some c=>∃ p,v=.ref p/\H p=some (.tup [.str c.1,.int c.2])
def RcV(H:Hp)(v:V):GJ->Prop
 | none=>v=.non
 | some c=>∃ p q,v=.ref p/\H p=some (.tup [.int c.1,.ref q])/\H q=some (.tup (AU c.2))
def PcV(_:Hp)(v:V):Option Str->Prop
 | none=>v=.non
 | some s=>v=.str s
def MkV(_:Hp)(v:V):Option Int->Prop
 | none=>v=.non
 | some i=>v=.int i
def LstAt{α :Type}(R:Hp->V-> α ->Prop)(H:Hp)(p:Addr)(cs:List α):Prop:=∃ vs,H p=some (.lst vs)/\Paired (R H) vs cs
def FindsL(H:Hp)(l:Addr)(fs:List (List V)):Prop:=∃ ps:List Addr,H l=some (.lst (ps.map V.ref))/\Paired (λp f=>H p=some (.tup f)) ps fs
structure TV(K:W.Frag)(a:Ad):Prop where
 cl:Cls K (a "View")
 n1:NoAttr K (a "View") "name_values"
 n2:NoAttr K (a "View") "record_values"
 n3:NoAttr K (a "View") "piece_values"
 n4:NoAttr K (a "View") "record_marks"
 n5:NoAttr K (a "View") "piece_marks"
 n6:NoAttr K (a "View") "leads"
 n7:NoAttr K (a "View") "namings"
 n8:NoAttr K (a "View") "reached"
def kT(a:Ad)(H:Hp)(x:Addr)(f:Str)(v:V):Prop:=∃ dx fs,H x=some (.ins (a "View") dx fs)/\fs.lookup f=some v
structure VA where
 n:Addr
 r:Addr
 p:Addr
 rm:Addr
 pm:Addr
 ld:Addr
 ng:Addr
 rh:Addr
def vf(A:VA):List (Str × V):=[("name_values",.ref A.n),("record_values",.ref A.r),("piece_values",.ref A.p),("record_marks",.ref A.rm),("piece_marks",.ref A.pm),("leads",.ref A.ld),("namings",.ref A.ng),("reached",.ref A.rh)]
structure ViewAt(a:Ad)(H:Hp)(x:Addr)(A:VA)(vw:Vw):Prop where
 ob:∃ dx,H x=some (.ins (a "View") dx (vf A))
 n:LstAt NmV H A.n vw.nm
 r:LstAt RcV H A.r vw.rc
 p:LstAt PcV H A.p vw.pc
 rm:LstAt MkV H A.rm vw.rm
 pm:LstAt MkV H A.pm vw.pm
 ld:H A.ld=some (.lst (AU ((List.range vw.rc.length).map (led vw))))
 ng:H A.ng=some (.lst (AU ((List.range vw.pc.length).map (FC vw))))
 rh:H A.rh=some (.lst (AU ((List.range vw.pc.length).map (FW vw))))
 ok:E5 vw
structure PlV(H:Hp)(rows:List (List V))(n r c w:Nat)(vw:Vw):Prop where
 vs:∃ v1 v2 v3 v4 v5:List V,rows.flatten=v1++v2++v3++v4++v5/\Paired (NmV H) v1 vw.nm/\Paired (RcV H) v2 vw.rc/\Paired (PcV H) v3 vw.pc/\Paired (MkV H) v4 vw.rm/\Paired (MkV H) v5 vw.pm
 ln:vw.nm.length=n * w
 lr:vw.rc.length=r * w
 lp:vw.pc.length=c * w
 ok:E5 vw
def newL(vs:List V)(H:Hp)(Q:VK):Prop:=∀ l H',H l=none->Same H H'->H' l=some (.lst vs)->Q (.ref l) H'
def newF(fs:List (List V))(H:Hp)(Q:VK):Prop:=∀ l H',H l=none->Same H H'->FindsL H' l fs->Q (.ref l) H'
def LY(rows:List (List V))(b j:Nat):V:=(((rows[b]?).bind (·[j]?)).getD .non)
def KZ(K:W.Frag)(a:Ad):Sp:=λvs H Q _=>∃ (gp cl pl:Addr) (w:Nat) (rows:List (List V)) (m:Nat) (ts:List Addr) (ps:List (Nat × Nat)),vs=[.ref gp,.ref pl]/\FG K a/\PlankAt a H gp cl w rows m/\H pl=some (.lst (ts.map V.ref))/\Paired (λt (ij:Nat × Nat)=>H t=some (.tup [.int ij.1,.int ij.2])) ts ps/\(∀ ij∈ps,ij.1<rows.length/\ij.2<w)/\ps.length<=1000 ∧
 newL (ps.map λij=>LY rows ij.1 ij.2) H Q
def OV(K:W.Frag)(a:Ad):Sp:=λvs H Q _=>∃ (many:Nat) (nl:Addr) (ks:List Nat),vs=[.int many,.ref nl]/\H nl=some (.lst (AU ks))/\(∀ k∈ks,k<many)/\many<=1000/\ks.length<=10000/\newL (AU ((List.range many).map λk=>ks.count k)) H Q
def RJ(K:W.Frag)(a:Ad):Sp:=λvs H Q _=>∃ (rl:Addr) (cs:List GJ),vs=[.ref rl]/\LstAt RcV H rl cs/\cs.length<=100/\(∀ c,some c∈cs->c.2.length<=10)/\newL (AU (DN cs)) H Q
def UC(K:W.Frag)(a:Ad):Sp:=λvs H Q _=>∃ (x ar al:Addr) (vw:Vw),vs=[.ref x]/\TV K a/\kT a H x "record_values" (.ref ar)/\kT a H x "leads" (.ref al)/\LstAt RcV H ar vw.rc/\H al=some (.lst (AU ((List.range vw.rc.length).map (led vw))))/\vw.rc.length<=100/\∀ l H',H l=none->Same H H'->LstAt RcV H' l (JT vw)->Q (.ref l) H'
def OW(K:W.Frag)(a:Ad):Sp:=λvs H Q _=>∃ (x:Addr) (A:VA) (vw:Vw),vs=[.ref x]/\TV K a/\ViewAt a H x A vw/\newL (AU ((List.range vw.rc.length).filter λr=>(AD vw.rc r).isSome)) H Q
def MX(K:W.Frag)(a:Ad):Sp:=λvs H Q _=>∃ (x:Addr) (A:VA) (vw:Vw),vs=[.ref x]/\TV K a/\ViewAt a H x A vw/\newL (AU ((List.range vw.pc.length).filter λp=>decide (0<FC vw p))) H Q
def OX(K:W.Frag)(a:Ad):Sp:=λvs H Q _=>∃ (x:Addr) (A:VA) (vw:Vw) (r:Nat) (c:Int × List Nat),vs=[.ref x,.int r]/\TV K a/\ViewAt a H x A vw/\AD vw.rc r=some c/\Q (.int c.1) H
def LZ(f:Vw->List (List V))(K:W.Frag)(a:Ad):Sp:=λvs H Q _=>∃ (x:Addr) (A:VA) (vw:Vw),vs=[.ref x]/\TV K a/\ViewAt a H x A vw/\newF (f vw) H Q
def UD(K:W.Frag)(a:Ad):Sp:=LZ OQ K a
def UE(K:W.Frag)(a:Ad):Sp:=LZ MW K a
def UF(K:W.Frag)(a:Ad):Sp:=LZ OR K a
def OY(K:W.Frag)(a:Ad):Sp:=LZ faults K a
def UG(K:W.Frag)(a:Ad):Sp:=LZ OS K a
def UH(K:W.Frag)(a:Ad):Sp:=LZ OT K a
def UI(K:W.Frag)(a:Ad):Sp:=LZ OU K a
def UJ(K:W.Frag)(a:Ad):Sp:=LZ JU K a
def MY(K:W.Frag)(a:Ad):Sp:=λvs H Q _=>∃ (x dx ly gp cl:Addr) (n r c w:Nat) (rows:List (List V)) (m:Nat) (vw:Vw),vs=[.ref x,.ref ly,.ref gp]/\TV K a/\FV K a/\FG K a/\H x=some (.ins (a "View") dx [])/\LayAt a H ly n r c w/\PlankAt a H gp cl w rows m/\rows.length=n+r+c+r+c/\PlV H rows n r c w vw ∧
 ∀ (A:VA) (H':Hp),ViewAt a H' x A vw->SameBut (· =x) H H'->Q .non H'
def Ground(K:W.Frag)(a:Ad)(H:Hp)(ly gp:Addr)(vw:Vw):Prop:=∃ (cl:Addr) (n r c w:Nat) (rows:List (List V)) (m:Nat),TV K a/\FV K a/\FG K a/\LayAt a H ly n r c w/\PlankAt a H gp cl w rows m/\rows.length=n+r+c+r+c/\PlV H rows n r c w vw
def OZ(K:W.Frag)(a:Ad):Sp:=λvs H Q _=>∃ (ly gp:Addr) (vw:Vw),vs=[.ref ly,.ref gp]/\Ground K a H ly gp vw/\newF (faults vw++JU vw) H Q
def UK(K:W.Frag)(a:Ad):Sp:=λvs H Q _=>∃ (ly gp:Addr) (vw:Vw),vs=[.ref ly,.ref gp]/\Ground K a H ly gp vw/\∀ H',Same H H'->Q (.bl (decide (faults vw=[]))) H'
def IQ(K:W.Frag)(a:Ad):Sp:=λvs H Q _=>∃ (c:Int) (m:Nat),vs=[.int c,.int m]/\m<=100/\∀ l (xs:List Int) H',H l=none->Same H H'->H' l=some (.lst (xs.map V.int))->xs.length=m->(∀ x∈xs,0<=x/\x<2000000000)->Q (.ref l) H'
def O0(K:W.Frag)(a:Ad):Sp:=λvs H Q _=>∃ x:Int,vs=[.int x]/\∀ (z:Str) H',PyData.strOk z=true->Same H H'->Q (.str z) H'
def UL(K:W.Frag)(a:Ad):Sp:=λvs H Q _=>∃ x:Int,vs=[.int x]/\∀ (t:Addr) (n r c w:Nat) H',Same H H'->H' t=some (.tup [.int n,.int r,.int c,.int w])->1<=n->n<=6->1<=r->r<=6->1<=c->c<=6->1<=w->w<=6->Q (.ref t) H'
def RK(vw:Vw)(p:Nat):Prop:=∀ r c,0<led vw r->AD vw.rc r=some c->p∉c.2
structure Clean(vw:Vw)(lf:List Nat)(zs:List Str):Prop where
 nm:∀ k c,AD vw.nm k=some c->∃ j,j<(CN vw.nm).length/\zs[j]? =some c.1
 ds:∀ j k c d,j<k->AD vw.nm j=some c->AD vw.nm k=some d->c.1≠d.1
 ls:∀ k c,AD vw.nm k=some c->(AD vw.rc c.2).isSome=true
 fw:∀ r c,AD vw.rc r=some c->(led vw r:Int)<=c.1
 s1:∀ r c,AD vw.rc r=some c->c.2.Nodup
 s2:∀ r r' c c',r≠r'->AD vw.rc r=some c->AD vw.rc r'=some c'->∀ p∈c.2,p∉c'.2
 em:∀ r c,AD vw.rc r=some c->∀ p∈c.2,(AD vw.pc p).isSome=true/\AD vw.pm p=some 1
 fr:∀ r,0<led vw r->AD vw.rm r=some 1
 nd:lf.Nodup
 lm:∀ p,p∈lf↔(AD vw.pm p=some 1/\RK vw p)
 p3:∀ r c,AD vw.rc r=some c->c.2.length<=3
structure LW where
 v:Addr
 a0:Addr
 a1:Addr
 a2:Addr
 a3:Addr
 a4:Addr
 a5:Addr
def LW.L(A:LW):List Addr:=[A.a0,A.a1,A.a2,A.a3,A.a4,A.a5]
structure LWAt(H:Hp)(A:LW)(vw:Vw)(lf:List Nat):Prop where
 ob:H A.v=some (.lst [.ref A.a0,.ref A.a1,.ref A.a2,.ref A.a3,.ref A.a4,.ref A.a5])
 n:LstAt NmV H A.a0 vw.nm
 r:LstAt RcV H A.a1 vw.rc
 p:LstAt PcV H A.a2 vw.pc
 rm:LstAt MkV H A.a3 vw.rm
 pm:LstAt MkV H A.a4 vw.pm
 l:H A.a5=some (.lst (AU lf))
 ok:E5 vw
 nd:A.L.Nodup
 nv:A.v∉A.L
def GK(vw:Vw)(n r c:Nat):Prop:=vw.nm.length=n/\vw.rc.length=r/\vw.pc.length=c
def UM(K:W.Frag)(a:Ad):Sp:=λvs H Q _=>∃ (c:Int) (m:Nat),vs=[.int c,.int m]/\m<=36/\∀ l (zs:List Str) H',H l=none->Same H H'->H' l=some (.lst (zs.map V.str))->zs.length=m->zs.Nodup->(∀ z∈zs,PyData.strOk z=true)->Q (.ref l) H'
structure NamesAt(H:Hp)(A:LW)(nl:Addr)(zs:List Str):Prop where
 e:H nl=some (.lst (zs.map V.str))
 l:zs.length=36
 d:zs.Nodup
 s:∀ z∈zs,PyData.strOk z=true
 n:nl∉A.L
structure IntsAt(H:Hp)(A:LW)(xl:Addr)(xs:List Int)(m:Nat):Prop where
 e:H xl=some (.lst (xs.map V.int))
 l:xs.length=m
 b:∀ x∈xs,0<=x/\x<2000000000
 n:xl∉A.L
def UN(f:Vw->List Nat)(K:W.Frag)(a:Ad):Sp:=λvs H Q _=>∃ (A:LW) (vw:Vw) (lf:List Nat),vs=[.ref A.v]/\LWAt H A vw lf/\newL (AU (f vw)) H Q
def Up(vw:Vw):List Nat:=(List.range vw.rc.length).map (led vw)
def FJ(vw:Vw):List Nat:=(List.range vw.nm.length).filter λk=>(AD vw.nm k).isNone
def freeR(vw:Vw):List Nat:=(List.range vw.rc.length).filter λr=>(AD vw.rc r).isNone && (AD vw.rm r).isNone
def freeP(vw:Vw):List Nat:=(List.range vw.pc.length).filter λp=>(AD vw.pc p).isNone && (AD vw.pm p).isNone
def O1(K:W.Frag)(a:Ad):Sp:=UN Up K a
def IR(K:W.Frag)(a:Ad):Sp:=UN FJ K a
def O2(K:W.Frag)(a:Ad):Sp:=UN freeR K a
def O3(K:W.Frag)(a:Ad):Sp:=UN freeP K a
def UO(K:W.Frag)(a:Ad):Sp:=λvs H Q _=>∃ (A:LW) (vw:Vw) (lf l0:List Nat) (zs:List Str) (xl:Addr) (xs:List Int) (many n r c:Nat),vs=[.ref A.v,.ref xl,.int many]/\LWAt H A vw lf/\Clean vw l0 zs/\IntsAt H A xl xs 3/\many<=3/\GK vw n r c ∧
 ∀ (t:Addr) (tk:List Nat) (vw':Vw) (H':Hp),LWAt H' A vw' lf->Clean vw' (l0++tk) zs->vw'.nm=vw.nm->vw'.rc=vw.rc->vw'.rm=vw.rm->GK vw' n r c->(∀ p∈tk,(AD vw'.pc p).isSome=true/\p<c)->(∀ p∈tk,∀ r c,AD vw'.rc r=some c->p∉c.2)->tk.length<=3->H' t=some (.tup (AU tk))->SameBut (· ∈A.L) H H'->Q (.ref t) H'
def O4(K:W.Frag)(a:Ad):Sp:=λvs H Q _=>∃ (A:LW) (vw:Vw) (lf l0:List Nat) (zs:List Str) (nl:Addr) (r:Nat) (c:Int × List Nat) (num:Int) (n' r' c':Nat),vs=[.ref A.v,.ref nl,.int r,.int num]/\LWAt H A vw lf/\Clean vw l0 zs/\NamesAt H A nl zs/\GK vw n' r' c'/\n'<=36/\FJ vw≠[]/\AD vw.rc r=some c/\(led vw r:Int)+1<=c.1/\AD vw.rm r=some 1 ∧
 ∀ (vw':Vw) (H':Hp),LWAt H' A vw' lf->Clean vw' (l0.filter λp=>decide (p∉c.2)) zs->GK vw' n' r' c'->SameBut (· ∈A.L) H H'->Q .non H'
def YV(A:LW)(zs:List Str)(n r c:Nat)(H:Hp)(Q:VK):Prop:=∀ (vw':Vw) (lf':List Nat) (H':Hp),LWAt H' A vw' lf'->Clean vw' lf' zs->GK vw' n r c->SameBut (· ∈A.L) H H'->Q .non H'
def RM(K:W.Frag)(a:Ad):Sp:=λvs H Q _=>∃ (A:LW) (vw:Vw) (lf:List Nat) (zs:List Str) (nl xl:Addr) (xs:List Int) (wn:Bool) (n r c:Nat),vs=[.ref A.v,.ref nl,.ref xl,.bl wn]/\LWAt H A vw lf/\Clean vw lf zs/\NamesAt H A nl zs/\IntsAt H A xl xs 7/\GK vw n r c/\n<=36/\c<=36/\YV A zs n r c H Q
def UP(K:W.Frag)(a:Ad):Sp:=λvs H Q _=>∃ (A:LW) (vw:Vw) (lf:List Nat) (zs:List Str) (nl xl:Addr) (xs:List Int) (n r c:Nat),vs=[.ref A.v,.ref nl,.ref xl]/\LWAt H A vw lf/\Clean vw lf zs/\NamesAt H A nl zs/\IntsAt H A xl xs 7/\GK vw n r c/\n<=36/\YV A zs n r c H Q
def UQ(K:W.Frag)(a:Ad):Sp:=λvs H Q _=>∃ (A:LW) (vw:Vw) (lf:List Nat) (zs:List Str) (k:Int) (xl:Addr) (xs:List Int) (n r c:Nat),vs=[.ref A.v,.int k,.ref xl]/\LWAt H A vw lf/\Clean vw lf zs/\IntsAt H A xl xs 7/\GK vw n r c/\c<=36/\YV A zs n r c H Q
def UR(K:W.Frag)(a:Ad):Sp:=λvs H Q _=>∃ (s z nl:Addr) (ns:List Int) (zs:List Str) (n r c w:Nat),vs=[.ref s,.ref z,.ref nl]/\H s=some (.lst (ns.map V.int))/\ns.length<=63/\H z=some (.tup [.int n,.int r,.int c,.int w])/\1<=n/\n<=6/\1<=r/\r<=6/\1<=c/\c<=6/\1<=w/\w<=6/\H nl=some (.lst (zs.map V.str))/\zs.length=36/\zs.Nodup/\(∀ z∈zs,PyData.strOk z=true) ∧
 ∀ (A:LW) (vw:Vw) (lf:List Nat) (H':Hp),Same H H'->LWAt H' A vw lf->Clean vw lf zs->GK vw (n * w) (r * w) (c * w)->H A.v=none->(∀ x∈A.L,H x=none)->Q (.ref A.v) H'
def US(K:W.Frag)(a:Ad):Sp:=λvs H Q _=>∃ (A:LW) (vw:Vw) (lf:List Nat),vs=[.ref A.v]/\LWAt H A vw lf/\∀ (A':LW) (H':Hp),Same H H'->LWAt H' A' vw lf->H A'.v=none->(∀ x∈A'.L,H x=none)->Q (.ref A'.v) H'
def Uq(A:LW)(n r c:Nat)(H:Hp)(Q:VK):Prop:=(∀ H',SameBut (· ∈A.L) H H'->Q .non H')/\∀ (t:Addr) (f:List V) (vw':Vw) (lf:List Nat) (H':Hp),H' t=some (.tup f)->LWAt H' A vw' lf->faults vw'≠[]->GK vw' n r c->SameBut (· ∈A.L) H H'->Q (.ref t) H'
def O5(K:W.Frag)(a:Ad):Sp:=λvs H Q _=>∃ (A:LW) (vw:Vw) (lf:List Nat) (zs:List Str) (nl xl:Addr) (xs:List Int) (n r c:Nat),vs=[.ref A.v,.ref nl,.ref xl]/\LWAt H A vw lf/\Clean vw lf zs/\NamesAt H A nl zs/\IntsAt H A xl xs 3/\GK vw n r c/\n<=36/\1<=n/\1<=r/\1<=c/\Uq A n r c H Q
def HN(K:W.Frag)(a:Ad):Sp:=O5 K a
def UT(K:W.Frag)(a:Ad):Sp:=O5 K a
def UU(K:W.Frag)(a:Ad):Sp:=O5 K a
def UV(K:W.Frag)(a:Ad):Sp:=O5 K a
def UW(K:W.Frag)(a:Ad):Sp:=O5 K a
def O6(K:W.Frag)(a:Ad):Sp:=λvs H Q _=>∃ (gp cl:Addr) (A:LW) (vw:Vw) (lf:List Nat) (n r c w:Nat) (rows:List (List V)) (m:Nat),vs=[.ref gp,.ref A.v,.int w]/\FG K a/\PlankAt a H gp cl w rows m/\rows.length=n+r+c+r+c/\LWAt H A vw lf/\GK vw (n * w) (r * w) (c * w)/\1<=w/\w<=6/\n<=6/\r<=6/\c<=6/\cl∉A.L/\cl≠A.v ∧
 ∀ (rows':List (List V)) (H':Hp),PlankAt a H' gp cl w rows' (m+(n+r+c+r+c))->rows'.length=n+r+c+r+c->PlV H' rows' n r c w vw->SameBut (λx=>x=gp\/x=cl) H H'->Q .non H'
def C5(vw:Vw)(r:Nat):GJ:=match AD vw.rc r with
 | none=>none
 | some c=>if led vw r=0 then none else some ((led vw r:Int),c.2)
def D1(vw:Vw)(r:Nat):Option Int:=match AD vw.rc r with
 | none=>if AD vw.rm r=some 1 then some 0 else AD vw.rm r
 | some _=>if led vw r=0 then some 0 else AD vw.rm r
def FL(vw:Vw)(p:Nat):Option Int:=if AD vw.pm p=some 1/\FW vw p=0 then some 0 else AD vw.pm p
def mended(vw:Vw):Vw:=⟨vw.nm,(List.range vw.rc.length).map (C5 vw),vw.pc,(List.range vw.rc.length).map (D1 vw),(List.range vw.pc.length).map (FL vw)⟩
inductive Cel where
 | nm (c:GD)
 | rc (c:GJ)
 | pc (c:Option Str)
 | mk (c:Option Int)
deriving DecidableEq
def CelV(H:Hp)(v:V):Cel->Prop
 | .nm c=>NmV H v c
 | .rc c=>RcV H v c
 | .pc c=>PcV H v c
 | .mk c=>MkV H v c
def Cel.kind:Cel->Nat
 | .nm _=>0
 | .rc _=>1
 | .pc _=>2
 | .mk _=>3
def Cel.ok:Cel->Prop
 | .nm (some c)=>PyData.strOk c.1=true
 | .pc (some s)=>PyData.strOk s=true
 | _=>True
def E6(vw:Vw):List Cel:=vw.nm.map .nm++vw.rc.map .rc++vw.pc.map .pc++vw.rm.map .mk++vw.pm.map .mk
def DW(w:Nat)(cs:List Cel)(b:Nat):List Cel:=(cs.drop (b * w)).take w
def JV(w n:Nat)(cs cs':List Cel):Nat:=((List.range n).filter λb=> !decide (DW w cs b=DW w cs' b)).length
inductive Lv where
 | many (r:Nat)
 | leftR (r:Nat)
 | leftP (p:Nat)
 | marked (r:Nat)
def FX(vw:Vw):List Lv:=((List.range vw.rc.length).filter (GW vw)).map .many++((List.range vw.rc.length).filter λr=>(AD vw.rc r).isSome && decide (led vw r=0)).map .leftR++((List.range vw.pc.length).filter λp=>decide (AD vw.pm p=some 1) && decide (FW vw p=0)).map .leftP++((List.range vw.rc.length).filter λr=>decide (AD vw.rm r=some 1) && (AD vw.rc r).isNone).map .marked
def kU(vw:Vw):Lv->List V
 | .many r=>[.str "many",.int r,.int (led vw r)]
 | .leftR r=>[.str "left",.str "record",.int r]
 | .leftP p=>[.str "left",.str "piece",.int p]
 | .marked r=>[.str "marked",.int r]
def FY(vw:Vw)(n r c w:Nat):Lv->List (Nat × Cel)
 | .many k=>[(n * w+k,.rc (C5 vw k))]
 | .leftR k=>[(n * w+k,.rc none),((n+r+c) * w+k,.mk (some 0))]
 | .leftP k=>[((n+r+c+r) * w+k,.mk (some 0))]
 | .marked k=>[((n+r+c) * w+k,.mk (some 0))]
def pk(w f:Nat):List A1:=[.inl ((f / w:Nat):Int),.inl ((f % w:Nat):Int)]
structure Site(K:W.Frag)(a:Ad)(H:Hp)(ly gp cl:Addr)(n r c w:Nat)(rows:List (List V))(m:Nat)(vw:Vw):Prop where
 tv:TV K a
 tl:FV K a
 tp:FG K a
 la:LayAt a H ly n r c w
 pl:PlankAt a H gp cl w rows m
 rl:rows.length=n+r+c+r+c
 pv:PlV H rows n r c w vw
 w1:1<=w
 w6:w<=6
 n6:n<=6
 r6:r<=6
 c6:c<=6
def UX(K:W.Frag)(a:Ad):Sp:=λvs H Q _=>∃ (ly gp cl fd:Addr) (n r c w:Nat) (rows:List (List V)) (m:Nat) (vw:Vw) (lv:Lv),vs=[.ref ly,.ref gp,.ref fd]/\Site K a H ly gp cl n r c w rows m vw/\lv∈FX vw/\H fd=some (.tup (kU vw lv)) ∧
 ∀ (dl:Addr) (more:List (List A1 × V)) (H':Hp),H dl=none->Same H H'->H' dl=some (.dT more)->Paired (λ(kv:List A1 × V) (fx:Nat × Cel)=>kv.1=pk w fx.1/\CelV H' kv.2 fx.2) more (FY vw n r c w lv)->RF more->Q (.ref dl) H'
def UY(K:W.Frag)(a:Ad):Sp:=λvs H Q _=>∃ (gp cl dl:Addr) (w:Nat) (rows:List (List V)) (m:Nat) (kvs:List (List A1 × V)) (cs cs':List Cel),vs=[.ref gp,.ref dl]/\FG K a/\PlankAt a H gp cl w rows m/\rows.length<=30/\1<=w/\w<=6/\H dl=some (.dT kvs)/\Paired (CelV H) rows.flatten cs/\cs'.map Cel.kind=cs.map Cel.kind/\(∀ c∈cs,c.ok)/\(∀ c∈cs',c.ok) ∧
 (∀ (f:Nat) (c c':Cel),cs[f]? =some c->cs'[f]? =some c'->(CK kvs (pk w f)=none/\c'=c)\/∃ v,CK kvs (pk w f)=some v/\CelV H v c') ∧
 ∀ (rows':List (List V)) (H':Hp),PlankAt a H' gp cl w rows' (m+JV w rows.length cs cs')->rows'.length=rows.length->Paired (CelV H') rows'.flatten cs'->SameBut (λx=>x=gp\/x=cl) H H'->Q .non H'
def kW(K:W.Frag)(a:Ad):Sp:=λvs H Q _=>∃ (ly gp cl:Addr) (n r c w:Nat) (rows:List (List V)) (m:Nat) (vw:Vw),vs=[.ref ly,.ref gp]/\Site K a H ly gp cl n r c w rows m vw/\faults vw=[] ∧
 ∀ (fo:Addr) (rows':List (List V)) (H':Hp),H fo=none->FindsL H' fo (JU vw)->PlankAt a H' gp cl w rows' (m+JV w rows.length (E6 vw) (E6 (mended vw)))->rows'.length=n+r+c+r+c->PlV H' rows' n r c w (mended vw)->SameBut (λx=>x=gp\/x=cl) H H'->Q (.ref fo) H'
structure zqi(H:Hp)(R:Addr)(ra:List Addr)(w:Nat)(cs:List Cel)(M:Nat):Prop where
 e:H R=some (.lst (ra.map V.ref))
 p:Paired (λl b=>∃ xs,H l=some (.lst xs)/\Paired (CelV H) xs (DW w cs b)) ra (List.range M)
def MZ(K:W.Frag)(a:Ad):Sp:=λvs H Q E=>kW K a vs H Q E\/∃ (ly gp cl:Addr) (n r c w:Nat) (rows:List (List V)) (m:Nat) (vw:Vw),vs=[.ref ly,.ref gp]/\Site K a H ly gp cl n r c w rows m vw/\faults vw≠[]/\∀ H',Same H H'->E (.ref (a "NotSound")) none H'
structure YW(K:W.Frag)(a:Ad):Prop where
 hit:W.exmOne K (.ref (a "NotSound")) (.ref (a "HoldError"))=some true
 ec:RD K (a "NotSound")
 i1:W.kitOne K (.ref (a "NotSound")) (.ref (a "NotSound"))=some true
 iv:W.kitOne K (.ref (a "NotSound")) (.type "ValueError")=some true
 no:W.kitAny K (.ref (a "NotSound")) [.ref (a "NoBlock"),.ref (a "NoChange"),.ref (a "NoName"),.ref (a "NoPiece"),.ref (a "NoRoom"),.ref (a "NoRow"),.ref (a "Twice")]=some false
def RN(K:W.Frag)(a:Ad):Sp:=λvs H Q _=>∃ (ly gp cl:Addr) (n r c w:Nat) (rows:List (List V)) (m:Nat) (vw:Vw),vs=[.ref ly,.ref gp]/\YW K a/\Site K a H ly gp cl n r c w rows m vw/\faults vw≠[]/\∀ H',Same H H'->Q (.bl true) H'
structure TB(K:W.Frag)(a:Ad):Prop where
 cl:Cls K (a "Hold")
 nG:NoAttr K (a "Hold") "ground"
 nM:NoAttr K (a "Hold") "made"
 nI:NoAttr K (a "Hold") "made_in"
 nL:NoAttr K (a "Hold") "latest"
 nO:NoAttr K (a "Hold") "outs"
structure SA where
 st:Addr
 lp:Addr
 tk:Addr
 b:Addr
 gp:Addr
 cl:Addr
 m:Addr
 mi:Addr
 lt:Addr
 ou:Addr
structure LbAt(a:Ad)(H:Hp)(S:SA)(w:Nat)(rows:List (List V))(n:Nat):Prop where
 ob:∃ dx,H S.b=some (.ins (a "Hold") dx (bf S.gp S.m S.mi S.lt S.ou))
 m:H S.m=some (.lst [])
 lt:H S.lt=some (.dT [])
 ou:H S.ou=some (.dK [])
 pk:PlankAt a H S.gp S.cl w rows n
abbrev RO(rows:List (List V))(w i j:Nat):Prop:=i<rows.length/\j<w
def O7(rows:List (List V))(i j:Nat):Option V:=(rows[i]?).bind λr=>r[j]?
def UZ(K:W.Frag)(a:Ad):Sp:=λvs H Q _=>∃ (b gp cl dx:Addr) (w:Nat) (rows:List (List V)) (n:Nat),vs=[.ref b,.ref gp]/\TB K a/\FG K a/\PlankAt a H gp cl w rows n/\H b=some (.ins (a "Hold") dx []) ∧
 ∀ (m mi lt ou:Addr) (H':Hp),H' b=some (.ins (a "Hold") dx (bf gp m mi lt ou))->H' m=some (.lst [])->H' lt=some (.dT [])->H' ou=some (.dK [])->SameBut (· =b) H H'->Q .non H'
def YX(K:W.Frag)(a:Ad)(vs:List V)(H:Hp)(f:List (List V)->Nat->Nat->Prop):Prop:=∃ (S:SA) (w:Nat) (rows:List (List V)) (n:Nat) (pl:Addr) (i j:Nat),vs=[.ref S.b,.ref pl]/\TB K a/\FG K a/\LbAt a H S w rows n/\H pl=some (.tup [.int i,.int j])/\RO rows w i j/\f rows i j
def U0(K:W.Frag)(a:Ad):Sp:=λvs H Q _=>YX K a vs H λ_ _ _=>Q .non H
def U1(K:W.Frag)(a:Ad):Sp:=λvs H Q _=>YX K a vs H λ_ _ _=>Q .non H
def L4(K:W.Frag)(a:Ad):Sp:=λvs H Q _=>YX K a vs H λrows i j=>∀ (v:V) (H':Hp),O7 rows i j=some v->Same H H'->Q v H'
def U3(K:W.Frag)(a:Ad):Sp:=λvs H Q _=>∃ (S:SA) (w:Nat) (rows:List (List V)) (n:Nat),vs=[.ref S.b]/\TB K a/\LbAt a H S w rows n/\∀ (l:Addr) (H':Hp),Same H H'->H' l=some (.lst [])->Q (.ref l) H'
structure YY(K:W.Frag)(a:Ad):Prop where
 cl:Cls K (a "Store")
 n1:NoAttr K (a "Store") "plan"
 n2:NoAttr K (a "Store") "book"
 n3:NoAttr K (a "Store") "taken_out"
def sf(lp b tk:Addr):List (Str × V):=[("plan",.ref lp),("book",.ref b),("taken_out",.ref tk)]
abbrev L7(K:W.Frag)(a:Ad):Prop:=TB K a/\FG K a/\FV K a/\YY K a
structure UpAt(K:W.Frag)(a:Ad)(H:Hp)(S:SA)(n r c w:Nat)(rows:List (List V))(m:Nat)(vw:Vw):Prop where
 t4:L7 K a
 ob:∃ dx,H S.st=some (.ins (a "Store") dx (sf S.lp S.b S.tk))
 ly:LayAt a H S.lp n r c w
 bk:LbAt a H S w rows m
 rl:rows.length=n+r+c+r+c
 pv:PlV H rows n r c w vw
 w1:1<=w
 w6:w<=6
 n6:n<=6
 r6:r<=6
 c6:c<=6
def RP(vw:Vw)(z:Str)(k r:Nat):Prop:=vw.nm[k]? =some (some (z,r))/\∀ j d,j<k->vw.nm[j]? =some (some d)->d.1≠z
def IS(nm:List GD):List Str:=nm.filterMap λc=>c.map (·.1)
def M0(K:W.Frag)(a:Ad):Sp:=λvs H Q _=>∃ (x dx lp gp cl:Addr) (n r c w:Nat) (rows:List (List V)) (m:Nat) (vw:Vw),vs=[.ref x,.ref lp,.ref gp]/\L7 K a/\H x=some (.ins (a "Store") dx [])/\LayAt a H lp n r c w/\PlankAt a H gp cl w rows m/\rows.length=n+r+c+r+c/\PlV H rows n r c w vw/\(1<=w/\w<=6/\n<=6/\r<=6/\c<=6) ∧
 ∀ (S:SA) (H':Hp),S.st=x->S.lp=lp->S.gp=gp->S.cl=cl->UpAt K a H' S n r c w rows m vw->SameBut (· =x) H H'->Q .non H'
def U5(K:W.Frag)(a:Ad):Sp:=λvs H Q _=>∃ (x dx lp b tk:Addr),vs=[.ref x]/\YY K a/\H x=some (.ins (a "Store") dx (sf lp b tk))/\Q (.ref b) H
def O8(K:W.Frag)(a:Ad)(vs:List V)(H:Hp)(f:Vw->List V->Prop):Prop:=∃ (S:SA) (n r c w:Nat) (rows:List (List V)) (m:Nat) (vw:Vw) (us:List V),vs=.ref S.st::us/\UpAt K a H S n r c w rows m vw/\f vw us
def K0(K:W.Frag)(a:Ad):Sp:=λvs H Q _=>O8 K a vs H λvw us=>us=[]/\∀ (l:Addr) (xs:List V) (H':Hp),Same H H'->H' l=some (.lst xs)->Paired (NmV H') xs vw.nm->Q (.ref l) H'
def L8(K:W.Frag)(a:Ad):Sp:=λvs H Q _=>O8 K a vs H λvw us=>us=[]/\∀ (l:Addr) (ks:List Str) (H':Hp),Same H H'->H' l=some (.lst (ks.map V.str))->ks.Perm (IS vw.nm)->sortedS ks=true->Q (.ref l) H'
def RQ(K:W.Frag)(a:Ad):Sp:=λvs H Q _=>O8 K a vs H λvw us=>∃ z k r,us=[.str z]/\RP vw z k r/\∀ H',Same H H'->Q (.int k) H'
def RR(K:W.Frag)(a:Ad):Sp:=λvs H Q _=>O8 K a vs H λvw us=>∃ z k r,us=[.str z]/\RP vw z k r/\∀ H',Same H H'->Q (.int r) H'
def RS(K:W.Frag)(a:Ad):Sp:=λvs H Q _=>O8 K a vs H λvw us=>∃ (r:Nat) (x:GJ),us=[.int r]/\vw.rc[r]? =some x/\∀ v H',Same H H'->RcV H' v x->Q v H'
def U6(vw:Vw)(ps:List Nat)(ts:List Str):Prop:=Paired (λp s=>vw.pc[p]? =some (some s)) ps ts
def L9(K:W.Frag)(a:Ad):Sp:=λvs H Q _=>O8 K a vs H λvw us=>∃ (z:Str) (k r:Nat) (x:Int × List Nat) (ts:List Str),us=[.str z]/\RP vw z k r/\vw.rc[r]? =some (some x)/\U6 vw x.2 ts/\∀ l H',Same H H'->H' l=some (.lst (ts.map V.str))->Q (.ref l) H'
def MA(K:W.Frag)(a:Ad):Sp:=λvs H Q E=>(∃ (ly gp cl:Addr) (n r c w:Nat) (rows:List (List V)) (m:Nat) (vw:Vw),vs=[.ref ly,.ref gp]/\L7 K a/\Site K a H ly gp cl n r c w rows m vw/\faults vw=[] ∧
 ∀ (S:SA) (rows':List (List V)) (H':Hp),S.lp=ly->S.gp=gp->S.cl=cl->UpAt K a H' S n r c w rows' (m+JV w rows.length (E6 vw) (E6 (mended vw))) (mended vw)->SameBut (λx=>x=gp\/x=cl) H H'->Q (.ref S.st) H') ∨
 ∃ (ly gp cl:Addr) (n r c w:Nat) (rows:List (List V)) (m:Nat) (vw:Vw),vs=[.ref ly,.ref gp]/\Site K a H ly gp cl n r c w rows m vw/\faults vw≠[]/\∀ H',Same H H'->E (.ref (a "NotSound")) none H'
def kX(K:W.Frag)(a:Ad):Sp:=λvs H Q _=>∃ (s:Addr) (ns:List Int),vs=[.ref s]/\TV K a/\FV K a/\FG K a/\YW K a/\L7 K a/\SqL K H s (ns.map V.int)/\ns.length<=63/\∀ H',Q (.bl true) H'
end L2
namespace L2
abbrev FK:=W.Frag
abbrev XE:=St->XK
abbrev RT:=FK->Ad->XE->XE->TS
theorem A3{f g:RT}(h:∀ K a E E1,f K a E E1=g K a E E1){K a E E1 D σ H}:f K a E E1 D σ H=g K a E E1 D σ H:=by rw[h]
abbrev DX:TE:=tC (.int 0)
abbrev C6:TE:=tC (.int 1)
abbrev HP:TE:=tC (.int 2)
abbrev GY:TE:=tC (.int 3)
abbrev RU:TE:=tC (.int 4)
abbrev YZ:TE:=tC (.int 5)
abbrev M3:TE:=tC (.int 6)
abbrev K1:TE:=tC (.int 7)
abbrev K2:TE:=tC (.int 8)
abbrev FZ(n:Int):TE:=tC (.int n)
abbrev AJ(x0:TE):TA:=DZ x0 BI
abbrev BN(x0 x1:TE):TA:=DZ x0 (DZ x1 BI)
abbrev EI(x0 x1 x2:TE):TA:=DZ x0 (DZ x1 (DZ x2 BI))
abbrev JW(x0 x1 x2 x3:TE):TA:=DZ x0 (DZ x1 (DZ x2 (DZ x3 BI)))
abbrev AN(K:W.Frag)(x:TE)(n:Int):TE:=AC (AY K) x (tC (.int n))
abbrev AE:TE:=EA 0
abbrev AQ:TE:=EA 1
abbrev O9:TE:=EA 10
abbrev U7:TE:=EA 11
abbrev Uv:TE:=EA 12
abbrev PB:TE:=EA 13
abbrev Y0:TE:=EA 14
abbrev kY:TE:=EA 15
abbrev AX:TE:=EA 2
abbrev BU:TE:=EA 3
abbrev BP:TE:=EA 4
abbrev B1:TE:=EA 5
abbrev DY:TE:=EA 6
abbrev M4:TE:=EA 7
abbrev Y1:TE:=EA 8
abbrev M5:TE:=EA 9
section
variable{K:FK}{a:Ad}{n:Nat}{E E1:XE}{D:Ends}{σ:St}{H:Hp}
def kZ:RT:=λK a E E1=>(A5 (B6 (IL K (AJ (BR K AE "record_values"))) (GH K 2 (DQ (AG 0) (DQ (AG 1) GG))) (A7 (AC KP (AC (AY K) (BR K AX "leads") AE) DX)) AQ 2 [0]))
theorem Uw:type_of%(@A3 _ _ kZ.eq_1):=rfl
def Y2(K:FK)(a:Ad)(E:XE):TS:=(kZ K a E E)
def k7:RT:=λK a E E1=>(A5 (B6 (IL K (AJ (BR K AE "record_values"))) (GH K 2 (DQ (AG 0) (DQ (AG 1) GG))) (A7 (AC G7 AQ (tC .non))) AE 2 []))
theorem Ux:type_of%(@A3 _ _ k7.eq_1):=rfl
def Y3(K:FK)(a:Ad)(E:XE):TS:=(k7 K a E E)
def k8:RT:=λK a E E1=>(A5 (B6 (IL K (AJ (BR K AE "namings"))) (GH K 2 (DQ (AG 0) (DQ (AG 1) GG))) (A7 (AC KP AQ DX)) AE 2 []))
theorem Uy:type_of%(@A3 _ _ k8.eq_1):=rfl
def Y4(K:FK)(a:Ad)(E:XE):TS:=(k8 K a E E)
def k9:RT:=λK a E E1=>(A5 (AN K (AC (AY K) (BR K AE "record_values") AQ) 0))
theorem Uz:type_of%(@A3 _ _ k9.eq_1):=rfl
def Y5(K:FK)(a:Ad)(E:XE):TS:=(k9 K a E E)
def lA:RT:=λK a E E1=>(AS (CQ BI) (AG 1))
theorem Vb:type_of%(@A3 _ _ lA.eq_1):=rfl
def lB:RT:=λK a E E1=>(AS (CQ BI) (AG 2))
theorem Vc:type_of%(@A3 _ _ lB.eq_1):=rfl
def lC:RT:=λK a E E1=>(AS Q6 (AG 3))
theorem Vd:type_of%(@A3 _ _ lC.eq_1):=rfl
def lD:RT:=λK a E E1=>(DJ (G4 K "list" LQ AQ (AJ (CV (BN (tC (.str "lost")) BP)))))
theorem Vg:type_of%(@A3 _ _ lD.eq_1):=rfl
def lE:RT:=λK a E E1=>(B9 (A7 (AC HK (AC (AY K) (BR K AE "record_values") (AN K B1 1)) (tC .non))) (lD K a E E) CH)
theorem Vh:type_of%(@A3 _ _ lE.eq_1):=rfl
def lF:RT:=λK a E E1=>(DJ (G4 K "list" LQ AX (AJ (CV (BN (tC (.str "twice")) BP)))))
theorem Vj:type_of%(@A3 _ _ lF.eq_1):=rfl
def Y6:RT:=λK a E E1=>(B9 (tB (W9 (AN K B1 0) BU)) (lF K a E E) CH)
theorem Vk:type_of%(@A3 _ _ Y6.eq_1):=rfl
def U8:RT:=λK a E E1=>(XB BU (AN K B1 0) (tC (.bl true)))
theorem Vl:type_of%(@A3 _ _ U8.eq_1):=rfl
def lG:RT:=λK a E E1=>(B9 (A7 (AC G7 B1 (tC .non))) (AF (lE K a E E) (AF (Y6 K a E E) (U8 K a E E))) CH)
theorem Vm:type_of%(@A3 _ _ lG.eq_1):=rfl
def lH:RT:=λK a E E1=>(FA (IL K (AJ (BR K AE "name_values"))) (GH K 2 (DQ (AG 4) (DQ (AG 5) GG))) (lG K a E E))
theorem Vp:type_of%(@A3 _ _ lH.eq_1):=rfl
def U9:RT:=λK a E E1=>(A5 (AC (BT K) AQ AX))
theorem Vq:type_of%(@A3 _ _ U9.eq_1):=rfl
def Y7(K:FK)(a:Ad)(E:XE):TS:=(AF (lA K a E E) (AF (lB K a E E) (AF (lC K a E E) (AF (lH K a E E) (U9 K a E E)))))
def lI:RT:=λK a E E1=>(AS (B6 (IL K (AJ (BR K AE "piece_marks"))) (GH K 2 (DQ (AG 0) (DQ (AG 1) GG))) (A7 (AC (CD K) AQ C6)) AE 2 []) (AG 1))
theorem Vv:type_of%(@A3 _ _ lI.eq_1):=rfl
def lJ:RT:=λK a E E1=>(A5 (B6 (DV K AQ) (AG 0) (A7 (AC (CD K) (AC (AY K) (BR K AQ "reached") AE) DX)) (CV (EI (tC (.str "left")) (tC (.str "piece")) AE)) 1 [0]))
theorem Vx:type_of%(@A3 _ _ lJ.eq_1):=rfl
def Y8(K:FK)(a:Ad)(E:XE):TS:=(AF (lI K a E E) (lJ K a E E))
def lK:RT:=λK a E E1=>(AS (B6 (IL K (AJ (BR K AE "record_marks"))) (GH K 2 (DQ (AG 0) (DQ (AG 1) GG))) (A7 (AC (CD K) AQ C6)) AE 2 []) (AG 1))
theorem Vy:type_of%(@A3 _ _ lK.eq_1):=rfl
def lL:RT:=λK a E E1=>(A5 (B6 (DV K AQ) (AG 0) (A7 (AC HK (AC (AY K) (BR K AQ "record_values") AE) (tC .non))) (CV (BN (tC (.str "marked")) AE)) 1 [0]))
theorem Vz:type_of%(@A3 _ _ lL.eq_1):=rfl
def Y9(K:FK)(a:Ad)(E:XE):TS:=(AF (lK K a E E) (lL K a E E))
def lM:RT:=λK a E E1=>(AS (B6 (DR (AJ AE)) (AG 0) DL DX 1 []) (AG 2))
theorem Wb:type_of%(@A3 _ _ lM.eq_1):=rfl
def lN:RT:=λK a E E1=>(YI K AX BU C6 Q4)
theorem Wc:type_of%(@A3 _ _ lN.eq_1):=rfl
def lO:RT:=λK a E E1=>(FA (DV K AQ) (AG 3) (lN K a E E))
theorem Wd:type_of%(@A3 _ _ lO.eq_1):=rfl
def lP:RT:=λK a E E1=>(A5 AX)
theorem Wg:type_of%(@A3 _ _ lP.eq_1):=rfl
def ZA(K:FK)(a:Ad)(E:XE):TS:=(AF (lM K a E E) (AF (lO K a E E) (lP K a E E)))
def lQ:RT:=λK a E E1=>(AS (CQ BI) (AG 1))
theorem Wh:type_of%(@A3 _ _ lQ.eq_1):=rfl
def lR:RT:=λK a E E1=>(DJ (G4 K "list" (kI K) AQ (AJ (AN K AX 1))))
theorem Wj:type_of%(@A3 _ _ lR.eq_1):=rfl
def lS:RT:=λK a E E1=>(B9 (A7 (AC G7 AX (tC .non))) (lR K a E E) CH)
theorem Wk:type_of%(@A3 _ _ lS.eq_1):=rfl
def lT:RT:=λK a E E1=>(FA (DV K AE) (AG 2) (lS K a E E))
theorem Wl:type_of%(@A3 _ _ lT.eq_1):=rfl
def lU:RT:=λK a E E1=>(A5 AQ)
theorem Wm:type_of%(@A3 _ _ lU.eq_1):=rfl
def ZB(K:FK)(a:Ad)(E:XE):TS:=(AF (lQ K a E E) (AF (lT K a E E) (lU K a E E)))
def lV:RT:=λK a E E1=>(A5 (B6 (DR (AJ (B5 (CY K) (AJ (BR K AE "made"))))) (AG 0) (tB (XA AE (BR K AQ "outs"))) AE 1 [0]))
theorem Wp:type_of%(@A3 _ _ lV.eq_1):=rfl
def ZC(K:FK)(a:Ad)(E:XE):TS:=(lV K a E E)
def lW:RT:=λK a E E1=>(A5 (BR K AE "book"))
theorem Wq:type_of%(@A3 _ _ lW.eq_1):=rfl
def ZD(K:FK)(a:Ad)(E:XE):TS:=(lW K a E E)
def lX:RT:=λK a E E1=>(EL K AE (B6 (DR (AJ AQ)) (AG 0) DL (AC (FF K) (CV (AJ (tC .non))) AQ) 1 [2]) "contents")
theorem Wv:type_of%(@A3 _ _ lX.eq_1):=rfl
def lY:RT:=λK a E E1=>(EL K AE AX "width")
theorem Ww:type_of%(@A3 _ _ lY.eq_1):=rfl
def lZ:RT:=λK a E E1=>(EL K AE DX "written")
theorem Wx:type_of%(@A3 _ _ lZ.eq_1):=rfl
def ZE(K:FK)(a:Ad)(E:XE):TS:=(AF (lX K a E E) (AF (lY K a E E) (lZ K a E E)))
def l8:RT:=λK a E E1=>(A5 (B5 (CY K) (AJ (BR K AE "contents"))))
theorem Wy:type_of%(@A3 _ _ l8.eq_1):=rfl
def ZF(K:FK)(a:Ad)(E:XE):TS:=(l8 K a E E)
def l9:RT:=λK a E E1=>(A5 (BR K AE "width"))
theorem Wz:type_of%(@A3 _ _ l9.eq_1):=rfl
def ZG(K:FK)(a:Ad)(E:XE):TS:=(l9 K a E E)
def mB:RT:=λK a E E1=>(A5 (BR K AE "written"))
theorem Xb:type_of%(@A3 _ _ mB.eq_1):=rfl
def ZH(K:FK)(a:Ad)(E:XE):TS:=(mB K a E E)
def mC:RT:=λK a E E1=>(MP (a "NoBlock") E (AJ (tC (.str "there is no such block"))))
theorem Xc:type_of%(@A3 _ _ mC.eq_1):=rfl
def mD:RT:=λK a E E1=>(B9 (LE (A7 (Q0 MR JQ DX AQ (B5 (CY K) (AJ (BR K AE "contents")))))) (mC K a E E) CH)
theorem Xd:type_of%(@A3 _ _ mD.eq_1):=rfl
def ZI(K:FK)(a:Ad)(E:XE):TS:=(mD K a E E)
def mE:RT:=λK a E E1=>(EL K AE AQ "name_blocks")
theorem Xg:type_of%(@A3 _ _ mE.eq_1):=rfl
def mF:RT:=λK a E E1=>(EL K AE AX "record_blocks")
theorem Xh:type_of%(@A3 _ _ mF.eq_1):=rfl
def mG:RT:=λK a E E1=>(EL K AE BU "piece_blocks")
theorem Xj:type_of%(@A3 _ _ mG.eq_1):=rfl
def mH:RT:=λK a E E1=>(EL K AE BP "width")
theorem Xk:type_of%(@A3 _ _ mH.eq_1):=rfl
def ZJ(K:FK)(a:Ad)(E:XE):TS:=(AF (mE K a E E) (AF (mF K a E E) (AF (mG K a E E) (mH K a E E))))
def mI:RT:=λK a E E1=>(A5 (CV (EI (AC (FF K) (BR K AE "name_blocks") (BR K AE "width")) (AC (FF K) (BR K AE "record_blocks") (BR K AE "width")) (AC (FF K) (BR K AE "piece_blocks") (BR K AE "width")))))
theorem Xl:type_of%(@A3 _ _ mI.eq_1):=rfl
def ZK(K:FK)(a:Ad)(E:XE):TS:=(mI K a E E)
def mJ:RT:=λK a E E1=>(A5 (AC (BT K) (AC (BT K) (BR K AE "name_blocks") (BR K AE "record_blocks")) (BR K AE "piece_blocks")))
theorem Xm:type_of%(@A3 _ _ mJ.eq_1):=rfl
def ZL(K:FK)(a:Ad)(E:XE):TS:=(mJ K a E E)
def mK:RT:=λK a E E1=>(A5 (CV (BN (AC (BT K) AQ (AC HJ AX (BR K AE "width"))) (AC CA AX (BR K AE "width")))))
theorem Xp:type_of%(@A3 _ _ mK.eq_1):=rfl
def ZM(K:FK)(a:Ad)(E:XE):TS:=(mK K a E E)
def mM:RT:=λK a E E1=>(A5 (AC (AY K) AE AQ))
theorem Xq:type_of%(@A3 _ _ mM.eq_1):=rfl
def mO:RT:=λK a E E1=>(B9 (A7 (AC JQ AQ (B5 (CY K) (AJ AE)))) (mM K a E E) CH)
theorem Xv:type_of%(@A3 _ _ mO.eq_1):=rfl
def mP:RT:=λK a E E1=>(A5 DX)
theorem Xw:type_of%(@A3 _ _ mP.eq_1):=rfl
def ZN(K:FK)(a:Ad)(E:XE):TS:=(AF (mO K a E E) (mP K a E E))
def mQ:RT:=λK a E E1=>(AS (AC (BT K) (AC CA AE (FZ 920419823)) YZ) (AG 2))
theorem Xx:type_of%(@A3 _ _ mQ.eq_1):=rfl
def mR:RT:=λK a E E1=>(AS (AC (BT K) (AC CA (AC HJ AE (FZ 920419823)) (FZ 899809363)) GY) (AG 3))
theorem Xy:type_of%(@A3 _ _ mR.eq_1):=rfl
def mS:RT:=λK a E E1=>(AS (CQ BI) (AG 4))
theorem Xz:type_of%(@A3 _ _ mS.eq_1):=rfl
def mT:RT:=λK a E E1=>(AS (AC CA (AC (BT K) (AC (FF K) AX (FZ 70001)) BU) (FZ 920419823)) (AG 2))
theorem Yb:type_of%(@A3 _ _ mT.eq_1):=rfl
def mU:RT:=λK a E E1=>(AS (AC CA (AC (BT K) (AC (BT K) (AC (FF K) BU (FZ 60013)) (AC (FF K) AX AX)) B1) (FZ 899809363)) (AG 3))
theorem Yc:type_of%(@A3 _ _ mU.eq_1):=rfl
def mV:RT:=λK a E E1=>(DJ (G4 K "list" LQ BP (AJ (AC (BT K) AX BU))))
theorem Yd:type_of%(@A3 _ _ mV.eq_1):=rfl
def mW:RT:=λK a E E1=>(FA (DR (AJ AQ)) (AG 5) (AF (mT K a E E) (AF (mU K a E E) (mV K a E E))))
theorem Yg:type_of%(@A3 _ _ mW.eq_1):=rfl
def mX:RT:=λK a E E1=>(A5 BP)
theorem Yh:type_of%(@A3 _ _ mX.eq_1):=rfl
def ZO(K:FK)(a:Ad)(E:XE):TS:=(AF (mQ K a E E) (AF (mR K a E E) (AF (mS K a E E) (AF (mW K a E E) (mX K a E E)))))
def mY:RT:=λK a E E1=>(AS (AC (FF K) (CQ (AJ DX)) (B5 (CY K) (AJ (AN K AE 1)))) (AG 1))
theorem Yj:type_of%(@A3 _ _ mY.eq_1):=rfl
def mZ:RT:=λK a E E1=>(AS (AC (BT K) (AC (AY K) AQ (AN K AX 1)) C6) (EK AQ (AN K AX 1) DD))
theorem Yk:type_of%(@A3 _ _ mZ.eq_1):=rfl
def m7:RT:=λK a E E1=>(B9 (A7 (AC G7 AX (tC .non))) (mZ K a E E) CH)
theorem Yl:type_of%(@A3 _ _ m7.eq_1):=rfl
def m8:RT:=λK a E E1=>(FA (DV K (AN K AE 0)) (AG 2) (m7 K a E E))
theorem Ym:type_of%(@A3 _ _ m8.eq_1):=rfl
def m9:RT:=λK a E E1=>(A5 AQ)
theorem Yp:type_of%(@A3 _ _ m9.eq_1):=rfl
def ZP(K:FK)(a:Ad)(E:XE):TS:=(AF (mY K a E E) (AF (m8 K a E E) (m9 K a E E)))
def nB:RT:=λK a E E1=>(A5 (B6 (DR (AJ (B5 (CY K) (AJ (AN K AE 0))))) (AG 0) (A7 (AC HK (AC (AY K) (AN K AQ 0) AE) (tC .non))) AE 1 [0]))
theorem Yq:type_of%(@A3 _ _ nB.eq_1):=rfl
def ZQ(K:FK)(a:Ad)(E:XE):TS:=(nB K a E E)
def nD:RT:=λK a E E1=>(A5 (B6 (DR (AJ (B5 (CY K) (AJ (AN K AE 1))))) (AG 0) (JL (A7 (AC HK (AC (AY K) (AN K AQ 1) AE) (tC .non))) (A7 (AC HK (AC (AY K) (AN K AQ 3) AE) (tC .non)))) AE 1 [0]))
theorem Yv:type_of%(@A3 _ _ nD.eq_1):=rfl
def ZR(K:FK)(a:Ad)(E:XE):TS:=(nD K a E E)
def nE:RT:=λK a E E1=>(A5 (B6 (DR (AJ (B5 (CY K) (AJ (AN K AE 2))))) (AG 0) (JL (A7 (AC HK (AC (AY K) (AN K AQ 2) AE) (tC .non))) (A7 (AC HK (AC (AY K) (AN K AQ 4) AE) (tC .non)))) AE 1 [0]))
theorem Yw:type_of%(@A3 _ _ nE.eq_1):=rfl
def ZS(K:FK)(a:Ad)(E:XE):TS:=(nE K a E E)
def nF:RT:=λK a E E1=>(A5 (B6 (DV K AE) (AG 0) DL (B5 (MT K) (AJ AE)) 1 []))
theorem Yx:type_of%(@A3 _ _ nF.eq_1):=rfl
def ZT(K:FK)(a:Ad)(E:XE):TS:=(nF K a E E)
def nH:RT:=λK a E E1=>(AS (B6 (DV K (BC (a "View") "pieces_named" (MX K a) [] E AE BI)) (AG 0) (A7 (AC KP (AC (AY K) (BR K AQ "namings") AE) C6)) (CV (BN (tC (.str "shared")) AE)) 1 [0]) (AG 1))
theorem Yy:type_of%(@A3 _ _ nH.eq_1):=rfl
def nJ:RT:=λK a E E1=>(AS (B6 (DV K (BC (a "View") "pieces_named" (MX K a) [] E AE BI)) (AG 0) (A7 (AC HK (AC (AY K) (BR K AQ "piece_values") AE) (tC .non))) (CV (BN (tC (.str "empty")) AE)) 1 [0]) (AG 2))
theorem Yz:type_of%(@A3 _ _ nJ.eq_1):=rfl
def nK:RT:=λK a E E1=>(AS (B6 (DV K (BC (a "View") "records_standing" (OW K a) [] E AE BI)) (AG 0) (A7 (AC JQ (BC (a "View") "count_of" (OX K a) [] (λ_=>E0) AQ (AJ AE)) (AC (AY K) (BR K AQ "leads") AE))) (CV (BN (tC (.str "few")) AE)) 1 [0]) (AG 3))
theorem Zb:type_of%(@A3 _ _ nK.eq_1):=rfl
def nQ:RT:=λK a E E1=>(A5 (AC (BT K) (AC (BT K) AQ AX) BU))
theorem Zc:type_of%(@A3 _ _ nQ.eq_1):=rfl
def ZU(K:FK)(a:Ad)(E:XE):TS:=(AF (nH K a E E) (AF (nJ K a E E) (AF (nK K a E E) (nQ K a E E))))
def nR:RT:=λK a E E1=>(AS (B6 (IL K (AJ (BR K AE "leads"))) (GH K 2 (DQ (AG 0) (DQ (AG 1) GG))) (A7 (AC KP AQ DX)) AE 2 []) (AG 1))
theorem Zd:type_of%(@A3 _ _ nR.eq_1):=rfl
def nS:RT:=λK a E E1=>(AS (B6 (DV K AQ) (AG 0) (A7 (AC (DH K) (AC (AY K) (BR K AQ "record_marks") AE) C6)) (CV (EI (tC (.str "free")) (tC (.str "record")) AE)) 1 [0]) (AG 2))
theorem Zg:type_of%(@A3 _ _ nS.eq_1):=rfl
def nT:RT:=λK a E E1=>(AS (B6 (DV K (BC (a "View") "pieces_named" (MX K a) [] E AE BI)) (AG 0) (A7 (AC (DH K) (AC (AY K) (BR K AQ "piece_marks") AE) C6)) (CV (EI (tC (.str "free")) (tC (.str "piece")) AE)) 1 [0]) (AG 3))
theorem Zh:type_of%(@A3 _ _ nT.eq_1):=rfl
def nU:RT:=λK a E E1=>(A5 (AC (BT K) AX BU))
theorem Zj:type_of%(@A3 _ _ nU.eq_1):=rfl
def ZV(K:FK)(a:Ad)(E:XE):TS:=(AF (nR K a E E) (AF (nS K a E E) (AF (nT K a E E) (nU K a E E))))
def nX:RT:=λK a E E1=>(AS (CQ BI) (AG 1))
theorem Zk:type_of%(@A3 _ _ nX.eq_1):=rfl
def nY:RT:=λK a E E1=>(AS (CQ BI) (AG 2))
theorem Zl:type_of%(@A3 _ _ nY.eq_1):=rfl
def nZ:RT:=λK a E E1=>(AS (AC (AY K) (BR K AE "leads") BU) (AG 4))
theorem Zm:type_of%(@A3 _ _ nZ.eq_1):=rfl
def n0:RT:=λK a E E1=>(DJ (G4 K "list" LQ AX (AJ (CV (EI (tC (.str "left")) (tC (.str "record")) BU)))))
theorem Zp:type_of%(@A3 _ _ n0.eq_1):=rfl
def oA:RT:=λK a E E1=>(DJ (G4 K "list" LQ AQ (AJ (CV (EI (tC (.str "many")) BU BP)))))
theorem Zq:type_of%(@A3 _ _ oA.eq_1):=rfl
def oB:RT:=λK a E E1=>(B9 (A7 (AC KP (BC (a "View") "count_of" (OX K a) [] E AE (AJ BU)) BP)) (oA K a E E) CH)
theorem Zv:type_of%(@A3 _ _ oB.eq_1):=rfl
def oC:RT:=λK a E E1=>(B9 (A7 (AC (CD K) BP DX)) (n0 K a E E) (oB K a E E))
theorem Zw:type_of%(@A3 _ _ oC.eq_1):=rfl
def oE:RT:=λK a E E1=>(FA (DV K (BC (a "View") "records_standing" (OW K a) [] E AE BI)) (AG 3) (AF (nZ K a E E) (oC K a E E)))
theorem Zx:type_of%(@A3 _ _ oE.eq_1):=rfl
def oF:RT:=λK a E E1=>(A5 (AC (BT K) AQ AX))
theorem Zy:type_of%(@A3 _ _ oF.eq_1):=rfl
def ZW(K:FK)(a:Ad)(E:XE):TS:=(AF (nX K a E E) (AF (nY K a E E) (AF (oE K a E E) (oF K a E E))))
def oG:RT:=λK a E E1=>(EL K AE AQ "ground")
theorem Zz:type_of%(@A3 _ _ oG.eq_1):=rfl
def oH:RT:=λK a E E1=>(EL K AE (CQ BI) "made")
theorem zaa:type_of%(@A3 _ _ oH.eq_1):=rfl
def oI:RT:=λK a E E1=>(EL K AE (B6 (DR (AJ (BC (a "Plank") "blocks" (IM K a) [] E AQ BI))) (AG 0) DL (CQ BI) 1 []) "made_in")
theorem zab:type_of%(@A3 _ _ oI.eq_1):=rfl
def oJ:RT:=λK a E E1=>(EL K AE TM "latest")
theorem zac:type_of%(@A3 _ _ oJ.eq_1):=rfl
def oK:RT:=λK a E E1=>(EL K AE Q6 "outs")
theorem zad:type_of%(@A3 _ _ oK.eq_1):=rfl
def ZX(K:FK)(a:Ad)(E:XE):TS:=(AF (oG K a E E) (AF (oH K a E E) (AF (oI K a E E) (AF (oJ K a E E) (oK K a E E)))))
def oM:RT:=λK a E E1=>(MP (a "NoBlock") E (AJ (tC (.str "there is no such place on the plank"))))
theorem zae:type_of%(@A3 _ _ oM.eq_1):=rfl
def oN:RT:=λK a E E1=>(B9 (KH (LE (A7 (Q0 MR JQ DX (AN K AQ 0) (BC (a "Plank") "blocks" (IM K a) [] E (BR K AE "ground") BI)))) (LE (A7 (Q0 MR JQ DX (AN K AQ 1) (BC (a "Plank") "cells" (T8 K a) [] E (BR K AE "ground") BI))))) (oM K a E E) CH)
theorem zaf:type_of%(@A3 _ _ oN.eq_1):=rfl
def ZY(K:FK)(a:Ad)(E:XE):TS:=(oN K a E E)
def oO:RT:=λK a E E1=>(DJ (BC (a "Plank") "ask_for_block" (LS K a) [] E AE (AJ AQ)))
theorem zag:type_of%(@A3 _ _ oO.eq_1):=rfl
def oP:RT:=λK a E E1=>(A5 (B5 (MT K) (AJ (AC (AY K) (BR K AE "contents") AQ))))
theorem zah:type_of%(@A3 _ _ oP.eq_1):=rfl
def ZZ(K:FK)(a:Ad)(E:XE):TS:=(AF (oO K a E E) (oP K a E E))
def oQ:RT:=λK a E E1=>(DJ (BC (a "Plank") "ask_for_block" (LS K a) [] E AE (AJ AQ)))
theorem zai:type_of%(@A3 _ _ oQ.eq_1):=rfl
def oR:RT:=λK a E E1=>(MP (a "NoBlock") E (AJ (tC (.str "the list is not as long as a block"))))
theorem zaj:type_of%(@A3 _ _ oR.eq_1):=rfl
def oS:RT:=λK a E E1=>(B9 (A7 (AC (DH K) (B5 (CY K) (AJ AX)) (BR K AE "width"))) (oR K a E E) CH)
theorem zak:type_of%(@A3 _ _ oS.eq_1):=rfl
def oU:RT:=λK a E E1=>(AS (B5 (RB K) (AJ AX)) (EK (BR K AE "contents") AQ DD))
theorem zal:type_of%(@A3 _ _ oU.eq_1):=rfl
def oV:RT:=λK a E E1=>(WS K AE C6 Q4 "written")
theorem zam:type_of%(@A3 _ _ oV.eq_1):=rfl
def Z0(K:FK)(a:Ad)(E:XE):TS:=(AF (oQ K a E E) (AF (oS K a E E) (AF (oU K a E E) (oV K a E E))))
def oW:RT:=λK a E E1=>(A5 (BC (a "Layout") "place_from" (IN K a) [] E AE (BN DX AQ)))
theorem zan:type_of%(@A3 _ _ oW.eq_1):=rfl
def Z1(K:FK)(a:Ad)(E:XE):TS:=(oW K a E E)
def oX:RT:=λK a E E1=>(A5 (BC (a "Layout") "place_from" (IN K a) [] E AE (BN (BR K AE "name_blocks") AQ)))
theorem zao:type_of%(@A3 _ _ oX.eq_1):=rfl
def Z2(K:FK)(a:Ad)(E:XE):TS:=(oX K a E E)
def oY:RT:=λK a E E1=>(A5 (BC (a "Layout") "place_from" (IN K a) [] E AE (BN (AC (BT K) (BR K AE "name_blocks") (BR K AE "record_blocks")) AQ)))
theorem zap:type_of%(@A3 _ _ oY.eq_1):=rfl
def Z3(K:FK)(a:Ad)(E:XE):TS:=(oY K a E E)
def oZ:RT:=λK a E E1=>(A5 (BC (a "Layout") "place_from" (IN K a) [] E AE (BN (BC (a "Layout") "blocks_ahead_of_marks" (LV K a) [] E AE BI) AQ)))
theorem zaq:type_of%(@A3 _ _ oZ.eq_1):=rfl
def Z4(K:FK)(a:Ad)(E:XE):TS:=(oZ K a E E)
def o0:RT:=λK a E E1=>(A5 (BC (a "Layout") "place_from" (IN K a) [] E AE (BN (AC (BT K) (BC (a "Layout") "blocks_ahead_of_marks" (LV K a) [] E AE BI) (BR K AE "record_blocks")) AQ)))
theorem zar:type_of%(@A3 _ _ o0.eq_1):=rfl
def Z5(K:FK)(a:Ad)(E:XE):TS:=(o0 K a E E)
def o3:RT:=λK a E E1=>(A5 (AC (BT K) (AC (BT K) (BC (a "Layout") "blocks_ahead_of_marks" (LV K a) [] E AE BI) (BR K AE "record_blocks")) (BR K AE "piece_blocks")))
theorem zas:type_of%(@A3 _ _ o3.eq_1):=rfl
def Z6(K:FK)(a:Ad)(E:XE):TS:=(o3 K a E E)
def o7:RT:=λK a E E1=>(AS (tC (.str "abcdefghijklmnopqrstuvwxyz")) (AG 2))
theorem zat:type_of%(@A3 _ _ o7.eq_1):=rfl
def o8:RT:=λK a E E1=>(AS (BE (IQ K a) [] E (BN (AC HJ AE HP) (FZ 12))) (AG 3))
theorem zau:type_of%(@A3 _ _ o8.eq_1):=rfl
def o9:RT:=λK a E E1=>(A5 (B6 (DR (AJ AQ)) (AG 0) DL (AC (FF K) (AC (AY K) AQ (AC CA (AC (BT K) (AN K AX 0) (AC HJ AE K2)) (FZ 26))) (AC (BT K) C6 (AC CA AE K2))) 1 [2,3]))
theorem zav:type_of%(@A3 _ _ o9.eq_1):=rfl
def pA:RT:=λK a E E1=>(B9 (A7 (AC (CD K) (AC CA AE HP) C6)) (o9 K a E E) CH)
theorem zaw:type_of%(@A3 _ _ pA.eq_1):=rfl
def pB:RT:=λK a E E1=>(AS (AC (BT K) HP (AC CA (AN K BU 0) K1)) (AG 4))
theorem zax:type_of%(@A3 _ _ pB.eq_1):=rfl
def pC:RT:=λK a E E1=>(AS (AC CA (AN K BU 1) BP) (AG 5))
theorem zay:type_of%(@A3 _ _ pC.eq_1):=rfl
def pD:RT:=λK a E E1=>(AS (AC CA (AC (BT K) (AC (BT K) B1 C6) (AC CA (AN K BU 2) (AC N9 BP C6))) BP) (AG 6))
theorem zaz:type_of%(@A3 _ _ pD.eq_1):=rfl
def pE:RT:=λK a E E1=>(AS (CQ BI) (AG 7))
theorem za0:type_of%(@A3 _ _ pE.eq_1):=rfl
def pF:RT:=λK a E E1=>(AS (tC (.str "")) (AG 9))
theorem za1:type_of%(@A3 _ _ pF.eq_1):=rfl
def pG:RT:=λK a E E1=>(AS (AC (BT K) (AC (FF K) Y1 (B5 (RC K) (AJ (AC (CD K) O9 B1)))) (AC (FF K) (AC HJ Y1 (FZ 26)) (B5 (RC K) (AJ (AC (CD K) O9 DY))))) (AG 11))
theorem za2:type_of%(@A3 _ _ pG.eq_1):=rfl
def pH:RT:=λK a E E1=>(AS (AC (BT K) M5 (AC (AY K) AX (AC CA (AC (BT K) (AC (AY K) BU (AC (BT K) GY O9)) U7) (FZ 26)))) (AG 9))
theorem za3:type_of%(@A3 _ _ pH.eq_1):=rfl
def pI:RT:=λK a E E1=>(FA (DR (AJ BP)) (AG 10) (AF (pG K a E E) (pH K a E E)))
theorem za4:type_of%(@A3 _ _ pI.eq_1):=rfl
def pJ:RT:=λK a E E1=>(DJ (G4 K "list" LQ M4 (AJ M5)))
theorem za5:type_of%(@A3 _ _ pJ.eq_1):=rfl
def pK:RT:=λK a E E1=>(FA (DR (AJ AQ)) (AG 8) (AF (pF K a E E) (AF (pI K a E E) (pJ K a E E))))
theorem za6:type_of%(@A3 _ _ pK.eq_1):=rfl
def pL:RT:=λK a E E1=>(A5 M4)
theorem za7:type_of%(@A3 _ _ pL.eq_1):=rfl
def Z7(K:FK)(a:Ad)(E:XE):TS:=(AF (o7 K a E E) (AF (o8 K a E E) (AF (pA K a E E) (AF (pB K a E E) (AF (pC K a E E) (AF (pD K a E E) (AF (pE K a E E) (AF (pK K a E E) (pL K a E E)))))))))
def pM:RT:=λK a E E1=>(AS (tC (.str " !\"#$&'()*+,-./0123456789:;<=>?@ABCDEFGHIJKLMNOPQRSTUVWXYZ[\\]^_`")) (AG 1))
theorem za8:type_of%(@A3 _ _ pM.eq_1):=rfl
def pN:RT:=λK a E E1=>(AS (AC (BT K) AQ (tC (.str "abcdefghijklmnopqrstuvwxyz{|}~"))) (AG 1))
theorem za9:type_of%(@A3 _ _ pN.eq_1):=rfl
def pO:RT:=λK a E E1=>(AS (BE (IQ K a) [] E (BN AE GY)) (AG 2))
theorem zba:type_of%(@A3 _ _ pO.eq_1):=rfl
def pP:RT:=λK a E E1=>(AS (AC (BT K) C6 (AC CA (AN K AX 0) M3)) (AG 3))
theorem zbb:type_of%(@A3 _ _ pP.eq_1):=rfl
def pQ:RT:=λK a E E1=>(AS (FZ 40) (AG 3))
theorem zbc:type_of%(@A3 _ _ pQ.eq_1):=rfl
def pR:RT:=λK a E E1=>(B9 (A7 (AC (CD K) (AC CA (AC HJ (AN K AX 0) M3) K2) DX)) (pQ K a E E) CH)
theorem zbd:type_of%(@A3 _ _ pR.eq_1):=rfl
def Z8:RT:=λK a E E1=>(A5 (G4 K "str" (kD K) (tC (.str "")) (AJ (B6 (DR (AJ BU)) (AG 0) DL (AC (AY K) AQ (AC CA (AC (BT K) (AN K AX 1) (AC (FF K) AE (AN K AX 2))) (FZ 94))) 1 [1,2]))))
theorem zbe:type_of%(@A3 _ _ Z8.eq_1):=rfl
def Z9(K:FK)(a:Ad)(E:XE):TS:=(AF (pM K a E E) (AF (pN K a E E) (AF (pO K a E E) (AF (pP K a E E) (AF (pR K a E E) (Z8 K a E E))))))
def pT:RT:=λK a E E1=>(AS (BE (IQ K a) [] E (BN (AC HJ AE (FZ 48)) GY)) (AG 1))
theorem zbf:type_of%(@A3 _ _ pT.eq_1):=rfl
def pU:RT:=λK a E E1=>(AS (WI (A7 (AC (CD K) (AC CA (AC HJ AE M3) K2) GY)) M3 GY) (AG 2))
theorem zbg:type_of%(@A3 _ _ pU.eq_1):=rfl
def aA:RT:=λK a E E1=>(A5 (CV (JW (AC (BT K) C6 (AC CA (AN K AQ 0) AX)) (AC (BT K) C6 (AC CA (AN K AQ 1) AX)) (AC (BT K) C6 (AC CA (AN K AQ 2) AX)) (AC (BT K) C6 (AC CA AE M3)))))
theorem zbh:type_of%(@A3 _ _ aA.eq_1):=rfl
def aB(K:FK)(a:Ad)(E:XE):TS:=(AF (pT K a E E) (AF (pU K a E E) (aA K a E E)))
def pV:RT:=λK a E E1=>(AS (BE (IR K a) [] E (AJ AE)) (AG 4))
theorem zbi:type_of%(@A3 _ _ pV.eq_1):=rfl
def pW:RT:=λK a E E1=>(AS (AC (AY K) AQ (AC N9 (B5 (CY K) (AJ (AN K AE 0))) (B5 (CY K) (AJ BP)))) (AG 5))
theorem zbj:type_of%(@A3 _ _ pW.eq_1):=rfl
def pX:RT:=λK a E E1=>(AS (CV (BN B1 AX)) (EK (AN K AE 0) (AC (AY K) BP (AC CA BU (B5 (CY K) (AJ BP)))) DD))
theorem zbk:type_of%(@A3 _ _ pX.eq_1):=rfl
def aC(K:FK)(a:Ad)(E:XE):TS:=(AF (pV K a E E) (AF (pW K a E E) (pX K a E E)))
def pY:RT:=λK a E E1=>(AS (BE (IR K a) [] E (AJ AE)) (AG 3))
theorem zbl:type_of%(@A3 _ _ pY.eq_1):=rfl
def pZ:RT:=λK a E E1=>(AS (B6 (DR (AJ (B5 (CY K) (AJ (AN K AE 1))))) (AG 0) (A7 (AC HK (AC (AY K) (AN K AQ 1) AE) (tC .non))) AE 1 [0]) (AG 4))
theorem zbm:type_of%(@A3 _ _ pZ.eq_1):=rfl
def p0:RT:=λK a E E1=>(A5 (tC .non))
theorem p7:type_of%(@A3 _ _ p0.eq_1):=rfl
def p8:RT:=λK a E E1=>(B9 (KH (A7 (AC (CD K) BU (CQ BI))) (A7 (AC (CD K) BP (CQ BI)))) (p0 K a E E) CH)
theorem zbn:type_of%(@A3 _ _ p8.eq_1):=rfl
def p9:RT:=λK a E E1=>(AS (AC (AY K) BU (AC CA (AN K AX 1) (B5 (CY K) (AJ BU)))) (AG 5))
theorem zbo:type_of%(@A3 _ _ p9.eq_1):=rfl
def qA:RT:=λK a E E1=>(AS (AC (AY K) BP (AC CA (AN K AX 2) (B5 (CY K) (AJ BP)))) (AG 6))
theorem zbp:type_of%(@A3 _ _ qA.eq_1):=rfl
def qB:RT:=λK a E E1=>(AS (CV (BN (AC (AY K) AQ (AC N9 (B5 (CY K) (AJ (AN K AE 0))) (B5 (CY K) (AJ BU)))) DY)) (EK (AN K AE 0) B1 DD))
theorem zbq:type_of%(@A3 _ _ qB.eq_1):=rfl
def qC:RT:=λK a E E1=>(AS C6 (EK (AN K AE 3) DY DD))
theorem zbr:type_of%(@A3 _ _ qC.eq_1):=rfl
def qD:RT:=λK a E E1=>(A5 (CV (BN (tC (.str "lost")) B1)))
theorem zbs:type_of%(@A3 _ _ qD.eq_1):=rfl
def aD(K:FK)(a:Ad)(E:XE):TS:=(AF (pY K a E E) (AF (pZ K a E E) (AF (p8 K a E E) (AF (p9 K a E E) (AF (qA K a E E) (AF (qB K a E E) (AF (qC K a E E) (qD K a E E))))))))
def qE:RT:=λK a E E1=>(A5 (AC (BT K) (AC (BT K) (BE (UD K a) [] E (AJ AE)) (BE (UE K a) [] E (AJ AE))) (BE (UF K a) [] E (AJ AE))))
theorem zbt:type_of%(@A3 _ _ qE.eq_1):=rfl
def aE(K:FK)(a:Ad)(E:XE):TS:=(qE K a E E)
def qF:RT:=λK a E E1=>(A5 (AC (BT K) (AC (BT K) (BE (UG K a) [] E (AJ AE)) (BE (UH K a) [] E (AJ AE))) (BE (UI K a) [] E (AJ AE))))
theorem zbu:type_of%(@A3 _ _ qF.eq_1):=rfl
def aF(K:FK)(a:Ad)(E:XE):TS:=(qF K a E E)
def qG:RT:=λK a E E1=>(A5 (B6 (DV K AQ) (GH K 2 (DQ (AG 0) (DQ (AG 1) GG))) DL (AC (AY K) (BC (a "Plank") "read" (G8 K a) [] (λ_=>E0) AX (AJ AE)) AQ) 2 [0]))
theorem zbv:type_of%(@A3 _ _ qG.eq_1):=rfl
def aG(K:FK)(a:Ad)(E:XE):TS:=(qG K a E E)
def qH:RT:=λK a E E1=>(AS (BC (a "Layout") "record_at" (KY K a) [] E AE (AJ (AN K AX 1))) (AG 3))
theorem zbw:type_of%(@A3 _ _ qH.eq_1):=rfl
def qI:RT:=λK a E E1=>(A5 (OF [ (BU ,(CV (BN (AN K AX 2) (AN K (AC (AY K) (BC (a "Plank") "read" (G8 K a) [] E AQ (AJ (AN K BU 0))) (AN K BU 1)) 1)))) ]))
theorem zbx:type_of%(@A3 _ _ qI.eq_1):=rfl
def qJ:RT:=λK a E E1=>(B9 (A7 (AC (CD K) (AN K AX 0) (tC (.str "many")))) (AF (qH K a E E) (qI K a E E)) CH)
theorem VB:type_of%(@A3 _ _ qJ.eq_1):=rfl
def qK:RT:=λK a E E1=>(A5 (OF [ ((BC (a "Layout") "record_mark" (MV K a) [] E AE (AJ (AN K AX 1))) ,DX) ]))
theorem zby:type_of%(@A3 _ _ qK.eq_1):=rfl
def qL:RT:=λK a E E1=>(B9 (A7 (AC (CD K) (AN K AX 0) (tC (.str "marked")))) (qK K a E E) CH)
theorem aH:type_of%(@A3 _ _ qL.eq_1):=rfl
def qM:RT:=λK a E E1=>(A5 (OF [ ((BC (a "Layout") "record_at" (KY K a) [] E AE (AJ (AN K AX 2))) ,(tC .non)) ,((BC (a "Layout") "record_mark" (MV K a) [] E AE (AJ (AN K AX 2))) ,DX) ]))
theorem zbz:type_of%(@A3 _ _ qM.eq_1):=rfl
def qN:RT:=λK a E E1=>(B9 (A7 (AC (CD K) (AN K AX 1) (tC (.str "record")))) (qM K a E E) CH)
theorem qO:type_of%(@A3 _ _ qN.eq_1):=rfl
def qP:RT:=λK a E E1=>(A5 (OF [ ((BC (a "Layout") "piece_mark" (ON K a) [] E AE (AJ (AN K AX 2))) ,DX) ]))
theorem zb0:type_of%(@A3 _ _ qP.eq_1):=rfl
def PD(K:FK)(a:Ad)(E:XE):TS:=(AF (qJ K a E E) (AF (qL K a E E) (AF (qN K a E E) (qP K a E E))))
def qQ:RT:=λK a E E1=>(AS (BC (a "Plank") "read" (G8 K a) [] E AE (AJ AX)) (AG 3))
theorem zb1:type_of%(@A3 _ _ qQ.eq_1):=rfl
def qR:RT:=λK a E E1=>(AS (B6 (IL K (AJ BU)) (GH K 2 (DQ (AG 0) (DQ (AG 1) GG))) DL (XF AX (CV (BN BU AE)) AQ) 2 [1,2]) (AG 4))
theorem zb2:type_of%(@A3 _ _ qR.eq_1):=rfl
def qS:RT:=λK a E E1=>(DJ (BC (a "Plank") "write" (OI K a) [] E AE (BN AX BP)))
theorem zb3:type_of%(@A3 _ _ qS.eq_1):=rfl
def qT:RT:=λK a E E1=>(B9 (A7 (AC (DH K) BP BU)) (qS K a E E) CH)
theorem zb4:type_of%(@A3 _ _ qT.eq_1):=rfl
def qU:RT:=λK a E E1=>(FA (DR (AJ (BC (a "Plank") "blocks" (IM K a) [] E AE BI))) (AG 2) (AF (qQ K a E E) (AF (qR K a E E) (qT K a E E))))
theorem zb5:type_of%(@A3 _ _ qU.eq_1):=rfl
def aI(K:FK)(a:Ad)(E:XE):TS:=(qU K a E E)
def qV:RT:=λK a E E1=>(DJ (BC (a "Hold") "ask_for_place" (U0 K a) [] E AE (AJ AQ)))
theorem zb6:type_of%(@A3 _ _ qV.eq_1):=rfl
def qW:RT:=λK a E E1=>(A5 (XD (BR K AE "latest") AQ))
theorem zb7:type_of%(@A3 _ _ qW.eq_1):=rfl
def aJ(K:FK)(a:Ad)(E:XE):TS:=(AF (qV K a E E) (qW K a E E))
def qX:RT:=λK a E E1=>(A5 (JM (a "Plank") (T7 K a) [] E (BN (BC (a "Layout") "blocks" (UB K a) [] E AE BI) (BR K AE "width"))))
theorem zb8:type_of%(@A3 _ _ qX.eq_1):=rfl
def aK(K:FK)(a:Ad)(E:XE):TS:=(qX K a E E)
def qY:RT:=λK a E E1=>(AS (CQ BI) (AG 3))
theorem zb9:type_of%(@A3 _ _ qY.eq_1):=rfl
def qZ:RT:=λK a E E1=>(AS (BE (O3 K a) [] E (AJ AE)) (AG 5))
theorem zca:type_of%(@A3 _ _ qZ.eq_1):=rfl
def rA:RT:=λK a E E1=>(AS (AC (AY K) B1 (AC CA (AC (AY K) AQ BP) (B5 (CY K) (AJ B1)))) (AG 6))
theorem zcb:type_of%(@A3 _ _ rA.eq_1):=rfl
def rB:RT:=λK a E E1=>(AS (BE (O0 K a) [] E (AJ (AC HJ (AC (AY K) AQ BP) K1))) (EK (AN K AE 2) DY DD))
theorem zcc:type_of%(@A3 _ _ rB.eq_1):=rfl
def rC:RT:=λK a E E1=>(AS C6 (EK (AN K AE 4) DY DD))
theorem zcd:type_of%(@A3 _ _ rC.eq_1):=rfl
def rD:RT:=λK a E E1=>(DJ (G4 K "list" LQ BU (AJ DY)))
theorem zce:type_of%(@A3 _ _ rD.eq_1):=rfl
def rE:RT:=λK a E E1=>(B9 (A7 (AC (DH K) B1 (CQ BI))) (AF (rA K a E E) (AF (rB K a E E) (AF (rC K a E E) (rD K a E E)))) CH)
theorem zcf:type_of%(@A3 _ _ rE.eq_1):=rfl
def rF:RT:=λK a E E1=>(FA (DR (AJ AX)) (AG 4) (AF (qZ K a E E) (rE K a E E)))
theorem zcg:type_of%(@A3 _ _ rF.eq_1):=rfl
def rG:RT:=λK a E E1=>(A5 (B5 (RB K) (AJ BU)))
theorem zch:type_of%(@A3 _ _ rG.eq_1):=rfl
def aL(K:FK)(a:Ad)(E:XE):TS:=(AF (qY K a E E) (AF (rF K a E E) (rG K a E E)))
def rH:RT:=λK a E E1=>(AS (BE (O1 K a) [] E (AJ AE)) (AG 3))
theorem zci:type_of%(@A3 _ _ rH.eq_1):=rfl
def rJ:RT:=λK a E E1=>(AS (B6 (DR (AJ (B5 (CY K) (AJ BU)))) (AG 0) (A7 (AC KP (AC (AY K) AQ AE) DX)) AE 1 [3]) (AG 4))
theorem zcj:type_of%(@A3 _ _ rJ.eq_1):=rfl
def rK:RT:=λK a E E1=>(AS (AC (AY K) BP (AC CA (AN K AX 0) (B5 (CY K) (AJ BP)))) (AG 5))
theorem zck:type_of%(@A3 _ _ rK.eq_1):=rfl
def rM:RT:=λK a E E1=>(AS (CV (BN (AC (BT K) (AN K (AC (AY K) (AN K AE 1) B1) 0) C6) (AN K (AC (AY K) (AN K AE 1) B1) 1))) (EK (AN K AE 1) B1 DD))
theorem zcl:type_of%(@A3 _ _ rM.eq_1):=rfl
def rN:RT:=λK a E E1=>(DJ (BE (O4 K a) [] E (JW AE AQ B1 (AN K AX 1))))
theorem zcm:type_of%(@A3 _ _ rN.eq_1):=rfl
def rO:RT:=λK a E E1=>(B9 (JL (A7 (AC (DH K) BP (CQ BI))) (A7 (AC (DH K) (BE (IR K a) [] E (AJ AE)) (CQ BI)))) (AF (rK K a E E) (AF (rM K a E E) (rN K a E E))) CH)
theorem zcn:type_of%(@A3 _ _ rO.eq_1):=rfl
def aM(K:FK)(a:Ad)(E:XE):TS:=(AF (rH K a E E) (AF (rJ K a E E) (rO K a E E)))
def rP:RT:=λK a E E1=>(AS (BE (O2 K a) [] E (AJ AE)) (AG 3))
theorem zco:type_of%(@A3 _ _ rP.eq_1):=rfl
def rQ:RT:=λK a E E1=>(AS (BE (O3 K a) [] E (AJ AE)) (AG 4))
theorem zcp:type_of%(@A3 _ _ rQ.eq_1):=rfl
def rR:RT:=λK a E E1=>(AS C6 (EK (AN K AE 3) (AC (AY K) BU (AC CA (AN K AX 0) (B5 (CY K) (AJ BU)))) DD))
theorem zcq:type_of%(@A3 _ _ rR.eq_1):=rfl
def rS:RT:=λK a E E1=>(B9 (JL (A7 (AC (CD K) AQ M3)) (A7 (AC (DH K) BU (CQ BI)))) (rR K a E E) CH)
theorem zcr:type_of%(@A3 _ _ rS.eq_1):=rfl
def rT:RT:=λK a E E1=>(AS (AC (AY K) BP (AC CA (AN K AX 0) (B5 (CY K) (AJ BP)))) (AG 5))
theorem zcs:type_of%(@A3 _ _ rT.eq_1):=rfl
def rV:RT:=λK a E E1=>(AS C6 (EK (AN K AE 4) B1 DD))
theorem zct:type_of%(@A3 _ _ rV.eq_1):=rfl
def rW:RT:=λK a E E1=>(DJ (G4 K "list" LQ (AN K AE 5) (AJ B1)))
theorem zcu:type_of%(@A3 _ _ rW.eq_1):=rfl
def aN:RT:=λK a E E1=>(B9 (JL (A7 (AC (CD K) AQ YZ)) (A7 (AC (DH K) BP (CQ BI)))) (AF (rT K a E E) (AF (rV K a E E) (rW K a E E))) CH)
theorem rX:type_of%(@A3 _ _ aN.eq_1):=rfl
def rY:RT:=λK a E E1=>(AS (AC (AY K) BP (AC CA (AN K AX 0) (B5 (CY K) (AJ BP)))) (AG 5))
theorem zcv:type_of%(@A3 _ _ rY.eq_1):=rfl
def rZ:RT:=λK a E E1=>(AS (BE (O0 K a) [] E (AJ (AN K AX 1))) (EK (AN K AE 2) B1 DD))
theorem zcw:type_of%(@A3 _ _ rZ.eq_1):=rfl
def r8:RT:=λK a E E1=>(AS (AC (AY K) (CQ (BN DX (tC .non))) (AC CA (AN K AX 2) HP)) (EK (AN K AE 4) B1 DD))
theorem zcx:type_of%(@A3 _ _ r8.eq_1):=rfl
def RV:RT:=λK a E E1=>(B9 (JL (A7 (AC (CD K) AQ K1)) (A7 (AC (DH K) BP (CQ BI)))) (AF (rY K a E E) (AF (rZ K a E E) (r8 K a E E))) CH)
theorem sA:type_of%(@A3 _ _ RV.eq_1):=rfl
def aO(K:FK)(a:Ad)(E:XE):TS:=(AF (rP K a E E) (AF (rQ K a E E) (AF (rS K a E E) (AF (aN K a E E) (RV K a E E)))))
def sB:RT:=λK a E E1=>(AS (BE (IR K a) [] E (AJ AE)) (AG 3))
theorem zcy:type_of%(@A3 _ _ sB.eq_1):=rfl
def sC:RT:=λK a E E1=>(AS (B6 (DR (AJ (B5 (CY K) (AJ (AN K AE 0))))) (AG 0) (A7 (AC G7 (AC (AY K) (AN K AQ 0) AE) (tC .non))) AE 1 [0]) (AG 4))
theorem zcz:type_of%(@A3 _ _ sC.eq_1):=rfl
def sD:RT:=λK a E E1=>(A5 (BE (HN K a) [] E (EI AE AQ AX)))
theorem sE:type_of%(@A3 _ _ sD.eq_1):=rfl
def sF:RT:=λK a E E1=>(B9 (KH (A7 (AC (CD K) BU (CQ BI))) (A7 (AC (CD K) BP (CQ BI)))) (sD K a E E) CH)
theorem zc0:type_of%(@A3 _ _ sF.eq_1):=rfl
def sG:RT:=λK a E E1=>(AS (AC (AY K) BU (AC CA (AN K AX 1) (B5 (CY K) (AJ BU)))) (AG 5))
theorem zc1:type_of%(@A3 _ _ sG.eq_1):=rfl
def sI:RT:=λK a E E1=>(AS (AC (AY K) BP (AC CA (AN K AX 2) (B5 (CY K) (AJ BP)))) (AG 6))
theorem zc2:type_of%(@A3 _ _ sI.eq_1):=rfl
def sJ:RT:=λK a E E1=>(AS (AN K (AC (AY K) (AN K AE 0) DY) 1) (AG 7))
theorem zc3:type_of%(@A3 _ _ sJ.eq_1):=rfl
def sK:RT:=λK a E E1=>(AS (AC (AY K) (AN K AE 0) DY) (EK (AN K AE 0) B1 DD))
theorem zc4:type_of%(@A3 _ _ sK.eq_1):=rfl
def sL:RT:=λK a E E1=>(AS (CV (BN (AC (BT K) (AN K (AC (AY K) (AN K AE 1) M4) 0) C6) (AN K (AC (AY K) (AN K AE 1) M4) 1))) (EK (AN K AE 1) M4 DD))
theorem zc5:type_of%(@A3 _ _ sL.eq_1):=rfl
def sM:RT:=λK a E E1=>(A5 (CV (BN (tC (.str "twice")) (B5 (XV K) (BN DY B1)))))
theorem zc6:type_of%(@A3 _ _ sM.eq_1):=rfl
def aP(K:FK)(a:Ad)(E:XE):TS:=(AF (sB K a E E) (AF (sC K a E E) (AF (sF K a E E) (AF (sG K a E E) (AF (sI K a E E) (AF (sJ K a E E) (AF (sK K a E E) (AF (sL K a E E) (sM K a E E)))))))))
def sO:RT:=λK a E E1=>(AS (B6 (DR (AJ (B5 (CY K) (AJ (AN K AE 1))))) (AG 0) (A7 (AC G7 (AC (AY K) (AN K AQ 1) AE) (tC .non))) AE 1 [0]) (AG 3))
theorem zc7:type_of%(@A3 _ _ sO.eq_1):=rfl
def sP:RT:=λK a E E1=>(AS (CQ BI) (AG 4))
theorem zc8:type_of%(@A3 _ _ sP.eq_1):=rfl
def sQ:RT:=λK a E E1=>(AS (AC (BT K) BP (B5 (MT K) (AJ (AN K (AC (AY K) (AN K AE 1) B1) 1)))) (AG 4))
theorem zc9:type_of%(@A3 _ _ sQ.eq_1):=rfl
def sR:RT:=λK a E E1=>(FA (DV K BU) (AG 5) (sQ K a E E))
theorem zda:type_of%(@A3 _ _ sR.eq_1):=rfl
def sT:RT:=λK a E E1=>(A5 (BE (HN K a) [] E (EI AE AQ AX)))
theorem zdb:type_of%(@A3 _ _ sT.eq_1):=rfl
def sU:RT:=λK a E E1=>(B9 (A7 (AC (CD K) BP (CQ BI))) (sT K a E E) CH)
theorem zdc:type_of%(@A3 _ _ sU.eq_1):=rfl
def sV:RT:=λK a E E1=>(AS (AC (AY K) BP (AC CA (AN K AX 1) (B5 (CY K) (AJ BP)))) (AG 6))
theorem zdd:type_of%(@A3 _ _ sV.eq_1):=rfl
def sW:RT:=λK a E E1=>(AS (AC (AY K) BU (AC CA (AN K AX 2) (B5 (CY K) (AJ BU)))) (AG 5))
theorem zde:type_of%(@A3 _ _ sW.eq_1):=rfl
def sX:RT:=λK a E E1=>(AS (CV (BN (AN K (AC (AY K) (AN K AE 1) B1) 0) (AC (BT K) (AN K (AC (AY K) (AN K AE 1) B1) 1) (CV (AJ DY))))) (EK (AN K AE 1) B1 DD))
theorem zdf:type_of%(@A3 _ _ sX.eq_1):=rfl
def sY:RT:=λK a E E1=>(A5 (CV (BN (tC (.str "shared")) DY)))
theorem zdg:type_of%(@A3 _ _ sY.eq_1):=rfl
def sZ:RT:=λK a E E1=>(B9 (A7 (AC (CD K) (AC CA (AN K AX 0) K1) HP)) (AF (sW K a E E) (AF (sX K a E E) (sY K a E E))) CH)
theorem zdh:type_of%(@A3 _ _ sZ.eq_1):=rfl
def tD:RT:=λK a E E1=>(AS (tC .non) (EK (AN K AE 2) DY DD))
theorem zdi:type_of%(@A3 _ _ tD.eq_1):=rfl
def tE:RT:=λK a E E1=>(A5 (CV (BN (tC (.str "empty")) DY)))
theorem zdj:type_of%(@A3 _ _ tE.eq_1):=rfl
def tF:RT:=λK a E E1=>(B9 (A7 (AC (CD K) (AC CA (AN K AX 0) K1) GY)) (AF (tD K a E E) (tE K a E E)) CH)
theorem zdk:type_of%(@A3 _ _ tF.eq_1):=rfl
def tG:RT:=λK a E E1=>(AS (AC (AY K) (CQ (BN DX (tC .non))) (AC CA (AN K AX 2) HP)) (EK (AN K AE 4) DY DD))
theorem zdl:type_of%(@A3 _ _ tG.eq_1):=rfl
def tH:RT:=λK a E E1=>(A5 (CV (EI (tC (.str "free")) (tC (.str "piece")) DY)))
theorem zdm:type_of%(@A3 _ _ tH.eq_1):=rfl
def aQ(K:FK)(a:Ad)(E:XE):TS:=(AF (sO K a E E) (AF (sP K a E E) (AF (sR K a E E) (AF (sU K a E E) (AF (sV K a E E) (AF (sZ K a E E) (AF (tF K a E E) (AF (tG K a E E) (tH K a E E)))))))))
def tI:RT:=λK a E E1=>(AS (BE (O1 K a) [] E (AJ AE)) (AG 3))
theorem zdn:type_of%(@A3 _ _ tI.eq_1):=rfl
def tJ:RT:=λK a E E1=>(AS (AC (BT K) C6 (B5 (RC K) (AJ (AC (CD K) (AC CA (AN K AX 0) K1) RU)))) (AG 4))
theorem zdo:type_of%(@A3 _ _ tJ.eq_1):=rfl
def tK:RT:=λK a E E1=>(AS (B6 (DR (AJ (B5 (CY K) (AJ BU)))) (AG 0) (A7 (AC TU (AC (AY K) AQ AE) AX)) AE 1 [3,4]) (AG 5))
theorem zdp:type_of%(@A3 _ _ tK.eq_1):=rfl
def tL:RT:=λK a E E1=>(A5 (BE (HN K a) [] E (EI AE AQ AX)))
theorem zdq:type_of%(@A3 _ _ tL.eq_1):=rfl
def tM:RT:=λK a E E1=>(B9 (A7 (AC (CD K) B1 (CQ BI))) (tL K a E E) CH)
theorem zdr:type_of%(@A3 _ _ tM.eq_1):=rfl
def tN:RT:=λK a E E1=>(AS (AC (AY K) B1 (AC CA (AN K AX 1) (B5 (CY K) (AJ B1)))) (AG 6))
theorem zds:type_of%(@A3 _ _ tN.eq_1):=rfl
def tO:RT:=λK a E E1=>(AS (CV (BN C6 (AN K (AC (AY K) (AN K AE 1) DY) 1))) (EK (AN K AE 1) DY DD))
theorem zdt:type_of%(@A3 _ _ tO.eq_1):=rfl
def tP:RT:=λK a E E1=>(A5 (CV (BN (tC (.str "few")) DY)))
theorem zdu:type_of%(@A3 _ _ tP.eq_1):=rfl
def tQ:RT:=λK a E E1=>(B9 (A7 (AC (CD K) BP HP)) (AF (tO K a E E) (tP K a E E)) CH)
theorem zdv:type_of%(@A3 _ _ tQ.eq_1):=rfl
def tR:RT:=λK a E E1=>(AS (AC (AY K) (CQ (BN DX (tC .non))) (AC CA (AN K AX 2) HP)) (EK (AN K AE 3) DY DD))
theorem zdw:type_of%(@A3 _ _ tR.eq_1):=rfl
def tS:RT:=λK a E E1=>(A5 (CV (EI (tC (.str "free")) (tC (.str "record")) DY)))
theorem zdx:type_of%(@A3 _ _ tS.eq_1):=rfl
def aR(K:FK)(a:Ad)(E:XE):TS:=(AF (tI K a E E) (AF (tJ K a E E) (AF (tK K a E E) (AF (tM K a E E) (AF (tN K a E E) (AF (tQ K a E E) (AF (tR K a E E) (tS K a E E))))))))
def tT:RT:=λK a E E1=>(AS (AC (BT K) (AC (BT K) (AC (BT K) (AC (BT K) (AN K AQ 0) (AN K AQ 1)) (AN K AQ 2)) (AN K AQ 3)) (AN K AQ 4)) (AG 3))
theorem zdy:type_of%(@A3 _ _ tT.eq_1):=rfl
def tU:RT:=λK a E E1=>(DJ (BC (a "Plank") "write" (OI K a) [] E AE (BN (AC HJ BP AX) (N0 (MS K) BU (LJ BP) (LJ (AC (BT K) BP AX))))))
theorem zdz:type_of%(@A3 _ _ tU.eq_1):=rfl
def tV:RT:=λK a E E1=>(FA (T1 (EI DX (B5 (CY K) (AJ BU)) AX)) (AG 4) (tU K a E E))
theorem zd0:type_of%(@A3 _ _ tV.eq_1):=rfl
def aS(K:FK)(a:Ad)(E:XE):TS:=(AF (tT K a E E) (tV K a E E))
def tW:RT:=λK a E E1=>(AS (BC (a "Layout") "counts" (OO K a) [] E AQ BI) (AG 3))
theorem zd1:type_of%(@A3 _ _ tW.eq_1):=rfl
def tX:RT:=λK a E E1=>(AS (AN K BU 1) (AG 4))
theorem zd2:type_of%(@A3 _ _ tX.eq_1):=rfl
def tY:RT:=λK a E E1=>(AS (AN K BU 2) (AG 5))
theorem zd3:type_of%(@A3 _ _ tY.eq_1):=rfl
def tZ:RT:=λK a E E1=>(EL K AE (BE (KZ K a) [] E (BN AX (B6 (DR (AJ (AN K BU 0))) (AG 0) DL (BC (a "Layout") "name_at" (OL K a) [] (λ_=>E0) AQ (AJ AE)) 1 [1]))) "name_values")
theorem zd4:type_of%(@A3 _ _ tZ.eq_1):=rfl
def t5:RT:=λK a E E1=>(EL K AE (BE (KZ K a) [] E (BN AX (B6 (DR (AJ BP)) (AG 0) DL (BC (a "Layout") "record_at" (KY K a) [] (λ_=>E0) AQ (AJ AE)) 1 [1]))) "record_values")
theorem zd5:type_of%(@A3 _ _ t5.eq_1):=rfl
def t7:RT:=λK a E E1=>(EL K AE (BE (KZ K a) [] E (BN AX (B6 (DR (AJ B1)) (AG 0) DL (BC (a "Layout") "piece_at" (OM K a) [] (λ_=>E0) AQ (AJ AE)) 1 [1]))) "piece_values")
theorem zd6:type_of%(@A3 _ _ t7.eq_1):=rfl
def t9:RT:=λK a E E1=>(EL K AE (BE (KZ K a) [] E (BN AX (B6 (DR (AJ BP)) (AG 0) DL (BC (a "Layout") "record_mark" (MV K a) [] (λ_=>E0) AQ (AJ AE)) 1 [1]))) "record_marks")
theorem zd7:type_of%(@A3 _ _ t9.eq_1):=rfl
def uA:RT:=λK a E E1=>(EL K AE (BE (KZ K a) [] E (BN AX (B6 (DR (AJ B1)) (AG 0) DL (BC (a "Layout") "piece_mark" (ON K a) [] (λ_=>E0) AQ (AJ AE)) 1 [1]))) "piece_marks")
theorem zd8:type_of%(@A3 _ _ uA.eq_1):=rfl
def uB:RT:=λK a E E1=>(EL K AE (BE (OV K a) [] E (BN BP (B6 (DV K (BR K AE "name_values")) (AG 0) (A7 (AC G7 AE (tC .non))) (AN K AE 1) 1 []))) "leads")
theorem zd9:type_of%(@A3 _ _ uB.eq_1):=rfl
def uC:RT:=λK a E E1=>(EL K AE (BE (OV K a) [] E (BN B1 (BE (RJ K a) [] E (AJ (BR K AE "record_values"))))) "namings")
theorem zea:type_of%(@A3 _ _ uC.eq_1):=rfl
def uD:RT:=λK a E E1=>(EL K AE (BE (OV K a) [] E (BN B1 (BE (RJ K a) [] E (AJ (BC (a "View") "records_led_to" (UC K a) [] E AE BI))))) "reached")
theorem zeb:type_of%(@A3 _ _ uD.eq_1):=rfl
def aT(K:FK)(a:Ad)(E:XE):TS:=(AF (tW K a E E) (AF (tX K a E E) (AF (tY K a E E) (AF (tZ K a E E) (AF (t5 K a E E) (AF (t7 K a E E) (AF (t9 K a E E) (AF (uA K a E E) (AF (uB K a E E) (AF (uC K a E E) (uD K a E E)))))))))))
def uE:RT:=λK a E E1=>(AS (BC (a "Hold") "newest" (U1 K a) [] E AE (AJ AQ)) (AG 2))
theorem zec:type_of%(@A3 _ _ uE.eq_1):=rfl
def uF:RT:=λK a E E1=>(A5 (AC (AY K) (BC (a "Plank") "read" (G8 K a) [] E (BR K AE "ground") (AJ (AN K AQ 0))) (AN K AQ 1)))
theorem zed:type_of%(@A3 _ _ uF.eq_1):=rfl
def uG:RT:=λK a E E1=>(B9 (A7 (AC HK AX (tC .non))) (uF K a E E) CH)
theorem zee:type_of%(@A3 _ _ uG.eq_1):=rfl
def uH:RT:=λK a E E1=>(A5 (BR K (AC (AY K) (BR K AE "made") AX) "value"))
theorem zef:type_of%(@A3 _ _ uH.eq_1):=rfl
def aU(K:FK)(a:Ad)(E:XE):TS:=(AF (uE K a E E) (AF (uG K a E E) (uH K a E E)))
def uI:RT:=λK a E E1=>(EL K AE AQ "plan")
theorem zeg:type_of%(@A3 _ _ uI.eq_1):=rfl
def uJ:RT:=λK a E E1=>(EL K AE (JM (a "Hold") (UZ K a) [] E (AJ AX)) "book")
theorem zeh:type_of%(@A3 _ _ uJ.eq_1):=rfl
def uK:RT:=λK a E E1=>(EL K AE Q6 "taken_out")
theorem zei:type_of%(@A3 _ _ uK.eq_1):=rfl
def aV(K:FK)(a:Ad)(E:XE):TS:=(AF (uI K a E E) (AF (uJ K a E E) (uK K a E E)))
def uL:RT:=λK a E E1=>(AS (BE (O2 K a) [] E (AJ AE)) (AG 4))
theorem zej:type_of%(@A3 _ _ uL.eq_1):=rfl
def uM:RT:=λK a E E1=>WJ
theorem uN:type_of%(@A3 _ _ uM.eq_1):=rfl
def uO:RT:=λK a E E1=>(B9 (KH (A7 (AC (CD K) BP (CQ BI))) (JL (OC K BU) (A7 (AC (CD K) (BE (IR K a) [] E (AJ AE)) (CQ BI))))) (uM K a E E) CH)
theorem zek:type_of%(@A3 _ _ uO.eq_1):=rfl
def aW:RT:=λK a E E1=>(AS (AC (AY K) BP (AC CA (AN K AX 0) (B5 (CY K) (AJ BP)))) (AG 5))
theorem zel:type_of%(@A3 _ _ aW.eq_1):=rfl
def aX:RT:=λK a E E1=>(AS (BE (UO K a) [] E (EI AE (N0 (MS K) AX (LJ RU) (LJ K1)) (AC CA (AN K AX 1) RU))) (AG 6))
theorem zem:type_of%(@A3 _ _ aX.eq_1):=rfl
def uP:RT:=λK a E E1=>(AS (CV (BN (AC (BT K) C6 (AC (AY K) (CQ (DZ DX (JW DX C6 HP (AC N9 (AC jW (FZ 10) (FZ 30)) (FZ 40))))) (AC CA (AN K AX 2) YZ))) DY)) (EK (AN K AE 1) B1 DD))
theorem zen:type_of%(@A3 _ _ uP.eq_1):=rfl
def aY:RT:=λK a E E1=>(AS C6 (EK (AN K AE 3) B1 DD))
theorem zeo:type_of%(@A3 _ _ aY.eq_1):=rfl
def aZ:RT:=λK a E E1=>(DJ (BE (O4 K a) [] E (JW AE AQ B1 (AN K AX 3))))
theorem zep:type_of%(@A3 _ _ aZ.eq_1):=rfl
def uQ:RT:=λK a E E1=>(AS (CV (BN (AC (BT K) C6 (AC CA (AN K AX 2) GY)) DY)) (EK (AN K AE 1) B1 DD))
theorem zeq:type_of%(@A3 _ _ uQ.eq_1):=rfl
def uR:RT:=λK a E E1=>(AS (AC (AY K) (CQ (JW C6 C6 DX (tC .non))) (AC CA (AC HJ (AN K AX 2) GY) RU)) (EK (AN K AE 3) B1 DD))
theorem zer:type_of%(@A3 _ _ uR.eq_1):=rfl
def bA:RT:=λK a E E1=>(DJ (G4 K "list" Kg (AN K AE 5) (AJ (B5 (MT K) (AJ DY)))))
theorem zes:type_of%(@A3 _ _ bA.eq_1):=rfl
def bB:RT:=λK a E E1=>(B9 (OC K BU) (AF (uP K a E E) (AF (aY K a E E) (aZ K a E E))) (AF (uQ K a E E) (AF (uR K a E E) (bA K a E E))))
theorem zet:type_of%(@A3 _ _ bB.eq_1):=rfl
def bC(K:FK)(a:Ad)(E:XE):TS:=(AF (uL K a E E) (AF (uO K a E E) (AF (aW K a E E) (AF (aX K a E E) (bB K a E E)))))
def uS:RT:=λK a E E1=>(AS (AC CA (AN K AX 0) K1) (AG 3))
theorem zeu:type_of%(@A3 _ _ uS.eq_1):=rfl
def uT:RT:=λK a E E1=>(A5 (BE (HN K a) [] E (EI AE AQ AX)))
theorem zev:type_of%(@A3 _ _ uT.eq_1):=rfl
def uU:RT:=λK a E E1=>(B9 (A7 (AC (CD K) BU DX)) (uT K a E E) CH)
theorem zew:type_of%(@A3 _ _ uU.eq_1):=rfl
def uV:RT:=λK a E E1=>(A5 (BE (UT K a) [] E (EI AE AQ AX)))
theorem zex:type_of%(@A3 _ _ uV.eq_1):=rfl
def uW:RT:=λK a E E1=>(B9 (A7 (AC (CD K) BU C6)) (uV K a E E) CH)
theorem zey:type_of%(@A3 _ _ uW.eq_1):=rfl
def uX:RT:=λK a E E1=>(A5 (BE (UU K a) [] E (EI AE AQ AX)))
theorem zez:type_of%(@A3 _ _ uX.eq_1):=rfl
def uY:RT:=λK a E E1=>(B9 (A7 (AC (XW K) BU (CV (EI HP GY M3)))) (uX K a E E) CH)
theorem ze0:type_of%(@A3 _ _ uY.eq_1):=rfl
def uZ:RT:=λK a E E1=>(A5 (BE (UV K a) [] E (EI AE AQ AX)))
theorem ze1:type_of%(@A3 _ _ uZ.eq_1):=rfl
def bD(K:FK)(a:Ad)(E:XE):TS:=(AF (uS K a E E) (AF (uU K a E E) (AF (uW K a E E) (AF (uY K a E E) (uZ K a E E)))))
def u7:RT:=λK a E E1=>(A5 (B6 (DR (AJ (AN K (BC (a "Layout") "counts" (OO K a) [] E (BR K AE "plan") BI) 0))) (AG 0) DL (BC (a "Hold") "in_hand" (L4 K a) [] (λ_=>E0) (BR K AQ "book") (AJ (BC (a "Layout") "name_at" (OL K a) [] (λ_=>E0) (BR K AQ "plan") (AJ AE)))) 1 [0]))
theorem ze2:type_of%(@A3 _ _ u7.eq_1):=rfl
def bE(K:FK)(a:Ad)(E:XE):TS:=(u7 K a E E)
def u8:RT:=λK a E E1=>(A5 (BC (a "Hold") "in_hand" (L4 K a) [] E (BR K AE "book") (AJ (BC (a "Layout") "record_at" (KY K a) [] E (BR K AE "plan") (AJ AQ)))))
theorem ze3:type_of%(@A3 _ _ u8.eq_1):=rfl
def bF(K:FK)(a:Ad)(E:XE):TS:=(u8 K a E E)
def u9:RT:=λK a E E1=>(AS (B6 (DV K (N0 (MS K) AQ S7 (LJ GY))) (AG 0) DL (AC (FF K) AE (AN K AQ 3)) 1 [1]) (AG 3))
theorem ze4:type_of%(@A3 _ _ u9.eq_1):=rfl
def vA:RT:=λK a E E1=>(AS (AC (BT K) (B6 (DV K (CQ (DZ DX (JW C6 HP C6 HP)))) (AG 0) DL (AC (FF K) (CQ (AJ (tC .non))) (AC (AY K) AQ AE)) 1 [3]) (CQ (AJ (CQ BI)))) (AG 4))
theorem ze5:type_of%(@A3 _ _ vA.eq_1):=rfl
def vB:RT:=λK a E E1=>(AS (BE (IQ K a) [] E (BN (AC HJ B1 K2) K1)) (AG 6))
theorem ze6:type_of%(@A3 _ _ vB.eq_1):=rfl
def vC:RT:=λK a E E1=>(DJ (BE (RM K a) [] E (JW BP AX DY (tC (.bl true)))))
theorem ze7:type_of%(@A3 _ _ vC.eq_1):=rfl
def vD:RT:=λK a E E1=>(DJ (BE (UP K a) [] E (EI BP AX DY)))
theorem ze8:type_of%(@A3 _ _ vD.eq_1):=rfl
def vE:RT:=λK a E E1=>(DJ (BE (RM K a) [] E (JW BP AX DY (tC (.bl false)))))
theorem ze9:type_of%(@A3 _ _ vE.eq_1):=rfl
def vF:RT:=λK a E E1=>(DJ (BE (UQ K a) [] E (EI BP (AC CA B1 K2) DY)))
theorem zfa:type_of%(@A3 _ _ vF.eq_1):=rfl
def vG:RT:=λK a E E1=>(B9 (A7 (AC (CD K) (AC CA B1 K2) RU)) (vE K a E E) (vF K a E E))
theorem zfb:type_of%(@A3 _ _ vG.eq_1):=rfl
def vH:RT:=λK a E E1=>(B9 (A7 (AC (CD K) (AC CA B1 K2) GY)) (vD K a E E) (vG K a E E))
theorem zfc:type_of%(@A3 _ _ vH.eq_1):=rfl
def vI:RT:=λK a E E1=>(B9 (A7 (AC JQ (AC CA B1 K2) GY)) (vC K a E E) (vH K a E E))
theorem zfd:type_of%(@A3 _ _ vI.eq_1):=rfl
def vJ:RT:=λK a E E1=>(FA (DV K AE) (AG 5) (AF (vB K a E E) (vI K a E E)))
theorem zfe:type_of%(@A3 _ _ vJ.eq_1):=rfl
def vK:RT:=λK a E E1=>(A5 BP)
theorem zff:type_of%(@A3 _ _ vK.eq_1):=rfl
def bG(K:FK)(a:Ad)(E:XE):TS:=(AF (u9 K a E E) (AF (vA K a E E) (AF (vJ K a E E) (vK K a E E))))
def vL:RT:=λK a E E1=>(AS (JM (a "View") (MY K a) [] E (BN AE AQ)) (AG 2))
theorem zfg:type_of%(@A3 _ _ vL.eq_1):=rfl
def vM:RT:=λK a E E1=>(A5 (AC (BT K) (BE (OY K a) [] E (AJ AX)) (BE (UJ K a) [] E (AJ AX))))
theorem zfh:type_of%(@A3 _ _ vM.eq_1):=rfl
def bH(K:FK)(a:Ad)(E:XE):TS:=(AF (vL K a E E) (vM K a E E))
def vN:RT:=λK a E E1=>(A5 (AC (CD K) (B5 (CY K) (AJ (BE (OY K a) [] E (AJ (JM (a "View") (MY K a) [] E (BN AE AQ)))))) DX))
theorem zfi:type_of%(@A3 _ _ vN.eq_1):=rfl
def bI(K:FK)(a:Ad)(E:XE):TS:=(vN K a E E)
def vO:RT:=λK a E E1=>(A5 (B5 (X8 K) (AJ (B6 (DV K (BC (a "Store") "name_cells" (K0 K a) [] E AE BI)) (AG 0) (A7 (AC G7 AE (tC .non))) (AN K AE 0) 1 []))))
theorem zfj:type_of%(@A3 _ _ vO.eq_1):=rfl
def bJ(K:FK)(a:Ad)(E:XE):TS:=(vO K a E E)
def vP:RT:=λK a E E1=>(A5 AX)
theorem zfk:type_of%(@A3 _ _ vP.eq_1):=rfl
def vQ:RT:=λK a E E1=>(B9 (JL (A7 (AC G7 BU (tC .non))) (A7 (AC (CD K) (AN K BU 0) AQ))) (vP K a E E) CH)
theorem zfl:type_of%(@A3 _ _ vQ.eq_1):=rfl
def vR:RT:=λK a E E1=>(FA (IL K (AJ (BC (a "Store") "name_cells" (K0 K a) [] E AE BI))) (GH K 2 (DQ (AG 2) (DQ (AG 3) GG))) (vQ K a E E))
theorem zfm:type_of%(@A3 _ _ vR.eq_1):=rfl
def zfn:RT:=λK a E E1=>(A5 (tC .non))
def bK(K:FK)(a:Ad)(E:XE):TS:=(AF (vR K a E E) (zfn K a E E))
def vS:RT:=λK a E E1=>(MP (a "NotSound") E (AJ (tC (.str "the plank has faults"))))
theorem zfo:type_of%(@A3 _ _ vS.eq_1):=rfl
def vT:RT:=λK a E E1=>(B9 (LE (OC K (BE (UK K a) [] E (BN AE AQ)))) (vS K a E E) CH)
theorem vU:type_of%(@A3 _ _ vT.eq_1):=rfl
def vV:RT:=λK a E E1=>(AS (BE (OZ K a) [] E (BN AE AQ)) (AG 2))
theorem zfp:type_of%(@A3 _ _ vV.eq_1):=rfl
def vW:RT:=λK a E E1=>(AS TM (AG 3))
theorem zfq:type_of%(@A3 _ _ vW.eq_1):=rfl
def vX:RT:=λK a E E1=>(DJ (G4 K "dict" kM BU (AJ (BE (UX K a) [] E (EI AE AQ BP)))))
theorem zfr:type_of%(@A3 _ _ vX.eq_1):=rfl
def vY:RT:=λK a E E1=>(FA (DV K AX) (AG 4) (vX K a E E))
theorem zfs:type_of%(@A3 _ _ vY.eq_1):=rfl
def vZ:RT:=λK a E E1=>(DJ (BE (UY K a) [] E (BN AQ BU)))
theorem zft:type_of%(@A3 _ _ vZ.eq_1):=rfl
def v6:RT:=λK a E E1=>(A5 AX)
theorem zfu:type_of%(@A3 _ _ v6.eq_1):=rfl
def RW(K:FK)(a:Ad)(E:XE):TS:=(AF (vT K a E E) (AF (vV K a E E) (AF (vW K a E E) (AF (vY K a E E) (AF (vZ K a E E) (v6 K a E E))))))
def v8:RT:=λK a E E1=>(AS (BC (a "Store") "cell_of" (RQ K a) [] E AE (AJ AQ)) (AG 2))
theorem zfv:type_of%(@A3 _ _ v8.eq_1):=rfl
def zfw:RT:=λK a E E1=>(MP (a "NoName") E (AJ (tC (.str "no such name stands"))))
def v9:RT:=λK a E E1=>(B9 (A7 (AC HK AX (tC .non))) (zfw K a E E) CH)
theorem zfx:type_of%(@A3 _ _ v9.eq_1):=rfl
def wA:RT:=λK a E E1=>(A5 (AN K (AC (AY K) (BC (a "Store") "name_cells" (K0 K a) [] E AE BI) AX) 1))
theorem zfy:type_of%(@A3 _ _ wA.eq_1):=rfl
def bL(K:FK)(a:Ad)(E:XE):TS:=(AF (v8 K a E E) (AF (v9 K a E E) (wA K a E E)))
def wB:RT:=λK a E E1=>(AS (AN K (BC (a "Store") "standing" (RS K a) [] E AE (AJ (BC (a "Store") "record_of" (RR K a) [] E AE (AJ AQ)))) 1) (AG 2))
theorem zfz:type_of%(@A3 _ _ wB.eq_1):=rfl
def wC:RT:=λK a E E1=>(A5 (B6 (DV K AX) (AG 0) DL (BC (a "Hold") "in_hand" (L4 K a) [] (λ_=>E0) (BR K AQ "book") (AJ (BC (a "Layout") "piece_at" (OM K a) [] (λ_=>E0) (BR K AQ "plan") (AJ AE)))) 1 [0]))
theorem zf0:type_of%(@A3 _ _ wC.eq_1):=rfl
def bN(K:FK)(a:Ad)(E:XE):TS:=(AF (wB K a E E) (wC K a E E))
def wD:RT:=λK a E E1=>(DJ (BE (MZ K a) [] E (BN AE AQ)))
theorem wE:type_of%(@A3 _ _ wD.eq_1):=rfl
def wF:RT:=λK a E E1=>(A5 (JM (a "Store") (M0 K a) [] E (BN AE AQ)))
theorem zf1:type_of%(@A3 _ _ wF.eq_1):=rfl
def VC(K:FK)(a:Ad)(E:XE):TS:=(AF (wD K a E E) (wF K a E E))
def wG:RT:=λK a E E1=>(AS (tC (.bl false)) (AG 2))
theorem zf2:type_of%(@A3 _ _ wG.eq_1):=rfl
def wH:RT:=λK a E E1=>(AS (tC (.bl false)) (AG 3))
theorem zf3:type_of%(@A3 _ _ wH.eq_1):=rfl
def wI:RT:=λK a E E1=>(DJ (BE (MA K a) [] E1 (BN AE AQ)))
theorem zf4:type_of%(@A3 _ _ wI.eq_1):=rfl
def wJ:RT:=λK a E E1=>(AS (QW (B5 (OD K) (BN BP (tC (.ref (a "NotSound"))))) (B5 (OD K) (BN BP (tC (.ty "ValueError"))))) (AG 2))
theorem zf5:type_of%(@A3 _ _ wJ.eq_1):=rfl
def wK:RT:=λK a E E1=>(AS (B5 (OD K) (BN BP (CV (DZ (tC (.ref (a "NoBlock"))) (DZ (tC (.ref (a "NoChange"))) (DZ (tC (.ref (a "NoName"))) (JW (tC (.ref (a "NoPiece"))) (tC (.ref (a "NoRoom"))) (tC (.ref (a "NoRow"))) (tC (.ref (a "Twice")))))))))) (AG 3))
theorem zf6:type_of%(@A3 _ _ wK.eq_1):=rfl
def wL:RT:=λK a E E1=>(XJ (λE1=>(wI K a E E1)) (jV (λcls=>W.exmOne K cls (.ref (a "HoldError"))) 4 (AF (wJ K a E E) (wK K a E E)) jU))
theorem zf7:type_of%(@A3 _ _ wL.eq_1):=rfl
def wM:RT:=λK a E E1=>(A5 (QW AX (XO K BU)))
theorem zf8:type_of%(@A3 _ _ wM.eq_1):=rfl
def bO(K:FK)(a:Ad)(E:XE):TS:=(AF (wG K a E E) (AF (wH K a E E) (AF (wL K a E E) (wM K a E E))))
def wN:RT:=λK a E E1=>(AS (BE (UL K a) [] E (AJ (BE (LX K a) [] E (BN AE DX)))) (AG 1))
theorem zf9:type_of%(@A3 _ _ wN.eq_1):=rfl
def wO:RT:=λK a E E1=>(AS (BE (UM K a) [] E (BN (BE (LX K a) [] E (BN AE C6)) (FZ 36))) (AG 2))
theorem zga:type_of%(@A3 _ _ wO.eq_1):=rfl
def wP:RT:=λK a E E1=>(AS (BE (UR K a) [] E (EI (N0 (MS K) AE (LJ GY) S7) AQ AX)) (AG 3))
theorem zgb:type_of%(@A3 _ _ wP.eq_1):=rfl
def wQ:RT:=λK a E E1=>(AS (JM (a "Layout") (RH K a) [] E (JW (AN K AQ 0) (AN K AQ 1) (AN K AQ 2) (AN K AQ 3))) (AG 4))
theorem zgc:type_of%(@A3 _ _ wQ.eq_1):=rfl
def wR:RT:=λK a E E1=>(AS (BC (a "Layout") "plank" (RI K a) [] E BP BI) (AG 5))
theorem zgd:type_of%(@A3 _ _ wR.eq_1):=rfl
def wS:RT:=λK a E E1=>(AS (BE (US K a) [] E (AJ BU)) (AG 6))
theorem zge:type_of%(@A3 _ _ wS.eq_1):=rfl
def wT:RT:=λK a E E1=>(AS (BE (UW K a) [] E (EI DY AX (BE (IQ K a) [] E (BN (BE (LX K a) [] E (BN AE HP)) GY)))) (AG 7))
theorem zgf:type_of%(@A3 _ _ wT.eq_1):=rfl
def wU:RT:=λK a E E1=>(DJ (BE (O6 K a) [] E (EI B1 DY (AN K AQ 3))))
theorem zgg:type_of%(@A3 _ _ wU.eq_1):=rfl
def wV:RT:=λK a E E1=>(AS (B6 (DR (AJ (BC (a "Plank") "blocks" (IM K a) [] E B1 BI))) (AG 0) DL (BC (a "Plank") "read" (G8 K a) [] (λ_=>E0) AQ (AJ AE)) 1 [5]) (AG 8))
theorem zgh:type_of%(@A3 _ _ wV.eq_1):=rfl
def zgi:RT:=λK a E E1=>(A5 (tC (.bl false)))
def wW:RT:=λK a E E1=>(B9 (KH (LE (OC K (BE (RN K a) [] E (BN BP B1)))) (LE (OC K (BE (RN K a) [] E (BN BP B1))))) (zgi K a E E) CH)
theorem zgj:type_of%(@A3 _ _ wW.eq_1):=rfl
def zgk:RT:=λK a E E1=>(A5 (tC (.bl false)))
def wX:RT:=λK a E E1=>(B9 (A7 (AC (DH K) (B6 (DR (AJ (BC (a "Plank") "blocks" (IM K a) [] E B1 BI))) (AG 0) DL (BC (a "Plank") "read" (G8 K a) [] (λ_=>E0) AQ (AJ AE)) 1 [5]) Y1)) (zgk K a E E) CH)
theorem zgl:type_of%(@A3 _ _ wX.eq_1):=rfl
def wY:RT:=λK a E E1=>(B9 (A7 (AC G7 M4 (tC .non))) (AF (wU K a E E) (AF (wV K a E E) (AF (wW K a E E) (wX K a E E)))) CH)
theorem wZ:type_of%(@A3 _ _ wY.eq_1):=rfl
def bP:RT:=λK a E E1=>(DJ (BE (O6 K a) [] E (EI B1 BU (AN K AQ 3))))
theorem zgm:type_of%(@A3 _ _ bP.eq_1):=rfl
def bQ:RT:=λK a E E1=>(AS (BE (MA K a) [] E (BN BP B1)) (AG 9))
theorem zgn:type_of%(@A3 _ _ bQ.eq_1):=rfl
def bR:RT:=λK a E E1=>(AS (B6 (DV K (AN K BU 0)) (AG 0) (A7 (AC G7 AE (tC .non))) AE 1 []) (AG 10))
theorem zgo:type_of%(@A3 _ _ bR.eq_1):=rfl
def zgp:RT:=λK a E E1=>(A5 (tC (.bl false)))
def bS:RT:=λK a E E1=>(B9 (KH (A7 (AC (DH K) (BC (a "Store") "names" (L8 K a) [] E M5 BI) (B5 (X8 K) (AJ (B6 (DV K O9) (AG 0) DL (AN K AE 0) 1 []))))) (A7 (AC (DH K) (BC (a "Hold") "waiting" (U3 K a) [] E (BC (a "Store") "hold" (U5 K a) [] E M5 BI) BI) (CQ BI)))) (zgp K a E E) CH)
theorem zgq:type_of%(@A3 _ _ bS.eq_1):=rfl
def zgr:RT:=λK a E E1=>(A5 (tC (.bl false)))
def w5:RT:=λK a E E1=>(B9 (A7 (AC (DH K) (BC (a "Store") "texts" (L9 K a) [] E M5 (AJ U7)) (B6 (DV K (AN K (AC (AY K) (AN K BU 1) Uv) 1)) (AG 0) DL (AC (AY K) (AN K AQ 2) AE) 1 [3]))) (zgr K a E E) CH)
theorem zgs:type_of%(@A3 _ _ w5.eq_1):=rfl
def bT:RT:=λK a E E1=>(FA (DV K O9) (GH K 2 (DQ (AG 11) (DQ (AG 12) GG))) (w5 K a E E))
theorem zgt:type_of%(@A3 _ _ bT.eq_1):=rfl
def bU:RT:=λK a E E1=>(AS (BC (a "Layout") "plank" (RI K a) [] E BP BI) (AG 13))
theorem zgu:type_of%(@A3 _ _ bU.eq_1):=rfl
def bV:RT:=λK a E E1=>(AS (BC (a "Plank") "writings" (OH K a) [] E B1 BI) (AG 14))
theorem zgv:type_of%(@A3 _ _ bV.eq_1):=rfl
def w8:RT:=λK a E E1=>(AS (AC N9 Y0 (BC (a "Plank") "blocks" (IM K a) [] E B1 BI)) (AG 14))
theorem zgw:type_of%(@A3 _ _ w8.eq_1):=rfl
def bW:RT:=λK a E E1=>(B9 (A7 (AC G7 M4 (tC .non))) (w8 K a E E) CH)
theorem zgx:type_of%(@A3 _ _ bW.eq_1):=rfl
def VD:RT:=λK a E E1=>(DJ (BE (O6 K a) [] E (EI PB BU (AN K AQ 3))))
theorem zgy:type_of%(@A3 _ _ VD.eq_1):=rfl
def VE:RT:=λK a E E1=>(DJ (BE (MZ K a) [] E (BN BP PB)))
theorem zgz:type_of%(@A3 _ _ VE.eq_1):=rfl
def zg0:RT:=λK a E E1=>(A5 (tC (.bl false)))
def bX:RT:=λK a E E1=>(B9 (KH (A7 (AC (DH K) Y0 (BC (a "Plank") "writings" (OH K a) [] E PB BI))) (A7 (AC (DH K) (BE (OZ K a) [] E (BN BP B1)) (CQ BI)))) (zg0 K a E E) CH)
theorem zg1:type_of%(@A3 _ _ bX.eq_1):=rfl
def bY:RT:=λK a E E1=>(DJ (BE (MA K a) [] E (BN BP PB)))
theorem zg2:type_of%(@A3 _ _ bY.eq_1):=rfl
def bZ:RT:=λK a E E1=>(AS (JM (a "Store") (M0 K a) [] E (BN BP PB)) (AG 15))
theorem zg3:type_of%(@A3 _ _ bZ.eq_1):=rfl
def zg4:RT:=λK a E E1=>(A5 (tC (.bl false)))
def w9:RT:=λK a E E1=>(B9 (A7 (AC (DH K) (BC (a "Store") "texts" (L9 K a) [] E kY (AJ U7)) (BC (a "Store") "texts" (L9 K a) [] E M5 (AJ U7)))) (zg4 K a E E) CH)
theorem zg5:type_of%(@A3 _ _ w9.eq_1):=rfl
def b0:RT:=λK a E E1=>(FA (DV K O9) (GH K 2 (DQ (AG 11) (DQ (AG 12) GG))) (w9 K a E E))
theorem zg6:type_of%(@A3 _ _ b0.eq_1):=rfl
def b6:RT:=λK a E E1=>(A5 (QW (AC (CD K) (BC (a "Store") "names" (L8 K a) [] E kY BI) (BC (a "Store") "names" (L8 K a) [] E M5 BI)) (AC (CD K) (BC (a "Plank") "writings" (OH K a) [] E PB BI) Y0)))
theorem zg7:type_of%(@A3 _ _ b6.eq_1):=rfl
def b7(K:FK)(a:Ad)(E:XE):TS:=(AF (wN K a E E) (AF (wO K a E E) (AF (wP K a E E) (AF (wQ K a E E) (AF (wR K a E E) (AF (wS K a E E) (AF (wT K a E E) (AF (wY K a E E) (AF (bP K a E E) (AF (bQ K a E E) (AF (bR K a E E) (AF (bS K a E E) (AF (bT K a E E) (AF (bU K a E E) (AF (bV K a E E) (AF (bW K a E E) (AF (VD K a E E) (AF (VE K a E E) (AF (bX K a E E) (AF (bY K a E E) (AF (bZ K a E E) (AF (b0 K a E E) (b6 K a E E)))))))))))))))))))))))
end
end L2
namespace L2
local macro_rules
 | `(tactic| push_cast[$ls,*])=>`(tactic| simp only[↓Kq,↓Kv,↓Kw,↓Kx,↓Ky,↓Kz,↓Lb,↓Lc,↓Ld,↓Lg,↓Lh,↓Lj,↓Ll,↓Lm,↓Lp,↓Lq,↓Lw,↓Lx,↓Ly,↓Lz,↓Mb,↓Mc,↓Md,↓Mg,↓Mh,↓Mj,↓Ml,↓Mm,↓Mp,↓Mq,↓Mv,↓Mw,↓Mx,↓My,↓Mz,↓Nb,↓Nd,↓Ng,↓Nh,↓Nj,↓Nk,↓Nl,↓Nm,↓Np,↓Nq,
     ↓j0,↓Nv,↓Ny,↓Nz,↓Pb,↓Pc,↓Pd,↓Pg,↓j3,↓Pl,↓Pp,↓Pm,↓Pq,↓Pw,↓Px,↓Py,↓Pj,↓Ph,↓Pk,↓Pz,↓Qb,↓j4,↓Qc,↓j5,↓j6,↓j7,↓Qd,↓Qg,↓Qh,↓Qj,↓Qk,↓j8,↓Ql,
     N9,CA,HJ,jW,Jv,Jw,Ends.drop,A4,List.map_cons,List.map_nil,List.length_cons,List.length_nil,List.reduceReplicate,Nat.reduceAdd,Nat.reduceSub,Nat.zero_add,List.cons_append,List.nil_append,List.append_nil,List.getElem?_cons_zero,List.getElem?_cons_succ,Option.some.injEq,Option.join_some,List.set_cons_zero,List.set_cons_succ,
     V.int.injEq,V.ref.injEq,V.bl.injEq,V.str.injEq,List.cons.injEq,and_true,true_and,exists_eq_left',exists_eq_left,exists_eq',exists_eq,exists_and_left,exists_and_right,reduceCtorEq,false_and,and_false,or_false,false_or,exists_false,decide_eq_true_eq,Bool.not_eq_true',Bool.not_eq_true,decide_eq_false_iff_not,eq_self_iff_true,if_true,Bool.false_eq_true,if_false,ite_true,Bool.true_eq_false,forall_const,and_assoc,Int.reduceToNat,Int.reduceLT,Int.reduceLE,Int.reduceEq,Nat.reduceLeDiff,Int.toNat_natCast,not_true_eq_false,not_false_eq_true,Bool.not_false,Bool.not_true,↓Qz,↓Rb,↓Rc,↓Rg,↓Rh,↓Rj,↓Rk,↓Qx,↓Sc,↓Sz,↓Sy,↓Sj,↓Tv,↓Tw,↓Tx,↓Ty,↓Sg,$ls,*])
theorem DA{H:Hp}{t:Addr}{o:HO}(h:H t=none):∃ H',upd H t o=H'/\Same H H'/\H' t=some o:=⟨_,rfl,AV h,AM⟩
section
variable{K:W.Frag}{a:Ad}{vs:List V}{H:Hp}{Q:VK}{E:XK}
theorem zg8(h:T7 K a vs H Q E):ZE K a (λ_=>E) (A0 Q) (A4 ["self","blocks","cells"] vs) H:=by
 obtain⟨p,dx,m,w,rfl,T,hp,hm,h1,h2,q⟩:=h
 push_cast[ZE,↓Wv,↓Ww,↓Wx]
 refine⟨by omega,by omega,?_⟩
 refine LR (small m (by omega)) (λi ys H'=>Same H H'/\∃ ts:List Addr,ys=ts.map V.ref/\Paired (λt r=>H' t=some (.tup r)) ts (List.replicate i (List.replicate w .non))) ⟨Same.refl _,[],rfl,.nil⟩ (λi ys H' hi hl hzz=> ?_) (λys H' hl ⟨s,ts,e,P⟩ cl C1=> ?_)
 ·obtain⟨s,ts,e,P⟩:=hzz
  push_cast[B3,Option.join_some,Int.zero_add]
  refine⟨by decide,λt ht=>.inr ?_⟩
  have fin:∀ (t':Addr) (H2:Hp),Same H' H2->H2 t'=some (.tup (List.replicate w .non))->Same H H2/\∃ ts':List Addr,ys++[V.ref t']=ts'.map V.ref/\Paired (λt r=>H2 t=some (.tup r)) ts' (List.replicate (i+1) (List.replicate w .non)):=λt' H2 s2 e2=>by
   refine⟨s.trans s2,ts++[t'],by rw[e,List.map_append];rfl,?_⟩
   rw[List.replicate_succ']
   exact Paired.snoc (Paired.mapP P λt r z=>s2 _ _ z) e2
  have s1:Same H' (upd H' t (.tup [V.non])):=λb o z=>by rw[AO (BX z ht)];exact z
  refine⟨t,w,[.non],rfl,rfl,SqT.of AM,by simp,by omega,by omega,small _ (by simp;omega),λe1=> ?_,λe1 u hu=> ?_⟩
  ·have e1:w=1:=by omega
   refine fin t _ s1 ?_
   rw[AM,e1];rfl
  ·rw[Int.toNat_natCast,kA]
   exact fin u _ (s1.trans λb o z=>by rw[AO (BX z hu)];exact z) AM
 ·have npc:p≠cl:=BX (s _ _ hp) C1
  have e1:upd H' cl (HO.lst ys) p=some (HO.ins (a "Plank") dx []):=by rw[AO npc];exact s _ _ hp
  refine⟨_,_,_,e1,T.cl,T.nC,by decide,_,_,_,AM,T.cl,T.nW,KS (by decide),_,_,_,AM,T.cl,T.nN,KS (n:=1000) (Nat.succ_lt_succ (KS (n:=999) (by decide))),?_⟩
  rw[Tz,QS,QS]
  refine q cl _ (s.free C1) ⟨⟨dx,AM⟩,⟨ts,by rw[AO npc.symm,AM,e],?_⟩,λr hr=> ?_,by simpa using hm,h2⟩ λb o eb hb=> ?_
  ·refine Paired.mapP P λt r z=> ?_
   rw[AO (DB z (s _ _ hp) (by intro z';cases z')),AO (BX z C1)]
   exact z
  ·rw[List.eq_of_mem_replicate hr,List.length_replicate]
  ·rw[AO hb,AO (BX (s _ _ eb) C1)]
   exact s _ _ eb
theorem zg9(h:IM K a vs H Q E):ZF K a (λ_=>E) (A0 Q) (A4 ["self"] vs) H:=by
 obtain⟨p,cl,w,rows,n,rfl,T,P,q⟩:=h
 obtain⟨dx,h1⟩:=P.ob
 obtain⟨ts,h2,h3⟩:=P.ls
 push_cast[ZF,↓Wy]
 refine⟨_,_,_,h1,T.cl,T.nC,_,T6 _ _ _,rows.length,.inl ⟨_,SqL.of h2,?_⟩,q⟩
 rw[List.length_map,h3.length]
theorem zha(h:T8 K a vs H Q E):ZG K a (λ_=>E) (A0 Q) (A4 ["self"] vs) H:=by
 obtain⟨p,cl,w,rows,n,rfl,T,P,q⟩:=h
 obtain⟨dx,h1⟩:=P.ob
 push_cast[ZG,↓Wz]
 exact⟨_,_,_,h1,T.cl,T.nW,_,kO _ _ _,q⟩
theorem zhb(h:LS K a vs H Q E):ZI K a (λ_=>E) (A0 Q) (A4 ["self","block"] vs) H:=by
 obtain⟨p,cl,w,rows,n,b,rfl,T,P,q,qe⟩:=h
 obtain⟨dx,h1⟩:=P.ob
 obtain⟨ts,h2,h3⟩:=P.ls
 push_cast[ZI,↓Xc,↓Xd]
 have hl:rows.length=(ts.map V.ref).length:=by rw[List.length_map,h3.length]
 split
 ·rename_i h0
  refine⟨_,_,_,h1,T.cl,T.nC,_,T6 _ _ _,rows.length,.inl ⟨_,SqL.of h2,hl⟩,?_⟩
  split
  ·exact⟨by decide,qe (by omega)⟩
  ·exact q h0 (by omega)
 ·exact⟨by decide,qe (by omega)⟩
theorem xA(cl:Addr)(w n:Int):(pf cl w n).lookup ("ask_for_block":Str)=none:=OG _ _ _ (by decide +kernel) (by decide +kernel) (by decide +kernel)
theorem zhc(h:G8 K a vs H Q E):ZZ K a (λ_=>E) (A0 Q) (A4 ["self","block"] vs) H:=by
 obtain⟨p,cl,w,rows,n,b,rfl,T,P,q,qe⟩:=h
 obtain⟨dx,h1⟩:=P.ob
 obtain⟨ts,h2,h3⟩:=P.ls
 push_cast[ZZ,↓zag,↓zah,LS]
 refine⟨_,_,h1,xA _ _ _,T,cl,w,rows,⟨n,P⟩,λh0 hb=>⟨_,_,_,h1,T.cl,T.nC,_,T6 _ _ _,?_⟩,qe⟩
 obtain⟨i,rfl⟩:∃ i:Nat,b=i:=⟨b.toNat,by omega⟩
 have hi:i<rows.length:=by omega
 obtain⟨t,et,ht⟩:=FQ h3 (List.getElem?_eq_getElem hi)
 refine B0 (SqL.of h2) rfl (v:=.ref t) (by rw[List.getElem?_map,et];rfl) ?_
 rw[j8]
 exact⟨_,.inr (SqT.of ht),q i _ rfl (List.getElem?_eq_getElem hi)⟩
theorem zhd(h:OI K a vs H Q E):Z0 K a (λ_=>E) (A0 Q) (A4 ["self","block","values"] vs) H:=by
 obtain⟨p,cl,w,rows,n,b,v,xs,rfl,T,P,hv,hx,q,qe⟩:=h
 obtain⟨dx,h1⟩:=P.ob
 obtain⟨ts,h2,h3⟩:=P.ls
 have npc:=P.ne
 push_cast[Z0,↓zai,↓zaj,↓zak,↓zal,↓zam,LS]
 refine⟨_,_,h1,xA _ _ _,T,cl,w,rows,⟨n,P⟩,λh0 hb=>⟨xs.length,.inl ⟨_,hv,rfl⟩,_,_,_,h1,T.cl,T.nW,_,kO _ _ _,?_⟩,λz=>qe (z.imp id .inl)⟩
 obtain⟨i,rfl⟩:∃ i:Nat,b=i:=⟨b.toNat,by omega⟩
 have hi:i<rows.length:=by omega
 push_cast[]
 split
 ·exact⟨by decide,qe (.inr (.inr (by omega)))⟩
 ·rename_i hw
  have hw:xs.length=w:=by omega
  refine⟨xs,.inl ⟨hv,λt ht=> ?_⟩⟩
  have ntp:p≠t:=BX h1 ht
  have ntc:cl≠t:=BX h2 ht
  refine⟨_,_,_,by rw[AO ntp];exact h1,T.cl,T.nC,_,T6 _ _ _,?_⟩
  refine⟨cl,ts.map V.ref,(i:Int),i,rfl,rfl,by rw[AO ntc];exact h2,?_,?_⟩
  ·unfold JN
   rw[if_pos (by omega),if_pos (by rw[List.length_map,h3.length];omega),Int.toNat_natCast]
  ·refine⟨_,_,_,by rw[AO npc,AO ntp];exact h1,T.cl,T.nN,_,kP _ _ _,?_⟩
   push_cast[]
   refine⟨_,_,by rw[AO npc,AO ntp];exact h1,by show 3<1000;decide,?_⟩
   rw[Ub]
   refine q i rfl hi hw _ ⟨⟨dx,AM⟩,⟨ts.set i t,?_,?_⟩,λr hr=> ?_,by rw[List.length_set];exact P.sz,P.sw⟩ λx o ex hxn=> ?_
   ·rw[AO npc.symm,AM,List.map_set]
   ·have keep:∀ u r,H u=some (.tup r)->upd (upd (upd H t (.tup xs)) cl (.lst ((ts.map V.ref).set i (.ref t)))) p (.ins (a "Plank") dx (pf cl w ((n:Int)+1))) u=some (.tup r):=λu r hu=>by
     rw[AO (DB hu h1 (by intro z;cases z)),AO (DB hu h2 (by intro z;cases z)),AO (BX hu ht)]
     exact hu
    refine XT ?_ i (Paired.mapP h3 keep)
    rw[AO ntp.symm,AO ntc.symm,AM]
   ·rcases List.mem_or_eq_of_mem_set hr with z | z
    ·exact P.wd r z
    ·rw[z];exact hw
   ·have hxn:x≠p/\x≠cl:=⟨λz=>hxn (.inl z),λz=>hxn (.inr z)⟩
    rw[AO hxn.1,AO hxn.2,AO (BX ex ht)]
    exact ex
theorem RX(cl:Addr)(w n:Int):(pf cl w n).lookup ("read":Str)=none:=OG _ _ _ (by decide +kernel) (by decide +kernel) (by decide +kernel)
theorem xB(cl:Addr)(w n:Int):(pf cl w n).lookup ("write":Str)=none:=OG _ _ _ (by decide +kernel) (by decide +kernel) (by decide +kernel)
theorem b8(cl:Addr)(w n:Int):(pf cl w n).lookup ("writings":Str)=none:=OG _ _ _ (by decide +kernel) (by decide +kernel) (by decide +kernel)
theorem zhe(h:OH K a vs H Q E):ZH K a (λ_=>E) (A0 Q) (A4 ["self"] vs) H:=by
 obtain⟨p,cl,w,rows,n,rfl,T,P,q⟩:=h
 obtain⟨dx,h1⟩:=P.ob
 push_cast[ZH,↓Xb]
 exact⟨_,_,_,h1,T.cl,T.nN,_,kP _ _ _,q⟩
theorem zhf(h:LX K a vs H Q E):ZN K a (λ_=>E) (A0 Q) (A4 ["script","k"] vs) H:=by
 obtain⟨s,ns,k,rfl,hs,hl,q⟩:=h
 push_cast[ZN,↓Xq,↓Xv,↓Xw]
 refine⟨ns.length,?_,?_⟩
 ·exact .inl ⟨_,hs,(List.length_map _).symm⟩
 split
 ·rename_i hk
  have hk:k<ns.length:=by omega
  refine B0 hs rfl (v:=.int (OP ns k)) ?_ q
  unfold OP
  rw[List.getElem?_map,List.getElem?_eq_getElem hk]
  simp[List.getD,hk]
 ·rename_i hk
  have:OP ns k=0:=by
   unfold OP
   rw[List.getD_eq_getElem?_getD,List.getElem?_eq_none (by omega)];rfl
  rw[this]at q
  exact q
theorem zhg(h:RH K a vs H Q E):ZJ K a (λ_=>E) (A0 Q) (A4 ["self","names","records","pieces","cells"] vs) H:=by
 obtain⟨p,dx,n,r,c,w,rfl,T,hp,b1,b2,b3,b4,b5,q⟩:=h
 push_cast[ZJ,↓Xg,↓Xh,↓Xj,↓Xk]
 refine⟨_,_,_,hp,T.cl,T.n1,by decide,_,_,_,AM,T.cl,T.n2,KS (by decide),_,_,_,AM,T.cl,T.n3,KS (n:=1000) (Nat.succ_lt_succ (KS (n:=999) (by decide))),_,_,_,AM,T.cl,T.n4,?_,?_⟩
 ·exact KS (n:=1000) (Nat.succ_lt_succ (KS (n:=999) (Nat.succ_lt_succ (KS (n:=998) (by decide)))))
 ·rw[Um,QS,QS,QS]
  exact q _ ⟨⟨dx,AM⟩,b1,b2,b3,b4,b5⟩ λb o e hb=>by rw[AO hb];exact e
theorem zhh(h:IN K a vs H Q E):ZM K a (λ_=>E) (A0 Q) (A4 ["self","block","k"] vs) H:=by
 obtain⟨p,n,r,c,w,k,b,rfl,T,L,q⟩:=h
 obtain⟨dx,e⟩:=L.ob
 have:=L.h1
 have:=L.hw
 push_cast[ZM,↓Xp]
 refine⟨_,_,_,e,T.cl,T.n4,_,OK,?_⟩
 push_cast[]
 refine⟨⟨by omega,by omega⟩,_,_,_,e,T.cl,T.n4,_,OK,?_⟩
 push_cast[]
 exact⟨by omega,by decide,q⟩
theorem zhi(h:OL K a vs H Q E):Z1 K a (λ_=>E) (A0 Q) (A4 ["self","k"] vs) H:=by
 obtain⟨p,n,r,c,w,k,rfl,T,L,q⟩:=h
 obtain⟨dx,e⟩:=L.ob
 push_cast[Z1,↓zan]
 exact⟨_,_,e,EH (by decide +kernel),p,n,r,c,w,k,0,rfl,T,L,q⟩
theorem zhj(h:KY K a vs H Q E):Z2 K a (λ_=>E) (A0 Q) (A4 ["self","k"] vs) H:=by
 obtain⟨p,n,r,c,w,k,rfl,T,L,q⟩:=h
 obtain⟨dx,e⟩:=L.ob
 push_cast[Z2,↓zao]
 exact⟨_,_,e,EH (by decide +kernel),_,_,_,e,T.cl,T.n1,_,UA,p,n,r,c,w,k,_,rfl,T,L,q⟩
theorem zhk(h:OM K a vs H Q E):Z3 K a (λ_=>E) (A0 Q) (A4 ["self","k"] vs) H:=by
 obtain⟨p,n,r,c,w,k,rfl,T,L,q⟩:=h
 obtain⟨dx,e⟩:=L.ob
 push_cast[Z3,↓zap]
 refine⟨_,_,e,EH (by decide +kernel),_,_,_,e,T.cl,T.n1,_,UA,_,_,_,e,T.cl,T.n2,_,RG,?_⟩
 push_cast[]
 exact⟨p,n,r,c,w,k,_,rfl,T,L,q⟩
theorem zhl(h:MV K a vs H Q E):Z4 K a (λ_=>E) (A0 Q) (A4 ["self","k"] vs) H:=by
 obtain⟨p,n,r,c,w,k,rfl,T,L,q⟩:=h
 obtain⟨dx,e⟩:=L.ob
 push_cast[Z4,↓zaq]
 exact⟨_,_,e,EH (by decide +kernel),_,_,e,EH (by decide +kernel),p,n,r,c,w,rfl,T,L,p,n,r,c,w,k,_,rfl,T,L,q⟩
theorem zhm(h:ON K a vs H Q E):Z5 K a (λ_=>E) (A0 Q) (A4 ["self","k"] vs) H:=by
 obtain⟨p,n,r,c,w,k,rfl,T,L,q⟩:=h
 obtain⟨dx,e⟩:=L.ob
 push_cast[Z5,↓zar]
 refine⟨_,_,e,EH (by decide +kernel),_,_,e,EH (by decide +kernel),p,n,r,c,w,rfl,T,L,_,_,_,e,T.cl,T.n2,_,RG,?_⟩
 push_cast[]
 exact⟨p,n,r,c,w,k,_,rfl,T,L,q⟩
theorem zhn(h:LV K a vs H Q E):ZL K a (λ_=>E) (A0 Q) (A4 ["self"] vs) H:=by
 obtain⟨p,n,r,c,w,rfl,T,L,q⟩:=h
 obtain⟨dx,e⟩:=L.ob
 push_cast[ZL,↓Xm]
 refine⟨_,_,_,e,T.cl,T.n1,_,UA,_,_,_,e,T.cl,T.n2,_,RG,?_⟩
 push_cast[]
 refine⟨_,_,_,e,T.cl,T.n3,_,YT,?_⟩
 push_cast[]
 exact q
theorem zho(h:UB K a vs H Q E):Z6 K a (λ_=>E) (A0 Q) (A4 ["self"] vs) H:=by
 obtain⟨p,n,r,c,w,rfl,T,L,q⟩:=h
 obtain⟨dx,e⟩:=L.ob
 push_cast[Z6,↓zas]
 refine⟨_,_,e,EH (by decide +kernel),p,n,r,c,w,rfl,T,L,_,_,_,e,T.cl,T.n2,_,RG,?_⟩
 push_cast[]
 refine⟨_,_,_,e,T.cl,T.n3,_,YT,?_⟩
 push_cast[]
 exact q
theorem zhp(h:OO K a vs H Q E):ZK K a (λ_=>E) (A0 Q) (A4 ["self"] vs) H:=by
 obtain⟨p,n,r,c,w,rfl,T,L,q⟩:=h
 obtain⟨dx,e⟩:=L.ob
 obtain⟨_,b1,b2,b3,b4,b5⟩:=L
 push_cast[ZK,↓Xl]
 refine⟨_,_,_,e,T.cl,T.n1,_,UA,_,_,_,e,T.cl,T.n4,_,OK,?_⟩
 push_cast[]
 refine⟨.inl ⟨by omega,by omega⟩,_,_,_,e,T.cl,T.n2,_,RG,_,_,_,e,T.cl,T.n4,_,OK,?_⟩
 push_cast[]
 refine⟨.inl ⟨by omega,by omega⟩,_,_,_,e,T.cl,T.n3,_,YT,_,_,_,e,T.cl,T.n4,_,OK,?_⟩
 push_cast[]
 exact⟨.inl ⟨by omega,by omega⟩,by decide,q⟩
theorem zhq(h:RI K a vs H Q E):aK K a (λ_=>E) (A0 Q) (A4 ["self"] vs) H:=by
 obtain⟨p,n,r,c,w,rfl,T,TP,L,q⟩:=h
 obtain⟨dx,e⟩:=L.ob
 have LL:=L
 obtain⟨_,b1,b2,b3,b4,b5⟩:=L
 push_cast[aK,↓zb8]
 refine⟨_,_,e,EH (by decide +kernel),p,n,r,c,w,rfl,T,LL,_,_,_,e,T.cl,T.n4,_,OK,λx dx' hx NR hne=> ?_⟩
 have s3:Same H (upd (upd H dx' (.own x)) x (.ins (a "Plank") dx' [])):=(AV NR).trans (AV (by rw[AO hne.symm];exact hx))
 refine⟨x,dx',n+r+c+r+c,w,by simp,TP,AM,by omega,b4,by omega,λcl H2 C1 P2 s4=>⟨rfl,q x cl H2 hx (s3.free C1) P2 λb o eb=>s4 _ _ (s3 _ _ eb) (BX eb hx)⟩⟩
theorem xC:∀ {n:Nat} {v:V},GoodV n H v->∃ d,Dat K H n v d
 | _+1,.int i,_=>⟨_,Dat.int i⟩
 | _+1,.non,_=>⟨_,Dat.non⟩
 | _+1,.str z,h=>⟨.str z,.str z,h,Nat.zero_le _⟩
 | n+1,.ref p,⟨xs,h1,h2,h3⟩=>by
  have:∀ (l:List V),(∀ v∈l,GoodV n H v)->∃ ds,Paired (Dat K H n) l ds:=λl=>by
   induction l with
   | nil=>exact λ_=>⟨[],.nil⟩
   | cons x r ih =>
    intro h
    obtain⟨d,hd⟩:=xC (h x (List.mem_cons_self ..))
    obtain⟨ds,hds⟩:=ih λv hv=>h v (List.mem_cons_of_mem _ hv)
    exact⟨d::ds,.cons hd hds⟩
  obtain⟨ds,hds⟩:=this xs h3
  exact⟨_,Dat.tup (SqT.of h1) hds⟩
theorem zhr{n:Nat}{l:List V}(h:∀ v∈l,GoodV n H v):∃ ds,Paired (Dat K H n) l ds:=by
 induction l with
 | nil=>exact⟨[],.nil⟩
 | cons x r ih =>
  obtain⟨d,hd⟩:=xC (K:=K) (h x (List.mem_cons_self ..))
  obtain⟨ds,hds⟩:=ih λv hv=>h v (List.mem_cons_of_mem _ hv)
  exact⟨d::ds,.cons hd hds⟩
def CZ(H H':Hp):Prop:=∀ b xs,H b=some (.tup xs)->H' b=some (.tup xs)
theorem GoodV.keep{H H':Hp}(k:CZ H H'):∀ {n:Nat} {v:V},GoodV n H v->GoodV n H' v
 | 0,_,h=>h
 | _+1,.int _,_=>trivial
 | _+1,.non,_=>trivial
 | _+1,.str _,h=>h
 | n+1,.ref p,⟨xs,h1,h2,h3⟩=>⟨xs,k _ _ h1,h2,λv hv=>(h3 v hv).keep k⟩
theorem GoodV.up{H:Hp}:∀ {n:Nat} {v:V},GoodV n H v->GoodV (n+1) H v
 | 0,_,h=>h.elim
 | _+1,.int _,_=>trivial
 | _+1,.non,_=>trivial
 | _+1,.str _,h=>h
 | n+1,.ref p,⟨xs,h1,h2,h3⟩=>⟨xs,h1,h2,λv hv=>(h3 v hv).up⟩
theorem Same.tk{H H':Hp}(s:Same H H'):CZ H H':=λb xs e=>s _ _ e
theorem good7.keep{H H':Hp}{rows:List (List V)}(g:good7 H rows)(k:CZ H H'):good7 H' rows:=λr hr v hv=>(g r hr v hv).keep k
theorem CJ{c A B:Prop}[Decidable c](h:c)(x:A):if c then A else B:=by rw[if_pos h];exact x
theorem B7{c A B:Prop}[Decidable c](h:¬ c)(x:B):if c then A else B:=by rw[if_neg h];exact x
theorem NmV.keep{H':Hp}{v:V}{c:GD}(k:CZ H H')(h:NmV H v c):NmV H' v c:=by
 cases c with
 | none=>exact h
 | some c=>obtain⟨p,e,h1⟩:=h;exact⟨p,e,k _ _ h1⟩
theorem RcV.keep{H':Hp}{v:V}{c:GJ}(k:CZ H H')(h:RcV H v c):RcV H' v c:=by
 cases c with
 | none=>exact h
 | some c=>obtain⟨p,q,e,h1,h2⟩:=h;exact⟨p,q,e,k _ _ h1,k _ _ h2⟩
theorem PcV.keep{H':Hp}{v:V}{c:Option Str}(_:CZ H H')(h:PcV H v c):PcV H' v c:=by
 cases c<;>exact h
theorem MkV.keep{H':Hp}{v:V}{c:Option Int}(_:CZ H H')(h:MkV H v c):MkV H' v c:=by
 cases c<;>exact h
theorem LstAt.keep{α :Type}{R:Hp->V-> α ->Prop}{H':Hp}{p:Addr}{cs:List α}(h:LstAt R H p cs)(kr:∀ v c,R H v c->R H' v c)(kp:∀ o,H p=some o->H' p=some o):LstAt R H' p cs:=by
 obtain⟨vs,e,P⟩:=h
 exact⟨vs,kp _ e,Paired.mapP P λv c=>kr v c⟩
theorem FindsL.same{H':Hp}{l:Addr}{fs:List (List V)}(h:FindsL H l fs)(s:Same H H'):FindsL H' l fs:=by
 obtain⟨ps,e,P⟩:=h
 exact⟨ps,s _ _ e,Paired.mapP P λp f e=>s _ _ e⟩
theorem ViewAt.same{H':Hp}{x:Addr}{A:VA}{vw:Vw}(h:ViewAt a H x A vw)(s:Same H H'):ViewAt a H' x A vw:=by
 obtain⟨⟨dx,e⟩,h1,h2,h3,h4,h5,h6,h7,h8,ok⟩:=h
 exact⟨⟨dx,s _ _ e⟩,h1.keep (λv c=>NmV.keep s.tk) (λo=>s _ _),h2.keep (λv c=>RcV.keep s.tk) (λo=>s _ _),h3.keep (λv c=>PcV.keep s.tk) (λo=>s _ _),h4.keep (λv c=>MkV.keep s.tk) (λo=>s _ _),h5.keep (λv c=>MkV.keep s.tk) (λo=>s _ _),s _ _ h6,s _ _ h7,s _ _ h8,ok⟩
theorem LstAt.at{α :Type}{R:Hp->V->Option α ->Prop}{p:Addr}{cs:List (Option α)}{k:Nat}(h:LstAt R H p cs)(hk:k<cs.length):∃ vs v,H p=some (.lst vs)/\vs.length=cs.length/\vs[k]? =some v/\R H v (AD cs k):=by
 obtain⟨vs,e,P⟩:=h
 obtain⟨v,ev,hr⟩:=FQ P (List.getElem?_eq_getElem hk)
 refine⟨vs,v,e,P.length,ev,?_⟩
 unfold AD
 rw[List.getElem?_eq_getElem hk]
 exact hr
theorem PJ{l:List Nat}{k:Nat}{m:Nat}(h:l[k]? =some m):(AU l)[k]? =some (.int m):=by
 unfold AU
 rw[List.getElem?_map,h]
 rfl
theorem K3{n k:Nat}{f:Nat->Nat}(h:k<n):((List.range n).map f)[k]? =some (f k):=by
 rw[List.getElem?_map,List.getElem?_range h]
 rfl
theorem M6{p:Addr}{n k:Nat}{f:Nat->Nat}{Q:VK}(h:H p=some (.lst (AU ((List.range n).map f))))(hk:k<n)(q:Q (.int (f k)) H):AY K (.ref p) (.int k) H Q :=
 B0 (SqL.of h) (n:=k) rfl (PJ (K3 hk)) q
theorem zhs{A:VA}:(vf A).lookup ("name_values":Str)=some (V.ref A.n):=by simp[vf]
theorem VF{A:VA}:(vf A).lookup ("record_values":Str)=some (V.ref A.r):=by
 simp[vf,List.lookup_cons,BL (a:="record_values") (b:="name_values") (by decide +kernel)]
theorem zht{A:VA}:(vf A).lookup ("piece_values":Str)=some (V.ref A.p):=by
 simp[vf,List.lookup_cons,BL (a:="piece_values") (b:="name_values") (by decide +kernel),BL (a:="piece_values") (b:="record_values") (by decide +kernel)]
theorem xD{A:VA}:(vf A).lookup ("record_marks":Str)=some (V.ref A.rm):=by
 simp[vf,List.lookup_cons,BL (a:="record_marks") (b:="name_values") (by decide +kernel),BL (a:="record_marks") (b:="record_values") (by decide +kernel),BL (a:="record_marks") (b:="piece_values") (by decide +kernel)]
theorem xE{A:VA}:(vf A).lookup ("piece_marks":Str)=some (V.ref A.pm):=by
 simp[vf,List.lookup_cons,BL (a:="piece_marks") (b:="name_values") (by decide +kernel),BL (a:="piece_marks") (b:="record_values") (by decide +kernel),BL (a:="piece_marks") (b:="piece_values") (by decide +kernel),BL (a:="piece_marks") (b:="record_marks") (by decide +kernel)]
theorem b9{A:VA}:(vf A).lookup ("leads":Str)=some (V.ref A.ld):=by
 simp[vf,List.lookup_cons,BL (a:="leads") (b:="name_values") (by decide +kernel),BL (a:="leads") (b:="record_values") (by decide +kernel),BL (a:="leads") (b:="piece_values") (by decide +kernel),BL (a:="leads") (b:="record_marks") (by decide +kernel),BL (a:="leads") (b:="piece_marks") (by decide +kernel)]
theorem xF{A:VA}:(vf A).lookup ("namings":Str)=some (V.ref A.ng):=by
 simp[vf,List.lookup_cons,BL (a:="namings") (b:="name_values") (by decide +kernel),BL (a:="namings") (b:="record_values") (by decide +kernel),BL (a:="namings") (b:="piece_values") (by decide +kernel),BL (a:="namings") (b:="record_marks") (by decide +kernel),BL (a:="namings") (b:="piece_marks") (by decide +kernel),BL (a:="namings") (b:="leads") (by decide +kernel)]
theorem zhu{A:VA}:(vf A).lookup ("reached":Str)=some (V.ref A.rh):=by
 simp[vf,List.lookup_cons,BL (a:="reached") (b:="name_values") (by decide +kernel),BL (a:="reached") (b:="record_values") (by decide +kernel),BL (a:="reached") (b:="piece_values") (by decide +kernel),BL (a:="reached") (b:="record_marks") (by decide +kernel),BL (a:="reached") (b:="piece_marks") (by decide +kernel),BL (a:="reached") (b:="leads") (by decide +kernel),BL (a:="reached") (b:="namings") (by decide +kernel)]
theorem M7{A:VA}{x:Str}(h:(EN x "name_values" || EN x "record_values" || EN x "piece_values" || EN x "record_marks" || EN x "piece_marks" || EN x "leads" || EN x "namings" || EN x "reached")=false):(vf A).lookup x=none:=by
 simp only[Bool.or_eq_false_iff]at h
 obtain⟨⟨⟨⟨⟨⟨⟨h1,h2⟩,h3⟩,h4⟩,h5⟩,h6⟩,h7⟩,h8⟩:=h
 simp[vf,List.lookup_cons,BL h1,BL h2,BL h3,BL h4,BL h5,BL h6,BL h7,BL h8]
section
variable{tt:TT}{te:TE}{cap:List Nat}{σ:St}
theorem HQ{H0 H':Hp}{l:Addr}{o:HO}(s:Same H0 H')(h:H' l=none):Same H0 (upd H' l o):=s.trans (AV h)
def FnW(H:Hp)(is:List Nat)(p:Nat->Bool)(f:Nat->List V)(i:Nat)(ys:List V)(H':Hp):Prop:=Same H H'/\∃ ps:List Addr,ys=ps.map V.ref/\Paired (λq g=>H' q=some (.tup g)) ps (((is.take i).filter p).map f)
theorem FM{α :Type}{l:List α}{i:Nat}{x: α}(h:l[i]? =some x):l.take (i+1)=l.take i++[x]:=by
 obtain⟨g1,g2⟩:=List.getElem?_eq_some_iff.mp h
 rw[<-g2,List.take_append_getElem]
theorem FnW.yes{is:List Nat}{p:Nat->Bool}{f:Nat->List V}{i k:Nat}{ys:List V}{H':Hp}{t:Addr}(h:FnW H is p f i ys H')(hk:is[i]? =some k)(hp:p k=true)(ht:H' t=none):FnW H is p f (i+1) (ys++[.ref t]) (upd H' t (.tup (f k))):=by
 obtain⟨s,ps,e,P⟩:=h
 refine⟨HQ s ht,ps++[t],by rw[e,List.map_append];rfl,?_⟩
 rw[FM hk,List.filter_append,List.map_append]
 have:([k].filter p).map f=[f k]:=by simp[hp]
 rw[this]
 exact Paired.snoc (Paired.mapP P λq g e=>AV ht _ _ e) AM
theorem FnW.no{is:List Nat}{p:Nat->Bool}{f:Nat->List V}{i k:Nat}{ys:List V}{H':Hp}(h:FnW H is p f i ys H')(hk:is[i]? =some k)(hp:p k=false):FnW H is p f (i+1) ys H':=by
 obtain⟨s,ps,e,P⟩:=h
 refine⟨s,ps,e,?_⟩
 rw[FM hk,List.filter_append,List.map_append]
 have:([k].filter p).map f=[]:=by simp[hp]
 rw[this,List.append_nil]
 exact P
theorem FnW.len{is:List Nat}{p:Nat->Bool}{f:Nat->List V}{i:Nat}{ys:List V}{H':Hp}(h:FnW H is p f i ys H'):ys.length<=i:=by
 obtain⟨s,ps,e,P⟩:=h
 rw[e,List.length_map,P.length,List.length_map]
 exact Nat.le_trans (List.length_filter_le ..) (by rw[List.length_take];omega)
theorem FnW.fin{is:List Nat}{p:Nat->Bool}{f:Nat->List V}{ys:List V}{H':Hp}{l:Addr}(h:FnW H is p f is.length ys H')(hl:H' l=none):H l=none/\Same H (upd H' l (.lst ys))/\FindsL (upd H' l (.lst ys)) l ((is.filter p).map f):=by
 obtain⟨s,ps,e,P⟩:=h
 rw[List.take_length]at P
 subst e
 exact⟨s.free hl,HQ s hl,ps,AM,Paired.mapP P λq g e=>AV hl _ _ e⟩
theorem M8{b:Addr}{is:List Nat}(p:Nat->Bool)(f:Nat->List V)(hb:H b=some (.lst (AU is)))(hn:is.length<=1000)
  (ht:∀ k∈is,∀ H',Same H H'->∀ QB:Bool->Hp->Prop,QB (p k) H'->tt (some (.int (k:Int))::B3 cap σ) H' QB)
  (he:∀ k∈is,p k=true->∀ H' (Q':VK),Same H H'->(∀ t,H' t=none->Q' (.ref t) (upd H' t (.tup (f k))))->te (some (.int (k:Int))::B3 cap σ) H' Q') (hd:newF ((is.filter p).map f) H Q):FU (ID K b) (AG 0) tt te 1 cap σ H Q:=by
 have hl:(AU is).length=is.length:=by simp[AU]
 have at':∀ {i:Nat} {x:V},(AU is)[i]? =some x->∃ k,is[i]? =some k/\x=.int k:=λe=>by
  unfold AU at e
  rw[List.getElem?_map,Option.map_eq_some_iff]at e
  obtain⟨k,h1,h2⟩:=e
  exact⟨k,h1,h2.symm⟩
 refine kK (xs:=AU is) (λi=>match is[i]? with
  | some k=>p k
  | none=>false) (small _ (by omega)) (FnW H is p f) ⟨Same.refl _,[],rfl,.nil⟩ (λi ys H' _ h=>⟨SqL.of (h.1 _ _ hb),h.len⟩) (λi x ys H' hx h QB qb=> ?_) (λi x ys H' hx hp h=> ?_) (λi x ys H' hx hp h=> ?_) (λys H' h q hq=> ?_)
 ·obtain⟨k,ek,rfl⟩:=at' hx
  simp only[ek]at qb
  exact ht k (List.mem_of_getElem? ek) H' h.1 QB qb
 ·obtain⟨k,ek,rfl⟩:=at' hx
  simp only[ek]at hp
  exact he k (List.mem_of_getElem? ek) hp H' _ h.1 λt ht0=>h.yes ek hp ht0
 ·obtain⟨k,ek,rfl⟩:=at' hx
  simp only[ek]at hp
  exact h.no ek hp
 ·rw[hl]at h
  obtain⟨h1,h2,h3⟩:=h.fin hq
  exact hd q _ h1 h2 h3
theorem RY{b:Addr}{xs:List V}(p:Nat->Bool)(hb:H b=some (.lst xs))(hn:xs.length<=1000)
  (ht:∀ i x,xs[i]? =some x->∀ H',Same H H'->∀ QB:Bool->Hp->Prop,QB (p i) H'->tt (some (.int (i:Int))::some x::B3 cap σ) H' QB) (hd:newL (AU ((List.range xs.length).filter p)) H Q):FU (MU K b) (GH K 2 (DQ (AG 0) (DQ (AG 1) GG))) tt (EA 0) 2 cap σ H Q:=by
 refine YJ (xs:=xs) p (small _ (by omega)) (λi ys H'=>Same H H'/\ys=AU ((List.range i).filter p)) ⟨Same.refl _,rfl⟩ (λi ys H' _ ⟨s,e⟩=>⟨SqL.of (s _ _ hb),?_⟩) (λi ys H' t o ⟨s,e⟩ h=>⟨HQ s h,e⟩) (λi x ys H' hx ⟨s,e⟩ QB qb=>ht i x hx H' s QB qb) (λi x ys H' hx hp ⟨s,e⟩=>by rw[j0];exact⟨s,by rw[e];unfold AU;rw[List.range_succ,List.filter_append,List.map_append];simp[hp]⟩) (λi x ys H' hx hp ⟨s,e⟩=>⟨s,?_⟩) (λys H' ⟨s,e⟩ q hq=> ?_)
 ·rw[e]
  unfold AU
  rw[List.length_map]
  exact Nat.le_trans (List.length_filter_le ..) (by rw[List.length_range];omega)
 ·rw[e]
  unfold AU
  rw[List.range_succ,List.filter_append,List.map_append]
  simp[hp]
 ·subst e
  exact hd q _ (s.free hq) (HQ s hq) AM
end
theorem ViewAt.rl{x:Addr}{A:VA}{vw:Vw}(h:ViewAt a H x A vw):∃ vs,H A.r=some (.lst vs)/\vs.length=vw.rc.length:=by
 obtain⟨vs,e,P⟩:=h.r
 exact⟨vs,e,P.length⟩
theorem PK{v:V}{c:GJ}(h:RcV H v c):decide (v=.non)=c.isNone:=by
 cases c with
 | none=>rw[show v=.non from h];rfl
 | some c=>obtain⟨p,q,rfl,_⟩:=h;rfl
theorem cA{v:V}{c:GD}(h:NmV H v c):decide (v=.non)=c.isNone:=by
 cases c with
 | none=>rw[show v=.non from h];rfl
 | some c=>obtain⟨p,rfl,_⟩:=h;rfl
theorem xG{v:V}{c:Option Str}(h:PcV H v c):decide (v=.non)=c.isNone:=by
 cases c with
 | none=>rw[show v=.non from h];rfl
 | some c=>rw[show v=.str c from h];rfl
theorem zhv(h:OX K a vs H Q E):Y5 K a (λ_=>E) (A0 Q) (A4 ["self","record"] vs) H:=by
 obtain⟨x,A,vw,r,c,rfl,T,I,hc,q⟩:=h
 obtain⟨dx,e⟩:=I.ob
 have hr:r<vw.rc.length:=by
  unfold AD at hc
  cases e2:vw.rc[r]? with
  | none=>rw[e2]at hc;cases hc
  | some _=>exact(List.getElem?_eq_some_iff.mp e2).1
 obtain⟨us,v,e1,hl,ev,hv⟩:=I.r.at hr
 rw[hc]at hv
 obtain⟨p,q',rfl,h1,h2⟩:=hv
 push_cast[Y5,↓Uz]
 exact⟨_,_,_,e,T.cl,T.n2,_,VF,B0 (SqL.of e1) (n:=r) rfl ev (BY h1 (n:=0) rfl rfl q)⟩
theorem zhw(h:OW K a vs H Q E):Y3 K a (λ_=>E) (A0 Q) (A4 ["self"] vs) H:=by
 obtain⟨x,A,vw,rfl,T,I,q⟩:=h
 obtain⟨dx,e⟩:=I.ob
 obtain⟨us,e1,P⟩:=I.r
 have br:=I.ok.br
 have hl:=P.length
 push_cast[Y3,↓Ux]
 refine⟨_,_,_,e,T.cl,T.n2,_,VF,A.r,rfl,⟨_,SqL.of e1⟩,RY (λr=>(AD vw.rc r).isSome) e1 (by omega) (λi v hv H' s QB qb=> ?_) ?_⟩
 ·have hi:=(List.getElem?_eq_some_iff.mp hv).1
  obtain⟨us',v',e1',_,ev,hr⟩:=I.r.at (k:=i) (by omega)
  rw[e1]at e1';cases e1'
  rw[hv]at ev;cases ev
  push_cast[]
  rw[PK hr]
  simpa using qb
 ·rw[hl];exact q
theorem VG(n:Nat):decide ((0:Int)<(n:Int))=decide (0<n):=by simp
theorem zhx(n:Nat):decide ((1:Int)<(n:Int))=decide (1<n):=by
 rw[decide_eq_decide];omega
theorem zhy(n:Nat):decide ((n:Int)=(0:Int))=decide (n=0):=by simp
theorem CO(l:List Nat):(AU l).length=l.length:=by simp[AU]
theorem JX(n:Nat)(f:Nat->Nat):((List.range n).map f).length=n:=by simp
theorem zhz(h:MX K a vs H Q E):Y4 K a (λ_=>E) (A0 Q) (A4 ["self"] vs) H:=by
 obtain⟨x,A,vw,rfl,T,I,q⟩:=h
 obtain⟨dx,e⟩:=I.ob
 have bp:=I.ok.bp
 have e1:=I.ng
 push_cast[Y4,↓Uy]
 refine⟨_,_,_,e,T.cl,T.n7,_,xF,A.ng,rfl,⟨_,SqL.of e1⟩,RY (λp=>decide (0<FC vw p)) e1 (by rw[CO,JX];omega) (λi v hv H' s QB qb=> ?_) ?_⟩
 ·have hi:=(List.getElem?_eq_some_iff.mp hv).1
  rw[CO,JX]at hi
  rw[PJ (K3 hi)]at hv
  cases hv
  push_cast[]
  rw[VG]
  exact qb
 ·rw[CO,JX];exact q
theorem zh0(h:UC K a vs H Q E):Y2 K a (λ_=>E) (A0 Q) (A4 ["self"] vs) H:=by
 obtain⟨x,ar,al,vw,rfl,T,⟨dx,fs,e,l1⟩,⟨dx',fs',e',l2⟩,hr,hal,br,q⟩:=h
 rw[e]at e'
 cases e'
 have hr':=hr
 obtain⟨us,e1,P⟩:=hr
 have hl:=P.length
 push_cast[Y2,↓Uw]
 refine⟨_,_,_,e,T.cl,T.n2,_,l1,ar,rfl,⟨_,SqL.of e1⟩,?_⟩
 refine YJ (xs:=us) (λr=>decide (0<led vw r)) (small _ (by omega)) (λi ys H'=>Same H H'/\Paired (RcV H') ys (((List.range i).filter λr=>decide (0<led vw r)).map (AD vw.rc))) ⟨Same.refl _,.nil⟩ (λi ys H' _ ⟨s,e⟩=>⟨SqL.of (s _ _ e1),?_⟩) (λi ys H' t o ⟨s,P'⟩ h=>⟨HQ s h,Paired.mapP P' λv c=>RcV.keep (AV h).tk⟩) (λi v ys H' hv ⟨s,P'⟩ QB qb=> ?_) (λi v ys H' hv hp ⟨s,P'⟩=> ?_) (λi v ys H' hv hp ⟨s,P'⟩=>⟨s,?_⟩) (λys H' ⟨s,P'⟩ p hp=> ?_)
 ·rw[e.length,List.length_map]
  exact Nat.le_trans (List.length_filter_le ..) (by rw[List.length_range];omega)
 ·have hi:=(List.getElem?_eq_some_iff.mp hv).1
  push_cast[B3]
  refine⟨_,_,_,s _ _ e,T.cl,T.n6,_,l2,M6 (s _ _ hal) (by omega) ?_⟩
  push_cast[]
  rw[VG]
  exact qb
 ·have hi:=(List.getElem?_eq_some_iff.mp hv).1
  obtain⟨us',v',e1',_,ev,hrv⟩:=hr'.at (k:=i) (by omega)
  rw[e1]at e1';cases e1'
  rw[hv]at ev;cases ev
  push_cast[]
  refine⟨s,?_⟩
  rw[List.range_succ,List.filter_append,List.map_append]
  have:(([i].filter λr=>decide (0<led vw r)).map (AD vw.rc))=[AD vw.rc i]:=by simp[hp]
  rw[this]
  exact Paired.snoc P' (RcV.keep s.tk hrv)
 ·rw[List.range_succ,List.filter_append,List.map_append]
  have:(([i].filter λr=>decide (0<led vw r)).map (AD vw.rc))=[]:=by simp[hp]
  rw[this,List.append_nil]
  exact P'
 ·rw[hl]at P'
  exact q p _ (s.free hp) (HQ s hp) ⟨ys,AM,Paired.mapP P' λv c=>RcV.keep (AV hp).tk⟩
theorem xH{H0:Hp}{v:V}{c:Option Int}{Q:VK}(h:MkV H0 v c)(q:Q (.bl (decide (c=some 1))) H):CD K v (.int 1) H Q:=by
 cases c with
 | none =>
  rw[show v=.non from h,j5]
  simpa using q
 | some j =>
  rw[show v=.int j from h,j4]
  simpa using q
theorem xI{H0:Hp}{v:V}{c:Option Int}{Q:VK}(h:MkV H0 v c)(q:Q (.bl (!decide (c=some 1))) H):DH K v (.int 1) H Q:=by
 cases c with
 | none =>
  rw[show v=.non from h,j7]
  simpa using q
 | some j =>
  rw[show v=.int j from h,j6]
  simpa using q
theorem K4{n:Nat}{p q r:Nat->Bool}{f:Nat->List V}(h:∀ k,k<n->(p k && q k)=r k):(((List.range n).filter p).filter q).map f=DO n r f:=by
 unfold DO
 rw[List.filter_filter]
 congr 1
 refine List.filter_congr λk hk=> ?_
 rw[Bool.and_comm]
 exact h k (List.mem_range.mp hk)
theorem MB{n:Nat}{p:Nat->Bool}(h:n<=100):((List.range n).filter p).length<=1000:=Nat.le_trans (List.length_filter_le ..) (by rw[List.length_range];omega)
theorem FN{n k:Nat}{p:Nat->Bool}(h:k∈(List.range n).filter p):k<n/\p k=true:=by
 obtain⟨h1,h2⟩:=List.mem_filter.mp h
 exact⟨List.mem_range.mp h1,h2⟩
theorem newF.of{fs:List (List V)}{H1:Hp}(q:newF fs H Q)(s:Same H H1):newF fs H1 Q:=λl H' hl s' F=>q l H' (s.free hl) (s.trans s') F
theorem newL.of{xs:List V}{H1:Hp}(q:newL xs H Q)(s:Same H H1):newL xs H1 Q:=λl H' hl s' F=>q l H' (s.free hl) (s.trans s') F
theorem zh1(h:UH K a vs H Q E):Y8 K a (λ_=>E) (A0 Q) (A4 ["view","marked"] vs) H:=by
 obtain⟨x,A,vw,rfl,T,I,q⟩:=h
 obtain⟨dx,e⟩:=I.ob
 obtain⟨us,e1,P⟩:=I.pm
 have bp:=I.ok.bp
 have l2:=I.ok.l2
 have hl:=P.length
 push_cast[Y8,↓Vv]
 refine⟨_,_,_,e,T.cl,T.n5,_,xE,A.pm,rfl,⟨_,SqL.of e1⟩,RY (λp=>decide (AD vw.pm p=some 1)) e1 (by omega) (λi v hv H' s QB qb=> ?_) λl H1 F5 s1 el=> ?_⟩
 ·have hi:=(List.getElem?_eq_some_iff.mp hv).1
  obtain⟨us',v',e1',_,ev,hr⟩:=I.pm.at (k:=i) (by omega)
  rw[e1]at e1';cases e1'
  rw[hv]at ev;cases ev
  push_cast[]
  exact xH hr ⟨_,rfl,qb⟩
 ·rw[hl,l2]at el
  push_cast[↓Vx]
  refine .inl ⟨⟨_,SqL.of el⟩,M8 (λp=>decide (FW vw p=0)) (λp=>[.str "left",.str "piece",.int p]) el (MB bp) (λk hk H' s QB qb=> ?_) (λk hk hp H' Q' s q'=> ?_) ?_⟩
  ·obtain⟨hk,_⟩:=FN hk
   have s':=s1.trans s
   push_cast[B3]
   refine⟨_,_,_,s' _ _ e,T.cl,T.n8,_,zhu,M6 (s' _ _ I.rh) hk ?_⟩
   push_cast[]
   rw[zhy]
   exact qb
  ·push_cast[]
   exact⟨by decide,q'⟩
  ·rw[K4 λk _=>rfl]
   exact q.of s1
theorem zh2(h:UI K a vs H Q E):Y9 K a (λ_=>E) (A0 Q) (A4 ["view","marked"] vs) H:=by
 obtain⟨x,A,vw,rfl,T,I,q⟩:=h
 obtain⟨dx,e⟩:=I.ob
 obtain⟨us,e1,P⟩:=I.rm
 have bp:=I.ok.br
 have l2:=I.ok.l1
 have hl:=P.length
 push_cast[Y9,↓Vy]
 refine⟨_,_,_,e,T.cl,T.n4,_,xD,A.rm,rfl,⟨_,SqL.of e1⟩,RY (λp=>decide (AD vw.rm p=some 1)) e1 (by omega) (λi v hv H' s QB qb=> ?_) λl H1 F5 s1 el=> ?_⟩
 ·have hi:=(List.getElem?_eq_some_iff.mp hv).1
  obtain⟨us',v',e1',_,ev,hr⟩:=I.rm.at (k:=i) (by omega)
  rw[e1]at e1';cases e1'
  rw[hv]at ev;cases ev
  push_cast[]
  exact xH hr ⟨_,rfl,qb⟩
 ·rw[hl,l2]at el
  push_cast[↓Vz]
  refine .inl ⟨⟨_,SqL.of el⟩,M8 (λr=>(AD vw.rc r).isNone) (λr=>[.str "marked",.int r]) el (MB bp) (λk hk H' s QB qb=> ?_) (λk hk hp H' Q' s q'=> ?_) ?_⟩
  ·obtain⟨hk,_⟩:=FN hk
   have s':=s1.trans s
   have I':=I.same s'
   obtain⟨us',v',e1',_,ev,hr⟩:=I'.r.at hk
   push_cast[B3]
   refine⟨_,_,_,s' _ _ e,T.cl,T.n2,_,VF,B0 (SqL.of e1') (n:=k) rfl ev ?_⟩
   push_cast[]
   rw[PK hr]
   exact qb
  ·push_cast[]
   exact⟨by decide,q'⟩
  ·rw[K4 λk _=>rfl]
   exact q.of s1
theorem M9{α β :Type}{F: α -> β ->Prop}:∀ {l l':List α} {m m':List β},Paired F l m->Paired F l' m'->Paired F (l++l') (m++m')
 | _,_,_,_,.nil,h=>h
 | _,_,_,_,.cons x r,h=>.cons x (M9 r h)
theorem E7{n:Nat}{p:Nat->Bool}{f:Nat->List V}(h:n<=100):(DO n p f).length<=100:=by
 unfold DO
 rw[List.length_map]
 exact Nat.le_trans (List.length_filter_le ..) (by rw[List.length_range];exact h)
theorem JY{l1 l2:Addr}{f1 f2:List (List V)}{Q:VK}(h1:FindsL H l1 f1)(h2:FindsL H l2 f2)(hn:f1.length+f2.length<=10000)(q:newF (f1++f2) H Q):BT K (.ref l1) (.ref l2) H Q:=by
 obtain⟨p1,e1,P1⟩:=h1
 obtain⟨p2,e2,P2⟩:=h2
 refine .inl ⟨l1,l2,_,_,rfl,rfl,e1,e2,small _ (by rw[List.length_map,List.length_map,P1.length,P2.length];omega),λp hp=> ?_⟩
 exact q p _ hp (AV hp) ⟨p1++p2,by rw[AM,List.map_append],Paired.mapP (M9 P1 P2) λx f e=>AV hp _ _ e⟩
theorem VH{vw:Vw}(ok:E5 vw):(OQ vw).length<=200/\(MW vw).length<=300/\(OR vw).length<=200/\(OS vw).length<=200/\(OT vw).length<=100/\(OU vw).length<=100:=by
 have i1:=@E7
 unfold OQ MW OR OS OT OU
 simp only[List.length_append]
 have a1:=E7 (p:=G9 vw) (f:=λk=>[.str "lost",.int k]) ok.bn
 have a2:=E7 (p:=HM vw) (f:=λk=>[.str "twice",.int k]) ok.bn
 have a3:=E7 (p:=λp=>decide (1<FC vw p)) (f:=λp=>[.str "shared",.int p]) ok.bp
 have a4:=E7 (p:=λp=>decide (0<FC vw p) && (AD vw.pc p).isNone) (f:=λp=>[.str "empty",.int p]) ok.bp
 have a5:=E7 (p:=IP vw) (f:=λr=>[.str "few",.int r]) ok.br
 have a6:=E7 (p:=λr=>decide (0<led vw r) && !decide (AD vw.rm r=some 1)) (f:=λr=>[.str "free",.str "record",.int r]) ok.br
 have a7:=E7 (p:=λp=>decide (0<FC vw p) && !decide (AD vw.pm p=some 1)) (f:=λp=>[.str "free",.str "piece",.int p]) ok.bp
 have a8:=E7 (p:=GW vw) (f:=λr=>[.str "many",.int r,.int (led vw r)]) ok.br
 have a9:=E7 (p:=λr=>(AD vw.rc r).isSome && decide (led vw r=0)) (f:=λr=>[.str "left",.str "record",.int r]) ok.br
 have b1:=E7 (p:=λp=>decide (AD vw.pm p=some 1) && decide (FW vw p=0)) (f:=λp=>[.str "left",.str "piece",.int p]) ok.bp
 have b2:=E7 (p:=λr=>decide (AD vw.rm r=some 1) && (AD vw.rc r).isNone) (f:=λr=>[.str "marked",.int r]) ok.br
 omega
theorem zh3(h:OY K a vs H Q E):aE K a (λ_=>E) (A0 Q) (A4 ["view"] vs) H:=by
 obtain⟨x,A,vw,rfl,T,I,q⟩:=h
 obtain⟨n1,n2,n3,_⟩:=VH I.ok
 push_cast[aE,↓zbt]
 refine⟨x,A,vw,rfl,T,I,λl1 H1 h1 s1 F1=>⟨x,A,vw,rfl,T,I.same s1,λl2 H2 h2 s2 F2=>JY (F1.same s2) F2 (by omega) λl3 H3 h3 s3 F3=>⟨x,A,vw,rfl,T,I.same ((s1.trans s2).trans s3),λl4 H4 h4 s4 F4=>JY (F3.same s4) F4 (by simp only[List.length_append];omega) ?_⟩⟩⟩
 exact q.of (((s1.trans s2).trans s3).trans s4)
theorem zh4(h:UJ K a vs H Q E):aF K a (λ_=>E) (A0 Q) (A4 ["view"] vs) H:=by
 obtain⟨x,A,vw,rfl,T,I,q⟩:=h
 obtain⟨_,_,_,n1,n2,n3⟩:=VH I.ok
 push_cast[aF,↓zbu]
 refine⟨x,A,vw,rfl,T,I,λl1 H1 h1 s1 F1=>⟨x,A,vw,rfl,T,I.same s1,λl2 H2 h2 s2 F2=>JY (F1.same s2) F2 (by omega) λl3 H3 h3 s3 F3=>⟨x,A,vw,rfl,T,I.same ((s1.trans s2).trans s3),λl4 H4 h4 s4 F4=>JY (F3.same s4) F4 (by simp only[List.length_append];omega) ?_⟩⟩⟩
 exact q.of (((s1.trans s2).trans s3).trans s4)
theorem zh5(h:UF K a vs H Q E):ZV K a (λ_=>E) (A0 Q) (A4 ["view","led_to","records","pieces"] vs) H:=by
 obtain⟨x,A,vw,rfl,T,I,q⟩:=h
 obtain⟨dx,e⟩:=I.ob
 have br:=I.ok.br
 have bp:=I.ok.bp
 push_cast[ZV,↓Zd]
 refine⟨_,_,_,e,T.cl,T.n6,_,b9,A.ld,rfl,⟨_,SqL.of I.ld⟩,RY (λp=>decide (0<led vw p)) I.ld (by rw[CO,JX];omega) (λi v hv H' s QB qb=> ?_) λl H1 F5 s1 el=> ?_⟩
 ·have hi:=(List.getElem?_eq_some_iff.mp hv).1
  rw[CO,JX]at hi
  rw[PJ (K3 hi)]at hv
  cases hv
  push_cast[]
  rw[VG]
  exact qb
 ·rw[CO,JX]at el
  push_cast[↓Zg]
  refine .inl ⟨⟨_,SqL.of el⟩,M8 (λr=> !decide (AD vw.rm r=some 1)) (λr=>[.str "free",.str "record",.int r]) el (MB br) (λk hk H' s QB qb=> ?_) (λk hk hp H' Q' s q'=> ?_) ?_⟩
  ·obtain⟨hk,_⟩:=FN hk
   have s':=s1.trans s
   have I':=I.same s'
   obtain⟨us',v',e1',_,ev,hr⟩:=I'.rm.at (k:=k) (by rw[I.ok.l1];exact hk)
   push_cast[B3]
   refine⟨_,_,_,s' _ _ e,T.cl,T.n4,_,xD,B0 (SqL.of e1') (n:=k) rfl ev ?_⟩
   exact xI hr ⟨_,rfl,qb⟩
  ·push_cast[]
   exact⟨by decide,q'⟩
  rw[K4 λk _=>rfl]
  intro l2 H2 EE s2 F2
  have I2:=I.same (s1.trans s2)
  obtain⟨dx2,e2⟩:=I2.ob
  push_cast[↓Zh]
  refine⟨_,_,e2,M7 (by decide +kernel),x,A,vw,rfl,T,I2,λl3 H3 hl3 s3 el3=>⟨l3,rfl,.inl ⟨⟨_,SqL.of el3⟩,M8 (λp=> !decide (AD vw.pm p=some 1)) (λp=>[.str "free",.str "piece",.int p]) el3 (MB bp) (λk hk H' s QB qb=> ?_) (λk hk hp H' Q' s q'=> ?_) ?_⟩⟩⟩
  ·obtain⟨hk,_⟩:=FN hk
   have I':=(I2.same s3).same s
   obtain⟨dx',e'⟩:=I'.ob
   obtain⟨us',v',e1',_,ev,hr⟩:=I'.pm.at (k:=k) (by rw[I.ok.l2];exact hk)
   push_cast[B3]
   refine⟨_,_,_,e',T.cl,T.n5,_,xE,B0 (SqL.of e1') (n:=k) rfl ev ?_⟩
   exact xI hr ⟨_,rfl,qb⟩
  ·push_cast[]
   exact⟨by decide,q'⟩
  rw[K4 λk _=>rfl]
  intro l4 H4 hl4 s4 F4
  push_cast[↓Zj]
  have n1:=E7 (p:=λr=>decide (0<led vw r) && !decide (AD vw.rm r=some 1)) (f:=λr=>[.str "free",.str "record",.int r]) br
  have n2:=E7 (p:=λp=>decide (0<FC vw p) && !decide (AD vw.pm p=some 1)) (f:=λp=>[.str "free",.str "piece",.int p]) bp
  exact JY (F2.same (s3.trans s4)) F4 (by omega) (q.of (((s1.trans s2).trans s3).trans s4))
theorem zh6(h:UE K a vs H Q E):ZU K a (λ_=>E) (A0 Q) (A4 ["view","shared","empty","few"] vs) H:=by
 obtain⟨x,A,vw,rfl,T,I,q⟩:=h
 obtain⟨dx,e⟩:=I.ob
 have br:=I.ok.br
 have bp:=I.ok.bp
 push_cast[ZU,↓Yy]
 refine⟨_,_,e,M7 (by decide +kernel),x,A,vw,rfl,T,I,λl1 H1 F5 s1 el1=>⟨l1,rfl,.inl ⟨⟨_,SqL.of el1⟩,M8 (λp=>decide (1<FC vw p)) (λp=>[.str "shared",.int p]) el1 (MB bp) (λk hk H' s QB qb=> ?_) (λk hk hp H' Q' s q'=> ?_) ?_⟩⟩⟩
 ·obtain⟨hk,_⟩:=FN hk
  have I':=(I.same s1).same s
  obtain⟨dx',e'⟩:=I'.ob
  push_cast[B3]
  refine⟨_,_,_,e',T.cl,T.n7,_,xF,M6 I'.ng hk ?_⟩
  push_cast[]
  rw[zhx]
  exact qb
 ·push_cast[]
  exact⟨by decide,q'⟩
 rw[K4 (r:=λp=>decide (1<FC vw p)) λk _=>by
  by_cases h:1<FC vw k
  ·simp[h];omega
  ·simp[h]]
 intro l2 H2 EE s2 F2
 have I2:=I.same (s1.trans s2)
 obtain⟨dx2,e2⟩:=I2.ob
 push_cast[↓Yz]
 refine⟨_,_,e2,M7 (by decide +kernel),x,A,vw,rfl,T,I2,λl3 H3 hl3 s3 el3=>⟨l3,rfl,.inl ⟨⟨_,SqL.of el3⟩,M8 (λp=>(AD vw.pc p).isNone) (λp=>[.str "empty",.int p]) el3 (MB bp) (λk hk H' s QB qb=> ?_) (λk hk hp H' Q' s q'=> ?_) ?_⟩⟩⟩
 ·obtain⟨hk,_⟩:=FN hk
  have I':=(I2.same s3).same s
  obtain⟨dx',e'⟩:=I'.ob
  obtain⟨us',v',e1',_,ev,hr⟩:=I'.p.at hk
  push_cast[B3]
  refine⟨_,_,_,e',T.cl,T.n3,_,zht,B0 (SqL.of e1') (n:=k) rfl ev ?_⟩
  push_cast[]
  rw[xG hr]
  exact qb
 ·push_cast[]
  exact⟨by decide,q'⟩
 rw[K4 λk _=>rfl]
 intro l4 H4 hl4 s4 F4
 have I4:=(I2.same s3).same s4
 obtain⟨dx4,e4⟩:=I4.ob
 push_cast[↓Zb]
 refine⟨_,_,e4,M7 (by decide +kernel),x,A,vw,rfl,T,I4,λl5 H5 hl5 s5 el5=>⟨l5,rfl,.inl ⟨⟨_,SqL.of el5⟩,M8 (IP vw) (λr=>[.str "few",.int r]) el5 (MB br) (λk hk H' s QB qb=> ?_) (λk hk hp H' Q' s q'=> ?_) ?_⟩⟩⟩
 ·obtain⟨hk,hs⟩:=FN hk
  obtain⟨c,hc⟩:=Option.isSome_iff_exists.mp hs
  have I':=(I4.same s5).same s
  obtain⟨dx',e'⟩:=I'.ob
  push_cast[B3]
  refine⟨_,_,e',M7 (by decide +kernel),x,A,vw,k,c,rfl,T,I',hc,_,_,_,e',T.cl,T.n6,_,b9,M6 I'.ld hk ?_⟩
  push_cast[]
  unfold IP at qb
  rw[hc]at qb
  exact qb
 ·push_cast[]
  exact⟨by decide,q'⟩
 rw[K4 (r:=IP vw) λk _=>by
  unfold IP
  cases AD vw.rc k<;>simp]
 intro l6 H6 hl6 s6 F6
 push_cast[↓Zc]
 have n1:=E7 (p:=λp=>decide (1<FC vw p)) (f:=λp=>[.str "shared",.int p]) bp
 have n2:=E7 (p:=λp=>decide (0<FC vw p) && (AD vw.pc p).isNone) (f:=λp=>[.str "empty",.int p]) bp
 have n3:=E7 (p:=IP vw) (f:=λr=>[.str "few",.int r]) br
 have s26:=((s3.trans s4).trans s5).trans s6
 refine JY (F2.same s26) (F4.same (s5.trans s6)) (by omega) λl7 H7 hl7 s7 F7=>JY F7 (F6.same s7) (by simp only[List.length_append];omega) ?_
 exact q.of (((s1.trans s2).trans s26).trans s7)
def TwoL(H:Hp)(l1 l2:Addr)(f1 f2:List (List V))(H':Hp):Prop:=SameBut (λy=>y=l1\/y=l2) H H'/\FindsL H' l1 f1/\FindsL H' l2 f2/\l1≠l2
theorem TwoL.same{l1 l2:Addr}{f1 f2:List (List V)}{H1 H2:Hp}(h:TwoL H l1 l2 f1 f2 H1)(s:Same H1 H2):TwoL H l1 l2 f1 f2 H2:=⟨h.1.trans s.sb,h.2.1.same s,h.2.2.1.same s,h.2.2.2⟩
theorem zh7{l1 l2 t:Addr}{f1 f2:List (List V)}{f:List V}{H':Hp}(h:TwoL H l1 l2 f1 f2 H')(ht:H' t=some (.tup f)):TwoL H l1 l2 (f1++[f]) f2 (upd H' l1 (.lst (((h.2.1).choose++[t]).map V.ref))):=by
 obtain⟨s,F1,F2,n⟩:=h
 have e1:=F1.choose_spec.1
 have P1:=F1.choose_spec.2
 have k:∀ {y:Addr} {g:List V},H' y=some (.tup g)->upd H' l1 (.lst ((F1.choose++[t]).map V.ref)) y=some (.tup g):=λe=>by rw[AO (DB e e1 (by intro z;cases z))];exact e
 refine⟨λy o e ny=>by rw[AO λz=>ny (.inl z)];exact s _ _ e ny,⟨_,AM,Paired.snoc (Paired.mapP P1 λq g e=>k e) (k ht)⟩,?_,n⟩
 obtain⟨p2,e2,P2⟩:=F2
 exact⟨p2,by rw[AO n.symm];exact e2,Paired.mapP P2 λq g e=>k e⟩
theorem TwoL.flip{l1 l2:Addr}{f1 f2:List (List V)}{H':Hp}(h:TwoL H l1 l2 f1 f2 H'):TwoL H l2 l1 f2 f1 H':=⟨h.1.wide λ_=>Or.symm,h.2.2.1,h.2.1,h.2.2.2.symm⟩
theorem VJ{l1 l2 t:Addr}{f1 f2:List (List V)}{f:List V}{H':Hp}{Q:VK}(h:TwoL H l1 l2 f1 f2 H')(hn:f1.length<=1000)(ht:H' t=some (.tup f))(q:∀ H2,TwoL H l1 l2 (f1++[f]) f2 H2->Q .non H2):W2 (.ref l1) [.ref t] H' Q:=by
 have e1:=h.2.1.choose_spec.1
 have P1:=h.2.1.choose_spec.2
 refine⟨l1,_,_,rfl,rfl,e1,Nat.lt_of_lt_of_le (show(h.2.1.choose.map V.ref).length<10000 by rw[List.length_map,P1.length];omega) (by decide),?_⟩
 have:=q _ (zh7 h ht)
 rw[List.map_append]at this
 exact this
theorem xJ{n:Nat}{p:Nat->Bool}{f:Nat->List V}:DO (n+1) p f=if p n=true then DO n p f++[f n]else DO n p f:=by
 unfold DO
 rw[List.range_succ,List.filter_append,List.map_append]
 split
 ·rename_i h;simp[h]
 ·rename_i h;simp[h]
def IT(is:List Nat)(p:Nat->Bool)(f:Nat->List V)(i:Nat):List (List V):=((is.take i).filter p).map f
theorem xK{is:List Nat}{p:Nat->Bool}{f:Nat->List V}{i k:Nat}(h:is[i]? =some k):IT is p f (i+1)=if p k=true then IT is p f i++[f k]else IT is p f i:=by
 unfold IT
 rw[FM h,List.filter_append,List.map_append]
 split
 ·rename_i h;simp[h]
 ·rename_i h;simp[h]
theorem xL{is:List Nat}{p:Nat->Bool}{f:Nat->List V}{i:Nat}(h:is.length<=1000):(IT is p f i).length<=1000:=by
 unfold IT
 rw[List.length_map]
 exact Nat.le_trans (List.length_filter_le ..) (by rw[List.length_take];omega)
theorem ViewAt.two{x:Addr}{A:VA}{vw:Vw}{l1 l2:Addr}{f1 f2:List (List V)}{H0 H':Hp}(I:ViewAt a H0 x A vw)(s0:Same H0 H)(n1:H0 l1=none)(n2:H0 l2=none)(W:TwoL H l1 l2 f1 f2 H'):ViewAt a H' x A vw :=
 I.same λy o e=>W.1 _ _ (s0 _ _ e) λz=>by
  rcases z with z | z
  ·rw[z,n1]at e;cases e
  ·rw[z,n2]at e;cases e
theorem zh8(h:UG K a vs H Q E):ZW K a (λ_=>E) (A0 Q) (A4 ["view","many","left","record","leads"] vs) H:=by
 obtain⟨x,A,vw,rfl,T,I,q⟩:=h
 have br:=I.ok.br
 push_cast[ZW,↓Zk,↓Zl]
 refine⟨by decide,λl1 F5=>⟨by decide,λl2 EE=> ?_⟩⟩
 have n12:l1≠l2:=BX AM EE
 have s2:Same H (upd (upd H l1 (.lst [])) l2 (.lst [])):=(AV F5).trans (AV EE)
 have k1:FindsL (upd (upd H l1 (.lst [])) l2 (.lst [])) l1 []:=⟨[],by rw[AO n12,AM];rfl,.nil⟩
 have k2:FindsL (upd (upd H l1 (.lst [])) l2 (.lst [])) l2 []:=⟨[],AM,.nil⟩
 have f2:H l2=none:=(AV F5).free EE
 revert s2 k1 k2
 generalize upd (upd H l1 (.lst [])) l2 (.lst [])=H2
 intro s2 k1 k2
 have I2:=I.same s2
 obtain⟨dx2,e2⟩:=I2.ob
 push_cast[↓Zx]
 refine⟨_,_,e2,M7 (by decide +kernel),x,A,vw,rfl,T,I2,λl3 H3 hl3 s3 el3=>⟨l3,rfl,.inl ⟨⟨_,SqL.of el3⟩,?_⟩⟩⟩
 have m1:l1≠l3:=λz=>by
  obtain⟨ps,e,_⟩:=k1
  rw[z,hl3]at e;cases e
 have m2:l2≠l3:=λz=>by
  obtain⟨ps,e,_⟩:=k2
  rw[z,hl3]at e;cases e
 have BH:=s2.trans s3
 let is:=(List.range vw.rc.length).filter λr=>(AD vw.rc r).isSome
 have hil:is.length<=1000:=MB br
 refine KR (xs:=AU is) (λi σ H'=>TwoL H3 l1 l2 (IT is (GW vw) (λr=>[.str "many",.int r,.int (led vw r)]) i) (IT is (λr=>decide (led vw r=0)) (λr=>[.str "left",.str "record",.int r]) i) H'/\∃ y3 y4,σ=[some (.ref x),some (.ref l1),some (.ref l2),y3,y4]) ⟨⟨SameBut.refl _,k1.same s3,k2.same s3,n12⟩,_,_,rfl⟩ (λi σ H' _ ⟨W,_⟩=>SqL.of (W.1 _ _ el3 λz=>z.elim (λz=>m1 z.symm) λz=>m2 z.symm)) (λi v σ H' hx hzz=> ?_) (λσ H' hzz=> ?_)
 ·obtain⟨W,y3,y4,eσ⟩:=hzz
  subst eσ
  unfold AU at hx
  rw[List.getElem?_map,Option.map_eq_some_iff]at hx
  obtain⟨k,hk',rfl⟩:=hx
  obtain⟨hk,hsm⟩:=FN (List.mem_of_getElem? hk')
  obtain⟨c,hc⟩:=Option.isSome_iff_exists.mp hsm
  have I':=I.two BH F5 f2 W
  obtain⟨dx',e'⟩:=I'.ob
  push_cast[↓Zm]
  refine⟨_,_,_,e',T.cl,T.n6,_,b9,M6 I'.ld hk ?_⟩
  push_cast[↓Zw]
  have im:GW vw k=(decide (0<led vw k) && decide ((led vw k:Int)<c.1)):=by unfold GW;rw[hc]
  rw[xK hk',xK hk',im]
  by_cases h0:led vw k=0
  ·refine CJ (by omega) ?_
   push_cast[↓Zp]
   obtain⟨ps2,ep2,_⟩:=W.2.2.1
   refine⟨.inl ⟨rfl,_,SqL.of ep2⟩,by decide,λt ht=>VJ (W.same (AV ht)).flip (xL hil) AM λH4 W4=> ?_⟩
   have h0':¬ 0<led vw k:=by omega
   rw[decide_eq_false h0',Bool.false_and,if_neg Bool.false_ne_true,if_pos h0]
   exact W4.flip
  ·refine B7 (by omega) ?_
   push_cast[↓Zv]
   refine⟨_,_,e',M7 (by decide +kernel),x,A,vw,k,c,rfl,T,I',hc,?_⟩
   push_cast[]
   by_cases h1:(led vw k:Int)<c.1
   ·refine CJ h1 ?_
    push_cast[↓Zq]
    obtain⟨ps2,ep2,_⟩:=W.2.1
    refine⟨.inl ⟨rfl,_,SqL.of ep2⟩,by decide,λt ht=>VJ (W.same (AV ht)) (xL hil) AM λH4 W4=> ?_⟩
    rw[decide_eq_true (show 0<led vw k by omega),decide_eq_true h1,Bool.and_true,if_pos rfl,if_neg h0]
    exact W4
   ·refine B7 h1 ?_
    rw[decide_eq_false h1,Bool.and_false,if_neg Bool.false_ne_true,if_neg h0]
    exact W
 ·obtain⟨W,y3,y4,eσ⟩:=hzz
  subst eσ
  push_cast[↓Zy]
  rw[CO]at W
  have g1:IT is (GW vw) (λr=>[.str "many",.int r,.int (led vw r)]) is.length=DO vw.rc.length (GW vw) (λr=>[.str "many",.int r,.int (led vw r)]):=by
   unfold IT
   rw[List.take_length]
   exact K4 λk _=>by
    unfold GW
    cases AD vw.rc k<;>simp
  have g2:IT is (λr=>decide (led vw r=0)) (λr=>[.str "left",.str "record",.int r]) is.length=DO vw.rc.length (λr=>(AD vw.rc r).isSome && decide (led vw r=0)) (λr=>[.str "left",.str "record",.int r]):=by
   unfold IT
   rw[List.take_length]
   exact K4 λk _=>rfl
  rw[g1,g2]at W
  have n1:=E7 (p:=GW vw) (f:=λr=>[.str "many",.int r,.int (led vw r)]) br
  have n2:=E7 (p:=λr=>(AD vw.rc r).isSome && decide (led vw r=0)) (f:=λr=>[.str "left",.str "record",.int r]) br
  exact JY W.2.1 W.2.2.1 (by omega) (q.of λy o e=>W.1 _ _ (BH _ _ e) λz=>by
   rcases z with z | z
   ·rw[z,F5]at e;cases e
   ·rw[z,f2]at e;cases e)
def PL(vw:Vw)(i:Nat)(s:Str):Bool:=(List.range i).any λj=>match AD vw.nm j with
  | none=>false
  | some d=>decide (d.1=s)
structure NmW(H3:Hp)(vw:Vw)(l1 l2 sn:Addr)(i:Nat)(lo tw:List (List V))(j:Nat)(H':Hp):Prop where
 s:SameBut (λy=>y=l1\/y=l2\/y=sn) H3 H'
 f1:FindsL H' l1 lo
 f2:FindsL H' l2 tw
 d:∃ kvs:List (A1 × V),H' sn=some (.dK kvs)/\(∀ s:Str,(CK kvs (.inr s)).isSome=PL vw j s)/\kvs.length<=j
theorem NmW.two{H3:Hp}{vw:Vw}{l1 l2 sn:Addr}{i j:Nat}{lo tw lo' tw':List (List V)}{H' H2:Hp}(h:NmW H3 vw l1 l2 sn i lo tw j H')(n1:sn≠l1)(n2:sn≠l2)(W:TwoL H' l1 l2 lo' tw' H2):NmW H3 vw l1 l2 sn i lo' tw' j H2:=by
 obtain⟨kvs,e,r⟩:=h.d
 exact⟨h.s.trans (W.1.wide λy z=>z.elim .inl λz=>.inr (.inl z)),W.2.1,W.2.2.1,⟨kvs,W.1 _ _ e λz=>z.elim n1 n2,r⟩⟩
theorem NmW.same{H3:Hp}{vw:Vw}{l1 l2 sn:Addr}{i j:Nat}{lo tw:List (List V)}{H' H2:Hp}(h:NmW H3 vw l1 l2 sn i lo tw j H')(s:Same H' H2):NmW H3 vw l1 l2 sn i lo tw j H2:=by
 obtain⟨kvs,e,r⟩:=h.d
 exact⟨h.s.trans s.sb,h.f1.same s,h.f2.same s,⟨kvs,s _ _ e,r⟩⟩
theorem zh9(h:UD K a vs H Q E):Y7 K a (λ_=>E) (A0 Q) (A4 ["view","lost","twice","seen","k","value"] vs) H:=by
  obtain⟨x,A,vw,rfl,T,I,q⟩:=h
  have bn:=I.ok.bn
  push_cast[Y7,↓Vb,↓Vc,↓Vd]
  refine⟨by decide,λl1 F5=>⟨by decide,λl2 EE sn hsn=> ?_⟩⟩
  have n12:l1≠l2:=BX AM EE
  have s2:Same H (upd (upd H l1 (.lst [])) l2 (.lst [])):=(AV F5).trans (AV EE)
  have k1:FindsL (upd (upd H l1 (.lst [])) l2 (.lst [])) l1 []:=⟨[],by rw[AO n12,AM];rfl,.nil⟩
  have k2:FindsL (upd (upd H l1 (.lst [])) l2 (.lst [])) l2 []:=⟨[],AM,.nil⟩
  have f2:H l2=none:=(AV F5).free EE
  revert hsn s2 k1 k2
  generalize upd (upd H l1 (.lst [])) l2 (.lst [])=H2
  intro hsn s2 k1 k2
  have fsn:=s2.free hsn
  obtain⟨H3,zz0,s3,e3⟩:=DA (o:=.dK []) hsn
  rw[zz0]
  have BH:=s2.trans s3
  have I3:=I.same BH
  obtain⟨dx3,ob3⟩:=I3.ob
  obtain⟨us,en,P⟩:=I3.n
  have hl:=P.length
  push_cast[↓Vp]
  refine⟨_,_,_,ob3,T.cl,T.n1,_,zhs,A.n,rfl,⟨_,SqL.of en⟩,?_⟩
  have m1:sn≠l1:=λz=>by
    obtain⟨ps,e,_⟩:=k1
    rw[<-z,hsn]at e;cases e
  have m2:sn≠l2:=λz=>by
    obtain⟨ps,e,_⟩:=k2
    rw[<-z,hsn]at e;cases e
  have vi:∀ {H':Hp} {i j:Nat} {lo tw:List (List V)},NmW H3 vw l1 l2 sn i lo tw j H'->ViewAt a H' x A vw:=λh=>I.same λy o e=>h.s _ _ (BH _ _ e) λz=>by
    rcases z with z | z | z
    ·rw[z,F5]at e;cases e
    ·rw[z,f2]at e;cases e
    ·rw[z,fsn]at e;cases e
  have nA:A.n≠l1/\A.n≠l2/\A.n≠sn:=by
    obtain⟨us',e0,_⟩:=I.n
    exact⟨λz=>(by rw[z,F5]at e0;cases e0),λz=>(by rw[z,f2]at e0;cases e0),λz=>(by rw[z,fsn]at e0;cases e0)⟩
  let LO:=λi=>DO i (G9 vw) (λk=>[.str "lost",.int k])
  let TW:=λi=>DO i (HM vw) (λk=>[.str "twice",.int k])
  refine kE (xs:=us) (λi σ H'=>NmW H3 vw l1 l2 sn i (LO i) (TW i) i H'/\∃ y4 y5,σ=[some (.ref x),some (.ref l1),some (.ref l2),some (.ref sn),y4,y5]) ⟨⟨SameBut.refl _,k1.same s3,k2.same s3,[],e3,λ_=>rfl,Nat.le_refl _⟩,_,_,rfl⟩ (λi σ H' _ ⟨W,_⟩=>SqL.of (W.s _ _ en λz=>z.elim nA.1 λz=>z.elim nA.2.1 nA.2.2)) (λi v σ H' t hx ⟨W0,y4,y5,eσ⟩ ht=> ?_) (λσ H' hzz=> ?_)
  · subst eσ
    have hi:=(List.getElem?_eq_some_iff.mp hx).1
    push_cast[]
    refine⟨_,SqT.of AM,rfl,_,_,rfl,_,_,rfl,rfl,?_⟩
    have W:=W0.same (AV (o:=.tup [.int (i:Int),v]) ht)
    revert W
    generalize upd H' t (.tup [.int (i:Int),v])=H4
    intro W
    clear W0
    have I4:=vi W
    obtain⟨dx4,ob4⟩:=I4.ob
    obtain⟨us',v',e1',_,ev,hr⟩:=I4.n.at (k:=i) (by omega)
    rw[W.s _ _ en (λz=>z.elim nA.1 λz=>z.elim nA.2.1 nA.2.2)]at e1';cases e1'
    rw[hx]at ev;cases ev
    have bi:i<=100:=by omega
    have hLO:LO (i+1)=if G9 vw i=true then LO i++[[.str "lost",.int i]]else LO i:=xJ
    have hTW:TW (i+1)=if HM vw i=true then TW i++[[.str "twice",.int i]]else TW i:=xJ
    have n1:(LO i).length<=100:=E7 bi
    have n2:(TW i).length<=100:=E7 bi
    have sS:∀ s:Str,PL vw (i+1) s=(PL vw i s || match AD vw.nm i with
      | none=>false
      | some d=>decide (d.1=s)):=λs=>by
      unfold PL
      rw[List.range_succ,List.any_append]
      simp
    push_cast[↓Vm]
    cases hc:AD vw.nm i with
    | none =>
      rw[hc]at hr
      refine B7 (λz=>z hr) ?_
      have z1:G9 vw i=false:=by unfold G9;rw[hc]
      have z2:HM vw i=false:=by unfold HM;rw[hc]
      rw[hLO,hTW,z1,z2,if_neg Bool.false_ne_true,if_neg Bool.false_ne_true]
      obtain⟨kvs,ek,hv,GE⟩:=W.d
      exact⟨W.s,W.f1,W.f2,kvs,ek,λs=>by rw[hv,sS,hc,Bool.or_false],by omega⟩
    | some c =>
      rw[hc]at hr
      obtain⟨p,rfl,hp⟩:=hr
      refine CJ (by simp) ?_
      have hm:some c∈vw.nm:=by
        unfold AD at hc
        cases e2:vw.nm[i]? with
        | none=>rw[e2]at hc;cases hc
        | some y =>
          rw[e2]at hc
          have hc:y=some c:=hc
          exact hc ▸ List.mem_of_getElem? e2
      have hcr:=(I.ok.n1 c hm).1
      have z1:G9 vw i=(AD vw.rc c.2).isNone:=by unfold G9;rw[hc]
      have z2:HM vw i=PL vw i c.1:=by unfold HM PL;simp only[hc]<;>rfl
      have tail:∀ {H5:Hp},NmW H3 vw l1 l2 sn i (LO (i+1)) (TW i) i H5->H5 p=some (.tup [.str c.1,.int c.2])->AF (Y6 K a (λ_=>E) (λ_=>E)) (U8 K a (λ_=>E) (λ_=>E)) { nx:=λσ H'=>NmW H3 vw l1 l2 sn (i+1) (LO (i+1)) (TW (i+1)) (i+1) H'/\∃ y4 y5,σ=[some (V.ref x),some (V.ref l1),some (V.ref l2),some (V.ref sn),y4,y5],rt:=Q,bk:=U9 K a (λx=>E) (λx=>E) (A0 Q),ct:=λσ H'=>NmW H3 vw l1 l2 sn (i+1) (LO (i+1)) (TW (i+1)) (i+1) H'/\∃ y4 y5,σ=[some (V.ref x),some (V.ref l1),some (V.ref l2),some (V.ref sn),y4,y5] } [some (V.ref x),some (V.ref l1),some (V.ref l2),some (V.ref sn),some (V.int ↑i),some (V.ref p)] H5:=λ{H5} W5 hp5=>by
        have last:∀ {H6:Hp},NmW H3 vw l1 l2 sn i (LO (i+1)) (TW (i+1)) i H6->H6 p=some (.tup [.str c.1,.int c.2])->U8 K a (λ_=>E) (λ_=>E) { nx:=λσ H'=>NmW H3 vw l1 l2 sn (i+1) (LO (i+1)) (TW (i+1)) (i+1) H'/\∃ y4 y5,σ=[some (V.ref x),some (V.ref l1),some (V.ref l2),some (V.ref sn),y4,y5],rt:=Q,bk:=U9 K a (λx=>E) (λx=>E) (A0 Q),ct:=λσ H'=>NmW H3 vw l1 l2 sn (i+1) (LO (i+1)) (TW (i+1)) (i+1) H'/\∃ y4 y5,σ=[some (V.ref x),some (V.ref l1),some (V.ref l2),some (V.ref sn),y4,y5] } [some (V.ref x),some (V.ref l1),some (V.ref l2),some (V.ref sn),some (V.int ↑i),some (V.ref p)] H6:=λ{H6} W6 hp6=>by
          obtain⟨kvs,ek,hv,GE⟩:=W6.d
          push_cast[↓Vl]
          refine BY hp6 (n:=0) rfl rfl ⟨_,pS ek (by omega),?_⟩
          have s7:SameBut (· =sn) H6 (upd H6 sn (.dK (DC kvs (.inr c.1) (.bl true)))):=λy o e ny=>by rw[AO ny];exact e
          obtain⟨q1,g1,P1⟩:=W6.f1
          obtain⟨q2,g2,P2⟩:=W6.f2
          have kt:∀ {y:Addr} {g:List V},H6 y=some (.tup g)->upd H6 sn (.dK (DC kvs (.inr c.1) (.bl true))) y=some (.tup g):=λe=>s7 _ _ e (DB e ek (by intro z;cases z))
          refine⟨W6.s.trans (s7.wide λy z=>.inr (.inr z)),⟨q1,s7 _ _ g1 m1.symm,Paired.mapP P1 λq g e=>kt e⟩,⟨q2,s7 _ _ g2 m2.symm,Paired.mapP P2 λq g e=>kt e⟩,_,AM,λs=> ?_,?_⟩
          · rw[TF,sS,hc,<-hv]
            by_cases z:s=c.1
            ·subst z;simp
            · rw[if_neg (by simpa using z)]
              have:decide (c.1=s)=false:=by simpa using λu=>z (Eq.symm u)
              simp only[this,Bool.or_false]
          · have:=Q5 kvs (.inr c.1) (.bl true)
            omega
        obtain⟨kvs,ek,hv,GE⟩:=W5.d
        push_cast[↓Vk]
        refine BY hp5 (n:=0) rfl rfl ⟨_,dS ek,?_⟩
        rw[hv,<-z2]
        cases hz:HM vw i with
        | true =>
          refine CJ rfl ?_
          push_cast[↓Vj]
          obtain⟨ps2,ep2,_⟩:=W5.f2
          refine⟨.inl ⟨rfl,_,SqL.of ep2⟩,by decide,λt2 ht2=> ?_⟩
          have W5':=W5.same (AV (o:=.tup [V.str (Str.ofString "twice"),V.int ↑i]) ht2)
          refine VJ (H:=upd H5 t2 (.tup [V.str (Str.ofString "twice"),V.int ↑i])) (l2:=l1) (f2:=LO (i+1)) ⟨SameBut.refl _,W5'.f2,W5'.f1,n12.symm⟩ (by omega) AM λH6 W6=> ?_
          have W7:=W5'.two m1 m2 W6.flip
          rw[show TW i++[[V.str (Str.ofString "twice"),V.int ↑i]]=TW (i+1) by rw[hTW,hz,if_pos rfl]]at W7
          exact last W7 (W6.1 _ _ (AV ht2 _ _ hp5) λz=>by
            rcases z with z | z
            · obtain⟨ps,e,_⟩:=W5.f2
              rw[<-z,hp5]at e;cases e
            · obtain⟨ps,e,_⟩:=W5.f1
              rw[<-z,hp5]at e;cases e)
        | false =>
          refine B7 Bool.false_ne_true ?_
          rw[show TW i=TW (i+1) by rw[hTW,hz,if_neg Bool.false_ne_true]]at W5
          exact last W5 hp5
      obtain⟨us2,v2,e2,_,ev2,G0⟩:=I4.r.at hcr
      push_cast[↓Vh]
      refine⟨_,_,_,ob4,T.cl,T.n2,_,VF,BY hp (n:=1) rfl rfl (B0 (SqL.of e2) (n:=c.2) rfl ev2 ?_)⟩
      push_cast[]
      have G1:=PK G0
      by_cases hz:v2=.non
      · refine CJ hz ?_
        have hz':G9 vw i=true:=by rw[z1,<-G1];simpa using hz
        push_cast[↓Vg]
        obtain⟨ps2,ep2,_⟩:=W.f1
        refine⟨.inl ⟨rfl,_,SqL.of ep2⟩,by decide,λt2 ht2=> ?_⟩
        have W5':=W.same (AV (o:=.tup [V.str (Str.ofString "lost"),V.int ↑i]) ht2)
        refine VJ (H:=upd H4 t2 (.tup [V.str (Str.ofString "lost"),V.int ↑i])) (l2:=l2) (f2:=TW i) ⟨SameBut.refl _,W5'.f1,W5'.f2,n12⟩ (by omega) AM λH6 W6=> ?_
        have W7:=W5'.two m1 m2 W6
        rw[show LO i++[[V.str (Str.ofString "lost"),V.int ↑i]]=LO (i+1) by rw[hLO,hz',if_pos rfl]]at W7
        exact tail W7 (W6.1 _ _ (AV ht2 _ _ hp) λz=>by
            rcases z with z | z
            · obtain⟨ps,e,_⟩:=W.f1
              rw[<-z,hp]at e;cases e
            · obtain⟨ps,e,_⟩:=W.f2
              rw[<-z,hp]at e;cases e)
      · refine B7 hz ?_
        have hz':G9 vw i=false:=by rw[z1,<-G1];simpa using hz
        rw[show LO i=LO (i+1) by rw[hLO,hz',if_neg Bool.false_ne_true]]at W
        exact tail W hp
  · obtain⟨W,y4,y5,eσ⟩:=hzz
    subst eσ
    push_cast[↓Vq]
    rw[hl]at W
    exact JY W.f1 W.f2 (by have:=E7 (p:=G9 vw) (f:=λk=>[.str "lost",.int k]) bn;have:=E7 (p:=HM vw) (f:=λk=>[.str "twice",.int k]) bn;show(DO _ _ _).length+(DO _ _ _).length<=_;omega) (q.of λy o e=>W.s _ _ (BH _ _ e) λz=>by
      rcases z with z | z | z
      ·rw[z,F5]at e;cases e
      ·rw[z,f2]at e;cases e
      ·rw[z,fsn]at e;cases e)
theorem NA{n b:Nat}(h:b<n):JN n (b:Int)=some b:=by
 unfold JN
 rw[if_pos (by omega),if_pos (by omega),Int.toNat_natCast]
theorem GL{α β :Type}{F: α -> β ->Prop}:∀ {l:List α} {m:List β} {i:Nat} {x: α},Paired F l m->l[i]? =some x->∃ y,m[i]? =some y/\F x y
 | _,_,_,_,.nil,h=>by simp at h
 | _,_,0,_,.cons h _,e=>by cases e;exact⟨_,rfl,h⟩
 | _,_,i+1,_,.cons _ r,e=>by
  obtain⟨y,h1,h2⟩:=GL (i:=i) r (by simpa using e)
  exact⟨y,by simpa using h1,h2⟩
theorem zia(h:KZ K a vs H Q E):aG K a (λ_=>E) (A0 Q) (A4 ["plank","places"] vs) H:=by
 obtain⟨gp,cl,pl,w,rows,m,ts,ps,rfl,TP,P,CF,Pt,hin,hn,q⟩:=h
 have hl:=Pt.length
 push_cast[aG,↓zbv]
 refine .inl ⟨⟨_,SqL.of CF⟩,X7 (xs:=ts.map V.ref) (small _ (by rw[List.length_map];omega)) (λi σ' ys H'=>Same H H'/\ys=(ps.take i).map (λij=>LY rows ij.1 ij.2)/\∃ y0 y1,σ'=[y0,y1,some (.ref gp)]) ⟨Same.refl _,rfl,none,none,rfl⟩ (λi σ' ys H' ⟨s,e,_⟩=>⟨SqL.of (s _ _ CF),by rw[e,List.length_map,List.length_take];omega⟩) (λi x σ' ys H' hi hx hzz=> ?_) (λσ' ys H' ⟨s,e,_⟩ p hp=> ?_)⟩
 ·obtain⟨s,e,y0,y1,eσ⟩:=hzz
  subst eσ
  rw[List.length_map]at hi
  rw[List.getElem?_map,Option.map_eq_some_iff]at hx
  obtain⟨t,ht,rfl⟩:=hx
  obtain⟨ij,eij,et⟩:=GL Pt ht
  have hb:=hin ij (List.mem_of_getElem? eij)
  have P':=P.same s
  obtain⟨dp,JJ⟩:=P'.ob
  push_cast[]
  refine⟨_,SqT.of (s _ _ et),rfl,_,_,rfl,_,_,rfl,rfl,?_⟩
  refine⟨λy H4=>Same H H4/\y=LY rows ij.1 ij.2,λy H4 ⟨s4,ey⟩=>Rw (by rw[List.length_map];exact hi) ⟨s4,?_⟩,_,_,JJ,RX _ _ _,gp,cl,w,rows,m,ij.1,rfl,TP,P',λb' row eb er l1 F5=> ?_,λz=>by omega⟩
  ·rw[ey,e,FM eij,List.map_append]
   rfl
  ·obtain rfl:ij.1=b':=by omega
   have hw:=P.wd row (List.mem_of_getElem? er)
   have ej:=List.getElem?_eq_getElem (l:=row) (i:=ij.2) (by omega)
   refine B0 (SqL.of AM) (n:=ij.2) rfl ej ⟨HQ s F5,?_⟩
   unfold LY
   rw[er]
   show _=(row[ij.2]?).getD .non
   rw[ej];rfl
 ·rw[List.length_map,hl,List.take_length]at e
  subst e
  exact q p _ (s.free hp) (HQ s hp) AM
theorem zib(h:OV K a vs H Q E):ZA K a (λ_=>E) (A0 Q) (A4 ["many","numbers","counts","number"] vs) H:=by
 obtain⟨many,nl,ks,rfl,hnl,hks,hm,hkn,q⟩:=h
 push_cast[ZA,↓Wb]
 refine⟨by omega,by omega,Qm (small many (by omega)) (λ_=>V.int 0) (λj hj Q' q'=>q') λl hl=> ?_⟩
 have e0:(List.range many).map (λ_=>V.int 0)=AU ((List.range many).map λk=>([]:List Nat).count k):=by
  unfold AU
  rw[List.map_map]
  rfl
 rw[e0]
 have s1:=AV (o:=.lst (AU ((List.range many).map λk=>([]:List Nat).count k))) hl
 have e1:upd H l (.lst (AU ((List.range many).map λk=>([]:List Nat).count k))) l=some (.lst (AU ((List.range many).map λk=>([]:List Nat).count k))):=AM
 have nll:nl≠l:=BX hnl hl
 revert s1 e1
 generalize upd H l (.lst (AU ((List.range many).map λk=>([]:List Nat).count k)))=H1
 intro s1 e1
 push_cast[↓Wd]
 refine .inl ⟨⟨_,SqL.of (s1 _ _ hnl)⟩,KR (xs:=AU ks) (λi σ H'=>(Same H H'/\H' l=some (.lst (AU ((List.range many).map λk=>(ks.take i).count k))))/\∃ y,σ=[some (.int many),some (.ref nl),some (.ref l),y]) ⟨⟨s1,e1⟩,_,rfl⟩ (λi σ H' _ ⟨⟨s,_⟩,_⟩=>SqL.of (s _ _ hnl)) (λi v σ H' hx ⟨⟨s,e⟩,y,eσ⟩=> ?_) (λσ H' ⟨⟨s,e⟩,y,eσ⟩=> ?_)⟩
 ·subst eσ
  unfold AU at hx
  rw[List.getElem?_map,Option.map_eq_some_iff]at hx
  obtain⟨k,hk',rfl⟩:=hx
  have hk:=hks k (List.mem_of_getElem? hk')
  push_cast[↓Wc]
  refine⟨_,k,rfl,SqL.of e,_,PJ (K3 hk),?_⟩
  push_cast[]
  refine⟨l,_,_,k,rfl,rfl,e,NA (by rw[CO,JX];exact hk),λy o e=>by rw[AO (BX e hl)];exact s _ _ e,?_⟩
  rw[AM]
  congr 2
  unfold AU
  refine List.ext_getElem? λj=> ?_
  by_cases hj:j<many
  ·rw[List.getElem?_map,K3 hj,FM hk',List.count_append]
   by_cases z:k=j
   ·subst z
    rw[List.getElem?_set_self (by simpa using hj)]
    simp
   ·rw[List.getElem?_set_ne z,List.getElem?_map,K3 hj]
    have:List.count j [k]=0:=by simp[z]
    rw[this]
    rfl
  ·rw[List.getElem?_eq_none (by simp;omega),List.getElem?_eq_none (by simp;omega)]
 ·subst eσ
  rw[CO,List.take_length]at e
  push_cast[↓Wg]
  exact q l _ hl s e
theorem zic(h:RJ K a vs H Q E):ZB K a (λ_=>E) (A0 Q) (A4 ["records","pieces","value"] vs) H:=by
 obtain⟨rl,cs,rfl,⟨us,EW,P⟩,hcs,hp,q⟩:=h
 have hl:=P.length
 push_cast[ZB,↓Wh]
 refine⟨by decide,λl hl0=> ?_⟩
 have s1:=AV (o:=.lst []) hl0
 have e1:upd H l (.lst []) l=some (.lst (AU (DN []))):=AM
 revert s1 e1
 generalize upd H l (.lst [])=H1
 intro s1 e1
 have pl:∀ i,(DN (cs.take i)).length<=i * 10:=λi=>by
  induction i with
  | zero=>exact Nat.le_refl _
  | succ i ih =>
   cases e:cs[i]? with
   | none =>
    rw[List.take_of_length_le (by have:=List.getElem?_eq_none_iff.mp e;omega)]
    rw[List.take_of_length_le (by have:=List.getElem?_eq_none_iff.mp e;omega)]at ih
    omega
   | some c =>
    rw[FM e]
    unfold DN at ih ⊢
    rw[List.flatMap_append,List.length_append]
    have:(List.flatMap HL [c]).length<=10:=by
     cases c with
     | none=>simp[HL]
     | some c =>
      simp[HL]
      exact hp c (List.mem_of_getElem? e)
    omega
 push_cast[↓Wl]
 refine .inl ⟨⟨_,SqL.of (s1 _ _ EW)⟩,KR (xs:=us) (λi σ H'=>(Same H H'/\H' l=some (.lst (AU (DN (cs.take i)))))/\∃ y,σ=[some (.ref rl),some (.ref l),y]) ⟨⟨s1,e1⟩,_,rfl⟩ (λi σ H' _ ⟨⟨s,_⟩,_⟩=>SqL.of (s _ _ EW)) (λi v σ H' hx ⟨⟨s,e⟩,y,eσ⟩=> ?_) (λσ H' ⟨⟨s,e⟩,y,eσ⟩=> ?_)⟩
 ·subst eσ
  obtain⟨c,ec,hr⟩:=GL P hx
  have hi:=(List.getElem?_eq_some_iff.mp hx).1
  have pli:=pl i
  have ep:DN (cs.take (i+1))=DN (cs.take i)++HL c:=by
   rw[FM ec]
   unfold DN
   rw[List.flatMap_append]
   simp
  rw[ep]
  push_cast[↓Wk]
  cases c with
  | none =>
   refine B7 (λz=>z hr) ?_
   rw[show HL none=[]from rfl,List.append_nil]
   exact⟨s,e⟩
  | some c =>
   obtain⟨p,t,rfl,h1,h2⟩:=hr
   refine CJ (by simp) ?_
   push_cast[↓Wj]
   have hc:=hp c (List.mem_of_getElem? ec)
   refine⟨.inl ⟨rfl,_,SqL.of e⟩,BY (s _ _ h1) (n:=1) rfl rfl ⟨l,t,_,_,rfl,rfl,e,SqT.of (s _ _ h2),small _ (by rw[CO,CO];omega),?_⟩⟩
   refine⟨λy o e=>by rw[AO (BX e hl0)];exact s _ _ e,?_⟩
   rw[AM]
   unfold AU
   rw[List.map_append]
   rfl
 ·subst eσ
  rw[hl,List.take_length]at e
  push_cast[↓Wm]
  exact q l _ hl0 s e
theorem VL{w:Nat}:∀ {rows:List (List V)} {b j:Nat},(∀ r∈rows,r.length=w)->b<rows.length->j<w->rows.flatten[b * w+j]? =(rows[b]?).bind (·[j]?)
 | [],b,j,_,hb,_=>by simp at hb
 | r::rs,0,j,h,_,hj=>by
  have hr:=h r List.mem_cons_self
  rw[Nat.zero_mul,Nat.zero_add,List.flatten_cons,List.getElem?_append_left (by omega)]
  rfl
 | r::rs,b+1,j,h,hb,hj=>by
  have hr:=h r List.mem_cons_self
  rw[List.flatten_cons,List.getElem?_append_right (by rw[hr,Nat.succ_mul];omega)]
  have e:(b+1) * w+j - r.length=b * w+j:=by rw[hr,Nat.succ_mul];omega
  rw[e,VL (λr hr=>h r (List.mem_cons_of_mem _ hr)) (by simpa using hb) hj]
  rfl
theorem cB{w:Nat}{rows:List (List V)}{b k n:Nat}(h:∀ r∈rows,r.length=w)(hw:1<=w)(hk:k<n * w)(hb:b+n<=rows.length):(rows.flatten[b * w+k]?)=some (LY rows (b+k / w) (k % w))/\b+k / w<rows.length/\k % w<w:=by
 have h1:k / w<n:=Nat.div_lt_of_lt_mul (by rw[Nat.mul_comm];exact hk)
 have h2:k % w<w:=Nat.mod_lt _ (by omega)
 refine⟨?_,by omega,h2⟩
 have e:b * w+k=(b+k / w) * w+k % w:=by
  rw[Nat.add_mul,Nat.add_assoc,Nat.div_add_mod']
 rw[e,VL h (by omega) h2]
 unfold LY
 have hb':b+k / w<rows.length:=by omega
 rw[List.getElem?_eq_getElem hb']
 have hr:=h _ (List.getElem_mem hb')
 show(rows[b+k / w])[k % w]? =some (((rows[b+k / w])[k % w]?).getD .non)
 rw[List.getElem?_eq_getElem (by omega)]
 rfl
theorem zid{w:Nat}{rows:List (List V)}{b n:Nat}{pre vs post:List V}(h:∀ r∈rows,r.length=w)(hw:1<=w)(hb:b+n<=rows.length)(e:rows.flatten=pre++vs++post)(hp:pre.length=b * w)(hv:vs.length=n * w):(List.range (n * w)).map (λk=>LY rows (b+k / w) (k % w))=vs:=by
 refine List.ext_getElem? λk=> ?_
 by_cases hk:k<n * w
 ·rw[List.getElem?_map,List.getElem?_range hk]
  have:=(cB h hw hk hb).1
  show some _=_
  rw[<-this,e,List.append_assoc,List.getElem?_append_right (by omega),List.getElem?_append_left (by omega)]
  congr 1
  omega
 ·rw[List.getElem?_eq_none (by simp;omega),List.getElem?_eq_none (by omega)]
theorem zie{N b w:Nat}{te:TE}{cap:List Nat}{σ:St}(hn:N<=1000)
  (he:∀ k,k<N->∀ H' (Q':VK),Same H H'->(∀ t,H' t=none->Q' (.ref t) (upd H' t (.tup [.int ((b+k / w:Nat):Int),.int ((k % w:Nat):Int)])))->te (some (.int (k:Int))::B3 cap σ) H' Q')
  (hd:∀ (pl:Addr) (ts:List Addr) (H':Hp),H pl=none->Same H H'->H' pl=some (.lst (ts.map V.ref))->Paired (λt (ij:Nat × Nat)=>H' t=some (.tup [.int ij.1,.int ij.2])) ts ((List.range N).map λk=>(b+k / w,k % w))->Q (.ref pl) H'):FU (GU 0 N) (AG 0) DL te 1 cap σ H Q:=by
 refine LR (small _ (by omega)) (λi ys H'=>Same H H'/\∃ ts:List Addr,ys=ts.map V.ref/\Paired (λt (ij:Nat × Nat)=>H' t=some (.tup [.int ij.1,.int ij.2])) ts ((List.range i).map λk=>(b+k / w,k % w))) ⟨Same.refl _,[],rfl,.nil⟩ (λi ys H' hi _ hzz=> ?_) (λys H' _ ⟨s,ts,e,P⟩ p hp=> ?_)
 ·obtain⟨s,ts,e,P⟩:=hzz
  rw[Int.zero_add]
  refine he i hi H' _ s λt ht=>⟨HQ s ht,ts++[t],by rw[e,List.map_append];rfl,?_⟩
  rw[List.range_succ,List.map_append]
  exact Paired.snoc (Paired.mapP P λt ij e=>AV ht _ _ e) AM
 ·subst e
  exact hd p ts _ (s.free hp) (HQ s hp) AM (Paired.mapP P λt ij e=>AV hp _ _ e)
theorem RZ{n b w m:Nat}{gp cl:Addr}{rows:List (List V)}{te:TE}{cap:List Nat}{σ:St}{QV:VK}{pre us post:List V}(TP:FG K a)(P:PlankAt a H gp cl w rows m)(hw:1<=w)(WD:n * w<=1000)(hb:b+n<=rows.length)(e:rows.flatten=pre++us++post)(hp:pre.length=b * w)(hv:us.length=n * w)
  (he:∀ k,k<n * w->∀ H' (Q':VK),Same H H'->(∀ t,H' t=none->Q' (.ref t) (upd H' t (.tup [.int ((b+k / w:Nat):Int),.int ((k % w:Nat):Int)])))->te (some (.int (k:Int))::B3 cap σ) H' Q')
  (q:newL us H QV):FU (GU 0 (n * w)) (AG 0) DL te 1 cap σ H (λv H2=>KZ K a [.ref gp,v] H2 QV E):=by
 refine zie WD he λpl ts H' CF s epl Pt=> ?_
 refine⟨gp,cl,pl,w,rows,m,ts,_,rfl,TP,P.same s,epl,Pt,λij hij=> ?_,by rw[List.length_map,List.length_range];exact WD,?_⟩
 ·obtain⟨k,hk,rfl⟩:=List.mem_map.mp hij
  exact(cB P.wd hw (List.mem_range.mp hk) hb).2
 ·rw[List.map_map]
  have:=zid P.wd hw hb e hp hv
  rw[show((List.range (n * w)).map ((λij:Nat × Nat=>LY rows ij.1 ij.2) ∘ λk=>(b+k / w,k % w)))=us from this]
  exact q.of s
section
variable{u1 u2 u3 u4 u5 u6:V}{DS:List (Str × V)}
theorem zif:(("name_values",u1)::DS:List (Str × V)).lookup ("name_values":Str)=some u1:=by simp
theorem xM:(("name_values",u1)::("record_values",u2)::DS:List (Str × V)).lookup ("record_values":Str)=some u2:=by
 simp[List.lookup_cons,BL (a:="record_values") (b:="name_values") (by decide +kernel)]
theorem zig:(("name_values",u1)::("record_values",u2)::("piece_values",u3)::("record_marks",u4)::("piece_marks",u5)::("leads",u6)::DS:List (Str × V)).lookup ("leads":Str)=some u6:=by
 simp[List.lookup_cons,BL (a:="leads") (b:="name_values") (by decide +kernel),BL (a:="leads") (b:="record_values") (by decide +kernel),BL (a:="leads") (b:="piece_values") (by decide +kernel),BL (a:="leads") (b:="record_marks") (by decide +kernel),BL (a:="leads") (b:="piece_marks") (by decide +kernel)]
end
def MC(ks:List Str)(as:List Addr):List (Str × V):=List.zipWith (λk l=>(k,V.ref l)) ks as
theorem xN{f:Str}{l:Addr}:∀ {ks:List Str} {as:List Addr},ks.length=as.length->ks.all (λg=> !EN g f)=true->CS f (.ref l) (MC ks as)=MC (ks++[f]) (as++[l])
 | [],[],_,_=>rfl
 | k::ks,b::as,h,e=>by
  simp only[List.all_cons,Bool.and_eq_true,Bool.not_eq_true']at e
  show CS f (.ref l) ((k,V.ref b)::MC ks as)=_
  rw[kS e.1,xN (Nat.succ.inj h) e.2]
  rfl
structure VI(C:Addr)(H H':Hp)(x dx:Addr)(ks:List Str)(as:List Addr)(ls:List (Addr × HO)):Prop where
 ob:H' x=some (.ins C dx (MC ks as))
 s:SameBut (· =x) H H'
 al:∀ p∈ls,H' p.1=some p.2/\p.1≠x
section
variable{C x dx l:Addr}{ks:List Str}{as:List Addr}{ls:List (Addr × HO)}{H1 H2:Hp}{o:HO}
theorem VI.same(I:VI C H H1 x dx ks as ls)(s:Same H1 H2):VI C H H2 x dx ks as ls:=⟨s _ _ I.ob,I.s.trans s.sb,λp hp=>⟨s _ _ (I.al p hp).1,(I.al p hp).2⟩⟩
theorem VI.add(I:VI C H H1 x dx ks as ls)(e:H1 l=some o)(no:∀ D d f,o≠.ins D d f:=by intro _ _ _ z;cases z):VI C H H1 x dx ks as ((l,o)::ls):=⟨I.ob,I.s,λp hp=>by
 rcases List.mem_cons.mp hp with rfl | hp
 ·exact⟨e,λz=>by rw[show l=x from z,I.ob]at e;exact no _ _ _ (Option.some.inj e).symm⟩
 ·exact I.al p hp⟩
theorem VI.new(I:VI C H H1 x dx ks as ls)(h:H1 l=none)(no:∀ D d f,o≠.ins D d f:=by intro _ _ _ z;cases z):VI C H (upd H1 l o) x dx ks as ((l,o)::ls):=(I.same (AV h)).add AM no
theorem VI.put{f:Str}{P:Hp->Prop}(I:VI C H H1 x dx ks as ls)(T:Cls K C)(hn:NoAttr K C f)(q:∀ H3,VI C H H3 x dx (ks++[f]) (as++[l]) ls->P H3)(hl:ks.length=as.length:=by rfl)(hf:ks.all (λg=> !EN g f)=true:=by decide +kernel)(h9:ks.length<1000:=by decide) :
  ∃ D d gs,H1 x=some (.ins D d gs)/\Cls K D/\NoAttr K D f/\gs.length<1000/\P (upd H1 x (.ins D d (CS f (.ref l) gs))) :=
 ⟨_,_,_,I.ob,T,hn,Nat.lt_of_le_of_lt (by unfold MC;rw[List.length_zipWith];exact Nat.min_le_left _ _) h9,q _ ⟨by rw[AM,xN hl hf],I.s.trans λy o e ny=>by rw[AO ny];exact e,λp hp=>⟨by rw[AO (I.al p hp).2];exact(I.al p hp).1,(I.al p hp).2⟩⟩⟩
end
theorem R0{b k w:Nat}{z:Int}{Q:VK}(hz:z=b)(q:∀ t,H t=none->Q (.ref t) (upd H t (.tup [.int ((b+k / w:Nat):Int),.int ((k % w:Nat):Int)]))):LU (z+(k:Int) / (w:Int)) ((k:Int) % (w:Int)) Q H:=by
 unfold LU
 have e1:z+(k:Int) / (w:Int)=((b+k / w:Nat):Int):=by rw[hz];simp
 have e2:(k:Int) % (w:Int)=((k % w:Nat):Int):=by simp
 rw[e1,e2]
 exact q
theorem PlankAt.off{H1:Hp}{gp cl x dx C:Addr}{w m:Nat}{rows:List (List V)}{fs:List (Str × V)}(P:PlankAt a H gp cl w rows m)(hx:H x=some (.ins C dx fs))(n1:gp≠x)(s:SameBut (· =x) H H1):PlankAt a H1 gp cl w rows m:=by
 obtain⟨⟨dp,e1⟩,⟨ts,e2,e3⟩,r1,r2,r3⟩:=P
 exact⟨⟨dp,s _ _ e1 n1⟩,⟨ts,s _ _ e2 (DB e2 hx (by intro z;cases z)),Paired.mapP e3 λt r e=>s _ _ e (DB e hx (by intro z;cases z))⟩,r1,r2,r3⟩
theorem zih(h:MY K a vs H Q E):aT K a (λ_=>E) (A0 Q) (A4 ["self","layout","plank","counts","records","pieces"] vs) H:=by
 obtain⟨x,dx,ly,gp,cl,n,r,c,w,rows,m,vw,rfl,T,TL,TP,hx,L,P,EW,⟨⟨v1,v2,v3,v4,v5,ef,P1,P2,P3,P4,P5⟩,ln,lr,lp,ok⟩,q⟩:=h
 obtain⟨dl,GS⟩:=L.ob
 obtain⟨_,b1,b2,b3,b4,b5⟩:=id L
 have q1:=P1.length
 have q2:=P2.length
 have q3:=P3.length
 have q4:=P4.length
 have q5:=P5.length
 have ok1:=ok.l1
 have ok2:=ok.l2
 have bn:=ok.bn
 have br:=ok.br
 have bp:=ok.bp
 push_cast[aT,↓zd1,↓zd2,↓zd3]
 refine⟨_,_,GS,EH (by decide +kernel),ly,n,r,c,w,rfl,TL,L,λt ht=> ?_⟩
 obtain⟨H1,zz0,s1,et⟩:=DA (o:=.tup [.int ((n:Int) * w),.int ((r:Int) * w),.int ((c:Int) * w)]) ht
 rw[zz0]
 refine BY et (n:=1) rfl rfl (BY et (n:=2) rfl rfl ?_)
 push_cast[↓zd4]
 refine BY et (n:=0) rfl rfl ?_
 have cn:∀ k:Nat,((k:Int) * w)=((k * w:Nat):Int):=λk=>by simp
 have nw:n * w<=100:=by omega
 have rw':r * w<=100:=by omega
 have cw:c * w<=100:=by omega
 have ngx:gp≠x:=λz=>by
  obtain⟨dp,e⟩:=P.ob
  rw[z,hx]at e
  have e:=(HO.ins.inj (Option.some.inj e)).2.2
  simp[pf]at e
 have nlx:ly≠x:=λz=>by
  rw[z,hx]at GS
  have GS:=(HO.ins.inj (Option.some.inj GS)).2.2
  simp[lf]at GS
 have L':∀ {H':Hp},SameBut (· =x) H H'->LayAt a H' ly n r c w:=λs=>L.sb s nlx
 have P':∀ {H':Hp},SameBut (· =x) H H'->PlankAt a H' gp cl w rows m:=λs=>P.off hx ngx s
 have V1:VI (a "View") H H1 x dx [] [] []:=⟨s1 _ _ hx,s1.sb,λp hp=>by cases hp⟩
 rw[cn n,cn r,cn c]
 refine⟨_,rfl,by omega,by omega,?_⟩
 rw[Int.toNat_natCast]
 refine RZ (n:=n) (b:=0) (us:=v1) (pre:=[]) (post:=v2++v3++v4++v5) TP (P' V1.s) b4 (by omega) (by omega) (by rw[ef];simp) (by simp) (by omega) (λk hk H' Q' s q'=> ?_) λan H2 han s2 ean=>((V1.same s2).add ean).put T.cl T.n1 λH3 V2=> ?_
 ·have Lk:=L' (V1.s.trans s.sb)
  obtain⟨dl',hly'⟩:=Lk.ob
  push_cast[B3]
  exact⟨_,_,hly',EH (by decide +kernel),ly,n,r,c,w,k,rfl,TL,Lk,R0 (by simp) q'⟩
 push_cast[↓zd5]
 refine⟨by omega,by omega,RZ (n:=r) (b:=n) (us:=v2) (pre:=v1) (post:=v3++v4++v5) TP (P' V2.s) b4 (by omega) (by omega) (by simp[ef]) (by first | (simp only[List.length_append,Nat.add_mul];omega) | omega) (by omega) (λk hk H' Q' s q'=> ?_) λar H4 h4 s4 e4=>((V2.same s4).add e4).put T.cl T.n2 λH5 V3=> ?_⟩
 ·have Lk:=L' (V2.s.trans s.sb)
  obtain⟨dl',hly'⟩:=Lk.ob
  push_cast[B3]
  exact⟨_,_,hly',EH (by decide +kernel),ly,n,r,c,w,k,rfl,TL,Lk,R0 (by simp) q'⟩
 push_cast[↓zd6]
 refine⟨by omega,by omega,RZ (n:=c) (b:=n+r) (us:=v3) (pre:=v1++v2) (post:=v4++v5) TP (P' V3.s) b4 (by omega) (by omega) (by simp[ef]) (by first | (simp only[List.length_append,Nat.add_mul];omega) | omega) (by omega) (λk hk H' Q' s q'=> ?_) λap H4 h4 s4 e4=>((V3.same s4).add e4).put T.cl T.n3 λH5 V4=> ?_⟩
 ·have Lk:=L' (V3.s.trans s.sb)
  obtain⟨dl',hly'⟩:=Lk.ob
  push_cast[B3]
  exact⟨_,_,hly',EH (by decide +kernel),ly,n,r,c,w,k,rfl,TL,Lk,R0 (by simp) q'⟩
 push_cast[↓zd7]
 refine⟨by omega,by omega,RZ (n:=r) (b:=n+r+c) (us:=v4) (pre:=v1++v2++v3) (post:=v5) TP (P' V4.s) b4 (by omega) (by omega) (by simp[ef]) (by first | (simp only[List.length_append,Nat.add_mul];omega) | omega) (by omega) (λk hk H' Q' s q'=> ?_) λam H4 h4 s4 e4=>((V4.same s4).add e4).put T.cl T.n4 λH5 V5=> ?_⟩
 ·have Lk:=L' (V4.s.trans s.sb)
  obtain⟨dl',hly'⟩:=Lk.ob
  push_cast[B3]
  exact⟨_,_,hly',EH (by decide +kernel),ly,n,r,c,w,k,rfl,TL,Lk,R0 (by simp) q'⟩
 push_cast[↓zd8]
 refine⟨by omega,by omega,RZ (n:=c) (b:=n+r+c+r) (us:=v5) (pre:=v1++v2++v3++v4) (post:=[]) TP (P' V5.s) b4 (by omega) (by omega) (by simp[ef]) (by first | (simp only[List.length_append,Nat.add_mul];omega) | omega) (by omega) (λk hk H' Q' s q'=> ?_) λaq H4 h4 s4 e4=>((V5.same s4).add e4).put T.cl T.n5 λH5 V6=> ?_⟩
 ·have Lk:=L' (V5.s.trans s.sb)
  obtain⟨dl',hly'⟩:=Lk.ob
  push_cast[B3]
  exact⟨_,_,hly',EH (by decide +kernel),ly,n,r,c,w,k,rfl,TL,Lk,R0 (by simp) q'⟩
 push_cast[↓zd9]
 have P1':Paired (NmV H5) v1 vw.nm:=Paired.mapP P1 λv c=>NmV.keep λy xs e=>V6.s _ _ e (DB e hx (by intro z;cases z))
 have P2':Paired (RcV H5) v2 vw.rc:=Paired.mapP P2 λv c=>RcV.keep λy xs e=>V6.s _ _ e (DB e hx (by intro z;cases z))
 have ean2:H5 an=some (.lst v1):=(V6.al (an,.lst v1) (by simp)).1
 refine⟨_,_,_,V6.ob,T.cl,T.n1,_,zif,an,rfl,.inl ⟨⟨_,SqL.of ean2⟩,?_⟩⟩
 refine kK (xs:=v1) (λi=>(AD vw.nm i).isSome) (small _ (by omega)) (λi ys H'=>H'=H5/\ys=AU (CN (vw.nm.take i))) ⟨rfl,rfl⟩ (λi ys H' _ ⟨e,e'⟩=>⟨e ▸ SqL.of ean2,?_⟩) (λi v ys H' hv ⟨e,e'⟩ QB qb=> ?_) (λi v ys H' hv hp ⟨e,e'⟩=> ?_) (λi v ys H' hv hp ⟨e,e'⟩=>⟨e,?_⟩) (λys H' ⟨e,e'⟩ p hp=> ?_)
 ·rw[e',CO]
  unfold CN
  exact Nat.le_trans (List.length_filterMap_le ..) (by rw[List.length_take];omega)
 ·subst e
  obtain⟨c',ec,hr⟩:=GL P1' hv
  push_cast[]
  rw[cA hr]
  unfold AD at qb
  rw[ec]at qb
  simpa using qb
 ·subst e
  obtain⟨c',ec,hr⟩:=GL P1' hv
  have:c'.isSome=true:=by
   unfold AD at hp
   rw[ec]at hp
   exact hp
  obtain⟨cc,rfl⟩:=Option.isSome_iff_exists.mp this
  obtain⟨p,rfl,hp'⟩:=hr
  push_cast[]
  refine BY hp' (n:=1) rfl rfl ⟨rfl,?_⟩
  rw[e',FM ec]
  unfold CN AU
  rw[List.filterMap_append,List.map_append]
  rfl
 ·obtain⟨c',ec,hr⟩:=GL P1' hv
  have:c'=none:=by
   unfold AD at hp
   rw[ec]at hp
   cases c' with
   | none=>rfl
   | some _=>cases hp
  subst this
  rw[e',FM ec]
  unfold CN AU
  rw[List.filterMap_append,List.map_append]
  simp
 subst e
 rw[q1,List.take_length]at e'
 subst e'
 obtain⟨H12,zz0,NN,e12⟩:=DA (o:=.lst (AU (CN vw.nm))) hp
 rw[zz0]
 have hll:(CN vw.nm).length<=100:=Nat.le_trans (List.length_filterMap_le ..) bn
 refine⟨r * w,p,CN vw.nm,rfl,e12,λk hk=> ?_,by omega,by omega,λal H13 hal s13 eal=>((V6.same (NN.trans s13)).add eal).put T.cl T.n6 λH14 V7=> ?_⟩
 ·unfold CN at hk
  obtain⟨cc,h1,h2⟩:=List.mem_filterMap.mp hk
  rw[Option.map_eq_some_iff]at h2
  obtain⟨c2,rfl,rfl⟩:=h2
  rw[<-lr]
  exact(ok.n1 c2 h1).1
 have tkx:∀ {H':Hp} {ks as ls},VI (a "View") H H' x dx ks as ls->CZ H H':=λI y xs e=>I.s _ _ e (DB e hx (by intro z;cases z))
 have rcs:∀ {H':Hp} {ks as ls},VI (a "View") H H' x dx ks as ls->H' ar=some (.lst v2)->LstAt RcV H' ar vw.rc:=λI e=>⟨v2,e,Paired.mapP P2 λv c=>RcV.keep (tkx I)⟩
 have n10:∀ cc,some cc∈vw.rc->cc.2.length<=10:=λcc h=>(ok.n2 cc h).2
 have pb:∀ (l:List GJ),l.length<=100->(∀ cc,some cc∈l->cc.2.length<=10)->(DN l).length<=1000:=λl hl h=>by
  have:(DN l).length<=l.length * 10:=by
   clear hl
   induction l with
   | nil=>simp[DN]
   | cons y l ih =>
    have ih:=ih λcc hc=>h cc (List.mem_cons_of_mem _ hc)
    unfold DN at ih ⊢
    rw[List.flatMap_cons,List.length_append,List.length_cons]
    have:(HL y).length<=10:=by
     cases y with
     | none=>simp[HL]
     | some c=>exact h c List.mem_cons_self
    omega
  omega
 push_cast[↓zea]
 refine⟨_,_,_,V7.ob,T.cl,T.n2,_,xM,ar,vw.rc,rfl,rcs V7 ((V7.al (ar,.lst v2) (by simp)).1),br,n10,λpl H15 CF s15 epl=>⟨c * w,pl,DN vw.rc,rfl,epl,λk hk=> ?_,by omega,by have:=pb _ br n10;omega,λag H16 hag s16 eag=>((V7.same (s15.trans s16)).add eag).put T.cl T.n7 λH17 V8=> ?_⟩⟩
 ·unfold DN at hk
  obtain⟨cc,h1,h2⟩:=List.mem_flatMap.mp hk
  cases cc with
  | none=>cases h2
  | some cc =>
   rw[<-lp]
   exact(ok.n2 cc h1).1 k h2
 have hal':H17 al=some (.lst (AU ((List.range vw.rc.length).map (led vw)))):=by rw[lr];exact(V8.al _ (.tail _ (.head _))).1
 have ltm:∀ cc,some cc∈JT vw->some cc∈vw.rc:=λcc h=>by
  unfold JT at h
  obtain⟨k,_,hk⟩:=List.mem_map.mp h
  unfold AD at hk
  cases e:vw.rc[k]? with
  | none=>rw[e]at hk;cases hk
  | some y =>
   rw[e]at hk
   have hk:y=some cc:=hk
   exact hk ▸ List.mem_of_getElem? e
 have ltl:(JT vw).length<=100:=by
  unfold JT
  rw[List.length_map]
  exact Nat.le_trans (List.length_filter_le ..) (by rw[List.length_range];exact br)
 push_cast[↓zeb]
 refine⟨_,_,V8.ob,?_,x,ar,al,vw,rfl,T,⟨_,_,V8.ob,xM⟩,⟨_,_,V8.ob,zig⟩,rcs V8 ((V8.al (ar,.lst v2) (by simp)).1),hal',br,λlt H18 BZ s18 GO=>⟨lt,JT vw,rfl,GO,ltl,λcc h=>n10 cc (ltm cc h),λpl2 H19 hpl2 s19 epl2=>⟨c * w,pl2,DN (JT vw),rfl,epl2,λk hk=> ?_,by omega,by have:=pb _ ltl (λcc h=>n10 cc (ltm cc h));omega,λah H20 hah s20 eah=>((V8.same ((s18.trans s19).trans s20)).add eah).put T.cl T.n8 λH21 V9=> ?_⟩⟩⟩
 ·simp[MC,List.lookup_cons,BL (a:="records_led_to") (b:="name_values") (by decide +kernel),BL (a:="records_led_to") (b:="record_values") (by decide +kernel),BL (a:="records_led_to") (b:="piece_values") (by decide +kernel),BL (a:="records_led_to") (b:="record_marks") (by decide +kernel),BL (a:="records_led_to") (b:="piece_marks") (by decide +kernel),BL (a:="records_led_to") (b:="leads") (by decide +kernel),BL (a:="records_led_to") (b:="namings") (by decide +kernel)]
 ·unfold DN at hk
  obtain⟨cc,h1,h2⟩:=List.mem_flatMap.mp hk
  cases cc with
  | none=>cases h2
  | some cc =>
   rw[<-lp]
   exact(ok.n2 cc (ltm cc h1)).1 k h2
 have tk:=tkx V9
 refine q ⟨an,ar,ap,am,aq,al,ag,ah⟩ _ ⟨⟨dx,V9.ob⟩,⟨v1,(V9.al (an,.lst v1) (by simp)).1,Paired.mapP P1 λv c=>NmV.keep tk⟩,⟨v2,(V9.al (ar,.lst v2) (by simp)).1,Paired.mapP P2 λv c=>RcV.keep tk⟩,⟨v3,(V9.al (ap,.lst v3) (by simp)).1,Paired.mapP P3 λv c=>PcV.keep tk⟩,⟨v4,(V9.al (am,.lst v4) (by simp)).1,Paired.mapP P4 λv c=>MkV.keep tk⟩,⟨v5,(V9.al (aq,.lst v5) (by simp)).1,Paired.mapP P5 λv c=>MkV.keep tk⟩,by rw[lr];exact(V9.al _ (.tail _ (.tail _ (.head _)))).1,by rw[lp];exact(V9.al _ (.tail _ (.head _))).1,by rw[lp];exact(V9.al _ (.head _)).1,ok⟩ V9.s
theorem PlV.same{H':Hp}{rows:List (List V)}{n r c w:Nat}{vw:Vw}(h:PlV H rows n r c w vw)(tk:CZ H H'):PlV H' rows n r c w vw:=by
 obtain⟨⟨v1,v2,v3,v4,v5,ef,P1,P2,P3,P4,P5⟩,x1,x2,x3,x4⟩:=h
 exact⟨⟨v1,v2,v3,v4,v5,ef,Paired.mapP P1 λv c=>NmV.keep tk,Paired.mapP P2 λv c=>RcV.keep tk,Paired.mapP P3 λv c=>PcV.keep tk,Paired.mapP P4 λv c=>MkV.keep tk,Paired.mapP P5 λv c=>MkV.keep tk⟩,x1,x2,x3,x4⟩
theorem Ground.same{H':Hp}{ly gp:Addr}{vw:Vw}(g:Ground K a H ly gp vw)(s:Same H H'):Ground K a H' ly gp vw:=by
 obtain⟨cl,n,r,c,w,rows,m,T,TL,TP,L,P,hr,pv⟩:=g
 exact⟨cl,n,r,c,w,rows,m,T,TL,TP,L.same s,P.same s,hr,pv.same s.tk⟩
theorem Ground.ok{ly gp:Addr}{vw:Vw}(g:Ground K a H ly gp vw):E5 vw:=by
 obtain⟨cl,n,r,c,w,rows,m,T,TL,TP,L,P,hr,pv⟩:=g
 exact pv.ok
theorem xO{ly gp:Addr}{vw:Vw}{Q:Addr->Hp->Prop}(g:Ground K a H ly gp vw)(q:TV K a->∀ x A H2,ViewAt a H2 x A vw->Same H H2->Q x H2) :
  ∀ x dx,H x=none->H dx=none->dx≠x->MY K a [.ref x,.ref ly,.ref gp] (upd (upd H dx (.own x)) x (.ins (a "View") dx [])) (λv H2=>v=.non/\Q x H2) E:=λx dx hx NR nd=>by
 have s0:Same H (upd (upd H dx (.own x)) x (.ins (a "View") dx [])):=(AV NR).trans (AV (by rw[AO nd.symm];exact hx))
 obtain⟨cl,n,r,c,w,rows,m,T,TL,TP,L,P,hr,pv⟩:=g
 exact⟨x,dx,ly,gp,cl,n,r,c,w,rows,m,vw,rfl,T,TL,TP,AM,L.same s0,P.same s0,hr,pv.same s0.tk,λA H' I s=>⟨rfl,q T x A H' I λy o e=>s _ _ (s0 _ _ e) (BX e hx)⟩⟩
theorem zii(h:OZ K a vs H Q E):bH K a (λ_=>E) (A0 Q) (A4 ["layout","plank","view"] vs) H:=by
 obtain⟨ly,gp,vw,rfl,g,q⟩:=h
 obtain⟨n1,n2,n3,n4,n5,n6⟩:=VH g.ok
 push_cast[bH,↓zfg]
 refine xO g λT x A H1 I s1=> ?_
 push_cast[↓zfh]
 refine⟨x,A,vw,rfl,T,I,λl1 H2 h2 s2 F2=>⟨x,A,vw,rfl,T,I.same s2,λl2 H3 h3 s3 F3=>JY (F2.same s3) F3 ?_ (q.of ((s1.trans s2).trans s3))⟩⟩
 unfold faults JU
 simp only[List.length_append]
 omega
theorem zij(h:UK K a vs H Q E):bI K a (λ_=>E) (A0 Q) (A4 ["layout","plank"] vs) H:=by
 obtain⟨ly,gp,vw,rfl,g,q⟩:=h
 push_cast[bI,↓zfi]
 refine xO g λT x A H1 I s1=>⟨x,A,vw,rfl,T,I,λl1 H2 h2 s2 F2=> ?_⟩
 obtain⟨ps,e,P⟩:=F2
 refine⟨(faults vw).length,.inl ⟨_,SqL.of e,by rw[List.length_map,P.length]⟩,?_⟩
 have:=q H2 (s1.trans s2)
 have e2:decide (((faults vw).length:Int)=0)=decide (faults vw=[]):=by
  rw[decide_eq_decide]
  constructor
  ·intro h;exact List.length_eq_zero_iff.mp (by omega)
  ·intro h;rw[h];rfl
 rw[e2]
 exact this
theorem JZ(x:Int){n:Nat}(h:1<=n):∃ b:Nat,x % (n:Int)=b/\b<n :=
  ⟨(x % (n:Int)).toNat,by have:=Int.emod_nonneg x (show(n:Int)≠0 by omega);omega,by
    have:=Int.emod_lt_of_pos x (show(0:Int)<n by omega)
    have:=Int.emod_nonneg x (show(n:Int)≠0 by omega);omega⟩
theorem xP{z:Str}{i:Int}{n:Nat}{c:Nat}{Q:VK}(hi:i=n)(hL:z.cps.toList.length<=1000)(hc:z.cps.toList[n]? =some c)(q:Q (.str ⟨#[c]⟩) H):AY K (.str z) (.int i) H Q:=by
 subst hi
 exact .inr (.inr ⟨z,n,c,rfl,rfl,Nat.le_trans (by simpa [Str.length]using hL) (small _ (by omega)),WW hc,q⟩)
theorem zik:∀ i:Fin 26,(Str.ofString "abcdefghijklmnopqrstuvwxyz").cps.toList[i.val]? =some (97+i.val):=by decide +kernel
theorem zil{i:Int}{n:Nat}{Q:VK}(hi:i=n)(hn:n<26)(q:Q (.str ⟨#[97+n]⟩) H):AY K (.str (Str.ofString "abcdefghijklmnopqrstuvwxyz")) (.int i) H Q:=xP hi (by decide +kernel) (zik ⟨n,hn⟩) q
def R3:Str:=Str.ofString " !\"#$&'()*+,-./0123456789:;<=>?@ABCDEFGHIJKLMNOPQRSTUVWXYZ[\\]^_`"++Str.ofString "abcdefghijklmnopqrstuvwxyz{|}~"
theorem zim:∀ i:Fin 94,∃ c,R3.cps.toList[i.val]? =some c/\c<1114112:=by
 have h:∀ i:Fin 94,R3.cps.toList[i.val]? =some (R3.cps.toList[i.val]!)/\R3.cps.toList[i.val]! <1114112:=by decide +kernel
 exact λi=>⟨_,(h i).1,(h i).2⟩
theorem xQ:∀ l:List Str,(∀ x∈l,x.length=1)->(l.map (·.length)).sum=l.length
 | [],_=>rfl
 | x::r,h=>by
  rw[List.map_cons,List.sum_cons,xQ r λy hy=>h y (List.mem_cons_of_mem _ hy),h x List.mem_cons_self,List.length_cons]
  omega
theorem xR{g:Str}(hg:PyData.strOk g=true):∀ (l:List Str) (BV:Array Nat),(BV.all λx=>decide (x<1114112))=true->(∀ z∈l,PyData.strOk z=true)->((l.foldl (λBV p=>BV++g.cps++p.cps) BV).all λx=>decide (x<1114112))=true
 | [],BV,h,_=>h
 | z::l,BV,h,hz=>by
  rw[List.foldl_cons]
  refine xR hg l _ ?_ λy hy=>hz y (List.mem_cons_of_mem _ hy)
  have h1:(g.cps.all λx=>decide (x<1114112))=true:=hg
  have h2:(z.cps.all λx=>decide (x<1114112))=true:=hz z List.mem_cons_self
  rw[Array.all_append,Array.all_append,h,h1,h2,Bool.true_and,Bool.true_and]
theorem zin{g:Str}{l:List Str}(hg:PyData.strOk g=true)(h:∀ z∈l,PyData.strOk z=true):PyData.strOk (Txt.join g l)=true:=by
 unfold PyData.strOk Txt.join Builtin.Str.glued
 cases l with
 | nil=>show((Str.empty.cps).all λx=>decide (x<1114112))=true;decide +kernel
 | cons z l=>exact xR hg l z.cps (h z List.mem_cons_self) λy hy=>h y (List.mem_cons_of_mem _ hy)
theorem zio{n:Nat}{k:Int}(hn:n<26)(h0:0<=k)(h1:k<10):PyData.strOk (LP ⟨#[97+n]⟩ k)=true:=by
 have:∀ (n:Fin 26) (k:Fin 10),PyData.strOk (LP ⟨#[97+n.val]⟩ (k.val:Int))=true:=by decide +kernel
 have:=this ⟨n,hn⟩ ⟨k.toNat,by omega⟩
 rwa [show(((⟨k.toNat,by omega⟩:Fin 10).val:Nat):Int)=k from by simp;omega]at this
theorem JE{p:Addr}{xs:List Int}{k:Nat}{Q:VK}(h:H p=some (.lst (xs.map V.int)))(hk:k<xs.length)(q:∀ x∈xs,Q (.int x) H):AY K (.ref p) (.int k) H Q :=
 B0 (SqL.of h) (n:=k) rfl (by rw[List.getElem?_map,List.getElem?_eq_getElem hk];rfl) (q _ (List.getElem_mem hk))
theorem ziq(h:IQ K a vs H Q E):ZO K a (λ_=>E) (A0 Q) (A4 ["cell","many","here","there","found","k"] vs) H:=by
 obtain⟨c,m,rfl,hm,q⟩:=h
 push_cast[ZO,↓Xx,↓Xy,↓Xz]
 refine⟨⟨by decide,by decide⟩,by decide,λl hl=> ?_⟩
 have a1:0<=c % 920419823+5/\c % 920419823+5<1000000000:=by omega
 have a2:0<=c / 920419823 % 899809363+3/\c / 920419823 % 899809363+3<1000000000:=by omega
 generalize c % 920419823+5=here at a1 ⊢
 generalize c / 920419823 % 899809363+3=there at a2 ⊢
 obtain⟨H1,zz0,s1,e1⟩:=DA (o:=.lst []) hl
 rw[zz0]
 push_cast[↓Yg]
 refine⟨by omega,by omega,RE (λi σ H'=>∃ (xs:List Int) (here there:Int),Same H H'/\H' l=some (.lst (xs.map V.int))/\xs.length=i/\(∀ x∈xs,0<=x/\x<2000000000)/\(0<=here/\here<1000000000)/\(0<=there/\there<1000000000)/\∃ y,σ=[some (.int c),some (.int m),some (.int here),some (.int there),some (.ref l),y]) ⟨[],here,there,s1,e1,rfl,by simp,a1,a2,_,rfl⟩ (λi σ H' hi hzz=> ?_) (λσ H' hzz=> ?_)⟩
 ·obtain⟨xs,he,th,s,e,FT,hx,b1,b2,y,eσ⟩:=hzz
  subst eσ
  push_cast[↓Yb,↓Yc,↓Yd]
  have c1:0<=(he * 70001+th) % 920419823/\(he * 70001+th) % 920419823<920419823:=by omega
  generalize (he * 70001+th) % 920419823=h2 at c1 ⊢
  generalize h2 * h2=sq
  refine⟨.inl ⟨by omega,by omega⟩,.inl ⟨by omega,by omega⟩,.inl ⟨by omega,by omega⟩,.inl ⟨rfl,_,SqL.of e⟩,l,_,_,rfl,rfl,e,Nat.lt_of_lt_of_le (show(xs.map V.int).length<1000 by rw[List.length_map];omega) (by decide),λy o e=>by rw[AO (BX e hl)];exact s _ _ e,xs++[h2+(th * 60013+sq+(0+(i:Int))) % 899809363],by rw[AM,List.map_append];rfl,by simp[FT],λx hxm=> ?_,h2,by omega,by omega,_,?_,?_,rfl,rfl⟩
  ·rcases List.mem_append.mp hxm with h | h
   ·exact hx x h
   ·rw[List.mem_singleton.mp h];omega
  ·omega
  ·omega
 ·obtain⟨xs,he,th,s,e,FT,hx,b1,b2,y,eσ⟩:=hzz
  subst eσ
  push_cast[↓Yh]
  exact q l xs H' hl s e FT hx
theorem zir(h:UL K a vs H Q E):aB K a (λ_=>E) (A0 Q) (A4 ["cell","xs","most"] vs) H:=by
 obtain⟨x,rfl,q⟩:=h
 push_cast[aB,↓zbf]
 refine⟨⟨by decide,by decide⟩,x / 48,3,rfl,by omega,λl xs H1 hl s1 el FT hx=> ?_⟩
 have tail:∀ m:Int,3<=m->m<=6->aA K a (λ_=>E) (λ_=>E) (A0 Q) [some (.int x),some (.ref l),some (.int m)] H1:=λm m1 m2=>by
  have md:∀ y:Int,0<=y % m/\y % m<m:=λy=>⟨Int.emod_nonneg _ (by omega),Int.emod_lt_of_pos _ (by omega)⟩
  push_cast[↓zbh]
  refine JE (k:=0) el (by omega) λy1 _=> ?_
  push_cast[]
  refine⟨by omega,JE (k:=1) el (by omega) λy2 _=> ?_⟩
  push_cast[]
  refine⟨by omega,JE (k:=2) el (by omega) λy3 _=> ?_⟩
  push_cast[]
  refine⟨by omega,by decide,λt ht=> ?_⟩
  have d1:=md y1
  have d2:=md y2
  have d3:=md y3
  obtain⟨n,en⟩:∃ n:Nat,1+y1 % m=n:=⟨(1+y1 % m).toNat,by omega⟩
  obtain⟨r,er⟩:∃ n:Nat,1+y2 % m=n:=⟨(1+y2 % m).toNat,by omega⟩
  obtain⟨c,ec⟩:∃ n:Nat,1+y3 % m=n:=⟨(1+y3 % m).toNat,by omega⟩
  obtain⟨w,ew⟩:∃ n:Nat,1+x % 6=n:=⟨(1+x % 6).toNat,by omega⟩
  have bb:(1<=n/\n<=6)/\(1<=r/\r<=6)/\(1<=c/\c<=6)/\1<=w/\w<=6:=by omega
  rw[en,er,ec,ew]
  exact q t n r c w _ (s1.trans (AV ht)) AM bb.1.1 bb.1.2 bb.2.1.1 bb.2.1.2 bb.2.2.1.1 bb.2.2.1.2 bb.2.2.2.1 bb.2.2.2.2
 push_cast[↓zbg]
 refine⟨⟨by decide,by decide⟩,?_⟩
 split
 ·exact tail 6 (by omega) (by omega)
 ·exact tail 3 (by omega) (by omega)
theorem zis(h:O0 K a vs H Q E):Z9 K a (λ_=>E) (A0 Q) (A4 ["cell","signs","xs","size"] vs) H:=by
 obtain⟨x,rfl,q⟩:=h
 push_cast[Z9,↓za8,↓za9,↓zba]
 refine⟨by decide +kernel,x,3,rfl,by omega,λl xs H1 hl s1 el FT hx=> ?_⟩
 have tail:∀ m:Nat,m<=40->Z8 K a (λ_=>E) (λ_=>E) (A0 Q) [some (.int x),some (.str R3),some (.ref l),some (.int m)] H1:=λm hm=>by
  push_cast[↓zbe]
  refine⟨rfl,by omega,by omega,?_⟩
  refine LR (small _ (by omega)) (λi ys H'=>H'=H1/\∃ zs:List Str,ys=zs.map V.str/\∀ z∈zs,z.length=1/\PyData.strOk z=true) ⟨rfl,[],rfl,by simp⟩ (λi ys H' hi hl hzz=> ?_) (λys H' hl' ⟨e1,zs,e2,e3⟩ p hp=> ?_)
  ·obtain⟨e1,zs,e2,e3⟩:=hzz
   subst e1
   push_cast[B3]
   refine JE (k:=1) el (by omega) λy1 _=>JE (k:=2) el (by omega) λy2 hy2=> ?_
   have b2:=hx y2 hy2
   push_cast[]
   obtain⟨b,eb,hb⟩:=JZ (y1+(0+(i:Int)) * y2) (n:=94) (by omega)
   obtain⟨c,hc,hco⟩:=zim ⟨b,hb⟩
   refine⟨.inl ⟨by omega,by omega⟩,?_⟩
   rw[show((94:Nat):Int)=94 from rfl]at eb
   rw[eb]
   refine xP rfl (by decide +kernel) hc ⟨rfl,zs++[⟨#[c]⟩],by rw[e2,List.map_append];rfl,λz hz=> ?_⟩
   rcases List.mem_append.mp hz with hz | hz
   ·exact e3 z hz
   ·rw[List.mem_singleton.mp hz]
    exact⟨rfl,by simp[PyData.strOk];exact hco⟩
  ·subst e1
   have EE:zs.length=m:=by rw[<-hl',e2,List.length_map]
   refine⟨_,p,zs,rfl,rfl,by rw[<-e2];exact SqL.of AM,by decide,by rw[xQ zs λz hz=>(e3 z hz).1];omega,q _ _ ?_ (s1.trans (AV hp))⟩
   exact zin (by decide +kernel) λz hz=>(e3 z hz).2
 push_cast[↓zbb]
 refine JE (k:=0) el (by omega) λy1 hy1=> ?_
 have hb:=hx y1 hy1
 push_cast[↓zbd]
 refine JE (k:=0) el (by omega) λy2 hy2=> ?_
 push_cast[]
 refine⟨⟨by decide,by decide⟩,?_⟩
 split
 ·push_cast[↓zbc]
  exact tail 40 (by omega)
 ·obtain⟨m,em⟩:∃ m:Nat,1+y1 % 6=m:=⟨(1+y1 % 6).toNat,by omega⟩
  rw[em]
  exact tail m (by omega)
def FH(w:Nat)(xs:List V)(i:Nat):List V:=(xs.drop (i * w)).take w
theorem xS{w:Nat}:∀ {M:Nat} {xs:List V},xs.length=M * w->((List.range M).map (FH w xs)).flatten=xs
 | 0,xs,h=>by
  have:xs=[]:=List.length_eq_zero_iff.mp (by omega)
  rw[this];rfl
 | M+1,xs,h=>by
  rw[List.range_succ_eq_map,List.map_cons,List.flatten_cons,List.map_map]
  have e:∀ i,FH w xs (i+1)=FH w (xs.drop w) i:=λi=>by
   unfold FH
   rw[List.drop_drop]
   congr 2
   rw[Nat.succ_mul];omega
  have e2:(List.range M).map (FH w xs ∘ Nat.succ)=(List.range M).map (FH w (xs.drop w)):=List.map_congr_left λi _=>e i
  rw[e2,xS (xs:=xs.drop w) (by rw[List.length_drop,h,Nat.succ_mul];omega)]
  unfold FH
  rw[Nat.zero_mul,List.drop_zero,List.take_append_drop]
theorem zit{w M i:Nat}{xs:List V}(h:xs.length=M * w)(hi:i<M):(FH w xs i).length=w:=by
 unfold FH
 rw[List.length_take,List.length_drop,h]
 have:(i+1) * w<=M * w:=Nat.mul_le_mul_right w hi
 rw[Nat.succ_mul]at this
 omega
theorem PN{l1 l2:Addr}{x1 x2:List V}{Q:VK}(e1:H l1=some (.lst x1))(e2:H l2=some (.lst x2))(hn:x1.length+x2.length<=10000)(q:newL (x1++x2) H Q):BT K (.ref l1) (.ref l2) H Q :=
 .inl ⟨l1,l2,_,_,rfl,rfl,e1,e2,small _ (by omega),λp hp=>q p _ hp (AV hp) AM⟩
theorem cC{te:TE}{cap:List Nat}{σ:St}{b:Addr}{xs:List V}(hn:xs.length<=sizeLine)(Pv:Nat->List V->Hp->Prop)(h0:Pv 0 [] H)(hq:∀ i ys H,i<=xs.length->Pv i ys H->SqT K H b xs)
  (hs:∀ i x ys H,xs[i]? =some x->ys.length=i->Pv i ys H->te (some x::B3 cap σ) H λy H2=>Pv (i+1) (ys++[y]) H2)
  (hd:∀ ys H,ys.length=xs.length->Pv xs.length ys H->∀ p,H p=none->Q (.ref p) (upd H p (.lst ys))) :
  FU (QX K b) (AG 0) DL te 1 cap σ H Q:=by
 refine⟨λi m σ' ys H=>m=xs.length - i/\i<=xs.length/\ys.length=i/\(∃ x0,σ'=x0::B3 cap σ)/\Pv i ys H,⟨xs.length,by simp,Nat.zero_le _,rfl,⟨none,rfl⟩,h0⟩,?_⟩
 rintro i m σ' ys H ⟨rfl,hi,hl,⟨x0,rfl⟩,p⟩
 have q:=hq i ys H hi p
 by_cases BZ:i<xs.length
 ·refine .inr ⟨⟨xs,xs[i],q,by simp[BZ]⟩,by omega,λx H' y=> ?_⟩
  obtain⟨e,y⟩:=y
  subst e
  exact⟨_,λy H4 q=>⟨_,by omega,rfl,BZ,by simp[hl],⟨_,rfl⟩,q⟩,hs i x ys _ (y xs q) hl p⟩
 ·have e:i=xs.length:=by omega
  subst e
  exact .inl ⟨⟨xs,q,Nat.le_refl _⟩,hd ys H hl p⟩
theorem ziu(k:Nat):(List.replicate k [V.non]).flatten=List.replicate k V.non:=by
 induction k with
 | zero=>rfl
 | succ k ih=>rw[List.replicate_succ,List.flatten_cons,ih];rfl
theorem ziv{p:Addr}{k:Nat}{Q:VK}(e:H p=some (.lst [V.non]))(hk:k<=1000)(q:newL (List.replicate k V.non) H Q):FF K (.ref p) (.int k) H Q:=by
 refine .inl ⟨p,k,_,rfl,rfl,e,by omega,by omega,small _ (by simp;omega),λl hl=> ?_⟩
 rw[Int.toNat_natCast,ziu]
 exact q l _ hl (AV hl) AM
theorem PP{α β :Type}{F: α -> β ->Prop}{x: α}{y: β}(h:F x y):∀ n,Paired F (List.replicate n x) (List.replicate n y)
 | 0=>.nil
 | n+1=>.cons h (PP h n)
def J0(n:Nat)(ks:List Nat):List V:=AU ((List.range n).map λk=>ks.count k)
theorem ziw{n k:Nat}{ks:List Nat}(hk:k<n):(J0 n ks).set k (.int ((ks.count k:Int)+1))=J0 n (ks++[k]):=by
 unfold J0 AU
 refine List.ext_getElem? λj=> ?_
 by_cases hj:j<n
 ·rw[List.getElem?_map,K3 hj,List.count_append]
  by_cases z:k=j
  ·subst z
   rw[List.getElem?_set_self (by simpa using hj)]
   simp
  ·rw[List.getElem?_set_ne z,List.getElem?_map,K3 hj]
   have:List.count j [k]=0:=by simp[z]
   rw[this]
   rfl
 ·rw[List.getElem?_eq_none (by simp;omega),List.getElem?_eq_none (by simp;omega)]
theorem zix{n k:Nat}{ks:List Nat}(hk:k<n):(J0 n ks)[k]? =some (.int (ks.count k:Nat)):=PJ (K3 hk)
theorem ziy(n:Nat)(ks:List Nat):(J0 n ks).length=n:=by unfold J0;rw[CO,JX]
theorem ziz(k:Nat):(List.replicate k [V.int 0]).flatten=J0 k []:=by
 unfold J0 AU
 rw[List.map_map]
 induction k with
 | zero=>rfl
 | succ k ih =>
  rw[List.replicate_succ',List.flatten_append,ih,List.range_succ,List.map_append]
  rfl
theorem zi0{p:Addr}{k:Nat}{Q:VK}(e:H p=some (.lst [V.int 0]))(hk:k<=1000)(q:newL (J0 k []) H Q):FF K (.ref p) (.int k) H Q:=by
 refine .inl ⟨p,k,_,rfl,rfl,e,by omega,by omega,small _ (by simp;omega),λl hl=> ?_⟩
 rw[Int.toNat_natCast,ziz]
 exact q l _ hl (AV hl) AM
theorem xT(l:List Nat):AU l=(l.map λ(k:Nat)=>(k:Int)).map V.int:=by
 unfold AU
 rw[List.map_map]
 rfl
theorem MD{p e0:Addr}{l:List Nat}(h1:H p=some (.lst (AU l)))(h2:H e0=some (.lst []))(q:Q (.bl (decide (l=[]))) H):CD K (.ref p) (.ref e0) H Q:=by
 refine Rq (n:=1) (by decide) (SqL.of h1) (by rw[xT];exact XY _) (SqL.of h2) ?_
 have:decide (AU l=[])=decide (l=[]):=by
  unfold AU
  rw[decide_eq_decide,List.map_eq_nil_iff]
 rw[this]
 exact q
theorem zi1{t:Addr}{ps:List Nat}{p:Nat}(ht:H t=some (.tup (AU ps)))(q:Q (.bl (decide (p∈ps))) H):XW K (.int p) (.ref t) H Q:=by
 refine⟨t,_,rfl,.inr (SqT.of ht),rfl,?_,?_⟩
 ·rw[List.all_eq_true]
  intro v hv
  obtain⟨i,_,rfl⟩:=List.mem_map.mp hv
  rfl
 ·rw[if_neg Bool.false_ne_true]
  have:S9 (.int p) (AU ps)=decide (p∈ps):=by
   rw[Bool.eq_iff_iff]
   unfold S9 AU
   rw[List.any_eq_true,decide_eq_true_eq]
   constructor
   ·rintro ⟨v,hv,he⟩
    obtain⟨k,hk,rfl⟩:=List.mem_map.mp hv
    simp[JO]at he
    have he:k=p:=by omega
    exact he ▸ hk
   ·intro h
    exact⟨_,List.mem_map.mpr ⟨p,h,rfl⟩,by simp[JO]⟩
  rw[this]
  exact q
theorem PlV.good{rows:List (List V)}{n r c w:Nat}{vw:Vw}(h:PlV H rows n r c w vw):good7 H rows:=λrow hr v hv=>by
 obtain⟨v1,v2,v3,v4,v5,ef,P1,P2,P3,P4,P5⟩:=h.vs
 have hm:v∈rows.flatten:=List.mem_flatten.mpr ⟨row,hr,hv⟩
 rw[ef]at hm
 simp only[List.mem_append]at hm
 have mk:∀ {us:List V} {cs:List (Option Int)},Paired (MkV H) us cs->v∈us->GoodV 7 H v:=λP hm=>by
  obtain⟨i,hi⟩:=JD hm
  obtain⟨c,_,hc⟩:=GL P hi
  cases c with
  | none=>rw[show v=.non from hc];trivial
  | some i=>rw[show v=.int i from hc];trivial
 rcases hm with(((hm | hm) | hm) | hm) | hm
 ·obtain⟨i,hi⟩:=JD hm
  obtain⟨c,ec,hc⟩:=GL P1 hi
  cases c with
  | none=>rw[show v=.non from hc];trivial
  | some c =>
   obtain⟨p,rfl,hp⟩:=hc
   refine⟨_,hp,by simp,λu hu=> ?_⟩
   simp only[List.mem_cons,List.not_mem_nil,or_false]at hu
   rcases hu with rfl | rfl
   ·exact(h.ok.n1 c (List.mem_of_getElem? ec)).2
   ·trivial
 ·obtain⟨i,hi⟩:=JD hm
  obtain⟨c,ec,hc⟩:=GL P2 hi
  cases c with
  | none=>rw[show v=.non from hc];trivial
  | some c =>
   obtain⟨p,t,rfl,hp,ht⟩:=hc
   refine⟨_,hp,by simp,λu hu=> ?_⟩
   simp only[List.mem_cons,List.not_mem_nil,or_false]at hu
   rcases hu with rfl | rfl
   ·trivial
   ·refine⟨_,ht,?_,λu hu=> ?_⟩
    ·rw[CO]
     have:=(h.ok.n2 c (List.mem_of_getElem? ec)).2
     omega
    ·obtain⟨k,_,rfl⟩:=List.mem_map.mp hu
     trivial
 ·obtain⟨i,hi⟩:=JD hm
  obtain⟨c,ec,hc⟩:=GL P3 hi
  cases c with
  | none=>rw[show v=.non from hc];trivial
  | some s =>
   rw[show v=.str s from hc]
   exact h.ok.n3 s (List.mem_of_getElem? ec)
 ·exact mk P4 hm
 ·exact mk P5 hm
theorem zi2{n r c w:Nat}{Q:Addr->Hp->Prop}(TL:FV K a)(h1:n<=100)(h2:r<=100)(h3:c<=100)(h4:1<=w)(h5:w<=100)(q:∀ x H2,LayAt a H2 x n r c w->Same H H2->Q x H2) :
  ∀ x dx,H x=none->H dx=none->dx≠x->RH K a [.ref x,.int n,.int r,.int c,.int w] (upd (upd H dx (.own x)) x (.ins (a "Layout") dx [])) (λv H2=>v=.non/\Q x H2) E:=λx dx hx NR nd=>by
 have s0:Same H (upd (upd H dx (.own x)) x (.ins (a "Layout") dx [])):=(AV NR).trans (AV (by rw[AO nd.symm];exact hx))
 exact⟨x,dx,n,r,c,w,rfl,TL,AM,h1,h2,h3,h4,h5,λH' L s=>⟨rfl,q x H' L λy o e=>s _ _ (s0 _ _ e) (BX e hx)⟩⟩
theorem LstAt.set{α :Type}{R:Hp->V-> α ->Prop}{H':Hp}{p:Addr}{us:List V}{cs:List α}{b:Nat}{v:V}{c: α}(e:H' p=some (.lst (us.set b v)))(P:Paired (R H') us cs)(hr:R H' v c):LstAt R H' p (cs.set b c):=⟨_,e,XT hr b P⟩
theorem EJ{α :Type}{l:List (Option α)}{k j:Nat}{x:Option α}(hk:k<l.length):AD (l.set k x) j=if j=k then x else AD l j:=by
 unfold AD
 by_cases h:j=k
 ·subst h
  rw[List.getElem?_set_self hk,if_pos rfl]
  rfl
 ·rw[List.getElem?_set_ne (λz=>h z.symm),if_neg h]
theorem JF{α :Type}{l:List (Option α)}{k:Nat}{c: α}(h:AD l k=some c):k<l.length:=by
 unfold AD at h
 cases e:l[k]? with
 | none=>rw[e]at h;cases h
 | some y=>exact(List.getElem?_eq_some_iff.mp e).1
theorem zi3{nm:List GD}{c:Str × Nat}:∀ {k:Nat},nm[k]? =some none->(CN (nm.set k (some c))).length=(CN nm).length+1/\∀ r,(CN (nm.set k (some c))).count r=(CN nm).count r+if c.2=r then 1 else 0:=by
 induction nm with
 | nil=>intro k h;simp at h
 | cons x l ih =>
  intro k h
  cases k with
  | zero =>
   cases h
   refine⟨by simp[CN],λr=> ?_⟩
   simp only[List.set_cons_zero,CN,List.filterMap_cons,Option.map_some,Option.map_none,List.count_cons]
   by_cases z:c.2=r<;>simp[z]
  | succ k =>
   have h:l[k]? =some none:=by simpa using h
   obtain⟨h1,h2⟩:=ih h
   unfold CN at h1 h2 ⊢
   rw[List.set_cons_succ]
   cases x with
   | none=>simpa using ⟨h1,h2⟩
   | some d =>
    simp only[List.filterMap_cons,Option.map_some,List.length_cons]
    refine⟨by omega,λr=> ?_⟩
    rw[List.count_cons,List.count_cons,h2 r]
    omega
theorem xU{nm:List GD}:((List.range nm.length).filter λk=>(AD nm k).isNone).length+(CN nm).length=nm.length:=by
 have gen:∀ (l:List GD),((List.range l.length).filter λk=>(AD l k).isNone).length=(l.filter (·.isNone)).length:=λl=>by
  have:((List.range l.length).filter λk=>(AD l k).isNone).map (λk=>l[k]?)=(l.filter (·.isNone)).map some:=by
   have e:l.map some=(List.range l.length).map (λk=>l[k]?):=by
    refine List.ext_getElem? λi=> ?_
    by_cases hi:i<l.length
    ·rw[List.getElem?_map,List.getElem?_map,List.getElem?_range hi,List.getElem?_eq_getElem hi]
     simp[List.getElem?_eq_getElem hi]
    ·rw[List.getElem?_eq_none (by simp;omega),List.getElem?_eq_none (by simp;omega)]
   have e2:(l.filter (·.isNone)).map some=(l.map some).filter (λo=>match o with
    | some x=>x.isNone
    | none=>false):=by
    rw[List.filter_map]
    rfl
   rw[e2,e,List.filter_map]
   congr 1
   refine List.filter_congr λk hk=> ?_
   have hk:=List.mem_range.mp hk
   simp only[Function.comp,AD,List.getElem?_eq_getElem hk]
   rfl
  have h:=congrArg List.length this
  simpa using h
 rw[gen]
 clear gen
 induction nm with
 | nil=>rfl
 | cons x l ih =>
  unfold CN at ih ⊢
  cases x with
  | none=>simp at ih ⊢;omega
  | some c=>simp at ih ⊢;omega
section
variable{vw:Vw}{lf:List Nat}{zs:List Str}
theorem R4{r:Nat}(h:0<led vw r):∃ k c,AD vw.nm k=some c/\c.2=r:=by
 unfold led CN at h
 have:=List.count_pos_iff.mp h
 obtain⟨x,hx,e⟩:=List.mem_filterMap.mp this
 rw[Option.map_eq_some_iff]at e
 obtain⟨c,rfl,e⟩:=e
 obtain⟨k,hk⟩:=List.mem_iff_getElem?.mp hx
 exact⟨k,c,by unfold AD;rw[hk];rfl,e⟩
theorem Clean.led0(C:Clean vw lf zs){r:Nat}(h:AD vw.rc r=none):led vw r=0:=by
 cases e:led vw r with
 | zero=>rfl
 | succ n =>
  exfalso
  obtain⟨k,c,hk,hc⟩:=R4 (vw:=vw) (r:=r) (by omega)
  have:=C.ls k c hk
  rw[hc,h]at this
  cases this
theorem Clean.text{p:Nat}{z:Str}(C:Clean vw lf zs)(h1:p<vw.pc.length)(h2:p<vw.pm.length)(hp:AD vw.pm p=none):Clean { vw with pc:=vw.pc.set p (some z),pm:=vw.pm.set p (some 1) } (lf++[p]) zs:=by
 have no:∀ r c,AD vw.rc r=some c->p∉c.2:=λr c hr hm=>by
  have:=(C.em r c hr p hm).2
  rw[hp]at this;cases this
 refine⟨C.nm,C.ds,C.ls,C.fw,C.s1,C.s2,λr c hr q hq=> ?_,C.fr,?_,λq=> ?_,C.p3⟩
 ·have hr:AD vw.rc r=some c:=hr
  have ne:q≠p:=λe=>no r c hr (e ▸ hq)
  simp only[EJ h1,EJ h2,if_neg ne]
  exact C.em r c hr q hq
 ·rw[List.nodup_append]
  refine⟨C.nd,by simp,λx hx y hy=> ?_⟩
  rw[List.mem_singleton.mp hy]
  intro e
  have:=((C.lm x).mp hx).1
  rw[e,hp]at this;cases this
 ·simp only[List.mem_append,List.mem_singleton,EJ h2]
  constructor
  ·rintro (h | rfl)
   ·obtain⟨a1,a2⟩:=(C.lm q).mp h
    refine⟨?_,a2⟩
    split
    ·rfl
    ·exact a1
   ·exact⟨by simp,λr c hr hc=>no r c hc⟩
  ·rintro ⟨a1,a2⟩
   by_cases e:q=p
   ·exact .inr e
   ·rw[if_neg e]at a1
    exact .inl ((C.lm q).mpr ⟨a1,a2⟩)
theorem Clean.recd{r:Nat}{cnt:Int}{tk:List Nat}(C:Clean vw lf zs)(hr:r<vw.rc.length)(h0:AD vw.rc r=none)(hn:tk.Nodup)(h3:tk.length<=3)(ht:∀ p∈tk,((AD vw.pc p).isSome=true/\AD vw.pm p=some 1)/\∀ r' c',AD vw.rc r'=some c'->p∉c'.2)(hc:0<=cnt):Clean { vw with rc:=vw.rc.set r (some (cnt,tk)) } lf zs:=by
 have l0:=C.led0 h0
 have at':∀ {r':Nat} {c:Int × List Nat},AD (vw.rc.set r (some (cnt,tk))) r'=some c->(r'=r/\c=(cnt,tk))\/(r'≠r/\AD vw.rc r'=some c):=λ{r' c} h=>by
  rw[EJ hr]at h
  by_cases e:r'=r
  ·rw[if_pos e]at h;cases h;exact .inl ⟨e,rfl⟩
  ·rw[if_neg e]at h;exact .inr ⟨e,h⟩
 refine⟨C.nm,C.ds,λk c hk=> ?_,λr' c h=> ?_,λr' c h=> ?_,λr1 r2 c1 c2 ne h1 h2 p hp=> ?_,λr' c h p hp=> ?_,C.fr,C.nd,λp=> ?_,λr' c h=> ?_⟩
 ·show(AD (vw.rc.set r (some (cnt,tk))) c.2).isSome=true
  rw[EJ hr]
  split
  ·rfl
  ·exact C.ls k c hk
 ·rcases at' h with⟨rfl,rfl⟩ | ⟨_,h⟩
  ·show(led vw r':Int)<=cnt
   rw[l0];exact hc
  ·exact C.fw r' c h
 ·rcases at' h with⟨rfl,rfl⟩ | ⟨_,h⟩
  ·exact hn
  ·exact C.s1 r' c h
 ·rcases at' h1 with⟨e1,rfl⟩ | ⟨_,g1⟩
  ·rcases at' h2 with⟨e2,rfl⟩ | ⟨_,h2⟩
   ·exact absurd (e1.trans e2.symm) ne
   ·exact(ht p hp).2 r2 c2 h2
  ·skip
   rcases at' h2 with⟨e2,rfl⟩ | ⟨_,h2⟩
   ·intro hm
    exact(ht p hm).2 r1 c1 g1 hp
   ·exact C.s2 r1 r2 c1 c2 ne g1 h2 p hp
 ·rcases at' h with⟨rfl,rfl⟩ | ⟨_,h⟩
  ·exact(ht p hp).1
  ·exact C.em r' c h p hp
 ·rw[C.lm p]
  refine and_congr_right λ_=>⟨λL r' c hl h=> ?_,λL r' c hl h=> ?_⟩
  ·rcases at' h with⟨rfl,rfl⟩ | ⟨_,h⟩
   ·have hl:0<led vw r':=hl
    omega
   ·exact L r' c hl h
  ·refine L r' c hl ?_
   show AD (vw.rc.set r (some (cnt,tk))) r'=some c
   rw[EJ hr,if_neg (λe=>by rw[e,h0]at h;cases h)]
   exact h
 ·rcases at' h with⟨rfl,rfl⟩ | ⟨_,h⟩
  ·exact h3
  ·exact C.p3 r' c h
theorem Clean.mark{r:Nat}{x:Option Int}(C:Clean vw lf zs)(hr:r<vw.rm.length)(h:led vw r=0\/x=some 1):Clean { vw with rm:=vw.rm.set r x } lf zs:=by
 refine⟨C.nm,C.ds,C.ls,C.fw,C.s1,C.s2,C.em,λr' hl=> ?_,C.nd,C.lm,C.p3⟩
 have hl:0<led vw r':=hl
 show AD (vw.rm.set r x) r'=some 1
 rw[EJ hr]
 split
 ·rename_i e
  rcases h with h | h
  ·rw[e]at hl;omega
  ·exact h
 ·exact C.fr r' hl
theorem Clean.cnt{r:Nat}{c:Int × List Nat}{cnt:Int}(C:Clean vw lf zs)(h0:AD vw.rc r=some c)(hc:(led vw r:Int)<=cnt):Clean { vw with rc:=vw.rc.set r (some (cnt,c.2)) } lf zs:=by
 have hr:=JF h0
 have at':∀ {r':Nat} {d:Int × List Nat},AD (vw.rc.set r (some (cnt,c.2))) r'=some d->∃ d',AD vw.rc r'=some d'/\d'.2=d.2/\(led vw r':Int)<=d.1:=λ{r' d} h=>by
  rw[EJ hr]at h
  by_cases e:r'=r
  ·rw[if_pos e]at h;cases h;exact⟨c,e ▸ h0,rfl,e ▸ hc⟩
  ·rw[if_neg e]at h;exact⟨d,h,rfl,C.fw r' d h⟩
 have to':∀ {r':Nat} {d:Int × List Nat},AD vw.rc r'=some d->∃ d',AD (vw.rc.set r (some (cnt,c.2))) r'=some d'/\d'.2=d.2:=λ{r' d} h=>by
  rw[EJ hr]
  by_cases e:r'=r
  ·rw[if_pos e]
   rw[e,h0]at h;cases h
   exact⟨_,rfl,rfl⟩
  ·rw[if_neg e];exact⟨d,h,rfl⟩
 refine⟨C.nm,C.ds,λk d hk=> ?_,λr' d h=> ?_,λr' d h=> ?_,λr1 r2 c1 c2 ne h1 h2 p hp=> ?_,λr' d h p hp=> ?_,C.fr,C.nd,λp=> ?_,λr' d h=> ?_⟩
 ·have:=C.ls k d hk
  obtain⟨d',hd'⟩:=Option.isSome_iff_exists.mp this
  obtain⟨d2,h2,_⟩:=to' hd'
  show(AD (vw.rc.set r (some (cnt,c.2))) d.2).isSome=true
  rw[h2];rfl
 ·obtain⟨d',h1,h2,h3⟩:=at' h
  exact h3
 ·obtain⟨d',h1,h2,h3⟩:=at' h
  rw[<-h2];exact C.s1 r' d' h1
 ·obtain⟨d1,g1,g2,_⟩:=at' h1
  obtain⟨d2,g3,g4,_⟩:=at' h2
  rw[<-g4];rw[<-g2]at hp
  exact C.s2 r1 r2 d1 d2 ne g1 g3 p hp
 ·obtain⟨d',h1,h2,_⟩:=at' h
  rw[<-h2]at hp
  exact C.em r' d' h1 p hp
 ·rw[C.lm p]
  refine and_congr_right λ_=>⟨λL r' d hl h=> ?_,λL r' d hl h=> ?_⟩
  ·obtain⟨d',h1,h2,_⟩:=at' h
   rw[<-h2];exact L r' d' hl h1
  ·obtain⟨d',h1,h2⟩:=to' h
   rw[<-h2];exact L r' d' hl h1
 ·obtain⟨d',h1,h2,_⟩:=at' h
  rw[<-h2];exact C.p3 r' d' h1
theorem zi4{α :Type}{l:List α}{i j:Nat}{x: α}(h:l.Nodup)(hi:l[i]? =some x)(hj:l[j]? =some x):i=j:=by
 rw[List.nodup_iff_pairwise_ne,List.pairwise_iff_getElem]at h
 obtain⟨h1,e1⟩:=List.getElem?_eq_some_iff.mp hi
 obtain⟨h2,e2⟩:=List.getElem?_eq_some_iff.mp hj
 rcases Nat.lt_trichotomy i j with z | z | z
 ·exact absurd (e1.trans e2.symm) (h i j h1 h2 z)
 ·exact z
 ·exact absurd (e2.trans e1.symm) (h j i h2 h1 z)
theorem Clean.name{k r:Nat}{s:Str}{c:Int × List Nat}(C:Clean vw lf zs)(hk:vw.nm[k]? =some none)(hs:zs[(CN vw.nm).length]? =some s)(hz:zs.Nodup)(h0:AD vw.rc r=some c)(hc:(led vw r:Int)+1<=c.1)(hm:AD vw.rm r=some 1):Clean { vw with nm:=vw.nm.set k (some (s,r)) } (lf.filter λp=>decide (p∉c.2)) zs:=by
 have GE:=(List.getElem?_eq_some_iff.mp hk).1
 obtain⟨u1,u2⟩:=zi3 (c:=(s,r)) hk
 have hled:∀ r',led { vw with nm:=vw.nm.set k (some (s,r)) } r'=led vw r'+if r=r' then 1 else 0:=u2
 have at':∀ {k':Nat} {d:Str × Nat},AD (vw.nm.set k (some (s,r))) k'=some d->(k'=k/\d=(s,r))\/(k'≠k/\AD vw.nm k'=some d):=λ{k' d} h=>by
  rw[EJ GE]at h
  by_cases e:k'=k
  ·rw[if_pos e]at h;cases h;exact .inl ⟨e,rfl⟩
  ·rw[if_neg e]at h;exact .inr ⟨e,h⟩
 have new:∀ {k':Nat} {d:Str × Nat},AD vw.nm k'=some d->d.1≠s:=λ{k' d} h e=>by
  obtain⟨j,hj,ej⟩:=C.nm k' d h
  rw[e]at ej
  have:=zi4 hz ej hs
  omega
 refine⟨λk' d h=> ?_,λj1 j2 d1 d2 BZ h1 h2=> ?_,λk' d h=> ?_,λr' d h=> ?_,C.s1,C.s2,C.em,λr' hl=> ?_,C.nd.filter _,λp=> ?_,C.p3⟩
 ·show ∃ j,j<(CN (vw.nm.set k (some (s,r)))).length/\zs[j]? =some d.1
  rw[u1]
  rcases at' h with⟨rfl,rfl⟩ | ⟨_,h⟩
  ·exact⟨_,Nat.lt_succ_self _,hs⟩
  ·obtain⟨j,hj,ej⟩:=C.nm k' d h
   exact⟨j,by omega,ej⟩
 ·rcases at' h1 with⟨e1,rfl⟩ | ⟨_,h1⟩
  ·rcases at' h2 with⟨e2,rfl⟩ | ⟨_,h2⟩
   ·omega
   ·exact λe=>new h2 e.symm
  ·rcases at' h2 with⟨e2,rfl⟩ | ⟨_,h2⟩
   ·exact new h1
   ·exact C.ds j1 j2 d1 d2 BZ h1 h2
 ·rcases at' h with⟨rfl,rfl⟩ | ⟨_,h⟩
  ·show(AD vw.rc r).isSome=true
   rw[h0];rfl
  ·exact C.ls k' d h
 ·have h:AD vw.rc r'=some d:=h
  rw[hled]
  by_cases e:r=r'
  ·rw[if_pos e]
   subst e
   rw[h0]at h;cases h
   omega
  ·rw[if_neg e]
   exact C.fw r' d h
 ·rw[hled]at hl
  show AD vw.rm r'=some 1
  by_cases e:r=r'
  ·exact e ▸ hm
  ·rw[if_neg e]at hl
   exact C.fr r' hl
 ·rw[List.mem_filter,C.lm p,decide_eq_true_eq]
  constructor
  ·rintro ⟨⟨a1,a2⟩,a3⟩
   refine⟨a1,λr' d hl h=> ?_⟩
   have h:AD vw.rc r'=some d:=h
   rw[hled]at hl
   by_cases e:r=r'
   ·subst e;rw[h0]at h;cases h;exact a3
   ·rw[if_neg e]at hl;exact a2 r' d hl h
  ·rintro ⟨a1,a2⟩
   refine⟨⟨a1,λr' d hl h=>a2 r' d (by rw[hled];omega) h⟩,a2 r c (by rw[hled,if_pos rfl];omega) h0⟩
theorem Clean.pmk{p:Nat}(C:Clean vw lf zs)(h2:p<vw.pm.length)(hp:AD vw.pm p=none):Clean { vw with pm:=vw.pm.set p (some 1) } (lf++[p]) zs:=by
 have no:∀ r c,AD vw.rc r=some c->p∉c.2:=λr c hr hm=>by
  have:=(C.em r c hr p hm).2
  rw[hp]at this;cases this
 refine⟨C.nm,C.ds,C.ls,C.fw,C.s1,C.s2,λr c hr q hq=> ?_,C.fr,?_,λq=> ?_,C.p3⟩
 ·have hr:AD vw.rc r=some c:=hr
  have ne:q≠p:=λe=>no r c hr (e ▸ hq)
  simp only[EJ h2,if_neg ne]
  exact C.em r c hr q hq
 ·rw[List.nodup_append]
  refine⟨C.nd,by simp,λx hx y hy=> ?_⟩
  rw[List.mem_singleton.mp hy]
  intro e
  have:=((C.lm x).mp hx).1
  rw[e,hp]at this;cases this
 ·simp only[List.mem_append,List.mem_singleton,EJ h2]
  constructor
  ·rintro (h | rfl)
   ·obtain⟨a1,a2⟩:=(C.lm q).mp h
    refine⟨?_,a2⟩
    split
    ·rfl
    ·exact a1
   ·exact⟨by simp,λr c hr hc=>no r c hc⟩
  ·rintro ⟨a1,a2⟩
   by_cases e:q=p
   ·exact .inr e
   ·rw[if_neg e]at a1
    exact .inl ((C.lm q).mpr ⟨a1,a2⟩)
theorem Clean.alone{p:Nat}{z:Option Str}{x:Option Int}(C:Clean vw lf zs)(h1:p<vw.pc.length)(h2:p<vw.pm.length)(hp:AD vw.pm p=none)(hx:x≠some 1):Clean { vw with pc:=vw.pc.set p z,pm:=vw.pm.set p x } lf zs:=by
 have no:∀ r c,AD vw.rc r=some c->p∉c.2:=λr c hr hm=>by
  have:=(C.em r c hr p hm).2
  rw[hp]at this;cases this
 refine⟨C.nm,C.ds,C.ls,C.fw,C.s1,C.s2,λr c hr q hq=> ?_,C.fr,C.nd,λq=> ?_,C.p3⟩
 ·have hr:AD vw.rc r=some c:=hr
  have ne:q≠p:=λe=>no r c hr (e ▸ hq)
  simp only[EJ h1,EJ h2,if_neg ne]
  exact C.em r c hr q hq
 ·simp only[EJ h2]
  rw[C.lm q]
  refine and_congr ?_ Iff.rfl
  by_cases e:q=p
  ·rw[if_pos e,e,hp]
   exact⟨λh=>(by cases h),λh=>absurd h hx⟩
  ·rw[if_neg e]
end
theorem zi5{l m:List Int}(h1:l.Pairwise (· <·))(h2:m.Pairwise (· <·))(h:∀ x,x∈l↔x∈m):l=m:=by
 have n1:l.Nodup:=h1.imp λh=>by omega
 have n2:m.Nodup:=h2.imp λh=>by omega
 exact((List.perm_ext_iff_of_nodup n1 n2).mpr h).eq_of_pairwise (λx y _ _ a b=>by omega) h1 h2
theorem J5{α :Type}{l:List (Option α)}{k:Nat}{c: α}(h:AD l k=some c):some c∈l:=by
 unfold AD at h
 cases e:l[k]? with
 | none=>rw[e]at h;cases h
 | some y =>
  rw[e]at h
  have h:y=some c:=h
  exact h ▸ List.mem_of_getElem? e
theorem xV{p:Nat}:∀ {l:List Nat},l.Nodup->l.count p<=1
 | [],_=>by simp
 | x::l,h=>by
  obtain⟨h1,h2⟩:=List.nodup_cons.mp h
  rw[List.count_cons]
  by_cases e:x=p
  ·subst e
   have:l.count x=0:=List.count_eq_zero.mpr h1
   simp[this]
  ·have:=xV (p:=p) h2
   have e':(x == p)=false:=by simpa using e
   rw[e']
   simpa using this
theorem R5{rc:List GJ}{p:Nat}:p∈DN rc↔∃ r c,AD rc r=some c/\p∈c.2:=by
 unfold DN
 rw[List.mem_flatMap]
 constructor
 ·rintro ⟨x,hx,hp⟩
  cases x with
  | none=>cases hp
  | some c =>
   obtain⟨r,hr⟩:=List.mem_iff_getElem?.mp hx
   exact⟨r,c,by unfold AD;rw[hr];rfl,hp⟩
 ·rintro ⟨r,c,h,hp⟩
  exact⟨some c,J5 h,hp⟩
theorem xW{p:Nat}:∀ {rc:List GJ},(∀ r c,AD rc r=some c->c.2.Nodup)->(∀ r r' c c',r≠r'->AD rc r=some c->AD rc r'=some c'->∀ p∈c.2,p∉c'.2)->(DN rc).count p<=1
 | [],_,_=>by simp[DN]
 | x::l,h1,h2=>by
  have ih:=xW (p:=p) (rc:=l) (λr c h=>h1 (r+1) c (by unfold AD at h ⊢;simpa using h)) (λr r' c c' ne h h'=>h2 (r+1) (r'+1) c c' (by omega) (by unfold AD at h ⊢;simpa using h) (by unfold AD at h' ⊢;simpa using h'))
  unfold DN at ih ⊢
  rw[List.flatMap_cons,List.count_append]
  cases x with
  | none=>simpa [HL]using ih
  | some c =>
   have n1:(HL (some c)).count p<=1:=xV (h1 0 c rfl)
   by_cases hm:p∈c.2
   ·have:(List.flatMap HL l).count p=0:=by
     rw[List.count_eq_zero]
     intro hp
     obtain⟨r,d,hr,hd⟩:=R5.mp (show p∈DN l from hp)
     exact h2 0 (r+1) c d (by omega) rfl (by unfold AD at hr ⊢;simpa using hr) p hm hd
    omega
   ·have:(HL (some c)).count p=0:=List.count_eq_zero.mpr hm
    omega
theorem JG{n:Nat}{p:Nat->Bool}{f:Nat->List V}(h:∀ k,k<n->p k=false):DO n p f=[]:=by
 unfold DO
 rw[List.map_eq_nil_iff,List.filter_eq_nil_iff]
 intro k hk
 rw[h k (List.mem_range.mp hk)]
 exact Bool.false_ne_true
section
variable{vw:Vw}{lf:List Nat}{zs:List Str}
theorem xX{p:Nat}(h:0<FC vw p):∃ r c,AD vw.rc r=some c/\p∈c.2:=R5.mp (List.count_pos_iff.mp h)
theorem Clean.faults(C:Clean vw lf zs):faults vw=[]:=by
 unfold L2.faults OQ MW OR
 rw[JG,JG,JG,JG,JG,JG,JG]
 ·rfl
 ·intro p hp
  by_cases h:0<FC vw p
  ·obtain⟨r,c,hr,hm⟩:=xX h
   simp[(C.em r c hr p hm).2]
  ·simp[h]
 ·intro r hr
  by_cases h:0<led vw r
  ·simp[C.fr r h]
  ·simp[h]
 ·intro r hr
  unfold IP
  cases e:AD vw.rc r with
  | none=>rfl
  | some c =>
   have:=C.fw r c e
   simp;omega
 ·intro p hp
  by_cases h:0<FC vw p
  ·obtain⟨r,c,hr,hm⟩:=xX h
   have:=(C.em r c hr p hm).1
   obtain⟨z,hz⟩:=Option.isSome_iff_exists.mp this
   simp[hz]
  ·simp[h]
 ·intro p hp
  have:=xW (p:=p) C.s1 C.s2
  unfold FC
  simp;omega
 ·intro k hk
  unfold HM
  cases e:AD vw.nm k with
  | none=>rfl
  | some c =>
   rw[Bool.eq_false_iff]
   intro h
   obtain⟨j,hj,he⟩:=List.any_eq_true.mp h
   cases e2:AD vw.nm j with
   | none=>simp only[e2]at he;cases he
   | some d =>
    simp only[e2]at he
    exact C.ds j k d c (List.mem_range.mp hj) e2 e (by simpa using he)
 ·intro k hk
  unfold G9
  cases e:AD vw.nm k with
  | none=>rfl
  | some c =>
   have:=C.ls k c e
   obtain⟨z,hz⟩:=Option.isSome_iff_exists.mp this
   simp[hz]
theorem PQ{p:Nat}:RK vw p↔FW vw p=0:=by
 unfold FW
 rw[List.count_eq_zero]
 unfold RK
 constructor
 ·intro h hm
  unfold DN JT at hm
  obtain⟨x,hx,hp⟩:=List.mem_flatMap.mp hm
  obtain⟨r,hr,rfl⟩:=List.mem_map.mp hx
  obtain⟨_,hl⟩:=List.mem_filter.mp hr
  cases e:AD vw.rc r with
  | none=>rw[e]at hp;cases hp
  | some c =>
   rw[e]at hp
   exact h r c (by simpa using hl) e hp
 ·intro h r c hl hr hm
  refine h ?_
  unfold DN JT
  exact List.mem_flatMap.mpr ⟨some c,List.mem_map.mpr ⟨r,List.mem_filter.mpr ⟨List.mem_range.mpr (JF hr),by simpa using hl⟩,hr⟩,hm⟩
theorem Clean.sorted(C:Clean vw lf zs)(l2:vw.pm.length=vw.pc.length){ks:List Int}(hp:ks.Perm (lf.map λ(k:Nat)=>(k:Int)))(hs:ks.Pairwise (· <=·)):ks=((List.range vw.pc.length).filter λp=>decide (AD vw.pm p=some 1) && decide (FW vw p=0)).map λ(k:Nat)=>(k:Int):=by
 have nd:ks.Nodup:=hp.nodup_iff.mpr (by
  rw[List.nodup_iff_pairwise_ne,List.pairwise_map]
  exact(List.nodup_iff_pairwise_ne.mp C.nd).imp λh e=>h (by omega))
 refine zi5 ?_ ?_ λx=> ?_
 ·rw[List.nodup_iff_pairwise_ne]at nd
  exact(hs.and nd).imp λ⟨h1,h2⟩=>by omega
 ·rw[List.pairwise_map]
  exact(List.pairwise_lt_range.filter _).imp λh=>by omega
 ·rw[hp.mem_iff,List.mem_map,List.mem_map]
  constructor
  ·rintro ⟨p,h,rfl⟩
   obtain⟨a1,a2⟩:=(C.lm p).mp h
   have hl:=JF a1
   exact⟨p,List.mem_filter.mpr ⟨List.mem_range.mpr (by omega),by simp[a1,PQ.mp a2]⟩,rfl⟩
  ·rintro ⟨p,h,rfl⟩
   obtain⟨_,h⟩:=List.mem_filter.mp h
   simp at h
   exact⟨p,(C.lm p).mpr ⟨h.1,PQ.mpr h.2⟩,rfl⟩
theorem Clean.short(C:Clean vw lf zs):lf.length<=vw.pm.length:=by
 have:=List.Nodup.length_le_of_subset (l₂:=List.range vw.pm.length) C.nd λp hp=>List.mem_range.mpr (JF ((C.lm p).mp hp).1)
 simpa using this
end
structure zi6(A:LW):Prop where
 d01:A.a0≠A.a1
 d02:A.a0≠A.a2
 d03:A.a0≠A.a3
 d04:A.a0≠A.a4
 d05:A.a0≠A.a5
 d10:A.a1≠A.a0
 d12:A.a1≠A.a2
 d13:A.a1≠A.a3
 d14:A.a1≠A.a4
 d15:A.a1≠A.a5
 d20:A.a2≠A.a0
 d21:A.a2≠A.a1
 d23:A.a2≠A.a3
 d24:A.a2≠A.a4
 d25:A.a2≠A.a5
 d30:A.a3≠A.a0
 d31:A.a3≠A.a1
 d32:A.a3≠A.a2
 d34:A.a3≠A.a4
 d35:A.a3≠A.a5
 d40:A.a4≠A.a0
 d41:A.a4≠A.a1
 d42:A.a4≠A.a2
 d43:A.a4≠A.a3
 d45:A.a4≠A.a5
 d50:A.a5≠A.a0
 d51:A.a5≠A.a1
 d52:A.a5≠A.a2
 d53:A.a5≠A.a3
 d54:A.a5≠A.a4
 v0:A.v≠A.a0
 v1:A.v≠A.a1
 v2:A.v≠A.a2
 v3:A.v≠A.a3
 v4:A.v≠A.a4
 v5:A.v≠A.a5
theorem LWAt.diff{A:LW}{vw:Vw}{lf:List Nat}(I:LWAt H A vw lf):zi6 A:=by
 have nd:=I.nd
 have nv:=I.nv
 simp[LW.L]at nd nv
 obtain⟨⟨a1,a2,a3,a4,a5⟩,⟨b1,b2,b3,b4⟩,⟨c1,c2,c3⟩,⟨d1,d2⟩,e1⟩:=nd
 obtain⟨v0,v1,v2,v3,v4,v5⟩:=nv
 constructor<;>first | assumption | (apply Ne.symm;assumption)
theorem LWAt.same{A:LW}{vw:Vw}{lf:List Nat}{H':Hp}(I:LWAt H A vw lf)(s:Same H H'):LWAt H' A vw lf :=
 ⟨s _ _ I.ob,I.n.keep (λv c=>NmV.keep s.tk) (λo=>s _ _),I.r.keep (λv c=>RcV.keep s.tk) (λo=>s _ _),I.p.keep (λv c=>PcV.keep s.tk) (λo=>s _ _),I.rm.keep (λv c=>MkV.keep s.tk) (λo=>s _ _),I.pm.keep (λv c=>MkV.keep s.tk) (λo=>s _ _),s _ _ I.l,I.ok,I.nd,I.nv⟩
theorem LWAt.set0{A:LW}{vw:Vw}{lf:List Nat}{k:Nat}{v:V}{cc:GD}{Q:Hp->Prop}(I:LWAt H A vw lf)(hk:k<vw.nm.length)(hr:NmV H v cc)(hok:∀ c,cc=some c->c.2<vw.rc.length/\PyData.strOk c.1=true)(q:∀ H',LWAt H' A { vw with nm:=vw.nm.set k cc } lf->SameBut (· ∈A.L) H H'->CZ H H'->Q H'):DD (.ref A.a0) (.int k) v H Q:=by
 obtain⟨us,e,P⟩:=I.n
 have d:=I.diff
 refine⟨A.a0,us,k,k,rfl,rfl,e,NA (by rw[P.length];exact hk),?_⟩
 have tk:CZ H (upd H A.a0 (.lst (us.set k v))):=λy xs e2=>by rw[AO (DB e2 e (by intro z;cases z))];exact e2
 refine q _ ⟨by rw[AO d.v0];exact I.ob,LstAt.set AM (Paired.mapP P λv c=>NmV.keep tk) (NmV.keep tk hr),I.r.keep (λv c=>RcV.keep tk) (λo e=>by rw[AO d.d10];exact e),I.p.keep (λv c=>PcV.keep tk) (λo e=>by rw[AO d.d20];exact e),I.rm.keep (λv c=>MkV.keep tk) (λo e=>by rw[AO d.d30];exact e),I.pm.keep (λv c=>MkV.keep tk) (λo e=>by rw[AO d.d40];exact e),by rw[AO d.d50];exact I.l,⟨λc h=>(List.mem_or_eq_of_mem_set h).elim (I.ok.n1 c) λe=>hok c e.symm,λc h=>I.ok.n2 c h,λc h=>I.ok.n3 c h,I.ok.l1,I.ok.l2,(by rw[List.length_set];exact I.ok.bn),I.ok.br,I.ok.bp⟩,I.nd,I.nv⟩ (λy o e ny=> ?_) tk
 rw[AO λz=>ny (by rw[z];simp[LW.L])];exact e
theorem LWAt.set1{A:LW}{vw:Vw}{lf:List Nat}{k:Nat}{v:V}{cc:GJ}{Q:Hp->Prop}(I:LWAt H A vw lf)(hk:k<vw.rc.length)(hr:RcV H v cc)(hok:∀ c,cc=some c->(∀ p∈c.2,p<vw.pc.length)/\c.2.length<=10)(q:∀ H',LWAt H' A { vw with rc:=vw.rc.set k cc } lf->SameBut (· ∈A.L) H H'->CZ H H'->Q H'):DD (.ref A.a1) (.int k) v H Q:=by
 obtain⟨us,e,P⟩:=I.r
 have d:=I.diff
 refine⟨A.a1,us,k,k,rfl,rfl,e,NA (by rw[P.length];exact hk),?_⟩
 have tk:CZ H (upd H A.a1 (.lst (us.set k v))):=λy xs e2=>by rw[AO (DB e2 e (by intro z;cases z))];exact e2
 refine q _ ⟨by rw[AO d.v1];exact I.ob,I.n.keep (λv c=>NmV.keep tk) (λo e=>by rw[AO d.d01];exact e),LstAt.set AM (Paired.mapP P λv c=>RcV.keep tk) (RcV.keep tk hr),I.p.keep (λv c=>PcV.keep tk) (λo e=>by rw[AO d.d21];exact e),I.rm.keep (λv c=>MkV.keep tk) (λo e=>by rw[AO d.d31];exact e),I.pm.keep (λv c=>MkV.keep tk) (λo e=>by rw[AO d.d41];exact e),by rw[AO d.d51];exact I.l,⟨λc h=>⟨by rw[List.length_set];exact(I.ok.n1 c h).1,(I.ok.n1 c h).2⟩,λc h=>(List.mem_or_eq_of_mem_set h).elim (I.ok.n2 c) λe=>hok c e.symm,λc h=>I.ok.n3 c h,(by rw[List.length_set];exact I.ok.l1),I.ok.l2,I.ok.bn,(by rw[List.length_set];exact I.ok.br),I.ok.bp⟩,I.nd,I.nv⟩ (λy o e ny=> ?_) tk
 rw[AO λz=>ny (by rw[z];simp[LW.L])];exact e
theorem LWAt.set2{A:LW}{vw:Vw}{lf:List Nat}{k:Nat}{v:V}{cc:Option Str}{Q:Hp->Prop}(I:LWAt H A vw lf)(hk:k<vw.pc.length)(hr:PcV H v cc)(hok:∀ c,cc=some c->PyData.strOk c=true)(q:∀ H',LWAt H' A { vw with pc:=vw.pc.set k cc } lf->SameBut (· ∈A.L) H H'->CZ H H'->Q H'):DD (.ref A.a2) (.int k) v H Q:=by
 obtain⟨us,e,P⟩:=I.p
 have d:=I.diff
 refine⟨A.a2,us,k,k,rfl,rfl,e,NA (by rw[P.length];exact hk),?_⟩
 have tk:CZ H (upd H A.a2 (.lst (us.set k v))):=λy xs e2=>by rw[AO (DB e2 e (by intro z;cases z))];exact e2
 refine q _ ⟨by rw[AO d.v2];exact I.ob,I.n.keep (λv c=>NmV.keep tk) (λo e=>by rw[AO d.d02];exact e),I.r.keep (λv c=>RcV.keep tk) (λo e=>by rw[AO d.d12];exact e),LstAt.set AM (Paired.mapP P λv c=>PcV.keep tk) (PcV.keep tk hr),I.rm.keep (λv c=>MkV.keep tk) (λo e=>by rw[AO d.d32];exact e),I.pm.keep (λv c=>MkV.keep tk) (λo e=>by rw[AO d.d42];exact e),by rw[AO d.d52];exact I.l,⟨λc h=>I.ok.n1 c h,λc h=>⟨λp hp=>by rw[List.length_set];exact(I.ok.n2 c h).1 p hp,(I.ok.n2 c h).2⟩,λc h=>(List.mem_or_eq_of_mem_set h).elim (I.ok.n3 c) λe=>hok c e.symm,I.ok.l1,(by rw[List.length_set];exact I.ok.l2),I.ok.bn,I.ok.br,(by rw[List.length_set];exact I.ok.bp)⟩,I.nd,I.nv⟩ (λy o e ny=> ?_) tk
 rw[AO λz=>ny (by rw[z];simp[LW.L])];exact e
theorem LWAt.set3{A:LW}{vw:Vw}{lf:List Nat}{k:Nat}{v:V}{cc:Option Int}{Q:Hp->Prop}(I:LWAt H A vw lf)(hk:k<vw.rc.length)(hr:MkV H v cc)(hok:∀ c,cc=some c->True)(q:∀ H',LWAt H' A { vw with rm:=vw.rm.set k cc } lf->SameBut (· ∈A.L) H H'->CZ H H'->Q H'):DD (.ref A.a3) (.int k) v H Q:=by
 obtain⟨us,e,P⟩:=I.rm
 have d:=I.diff
 refine⟨A.a3,us,k,k,rfl,rfl,e,NA (by rw[P.length,I.ok.l1];exact hk),?_⟩
 have tk:CZ H (upd H A.a3 (.lst (us.set k v))):=λy xs e2=>by rw[AO (DB e2 e (by intro z;cases z))];exact e2
 refine q _ ⟨by rw[AO d.v3];exact I.ob,I.n.keep (λv c=>NmV.keep tk) (λo e=>by rw[AO d.d03];exact e),I.r.keep (λv c=>RcV.keep tk) (λo e=>by rw[AO d.d13];exact e),I.p.keep (λv c=>PcV.keep tk) (λo e=>by rw[AO d.d23];exact e),LstAt.set AM (Paired.mapP P λv c=>MkV.keep tk) (MkV.keep tk hr),I.pm.keep (λv c=>MkV.keep tk) (λo e=>by rw[AO d.d43];exact e),by rw[AO d.d53];exact I.l,⟨λc h=>I.ok.n1 c h,λc h=>I.ok.n2 c h,λc h=>I.ok.n3 c h,(by rw[List.length_set];exact I.ok.l1),I.ok.l2,I.ok.bn,I.ok.br,I.ok.bp⟩,I.nd,I.nv⟩ (λy o e ny=> ?_) tk
 rw[AO λz=>ny (by rw[z];simp[LW.L])];exact e
theorem LWAt.set4{A:LW}{vw:Vw}{lf:List Nat}{k:Nat}{v:V}{cc:Option Int}{Q:Hp->Prop}(I:LWAt H A vw lf)(hk:k<vw.pc.length)(hr:MkV H v cc)(hok:∀ c,cc=some c->True)(q:∀ H',LWAt H' A { vw with pm:=vw.pm.set k cc } lf->SameBut (· ∈A.L) H H'->CZ H H'->Q H'):DD (.ref A.a4) (.int k) v H Q:=by
 obtain⟨us,e,P⟩:=I.pm
 have d:=I.diff
 refine⟨A.a4,us,k,k,rfl,rfl,e,NA (by rw[P.length,I.ok.l2];exact hk),?_⟩
 have tk:CZ H (upd H A.a4 (.lst (us.set k v))):=λy xs e2=>by rw[AO (DB e2 e (by intro z;cases z))];exact e2
 refine q _ ⟨by rw[AO d.v4];exact I.ob,I.n.keep (λv c=>NmV.keep tk) (λo e=>by rw[AO d.d04];exact e),I.r.keep (λv c=>RcV.keep tk) (λo e=>by rw[AO d.d14];exact e),I.p.keep (λv c=>PcV.keep tk) (λo e=>by rw[AO d.d24];exact e),I.rm.keep (λv c=>MkV.keep tk) (λo e=>by rw[AO d.d34];exact e),LstAt.set AM (Paired.mapP P λv c=>MkV.keep tk) (MkV.keep tk hr),by rw[AO d.d54];exact I.l,⟨λc h=>I.ok.n1 c h,λc h=>I.ok.n2 c h,λc h=>I.ok.n3 c h,I.ok.l1,(by rw[List.length_set];exact I.ok.l2),I.ok.bn,I.ok.br,I.ok.bp⟩,I.nd,I.nv⟩ (λy o e ny=> ?_) tk
 rw[AO λz=>ny (by rw[z];simp[LW.L])];exact e
theorem LWAt.ix0{A:LW}{vw:Vw}{lf:List Nat}{Q:VK}{k:Nat}(I:LWAt H A vw lf)(hk:k<vw.nm.length)(q:∀ v,NmV H v (AD vw.nm k)->Q v H):AY K (.ref A.v) (.int 0) H λx H1=>AY K x (.int k) H1 Q:=by
 obtain⟨us,v,e,_,ev,hr⟩:=I.n.at (k:=k) hk
 exact B0 (SqL.of I.ob) (n:=0) rfl rfl (B0 (SqL.of e) (n:=k) rfl ev (q v hr))
theorem LWAt.at0{A:LW}{vw:Vw}{lf:List Nat}{Q:VK}(I:LWAt H A vw lf)(q:Q (.ref A.a0) H):AY K (.ref A.v) (.int 0) H Q:=B0 (SqL.of I.ob) (n:=0) rfl rfl q
theorem LWAt.ix1{A:LW}{vw:Vw}{lf:List Nat}{Q:VK}{k:Nat}(I:LWAt H A vw lf)(hk:k<vw.rc.length)(q:∀ v,RcV H v (AD vw.rc k)->Q v H):AY K (.ref A.v) (.int 1) H λx H1=>AY K x (.int k) H1 Q:=by
 obtain⟨us,v,e,_,ev,hr⟩:=I.r.at (k:=k) hk
 exact B0 (SqL.of I.ob) (n:=1) rfl rfl (B0 (SqL.of e) (n:=k) rfl ev (q v hr))
theorem LWAt.at1{A:LW}{vw:Vw}{lf:List Nat}{Q:VK}(I:LWAt H A vw lf)(q:Q (.ref A.a1) H):AY K (.ref A.v) (.int 1) H Q:=B0 (SqL.of I.ob) (n:=1) rfl rfl q
theorem LWAt.ix2{A:LW}{vw:Vw}{lf:List Nat}{Q:VK}{k:Nat}(I:LWAt H A vw lf)(hk:k<vw.pc.length)(q:∀ v,PcV H v (AD vw.pc k)->Q v H):AY K (.ref A.v) (.int 2) H λx H1=>AY K x (.int k) H1 Q:=by
 obtain⟨us,v,e,_,ev,hr⟩:=I.p.at (k:=k) hk
 exact B0 (SqL.of I.ob) (n:=2) rfl rfl (B0 (SqL.of e) (n:=k) rfl ev (q v hr))
theorem LWAt.at2{A:LW}{vw:Vw}{lf:List Nat}{Q:VK}(I:LWAt H A vw lf)(q:Q (.ref A.a2) H):AY K (.ref A.v) (.int 2) H Q:=B0 (SqL.of I.ob) (n:=2) rfl rfl q
theorem LWAt.ix3{A:LW}{vw:Vw}{lf:List Nat}{Q:VK}{k:Nat}(I:LWAt H A vw lf)(hk:k<vw.rc.length)(q:∀ v,MkV H v (AD vw.rm k)->Q v H):AY K (.ref A.v) (.int 3) H λx H1=>AY K x (.int k) H1 Q:=by
 obtain⟨us,v,e,_,ev,hr⟩:=I.rm.at (k:=k) (by rw[I.ok.l1];exact hk)
 exact B0 (SqL.of I.ob) (n:=3) rfl rfl (B0 (SqL.of e) (n:=k) rfl ev (q v hr))
theorem LWAt.at3{A:LW}{vw:Vw}{lf:List Nat}{Q:VK}(I:LWAt H A vw lf)(q:Q (.ref A.a3) H):AY K (.ref A.v) (.int 3) H Q:=B0 (SqL.of I.ob) (n:=3) rfl rfl q
theorem LWAt.ix4{A:LW}{vw:Vw}{lf:List Nat}{Q:VK}{k:Nat}(I:LWAt H A vw lf)(hk:k<vw.pc.length)(q:∀ v,MkV H v (AD vw.pm k)->Q v H):AY K (.ref A.v) (.int 4) H λx H1=>AY K x (.int k) H1 Q:=by
 obtain⟨us,v,e,_,ev,hr⟩:=I.pm.at (k:=k) (by rw[I.ok.l2];exact hk)
 exact B0 (SqL.of I.ob) (n:=4) rfl rfl (B0 (SqL.of e) (n:=k) rfl ev (q v hr))
theorem LWAt.at4{A:LW}{vw:Vw}{lf:List Nat}{Q:VK}(I:LWAt H A vw lf)(q:Q (.ref A.a4) H):AY K (.ref A.v) (.int 4) H Q:=B0 (SqL.of I.ob) (n:=4) rfl rfl q
theorem LWAt.at5{A:LW}{vw:Vw}{lf:List Nat}{Q:VK}(I:LWAt H A vw lf)(q:Q (.ref A.a5) H):AY K (.ref A.v) (.int 5) H Q:=B0 (SqL.of I.ob) (n:=5) rfl rfl q
theorem LWAt.len0{A:LW}{vw:Vw}{lf:List Nat}(I:LWAt H A vw lf):NY K (.ref A.a0) H vw.nm.length:=by
 obtain⟨us,e,P⟩:=I.n
 exact .inl ⟨_,SqL.of e,P.length.symm⟩
theorem LWAt.len1{A:LW}{vw:Vw}{lf:List Nat}(I:LWAt H A vw lf):NY K (.ref A.a1) H vw.rc.length:=by
 obtain⟨us,e,P⟩:=I.r
 exact .inl ⟨_,SqL.of e,P.length.symm⟩
theorem LWAt.len2{A:LW}{vw:Vw}{lf:List Nat}(I:LWAt H A vw lf):NY K (.ref A.a2) H vw.pc.length:=by
 obtain⟨us,e,P⟩:=I.p
 exact .inl ⟨_,SqL.of e,P.length.symm⟩
theorem NamesAt.sb{A:LW}{nl:Addr}{zs:List Str}{H':Hp}(h:NamesAt H A nl zs)(s:SameBut (· ∈A.L) H H'):NamesAt H' A nl zs:=⟨s _ _ h.e h.n,h.l,h.d,h.s,h.n⟩
theorem IntsAt.sb{A:LW}{xl:Addr}{xs:List Int}{m:Nat}{H':Hp}(h:IntsAt H A xl xs m)(s:SameBut (· ∈A.L) H H'):IntsAt H' A xl xs m:=⟨s _ _ h.e h.n,h.l,h.b,h.n⟩
theorem IntsAt.at{A:LW}{xl:Addr}{xs:List Int}{m k:Nat}{Q:VK}(h:IntsAt H A xl xs m)(hk:k<m)(q:∀ x,0<=x->x<2000000000->Q (.int x) H):AY K (.ref xl) (.int k) H Q:=JE h.e (by rw[h.l];exact hk) λx hx=>q x (h.b x hx).1 (h.b x hx).2
theorem xY{v:V}{c:Option Int}(h:MkV H v c):decide (v=.non)=c.isNone:=by
 cases c with
 | none=>rw[show v=.non from h];rfl
 | some c=>rw[show v=.int c from h];rfl
theorem zi7(h:IR K a vs H Q E):ZQ K a (λ_=>E) (A0 Q) (A4 ["view"] vs) H:=by
 obtain⟨A,vw,lf,rfl,I,q⟩:=h
 have bn:=I.ok.bn
 push_cast[ZQ,↓Yq]
 refine I.at0 ⟨vw.nm.length,I.len0,by omega,by omega,KU (λk=>(AD vw.nm k).isNone) (small _ (by omega)) (λk hk QB qb=> ?_) λl hl=>q l _ hl (AV hl) AM⟩
 push_cast[B3]
 refine I.ix0 hk λv hv=> ?_
 push_cast[]
 rw[cA hv]
 exact qb
theorem zi8(h:O2 K a vs H Q E):ZR K a (λ_=>E) (A0 Q) (A4 ["view"] vs) H:=by
 obtain⟨A,vw,lf,rfl,I,q⟩:=h
 have bn:=I.ok.br
 push_cast[ZR,↓Yv]
 refine I.at1 ⟨vw.rc.length,I.len1,by omega,by omega,KU (λr=>(AD vw.rc r).isNone && (AD vw.rm r).isNone) (small _ (by omega)) (λk hk QB qb=> ?_) λl hl=>q l _ hl (AV hl) AM⟩
 push_cast[B3]
 refine I.ix1 hk λv hv=> ?_
 have hn:=PK hv
 push_cast[]
 by_cases h0:v=.non
 ·refine CJ h0 (I.ix3 hk λv2 G1=> ?_)
  push_cast[]
  rw[xY G1]
  rw[<-hn,decide_eq_true h0,Bool.true_and]at qb
  exact qb
 ·refine B7 h0 ?_
  rw[<-hn,decide_eq_false h0,Bool.false_and]at qb
  exact qb
theorem zi9(h:O3 K a vs H Q E):ZS K a (λ_=>E) (A0 Q) (A4 ["view"] vs) H:=by
 obtain⟨A,vw,lf,rfl,I,q⟩:=h
 have bn:=I.ok.bp
 push_cast[ZS,↓Yw]
 refine I.at2 ⟨vw.pc.length,I.len2,by omega,by omega,KU (λp=>(AD vw.pc p).isNone && (AD vw.pm p).isNone) (small _ (by omega)) (λk hk QB qb=> ?_) λl hl=>q l _ hl (AV hl) AM⟩
 push_cast[B3]
 refine I.ix2 hk λv hv=> ?_
 have hn:=xG hv
 push_cast[]
 by_cases h0:v=.non
 ·refine CJ h0 (I.ix4 hk λv2 G1=> ?_)
  push_cast[]
  rw[xY G1]
  rw[<-hn,decide_eq_true h0,Bool.true_and]at qb
  exact qb
 ·refine B7 h0 ?_
  rw[<-hn,decide_eq_false h0,Bool.false_and]at qb
  exact qb
theorem zja(h:O1 K a vs H Q E):ZP K a (λ_=>E) (A0 Q) (A4 ["view","led","cell"] vs) H:=by
 obtain⟨A,vw,lf,rfl,I,q⟩:=h
 have ok:=I.ok
 have br:=ok.br
 obtain⟨v1,e1,P1⟩:=I.n
 have q1:=P1.length
 push_cast[ZP,↓Yj]
 refine⟨by decide,λp1 EX=> ?_⟩
 have s1:=AV (o:=.lst [V.int 0]) EX
 have I1:=I.same s1
 refine I1.at1 ⟨vw.rc.length,I1.len1,zi0 AM (by omega) λl1 H2 F5 s2 f1=> ?_⟩
 have B8:=s1.trans s2
 have hl1H:H l1=none:=s1.free F5
 push_cast[↓Ym]
 refine(I.same B8).at0 ⟨A.a0,rfl,.inl ⟨⟨_,SqL.of (B8 _ _ e1)⟩,KR (xs:=v1) (λi σ H'=>(Same H H'/\H' l1=some (.lst (J0 vw.rc.length (CN (vw.nm.take i)))))/\∃ y,σ=[some (.ref A.v),some (.ref l1),y]) ⟨⟨B8,f1⟩,_,rfl⟩ (λi σ H' _ ⟨⟨s,_⟩,_⟩=>SqL.of (s _ _ e1)) (λi v σ H' hx ⟨⟨s,g1⟩,y,eσ⟩=> ?_) (λσ H' ⟨⟨s,g1⟩,y,eσ⟩=> ?_)⟩⟩
 ·subst eσ
  obtain⟨c,ec,hr⟩:=GL P1 hx
  push_cast[↓Yl]
  have el:CN (vw.nm.take (i+1))=CN (vw.nm.take i)++CN [c]:=by
   rw[FM ec]
   unfold CN
   rw[List.filterMap_append]
  rw[el]
  cases c with
  | none =>
   refine B7 (λz=>z hr) ?_
   rw[show CN [none]=[]from rfl,List.append_nil]
   exact⟨s,g1⟩
  | some c =>
   obtain⟨p,rfl,hp⟩:=hr
   have hc:=(ok.n1 c (List.mem_of_getElem? ec)).1
   refine CJ (by simp) ?_
   push_cast[↓Yk]
   refine BY (s _ _ hp) (n:=1) rfl rfl (B0 (SqL.of g1) (n:=c.2) rfl (zix hc) ?_)
   push_cast[]
   refine BY (s _ _ hp) (n:=1) rfl rfl ⟨l1,_,_,c.2,rfl,rfl,g1,NA (by rw[ziy];exact hc),?_⟩
   rw[ziw hc]
   exact⟨λy o e=>by rw[AO (BX e hl1H)];exact s _ _ e,AM⟩
 ·subst eσ
  rw[q1,List.take_length]at g1
  push_cast[↓Yp]
  exact q l1 H' hl1H s g1
theorem HA{p:Addr}{l:List Nat}{x:Int}{Q:VK}(e:H p=some (.lst (AU l)))(hl:l≠[])(q:∀ k∈l,Q (.int k) H):AY K (.ref p) (.int (x % (l.length:Int))) H Q:=by
 have h1:1<=l.length:=by
  cases l with
  | nil=>exact absurd rfl hl
  | cons _ _=>simp
 obtain⟨b,eb,hb⟩:=JZ x (n:=l.length) h1
 rw[eb]
 exact B0 (SqL.of e) (n:=b) rfl (PJ (List.getElem?_eq_getElem hb)) (q _ (List.getElem_mem hb))
theorem PU{p e0:Addr}{l:List Nat}(h1:H p=some (.lst (AU l)))(h2:H e0=some (.lst []))(q:Q (.bl (!decide (l=[]))) H):DH K (.ref p) (.ref e0) H Q:=by
 refine XZ (n:=1) (by decide) (SqL.of h1) (by rw[xT];exact XY _) (SqL.of h2) ?_
 have:decide (AU l=[])=decide (l=[]):=by
  unfold AU
  rw[decide_eq_decide,List.map_eq_nil_iff]
 rw[this]
 exact q
theorem zjb(h:O4 K a vs H Q E):aC K a (λ_=>E) (A0 Q) (A4 ["view","names","r","number","free","word"] vs) H:=by
 obtain⟨A,vw,lf,l0,zs,nl,r,c,num,n',r',c',rfl,I,C,N,⟨z1,z2,z3⟩,HY,G2,hrc,hcc,hrm,q⟩:=h
 push_cast[aC,↓zbi]
 refine⟨A,vw,lf,rfl,I,λfl H1 hfl s1 GZ=> ?_⟩
 have I1:=I.same s1
 have fln:=xU (nm:=vw.nm)
 have ffl:(FJ vw).length+(CN vw.nm).length=vw.nm.length:=fln
 have f1:1<=(FJ vw).length:=by
  cases e:FJ vw with
  | nil=>exact absurd e G2
  | cons _ _=>simp
 have eu:=List.getElem?_eq_getElem (l:=zs) (i:=(CN vw.nm).length) (by rw[N.l];omega)
 push_cast[↓zbj]
 refine I1.at0 ⟨vw.nm.length,I1.len0,(FJ vw).length,.inl ⟨_,SqL.of GZ,by rw[CO]⟩,?_⟩
 rw[show((vw.nm.length:Int) - ((FJ vw).length:Int))=(((CN vw.nm).length:Nat):Int) by omega]
 refine B0 (SqL.of (s1 _ _ N.e)) (n:=(CN vw.nm).length) rfl (by rw[List.getElem?_map,eu];rfl) ?_
 push_cast[↓zbk]
 refine⟨by decide,λp hp=> ?_⟩
 have eu':=(List.getElem?_eq_some_iff.mp eu).2
 revert hp
 generalize hs:zs[(CN vw.nm).length]'(by rw[N.l];omega)=sN
 intro hp
 rw[hs]at eu
 obtain⟨H2,zz0,s2,e2⟩:=DA (o:=.tup [V.str sN,V.int ↑r]) hp
 rw[zz0]
 have I2:=I1.same s2
 have B8:=s1.trans s2
 refine I2.at0 ⟨(FJ vw).length,.inl ⟨_,SqL.of (s2 _ _ GZ),by rw[CO]⟩,by omega,HA (s2 _ _ GZ) G2 λk hk=> ?_⟩
 obtain⟨hk1,hk2⟩:=FN hk
 have hr:=JF hrc
 refine I2.set0 (cc:=some (sN,r)) hk1 ⟨p,rfl,e2⟩ (λc hc=>by cases hc;exact⟨hr,N.s _ (List.mem_of_getElem? eu)⟩) λH3 I3 sb tk=> ?_
 have hkn:vw.nm[k]? =some none:=by
  unfold AD at hk2
  rw[List.getElem?_eq_getElem hk1]at hk2 ⊢
  have:vw.nm[k].isNone=true:=hk2
  rw[Option.isNone_iff_eq_none.mp this]
 refine q _ H3 I3 (C.name hkn eu N.d hrc hcc hrm) ⟨by simp only[List.length_set];exact z1,z2,z3⟩ (B8.sb.trans sb)
structure cD(A:LW)(vw:Vw)(lf l0:List Nat)(zs:List Str)(tl:Addr)(n r c:Nat)(H:Hp)(i:Nat)(tk:List Nat)(vw':Vw)(H':Hp):Prop where
 w:LWAt H' A vw' lf
 cl:Clean vw' (l0++tk) zs
 nm:vw'.nm=vw.nm
 rc:vw'.rc=vw.rc
 rm:vw'.rm=vw.rm
 z:GK vw' n r c
 p:∀ p∈tk,(AD vw'.pc p).isSome=true/\p<c
 f:∀ p∈tk,∀ r c,AD vw'.rc r=some c->p∉c.2
 l:tk.length<=i
 e:H' tl=some (.lst (AU tk))
 s:SameBut (λx=>x∈A.L\/x=tl) H H'
theorem zjc(h:UO K a vs H Q E):aL K a (λ_=>E) (A0 Q) (A4 ["view","xs","many","taken","k","free","p"] vs) H:=by
 obtain⟨A,vw,lf,l0,zs,xl,xs,many,n,r,c,rfl,I,C,X,hm,sz,q⟩:=h
 push_cast[aL,↓zb9]
 refine⟨by decide,λtl htl=> ?_⟩
 have s1:=AV (o:=.lst []) htl
 have e1:upd H tl (.lst []) tl=some (.lst (AU [])):=AM
 revert s1 e1
 generalize upd H tl (.lst [])=H1
 intro s1 e1
 have I1:=I.same s1
 have ntl:tl∉A.L:=λhm=>by
  have:∀ y∈A.L,H y≠none:=λy hy z=>by
   simp[LW.L]at hy
   obtain⟨_,k0,_⟩:=I.n
   obtain⟨_,k1,_⟩:=I.r
   obtain⟨_,k2,_⟩:=I.p
   obtain⟨_,k3,_⟩:=I.rm
   obtain⟨_,k4,_⟩:=I.pm
   have k5:=I.l
   rcases hy with rfl | rfl | rfl | rfl | rfl | rfl
   ·rw[z]at k0;cases k0
   ·rw[z]at k1;cases k1
   ·rw[z]at k2;cases k2
   ·rw[z]at k3;cases k3
   ·rw[z]at k4;cases k4
   ·rw[z]at k5;cases k5
  exact this tl hm htl
 have nxl:xl≠tl:=BX X.e htl
 push_cast[↓zcg]
 refine⟨by omega,by omega,RE (λi σ H'=>(∃ tk vw',cD A vw lf l0 zs tl n r c H1 i tk vw' H')/\∃ y4 y5 y6,σ=[some (.ref A.v),some (.ref xl),some (.int many),some (.ref tl),y4,y5,y6]) ⟨⟨[],vw,I1,by rw[List.append_nil];exact C,rfl,rfl,rfl,sz,by simp,by simp,by simp,e1,SameBut.refl _⟩,_,_,_,rfl⟩ (λi σ H' hi ⟨⟨tk,vw',J⟩,y4,y5,y6,eσ⟩=> ?_) (λσ H' ⟨⟨tk,vw',J⟩,y4,y5,y6,eσ⟩=> ?_)⟩
 ·subst eσ
  push_cast[↓zca,Int.zero_add]
  refine⟨A,vw',lf,rfl,J.w,λfl H2 hfl s2 GZ=> ?_⟩
  have J2:cD A vw lf l0 zs tl n r c H1 i tk vw' H2:=⟨J.w.same s2,J.cl,J.nm,J.rc,J.rm,J.z,J.p,J.f,J.l,s2 _ _ J.e,J.s.trans s2.sb⟩
  push_cast[↓zcf]
  refine⟨by decide,λe0 EQ=> ?_⟩
  have s3:=AV (o:=.lst []) EQ
  refine PU (s3 _ _ GZ) AM ?_
  have IU:=s3 _ _ GZ
  have J3:cD A vw lf l0 zs tl n r c H1 i tk vw' (upd H2 e0 (.lst [])):=⟨J2.w.same s3,J.cl,J.nm,J.rc,J.rm,J.z,J.p,J.f,J.l,s3 _ _ J2.e,J2.s.trans s3.sb⟩
  revert J3 IU
  generalize upd H2 e0 (.lst [])=H3
  intro IU J3
  have x3:IntsAt H3 A xl xs 3:=⟨J3.s _ _ (s1 _ _ X.e) λz=>z.elim X.n nxl,X.l,X.b,X.n⟩
  push_cast[]
  by_cases hf:freeP vw'=[]
  ·refine B7 (λz=>z hf) ?_
   exact⟨tk,vw',J3.w,J.cl,J.nm,J.rc,J.rm,J.z,J.p,J.f,by have:=J.l;omega,J3.e,J3.s⟩
  ·refine CJ hf ?_
   push_cast[↓zcb]
   refine x3.at (k:=i) (by omega) λy _ _=>⟨(freeP vw').length,.inl ⟨_,SqL.of IU,by rw[CO]⟩,?_⟩
   have fl1:1<=(freeP vw').length:=by
    cases e:freeP vw' with
    | nil=>exact absurd e hf
    | cons _ _=>simp
   push_cast[]
   refine⟨by omega,HA IU hf λp hp=> ?_⟩
   obtain⟨EX,JI⟩:=FN hp
   rw[Bool.and_eq_true]at JI
   have KD:AD vw'.pc p=none:=Option.isNone_iff_eq_none.mp JI.1
   have hpm:AD vw'.pm p=none:=Option.isNone_iff_eq_none.mp JI.2
   have hpm':p<vw'.pm.length:=by rw[J.w.ok.l2];exact EX
   push_cast[↓zcc]
   refine x3.at (k:=i) (by omega) λy2 _ _=> ?_
   push_cast[]
   refine⟨⟨by decide,by decide⟩,_,rfl,λz H4 hz s4=> ?_⟩
   have I4:=J3.w.same s4
   refine I4.at2 (I4.set2 (cc:=some z) EX rfl (λc hc=>by cases hc;exact hz) λH5 I5 FR tk5=> ?_)
   push_cast[↓zcd]
   refine I5.at4 (I5.set4 (cc:=some 1) (by simp only[List.length_set];exact EX) rfl (λc hc=>trivial) λH6 I6 sb6 tk6=> ?_)
   have e6:H6 tl=some (.lst (AU tk)):=sb6 _ _ (FR _ _ (s4 _ _ J3.e) ntl) ntl
   push_cast[↓zce]
   have jl:=J.l
   refine⟨.inl ⟨rfl,_,SqL.of e6⟩,tl,_,_,rfl,rfl,e6,Nat.lt_of_lt_of_le (show(AU tk).length<1000 by rw[CO];omega) (by decide),?_⟩
   have s7:SameBut (· =tl) H6 (upd H6 tl (.lst (AU tk++[V.int ↑p]))):=λy o e ny=>by rw[AO ny];exact e
   have tk7:CZ H6 (upd H6 tl (.lst (AU tk++[V.int ↑p]))):=λy us e=>s7 _ _ e (DB e e6 (by intro z;cases z))
   have I7:LWAt (upd H6 tl (.lst (AU tk++[V.int ↑p]))) A { vw' with pc:=vw'.pc.set p (some z),pm:=vw'.pm.set p (some 1) } lf:=by
    have ne:∀ y∈A.L,y≠tl:=λy hy z=>ntl (z ▸ hy)
    refine⟨s7 _ _ I6.ob (BX I.ob htl),I6.n.keep (λv c=>NmV.keep tk7) (λo e=>s7 _ _ e (ne _ (by simp[LW.L]))),I6.r.keep (λv c=>RcV.keep tk7) (λo e=>s7 _ _ e (ne _ (by simp[LW.L]))),I6.p.keep (λv c=>PcV.keep tk7) (λo e=>s7 _ _ e (ne _ (by simp[LW.L]))),I6.rm.keep (λv c=>MkV.keep tk7) (λo e=>s7 _ _ e (ne _ (by simp[LW.L]))),I6.pm.keep (λv c=>MkV.keep tk7) (λo e=>s7 _ _ e (ne _ (by simp[LW.L]))),s7 _ _ I6.l (ne _ (by simp[LW.L])),I6.ok,I6.nd,I6.nv⟩
   refine⟨tk++[p],_,I7,?_,J.nm,J.rc,J.rm,?_,?_,?_,by simp;omega,?_,?_⟩
   ·rw[<-List.append_assoc]
    exact J.cl.text EX hpm' hpm
   ·exact⟨J.z.1,J.z.2.1,by simp only[List.length_set];exact J.z.2.2⟩
   ·intro x hx
    show(AD (vw'.pc.set p (some z)) x).isSome=true/\_
    rw[EJ EX]
    rcases List.mem_append.mp hx with h | h
    ·refine⟨?_,(J.p x h).2⟩
     split
     ·rfl
     ·exact(J.p x h).1
    ·rw[List.mem_singleton.mp h,if_pos rfl]
     exact⟨rfl,by rw[<-J.z.2.2];exact EX⟩
   ·intro x hx r2 c2 h2
    rcases List.mem_append.mp hx with h | h
    ·exact J.f x h r2 c2 h2
    ·rw[List.mem_singleton.mp h]
     intro hm
     have:=(J.cl.em r2 c2 h2 p hm).2
     rw[hpm]at this;cases this
   ·rw[AM]
    unfold AU
    rw[List.map_append]
    rfl
   ·exact(((J3.s.trans s4.sb).trans (FR.wide λx h=>.inl h)).trans (sb6.wide λx h=>.inl h)).trans (s7.wide λx h=>.inr h)
 ·subst eσ
  push_cast[↓zch]
  refine⟨AU tk,.inl ⟨SqL.of J.e,λt ht=> ?_⟩⟩
  have s9:=AV (o:=.tup (AU tk)) ht
  refine q t tk vw' _ (J.w.same s9) J.cl J.nm J.rc J.rm J.z J.p J.f (by have:=J.l;omega) AM λy o e ny=>s9 _ _ (J.s _ _ (s1 _ _ e) λz=>z.elim ny λz=> ?_)
  rw[z,htl]at e;cases e
theorem LWAt.setl{A:LW}{vw:Vw}{lf lf':List Nat}(I:LWAt H A vw lf):LWAt (upd H A.a5 (.lst (AU lf'))) A vw lf'/\SameBut (· ∈A.L) H (upd H A.a5 (.lst (AU lf'))):=by
 have d:=I.diff
 have e:=I.l
 have tk:CZ H (upd H A.a5 (.lst (AU lf'))):=λy xs e2=>by rw[AO (DB e2 e (by intro z;cases z))];exact e2
 refine⟨⟨by rw[AO d.v5];exact I.ob,I.n.keep (λv c=>NmV.keep tk) (λo e=>by rw[AO d.d05];exact e),I.r.keep (λv c=>RcV.keep tk) (λo e=>by rw[AO d.d15];exact e),I.p.keep (λv c=>PcV.keep tk) (λo e=>by rw[AO d.d25];exact e),I.rm.keep (λv c=>MkV.keep tk) (λo e=>by rw[AO d.d35];exact e),I.pm.keep (λv c=>MkV.keep tk) (λo e=>by rw[AO d.d45];exact e),AM,I.ok,I.nd,I.nv⟩,λy o e ny=> ?_⟩
 rw[AO λz=>ny (by rw[z];simp[LW.L])];exact e
theorem zjd{lf tk:List Nat}(h:(lf++tk).Nodup):((lf++tk).filter λp=>decide (p∉tk))=lf:=by
 obtain⟨_,_,h3⟩:=List.nodup_append.mp h
 rw[List.filter_append]
 have e1:(lf.filter λp=>decide (p∉tk))=lf:=List.filter_eq_self.mpr λp hp=>by
  simp only[decide_eq_true_eq]
  exact λhm=>h3 p hp p hm rfl
 have e2:(tk.filter λp=>decide (p∉tk))=[]:=List.filter_eq_nil_iff.mpr λp hp=>by simp[hp]
 rw[e1,e2,List.append_nil]
theorem zje(h:RM K a vs H Q E):bC K a (λ_=>E) (A0 Q) (A4 ["view","names","xs","with_name","records","r","pieces"] vs) H:=by
 obtain⟨A,vw,lf,zs,nl,xl,xs,wn,n,r0,c0,rfl,I,C,N,X,sz,HY,hc36,q⟩:=h
 push_cast[bC,↓zej]
 refine⟨A,vw,lf,rfl,I,λfl H1 hfl s1 GZ=> ?_⟩
 have I1:=I.same s1
 have out:∀ {H':Hp},Same H H'->Q .non H':=λs=>q vw lf _ (I.same s) C sz s.sb
 have main:∀ {H2:Hp},Same H H2->H2 fl=some (.lst (AU (freeR vw)))->freeR vw≠[]->(wn=true->FJ vw≠[])->AF (aW K a (λ_=>E) (λ_=>E)) (AF (aX K a (λ_=>E) (λ_=>E)) (bB K a (λ_=>E) (λ_=>E))) (A0 Q) [some (.ref A.v),some (.ref nl),some (.ref xl),some (.bl wn),some (.ref fl),none,none] H2:=λ{H2} s2 NQ G2 hfn=>by
  have I2:=I.same s2
  have X2:=X.sb s2.sb
  have N2:=N.sb s2.sb
  have fl1:1<=(freeR vw).length:=by
   cases e:freeR vw with
   | nil=>exact absurd e G2
   | cons _ _=>simp
  push_cast[↓zel]
  refine X2.at (k:=0) (by omega) λy _ _=>⟨(freeR vw).length,.inl ⟨_,SqL.of NQ,by rw[CO]⟩,?_⟩
  push_cast[]
  refine⟨by omega,HA NQ G2 λr hr=> ?_⟩
  obtain⟨FS,G0⟩:=FN hr
  rw[Bool.and_eq_true]at G0
  have hrc:AD vw.rc r=none:=Option.isNone_iff_eq_none.mp G0.1
  have hl0:=C.led0 hrc
  push_cast[↓zem]
  refine YQ (SqL.of X2.e) λx2 hx2=> ?_
  have ecut:GI (xs.map V.int) (some 4) (some 7)=((xs.drop 4).take 3).map V.int:=by
   unfold GI
   rw[List.length_map,X.l,<-List.map_drop,<-List.map_take]
   rfl
  rw[ecut]
  have s3:=AV (o:=.lst (((xs.drop 4).take 3).map V.int)) hx2
  have e3:upd H2 x2 (.lst (((xs.drop 4).take 3).map V.int)) x2=some (.lst (((xs.drop 4).take 3).map V.int)):=AM
  have nx2:x2∉A.L:=λhm=>by
   simp[LW.L]at hm
   obtain⟨_,k0,_⟩:=I2.n
   obtain⟨_,k1,_⟩:=I2.r
   obtain⟨_,k2,_⟩:=I2.p
   obtain⟨_,k3,_⟩:=I2.rm
   obtain⟨_,k4,_⟩:=I2.pm
   have k5:=I2.l
   rcases hm with rfl | rfl | rfl | rfl | rfl | rfl
   ·rw[hx2]at k0;cases k0
   ·rw[hx2]at k1;cases k1
   ·rw[hx2]at k2;cases k2
   ·rw[hx2]at k3;cases k3
   ·rw[hx2]at k4;cases k4
   ·rw[hx2]at k5;cases k5
  revert s3 e3
  generalize upd H2 x2 (.lst (((xs.drop 4).take 3).map V.int))=H3
  intro s3 e3
  refine(X2.sb s3.sb).at (k:=1) (by omega) λy2 _ _=> ?_
  push_cast[]
  obtain⟨mn,emn,hmn⟩:=JZ y2 (n:=4) (by omega)
  rw[show((4:Nat):Int)=4 from rfl]at emn
  rw[emn]
  refine⟨A,vw,lf,lf,zs,x2,(xs.drop 4).take 3,mn,n,r0,c0,rfl,I2.same s3,C,⟨e3,by rw[List.length_take,List.length_drop,X.l];rfl,λx hx=>X.b x (List.mem_of_mem_drop (List.mem_of_mem_take hx)),nx2⟩,by omega,sz,λt tk vw' H4 I4 C4 hnm hrc4 hrm4 sz4 hp4 hf4 ht3 et sb4=> ?_⟩
  have X4:=(X2.sb s3.sb).sb sb4
  have N4:=(N2.sb s3.sb).sb sb4
  have CT:SameBut (· ∈A.L) H H4:=((s2.trans s3).sb).trans sb4
  have hrc':AD vw'.rc r=none:=by rw[hrc4];exact hrc
  have hr1':r<vw'.rc.length:=by rw[hrc4];exact FS
  have nd4:=C4.nd
  have tkn:tk.Nodup:=(List.nodup_append.mp nd4).2.1
  have tko:∀ p∈tk,((AD vw'.pc p).isSome=true/\AD vw'.pm p=some 1)/\∀ r' c',AD vw'.rc r'=some c'->p∉c'.2:=λp hp=>⟨⟨(hp4 p hp).1,((C4.lm p).mp (List.mem_append.mpr (.inr hp))).1⟩,hf4 p hp⟩
  have rok:∀ {cnt:Int} (c:Int × List Nat),some (cnt,tk)=some c->(∀ p∈c.2,p<vw'.pc.length)/\c.2.length<=10:=λc hc=>by
   cases hc
   exact⟨λp hp=>by rw[sz4.2.2];exact(hp4 p hp).2,by show tk.length<=10;omega⟩
  push_cast[↓zet]
  cases wn with
  | true =>
   refine CJ rfl ?_
   push_cast[↓zen]
   refine⟨⟨by decide,by decide,by decide⟩,by decide,λlp hlp=> ?_⟩
   obtain⟨H5,zz0,s5,e5⟩:=DA (o:=.lst [V.int 0,V.int 0,V.int 1,V.int 2,V.int (10 ^ 30 - 40)]) hlp
   rw[zz0]
   refine(X4.sb s5.sb).at (k:=2) (by omega) λy3 _ _=> ?_
   push_cast[]
   obtain⟨b,eb,hb⟩:=JZ y3 (n:=5) (by omega)
   rw[show((5:Nat):Int)=5 from rfl]at eb
   rw[eb]
   have fin:∀ e:Int,0<=e->(BT K (V.int 1) (V.int e) H5 λx H1=>2<=sizeLine/\∀ (p:Addr),H1 p=none->AY K (V.ref A.v) (V.int 1) (upd H1 p (HO.tup [x,V.ref t])) λo H1=>DD o (V.int ↑r) (V.ref p) H1 λH3=>AF (aY K a (λx=>E) λx=>E) (aZ K a (λx=>E) λx=>E) (A0 Q) [some (V.ref A.v),some (V.ref nl),some (V.ref xl),some (V.bl true),some (V.ref fl),some (V.int ↑r),some (V.ref t)] H3):=λe he=>by
    push_cast[]
    refine⟨by decide,λp hp=> ?_⟩
    obtain⟨H6,zz0,s6,e6⟩:=DA (o:=.tup [V.int (1+e),V.ref t]) hp
    rw[zz0]
    have NP:=s5.trans s6
    have I6:=I4.same NP
    refine I6.at1 (I6.set1 (cc:=some (1+e,tk)) hr1' ⟨p,t,rfl,e6,NP _ _ et⟩ rok λH7 I7 sb7 tk7=> ?_)
    have C7:=C4.recd (cnt:=1+e) hr1' hrc' tkn ht3 tko (by omega)
    push_cast[↓zeo]
    have hrm':r<vw'.rm.length:=by rw[I4.ok.l1];exact hr1'
    refine I7.at3 (I7.set3 (cc:=some 1) (by simp only[List.length_set];exact hr1') rfl (λc hc=>trivial) λH8 I8 sb8 tk8=> ?_)
    have C8:=C7.mark (r:=r) (x:=some 1) hrm' (.inr rfl)
    have sb48:SameBut (· ∈A.L) H4 H8:=(NP.sb.trans sb7).trans sb8
    push_cast[↓zep]
    refine(X4.sb sb48).at (k:=3) (by omega) λy4 _ _=> ?_
    have erc:AD (vw'.rc.set r (some (1+e,tk))) r=some (1+e,tk):=by rw[EJ hr1',if_pos rfl]
    have erm:AD (vw'.rm.set r (some 1)) r=some 1:=by rw[EJ hrm',if_pos rfl]
    have hled:led vw' r=0:=C4.led0 hrc'
    refine⟨A,_,lf,lf++tk,zs,nl,r,(1+e,tk),y4,n,r0,c0,rfl,I8,C8,N4.sb sb48,⟨sz4.1,by simp only[List.length_set];exact sz4.2.1,sz4.2.2⟩,HY,?_,erc,?_,erm,λvw9 H9 I9 C9 sz9 KC=> ?_⟩
    ·have:FJ vw≠[]:=hfn rfl
     unfold FJ at this ⊢
     show(List.filter (λk=>(AD vw'.nm k).isNone) (List.range vw'.nm.length))≠[]
     rw[hnm];exact this
    ·show((led vw' r:Nat):Int)+1<=1+e
     rw[hled];omega
    ·rw[zjd nd4]at C9
     exact q vw9 lf H9 I9 C9 sz9 ((CT.trans sb48).trans KC)
   rcases(by omega:b=0\/b=1\/b=2\/b=3\/b=4)with h | h | h | h | h<;>subst h
   ·exact B0 (SqL.of e5) (n:=0) rfl rfl (fin 0 (by omega))
   ·exact B0 (SqL.of e5) (n:=1) rfl rfl (fin 0 (by omega))
   ·exact B0 (SqL.of e5) (n:=2) rfl rfl (fin 1 (by omega))
   ·exact B0 (SqL.of e5) (n:=3) rfl rfl (fin 2 (by omega))
   ·exact B0 (SqL.of e5) (n:=4) rfl rfl (fin (10 ^ 30 - 40) (by decide))
  | false =>
   refine B7 Bool.false_ne_true ?_
   push_cast[↓zeq]
   refine X4.at (k:=2) (by omega) λy3 _ _=> ?_
   push_cast[]
   have hd3:0<=y3 % 3:=by omega
   generalize y3 % 3=e at hd3 ⊢
   refine⟨by decide,λp hp=> ?_⟩
   obtain⟨H6,zz0,s6,e6⟩:=DA (o:=.tup [V.int (1+e),V.ref t]) hp
   rw[zz0]
   have I6:=I4.same s6
   refine I6.at1 (I6.set1 (cc:=some (1+e,tk)) hr1' ⟨p,t,rfl,e6,s6 _ _ et⟩ rok λH7 I7 sb7 tk7=> ?_)
   have C7:=C4.recd (cnt:=1+e) hr1' hrc' tkn ht3 tko (by omega)
   have hrm':r<vw'.rm.length:=by rw[I4.ok.l1];exact hr1'
   have sb47:SameBut (· ∈A.L) H4 H7:=s6.sb.trans sb7
   have et7:=tk7 _ _ (s6 _ _ et)
   push_cast[↓zer]
   refine⟨by decide,λlp hlp=> ?_⟩
   obtain⟨H8,zz0,s8,e8⟩:=DA (o:=.lst [V.int 1,V.int 1,V.int 0,V.non]) hlp
   rw[zz0]
   have I8:=I7.same s8
   have et8:=s8 _ _ et7
   have sb48:=sb47.trans s8.sb
   refine(X4.sb sb48).at (k:=2) (by omega) λy4 _ _=> ?_
   push_cast[]
   obtain⟨b,eb,hb⟩:=JZ (y4 / 3) (n:=4) (by omega)
   rw[show((4:Nat):Int)=4 from rfl]at eb
   rw[eb]
   have hled:led vw' r=0:=C4.led0 hrc'
   have fin:∀ {v:V} {x:Option Int},MkV H8 v x->(AY K (V.ref A.v) (V.int 3) H8 λo H1=>DD o (V.int ↑r) v H1 λH3=>bA K a (λx=>E) (λx=>E) (A0 Q) [some (V.ref A.v),some (V.ref nl),some (V.ref xl),some (V.bl false),some (V.ref fl),some (V.int ↑r),some (V.ref t)] H3):=λ{v x} hv=>by
    refine I8.at3 (I8.set3 (cc:=x) (by simp only[List.length_set];exact hr1') hv (λc hc=>trivial) λH9 I9 KC tk9=> ?_)
    have C9:=C7.mark (r:=r) (x:=x) hrm' (.inl hled)
    push_cast[↓zes]
    refine I9.at5 ⟨.inl ⟨rfl,_,SqL.of I9.l⟩,?_⟩
    refine⟨_,.inr (SqT.of (tk9 _ _ et8)),λll hll=> ?_⟩
    obtain⟨H10,zz0,s10,e10⟩:=DA (o:=.lst (AU tk)) hll
    rw[zz0]
    have I10:=I9.same s10
    have lfl:=C.short
    have l2:=I.ok.l2
    have szc:=sz.2.2
    refine⟨A.a5,ll,_,_,rfl,rfl,I10.l,e10,small _ (by rw[CO,CO];omega),?_⟩
    obtain⟨I11,sb11⟩:=I10.setl (lf':=lf++tk)
    have en:AU lf++AU tk=AU (lf++tk):=by unfold AU;rw[List.map_append]
    rw[en]
    exact q _ (lf++tk) _ I11 C9 ⟨sz4.1,by simp only[List.length_set];exact sz4.2.1,sz4.2.2⟩ ((((CT.trans sb48).trans KC).trans s10.sb).trans sb11)
   refine⟨⟨by decide,by decide⟩,?_⟩
   rcases(by omega:b=0\/b=1\/b=2\/b=3)with h | h | h | h<;>subst h
   ·exact B0 (SqL.of e8) (n:=0) rfl rfl (fin (x:=some 1) rfl)
   ·exact B0 (SqL.of e8) (n:=1) rfl rfl (fin (x:=some 1) rfl)
   ·exact B0 (SqL.of e8) (n:=2) rfl rfl (fin (x:=some 0) rfl)
   ·exact B0 (SqL.of e8) (n:=3) rfl rfl (fin (x:=none) rfl)
 push_cast[↓zek]
 refine⟨by decide,λe0 EQ=> ?_⟩
 have s2:=AV (o:=.lst []) EQ
 refine MD (s2 _ _ GZ) AM ⟨_,rfl,?_⟩
 have B8:=s1.trans s2
 have NQ:=s2 _ _ GZ
 revert B8 NQ
 generalize upd H1 e0 (.lst [])=H2
 intro B8 NQ
 by_cases hf:freeR vw=[]
 ·refine CJ (by simpa using hf) ?_
  push_cast[↓uN]
  exact out B8
 ·refine B7 (by simpa using hf) ?_
  cases wn with
  | false =>
   refine B7 Bool.false_ne_true ?_
   exact main B8 NQ hf (λh=>by cases h)
  | true =>
   refine CJ rfl ⟨A,vw,lf,rfl,I.same B8,λfn H3 hfn s3 efn=>⟨by decide,λe1 he1=> ?_⟩⟩
   have s4:=AV (o:=.lst []) he1
   refine MD (s4 _ _ efn) AM ⟨_,rfl,?_⟩
   have CT:=(B8.trans s3).trans s4
   have HC:=(s3.trans s4) _ _ NQ
   revert CT HC
   generalize upd H3 e1 (.lst [])=H4
   intro CT HC
   by_cases hg:FJ vw=[]
   ·refine CJ (by simpa using hg) ?_
    push_cast[↓uN]
    exact out CT
   ·refine B7 (by simpa using hg) ?_
    exact main CT HC hf λ_=>hg
theorem zjf{lf tk:List Nat}(h:∀ p∈lf,p∉tk):(lf.filter λp=>decide (p∉tk))=lf:=List.filter_eq_self.mpr λp hp=>by simpa using h p hp
theorem zjg(h:UP K a vs H Q E):aM K a (λ_=>E) (A0 Q) (A4 ["view","names","xs","led","records","r"] vs) H:=by
 obtain⟨A,vw,lf,zs,nl,xl,xs,n,r0,c0,rfl,I,C,N,X,sz,HY,q⟩:=h
 have br:=I.ok.br
 push_cast[aM,↓zci]
 refine⟨A,vw,lf,rfl,I,λll H1 hll s1 ell=> ?_⟩
 have ell:H1 ll=some (.lst (AU ((List.range vw.rc.length).map (led vw)))):=ell
 push_cast[↓zcj]
 refine⟨vw.rc.length,.inl ⟨_,SqL.of ell,by rw[CO,JX]⟩,by omega,by omega,KU (λr=>decide (0<led vw r)) (small _ (by omega)) (λk hk QB qb=> ?_) λrl EW=> ?_⟩
 ·push_cast[B3]
  refine M6 ell hk ?_
  push_cast[]
  rw[VG]
  exact qb
 have s2:=AV (o:=.lst (((List.range vw.rc.length).filter λr=>decide (0<led vw r)).map λ(i:Nat)=>V.int i)) EW
 have er:upd H1 rl (.lst (((List.range vw.rc.length).filter λr=>decide (0<led vw r)).map λ(i:Nat)=>V.int i)) rl=some (.lst (AU ((List.range vw.rc.length).filter λr=>decide (0<led vw r)))):=AM
 revert s2 er
 generalize upd H1 rl (.lst (((List.range vw.rc.length).filter λr=>decide (0<led vw r)).map λ(i:Nat)=>V.int i))=H2
 intro s2 er
 have B8:=s1.trans s2
 have out:∀ {H':Hp},Same H H'->Q .non H':=λs=>q vw lf _ (I.same s) C sz s.sb
 push_cast[↓zcn]
 refine⟨by decide,λe0 EQ=> ?_⟩
 have s3:=AV (o:=.lst []) EQ
 refine PU (s3 _ _ er) AM ⟨_,rfl,?_⟩
 have BH:=B8.trans s3
 have ED:=s3 _ _ er
 revert BH ED
 generalize upd H2 e0 (.lst [])=H3
 intro BH ED
 generalize hRL:((List.range vw.rc.length).filter λr=>decide (0<led vw r))=RL at ED
 by_cases hf:RL=[]
 ·refine B7 (by simp[hf]) ?_
  exact out BH
 ·refine CJ (by simp[hf]) ⟨A,vw,lf,rfl,I.same BH,λfn H4 hfn s4 efn=>⟨by decide,λe1 he1=> ?_⟩⟩
  have s5:=AV (o:=.lst []) he1
  refine PU (s5 _ _ efn) AM ⟨_,rfl,?_⟩
  have HW:=(BH.trans s4).trans s5
  have er5:=(s4.trans s5) _ _ ED
  revert HW er5
  generalize upd H4 e1 (.lst [])=H5
  intro HW er5
  by_cases hg:FJ vw=[]
  ·refine B7 (by simp[hg]) ?_
   exact out HW
  ·refine CJ (by simp[hg]) ?_
   have I5:=I.same HW
   have X5:=X.sb HW.sb
   have fl1:1<=RL.length:=by
    cases e:RL with
    | nil=>exact absurd e hf
    | cons _ _=>simp
   push_cast[↓zck]
   refine X5.at (k:=0) (by omega) λy _ _=>⟨RL.length,.inl ⟨_,SqL.of er5,by rw[CO]⟩,?_⟩
   push_cast[]
   refine⟨by omega,HA er5 hf λr hr=> ?_⟩
   rw[<-hRL]at hr
   obtain⟨FS,G0⟩:=FN hr
   have hl:0<led vw r:=by simpa using G0
   obtain⟨k,d,hk,hd⟩:=R4 hl
   have hrs:=C.ls k d hk
   rw[hd]at hrs
   obtain⟨c,hc⟩:=Option.isSome_iff_exists.mp hrs
   have hcm:=J5 hc
   push_cast[↓zcl]
   refine I5.ix1 FS λv hv=> ?_
   rw[hc]at hv
   obtain⟨p,t,rfl,hp,ht⟩:=hv
   refine BY hp (n:=0) rfl rfl ?_
   push_cast[]
   refine I5.ix1 FS λv2 G1=> ?_
   rw[hc]at G1
   obtain⟨p2,t2,rfl,JI,ht2⟩:=G1
   refine BY JI (n:=1) rfl rfl ⟨by decide,λnp hnp=> ?_⟩
   obtain⟨H6,zz0,s6,e6⟩:=DA (o:=.tup [V.int (c.1+1),V.ref t2]) hnp
   rw[zz0]
   have I6:=I5.same s6
   refine I6.at1 (I6.set1 (cc:=some (c.1+1,c.2)) FS ⟨np,t2,rfl,e6,s6 _ _ ht2⟩ (λc' h=>by cases h;exact I.ok.n2 c hcm) λH7 I7 sb7 tk7=> ?_)
   have fw:=C.fw r c hc
   have C7:=C.cnt (cnt:=c.1+1) hc (by omega)
   have sb07:SameBut (· ∈A.L) H H7:=(HW.trans s6).sb.trans sb7
   have erc:AD (vw.rc.set r (some (c.1+1,c.2))) r=some (c.1+1,c.2):=by rw[EJ FS,if_pos rfl]
   push_cast[↓zcm]
   refine(X.sb sb07).at (k:=1) (by omega) λy4 _ _=> ?_
   refine⟨A,_,lf,lf,zs,nl,r,(c.1+1,c.2),y4,n,r0,c0,rfl,I7,C7,N.sb sb07,⟨sz.1,by simp only[List.length_set];exact sz.2.1,sz.2.2⟩,HY,hg,erc,?_,C.fr r hl,λvw9 H9 I9 C9 sz9 KC=> ?_⟩
   ·show((led vw r:Nat):Int)+1<=c.1+1
    omega
   ·rw[zjf λp hp=>((C.lm p).mp hp).2 r c hl hc]at C9
    exact q vw9 lf H9 I9 C9 sz9 (sb07.trans KC)
theorem zjh(h:UQ K a vs H Q E):aO K a (λ_=>E) (A0 Q) (A4 ["view","kind","xs","records","pieces","p"] vs) H:=by
 obtain⟨A,vw,lf,zs,k,xl,xs,n,r0,c0,rfl,I,C,X,sz,hc36,q⟩:=h
 have br:=I.ok.br
 have l2:=I.ok.l2
 push_cast[aO,↓zco,↓zcp]
 refine⟨A,vw,lf,rfl,I,λfr H1 G2 s1 efr=>⟨A,vw,lf,rfl,I.same s1,λfp H2 hfp s2 efp=> ?_⟩⟩
 have B8:=s1.trans s2
 have efr2:=s2 _ _ efr
 have t12:∀ {H':Hp} {y5:Option V},k≠7->Q .non H'->RV K a (λ_=>E) (λ_=>E) (A0 Q) [some (.ref A.v),some (.int k),some (.ref xl),some (.ref fr),some (.ref fp),y5] H':=λhk q'=>by
  push_cast[↓sA]
  refine B7 hk ?_
  exact q'
 have t8:∀ {H':Hp} {y5:Option V},k≠5->RV K a (λ_=>E) (λ_=>E) (A0 Q) [some (.ref A.v),some (.int k),some (.ref xl),some (.ref fr),some (.ref fp),y5] H'->AF (aN K a (λ_=>E) (λ_=>E)) (RV K a (λ_=>E) (λ_=>E)) (A0 Q) [some (.ref A.v),some (.int k),some (.ref xl),some (.ref fr),some (.ref fp),y5] H':=λhk q'=>by
  push_cast[↓rX]
  refine B7 hk ?_
  exact q'
 push_cast[↓zcr]
 by_cases h6:k=6
 ·refine CJ h6 ⟨by decide,λe0 EQ=> ?_⟩
  have s3:=AV (o:=.lst []) EQ
  refine PU (s3 _ _ efr2) AM ⟨_,rfl,?_⟩
  have BH:=B8.trans s3
  have efr3:=s3 _ _ efr2
  revert BH efr3
  generalize upd H2 e0 (.lst [])=H3
  intro BH efr3
  have I3:=I.same BH
  by_cases hf:freeR vw=[]
  ·refine B7 (by simp[hf]) ?_
   exact t8 (by omega) (t12 (by omega) (q vw lf _ I3 C sz BH.sb))
  ·refine CJ (by simp[hf]) ?_
   have fl1:1<=(freeR vw).length:=by
    cases e:freeR vw with
    | nil=>exact absurd e hf
    | cons _ _=>simp
   push_cast[↓zcq]
   refine I3.at3 ((X.sb BH.sb).at (k:=0) (by omega) λy _ _=>⟨(freeR vw).length,.inl ⟨_,SqL.of efr3,by rw[CO]⟩,?_⟩)
   push_cast[]
   refine⟨by omega,HA efr3 hf λr hr=> ?_⟩
   obtain⟨FS,G0⟩:=FN hr
   rw[Bool.and_eq_true]at G0
   refine I3.set3 (cc:=some 1) FS rfl (λc hc=>trivial) λH4 I4 sb4 tk4=> ?_
   exact t8 (by omega) (t12 (by omega) (q _ lf _ I4 (C.mark (x:=some 1) (by rw[I.ok.l1];exact FS) (.inr rfl)) sz (BH.sb.trans sb4)))
 refine B7 h6 ?_
 push_cast[↓rX]
 have dp:∀ {p:Nat},p∈freeP vw->p<vw.pc.length/\AD vw.pc p=none/\AD vw.pm p=none:=λhp=>by
  obtain⟨EX,JI⟩:=FN hp
  rw[Bool.and_eq_true]at JI
  exact⟨EX,Option.isNone_iff_eq_none.mp JI.1,Option.isNone_iff_eq_none.mp JI.2⟩
 by_cases h5:k=5
 ·refine CJ h5 ⟨by decide,λe0 EQ=> ?_⟩
  have s3:=AV (o:=.lst []) EQ
  refine PU (s3 _ _ efp) AM ⟨_,rfl,?_⟩
  have BH:=B8.trans s3
  have LA:=s3 _ _ efp
  revert BH LA
  generalize upd H2 e0 (.lst [])=H3
  intro BH LA
  have I3:=I.same BH
  by_cases hf:freeP vw=[]
  ·refine B7 (by simp[hf]) ?_
   exact t12 (by omega) (q vw lf _ I3 C sz BH.sb)
  ·refine CJ (by simp[hf]) ?_
   have fl1:1<=(freeP vw).length:=by
    cases e:freeP vw with
    | nil=>exact absurd e hf
    | cons _ _=>simp
   push_cast[↓zcs]
   refine(X.sb BH.sb).at (k:=0) (by omega) λy _ _=>⟨(freeP vw).length,.inl ⟨_,SqL.of LA,by rw[CO]⟩,?_⟩
   push_cast[]
   refine⟨by omega,HA LA hf λp hp=> ?_⟩
   obtain⟨EX,KD,hpm⟩:=dp hp
   push_cast[↓zct]
   refine I3.at4 (I3.set4 (cc:=some 1) EX rfl (λc hc=>trivial) λH4 I4 sb4 tk4=> ?_)
   push_cast[↓zcu]
   have lfl:=C.short
   have szc:=sz.2.2
   refine I4.at5 ⟨.inl ⟨rfl,_,SqL.of I4.l⟩,A.a5,_,_,rfl,rfl,I4.l,Nat.lt_of_lt_of_le (show(AU lf).length<1000 by rw[CO];omega) (by decide),?_⟩
   obtain⟨I5,FR⟩:=I4.setl (lf':=lf++[p])
   have en:AU lf++[V.int ↑p]=AU (lf++[p]):=by unfold AU;rw[List.map_append];rfl
   rw[en]
   exact t12 (by omega) (q _ (lf++[p]) _ I5 (C.pmk (by omega) hpm) sz ((BH.sb.trans sb4).trans FR))
 refine B7 h5 ?_
 push_cast[↓sA]
 by_cases h7:k=7
 ·refine CJ h7 ⟨by decide,λe0 EQ=> ?_⟩
  have s3:=AV (o:=.lst []) EQ
  refine PU (s3 _ _ efp) AM ⟨_,rfl,?_⟩
  have BH:=B8.trans s3
  have LA:=s3 _ _ efp
  revert BH LA
  generalize upd H2 e0 (.lst [])=H3
  intro BH LA
  have I3:=I.same BH
  by_cases hf:freeP vw=[]
  ·refine B7 (by simp[hf]) ?_
   exact q vw lf _ I3 C sz BH.sb
  ·refine CJ (by simp[hf]) ?_
   have fl1:1<=(freeP vw).length:=by
    cases e:freeP vw with
    | nil=>exact absurd e hf
    | cons _ _=>simp
   push_cast[↓zcv]
   refine(X.sb BH.sb).at (k:=0) (by omega) λy _ _=>⟨(freeP vw).length,.inl ⟨_,SqL.of LA,by rw[CO]⟩,?_⟩
   push_cast[]
   refine⟨by omega,HA LA hf λp hp=> ?_⟩
   obtain⟨EX,KD,hpm⟩:=dp hp
   push_cast[↓zcw]
   refine(X.sb BH.sb).at (k:=1) (by omega) λy2 _ _=>⟨_,rfl,λz H4 hz s4=> ?_⟩
   have I4:=I3.same s4
   refine I4.at2 (I4.set2 (cc:=some z) EX rfl (λc hc=>by cases hc;exact hz) λH5 I5 FR tk5=> ?_)
   have sb05:SameBut (· ∈A.L) H H5:=(BH.trans s4).sb.trans FR
   push_cast[↓zcx]
   refine⟨by decide,λlp hlp=> ?_⟩
   obtain⟨H6,zz0,s6,e6⟩:=DA (o:=.lst [V.int 0,V.non]) hlp
   rw[zz0]
   have I6:=I5.same s6
   have sb06:=sb05.trans s6.sb
   refine(X.sb sb06).at (k:=2) (by omega) λy3 _ _=> ?_
   push_cast[]
   obtain⟨b,eb,hb⟩:=JZ y3 (n:=2) (by omega)
   rw[show((2:Nat):Int)=2 from rfl]at eb
   rw[eb]
   have fin:∀ {v:V} {x:Option Int},MkV H6 v x->x≠some 1->(AY K (V.ref A.v) (V.int 4) H6 λo H1=>DD o (V.int ↑p) v H1 λH3=>Q V.non H3):=λ{v x} hv hx=>by
    refine I6.at4 (I6.set4 (cc:=x) (by simp only[List.length_set];exact EX) hv (λc hc=>trivial) λH7 I7 sb7 tk7=> ?_)
    exact q _ lf _ I7 (C.alone (z:=some z) (x:=x) EX (by omega) hpm hx) ⟨sz.1,sz.2.1,by simp only[List.length_set];exact sz.2.2⟩ (sb06.trans sb7)
   rcases(by omega:b=0\/b=1)with h | h<;>subst h
   ·exact B0 (SqL.of e6) (n:=0) rfl rfl (fin (x:=some 0) rfl (by decide))
   ·exact B0 (SqL.of e6) (n:=1) rfl rfl (fin (x:=none) rfl (by decide))
 ·refine B7 h7 ?_
  exact q vw lf _ (I.same B8) C sz B8.sb
theorem zji{F:Addr->Nat->Prop}{as:List Addr}{x0 x1 x2 x3 x4:Nat}(h:Paired F as [x0,x1,x2,x3,x4]):∃ a0 a1 a2 a3 a4,as=[a0,a1,a2,a3,a4]/\F a0 x0/\F a1 x1/\F a2 x2/\F a3 x3/\F a4 x4:=by
 cases h with | cons h0 h=>cases h with | cons h1 h=>cases h with | cons h2 h=>cases h with | cons h3 h=>cases h with | cons h4 h =>
  cases h
  exact⟨_,_,_,_,_,rfl,h0,h1,h2,h3,h4⟩
theorem zjj(h:UR K a vs H Q E):bG K a (λ_=>E) (A0 Q) (A4 ["cells","sizes","names","many","view","cell","xs"] vs) H:=by
 obtain⟨sc,z,nl,ns,zs,n,r,c,w,rfl,hs,hns,hz,n1,n6,r1,r6,c1,c6,w1,w6,hnl,hzl,hzd,hzs,q⟩:=h
 have bw:∀ k:Nat,k<=6->k * w<=36:=λk hk=>Nat.mul_le_mul hk w6
 have bn:=bw n n6
 have br:=bw r r6
 have bc:=bw c c6
 have cn:∀ k:Nat,((k:Int) * w)=((k * w:Nat):Int):=λk=>by simp
 push_cast[bG,↓ze4]
 refine .inr ⟨z,_,rfl,SqT.of hz,by simp[HT.sIx],λt ht=>⟨t,rfl,.inr ⟨⟨_,SqT.of AM⟩,?_⟩⟩⟩
 have e1:upd H t (.tup (GI [.int n,.int r,.int c,.int w] none (some 3))) t=some (.tup [.int n,.int r,.int c]):=by rw[AM];rfl
 have s1:=AV (o:=.tup (GI [.int n,.int r,.int c,.int w] none (some 3))) ht
 revert e1 s1
 generalize upd H t (.tup (GI [.int n,.int r,.int c,.int w] none (some 3)))=H1
 intro e1 s1
 refine cC (xs:=[.int n,.int r,.int c]) (small _ (by simp)) (λi ys H'=>H'=H1/\ys=([n * w,r * w,c * w].take i).map λ(k:Nat)=>V.int k) ⟨rfl,rfl⟩ (λi ys H' _ ⟨e,_⟩=>e ▸ SqT.of e1) (λi x ys H' hx _ ⟨e,e'⟩=> ?_) (λys H' _ ⟨e,e'⟩ l hl=> ?_)
 ·subst e
  push_cast[B3]
  obtain⟨k,rfl,hk6,ek⟩:∃ k:Nat,x=.int k/\k<=6/\[n * w,r * w,c * w][i]? =some (k * w):=by
   match i with
   | 0=>cases hx;exact⟨n,rfl,n6,rfl⟩
   | 1=>cases hx;exact⟨r,rfl,r6,rfl⟩
   | 2=>cases hx;exact⟨c,rfl,c6,rfl⟩
   | i+3=>simp at hx
  refine BY (s1 _ _ hz) (n:=3) rfl rfl ?_
  push_cast[]
  refine⟨.inl ⟨by omega,by omega⟩,?_⟩
  rw[cn k,e',FM ek,List.map_append]
  rfl
 subst e
 have e':ys=[.int ((n * w:Nat):Int),.int ((r * w:Nat):Int),.int ((c * w:Nat):Int)]:=e'
 subst e'
 obtain⟨H2,zz0,s2,e2⟩:=DA (o:=.lst [V.int ↑(n * w),V.int ↑(r * w),V.int ↑(c * w)]) hl
 rw[zz0]
 have B8:=s1.trans s2
 push_cast[↓ze5]
 refine⟨by decide,λkl GE=>.inl ⟨⟨_,SqL.of AM⟩,?_⟩⟩
 obtain⟨H3,zz0,s3,e3⟩:=DA (o:=.lst [V.int 0,V.int 1,V.int 2,V.int 1,V.int 2]) GE
 rw[zz0]
 have BH:=B8.trans s3
 refine XS (xs:=[V.int 0,V.int 1,V.int 2,V.int 1,V.int 2]) (small _ (by simp)) (λi ys H'=>Same H3 H'/\∃ as:List Addr,ys=as.map V.ref/\as.Nodup/\Paired (λa m=>H' a=some (.lst (List.replicate m V.non))/\H3 a=none) as ([n * w,r * w,c * w,r * w,c * w].take i)) ⟨Same.refl _,[],rfl,List.nodup_nil,.nil⟩ (λi ys H' _ ⟨s,_⟩=>SqL.of (s _ _ e3)) (λi x ys H4 hx _ hzz=> ?_) (λys H4 _ ⟨s,as,e,nd,P⟩ vl hvl=> ?_)
 ·obtain⟨s,as,e,nd,P⟩:=hzz
  obtain⟨j,m,rfl,ej,em,hm⟩:∃ (j m:Nat),x=.int j/\[V.int ↑(n * w),V.int ↑(r * w),V.int ↑(c * w)][j]? =some (.int m)/\[n * w,r * w,c * w,r * w,c * w][i]? =some m/\m<=36:=by
   match i with
   | 0=>cases hx;exact⟨0,_,rfl,rfl,rfl,bn⟩
   | 1=>cases hx;exact⟨1,_,rfl,rfl,rfl,br⟩
   | 2=>cases hx;exact⟨2,_,rfl,rfl,rfl,bc⟩
   | 3=>cases hx;exact⟨1,_,rfl,rfl,rfl,br⟩
   | 4=>cases hx;exact⟨2,_,rfl,rfl,rfl,bc⟩
   | i+5=>simp at hx
  push_cast[B3]
  refine⟨by decide,λp hp=> ?_⟩
  have s5:=AV (o:=.lst [V.non]) hp
  refine B0 (SqL.of (s5 _ _ (s _ _ (s3 _ _ e2)))) (n:=j) rfl ej (ziv AM (by omega) λa6 H6 h6 s6 e6=> ?_)
  have QL:=s5.trans s6
  refine⟨s.trans QL,as++[a6],by rw[e,List.map_append];rfl,?_,?_⟩
  ·rw[List.nodup_append]
   refine⟨nd,by simp,λx hx y hy=> ?_⟩
   rw[List.mem_singleton.mp hy]
   obtain⟨k,ek⟩:=JD hx
   obtain⟨r',_,hx'⟩:=GL P ek
   exact BX (s5 _ _ hx'.1) h6
  ·rw[FM em]
   exact Paired.snoc (Paired.mapP P λt r e=>⟨QL _ _ e.1,e.2⟩) ⟨e6,s.free (s5.free h6)⟩
 have P:Paired (λa m=>H4 a=some (.lst (List.replicate m V.non))/\H3 a=none) as [n * w,r * w,c * w,r * w,c * w]:=P
 obtain⟨a0,a1,a2,a3,a4,rfl,f0,f1,f2,f3,f4⟩:=zji P
 subst e
 have s5:=AV (o:=.lst [V.ref a0,V.ref a1,V.ref a2,V.ref a3,V.ref a4]) hvl
 have e5:upd H4 vl (.lst [V.ref a0,V.ref a1,V.ref a2,V.ref a3,V.ref a4]) vl=some (.lst [V.ref a0,V.ref a1,V.ref a2,V.ref a3,V.ref a4]):=AM
 show 0<=sizeLine/\_
 revert s5 e5
 simp only[List.map_cons,List.map_nil]
 generalize upd H4 vl (.lst [V.ref a0,V.ref a1,V.ref a2,V.ref a3,V.ref a4])=H5
 intro s5 e5
 refine⟨by decide,λa5 ha5=>⟨by decide,λp1 EX=> ?_⟩⟩
 have s6:=AV (o:=.lst []) ha5
 have e6:upd H5 a5 (.lst []) a5=some (.lst (AU [])):=AM
 revert EX s6 e6
 generalize upd H5 a5 (.lst [])=H6
 intro EX s6 e6
 obtain⟨H7,zz0,s7,e7⟩:=DA (o:=.lst [V.ref a5]) EX
 rw[zz0]
 refine PN ((s6.trans s7) _ _ e5) e7 (by simp) λv H8 hv s8 e8=> ?_
 have s38:=((((s.trans s5).trans s6).trans s7).trans s8)
 have s48:=((s5.trans s6).trans s7).trans s8
 have s08:=BH.trans s38
 have g0:=s48 _ _ f0.1
 have g1:=s48 _ _ f1.1
 have g2:=s48 _ _ f2.1
 have g3:=s48 _ _ f3.1
 have g4:=s48 _ _ f4.1
 have g5:=(s7.trans s8) _ _ e6
 have d5:∀ {x:Addr} {m:Nat},H4 x=some (.lst (List.replicate m V.non))->x≠a5:=λe=>BX (s5 _ _ e) ha5
 have dv:∀ {x:Addr} {m:Nat},H4 x=some (.lst (List.replicate m V.non))->v≠x:=λe=>(BX ((((s5.trans s6).trans s7)) _ _ e) hv).symm
 have dv5:v≠a5:=(BX (s7 _ _ e6) hv).symm
 obtain⟨⟨d01,d02,d03,d04⟩,⟨d12,d13,d14⟩,⟨d23,d24⟩,d34⟩:(a0≠a1/\a0≠a2/\a0≠a3/\a0≠a4)/\(a1≠a2/\a1≠a3/\a1≠a4)/\(a2≠a3/\a2≠a4)/\a3≠a4:=by
  simp at nd
  exact⟨⟨nd.1.1,nd.1.2.1,nd.1.2.2.1,nd.1.2.2.2⟩,⟨nd.2.1.1,nd.2.1.2.1,nd.2.1.2.2⟩,⟨nd.2.2.1.1,nd.2.2.1.2⟩,nd.2.2.2⟩
 have nmem:∀ {α :Type} {k:Nat} {x: α},some x∉List.replicate k (none:Option α):=λh=>by have:=List.eq_of_mem_replicate h;cases this
 have I8:LWAt H8 ⟨v,a0,a1,a2,a3,a4,a5⟩ ⟨List.replicate (n * w) none,List.replicate (r * w) none,List.replicate (c * w) none,List.replicate (r * w) none,List.replicate (c * w) none⟩ []:=by
  refine⟨e8,⟨_,g0,PP (F:=NmV _) (x:=.non) (y:=none) rfl _⟩,⟨_,g1,PP (F:=RcV _) (x:=.non) (y:=none) rfl _⟩,⟨_,g2,PP (F:=PcV _) (x:=.non) (y:=none) rfl _⟩,⟨_,g3,PP (F:=MkV _) (x:=.non) (y:=none) rfl _⟩,⟨_,g4,PP (F:=MkV _) (x:=.non) (y:=none) rfl _⟩,g5,⟨λx h=>absurd h nmem,λx h=>absurd h nmem,λx h=>absurd h nmem,by simp,by simp,by simp;omega,by simp;omega,by simp;omega⟩,?_,?_⟩
  ·simp[LW.L,d01,d02,d03,d04,d12,d13,d14,d23,d24,d34,d5 f0.1,d5 f1.1,d5 f2.1,d5 f3.1,d5 f4.1]
  ·simp[LW.L,dv f0.1,dv f1.1,dv f2.1,dv f3.1,dv f4.1,dv5]
 have atN:∀ {α :Type} {k j:Nat} {x: α},AD (List.replicate k (none:Option α)) j≠some x:=λh=>nmem (J5 h)
 have led0:∀ r',led ⟨List.replicate (n * w) none,List.replicate (r * w) none,List.replicate (c * w) none,List.replicate (r * w) none,List.replicate (c * w) none⟩ r'=0:=λr'=>by
  cases e:led ⟨List.replicate (n * w) none,List.replicate (r * w) none,List.replicate (c * w) none,List.replicate (r * w) none,List.replicate (c * w) none⟩ r' with
  | zero=>rfl
  | succ m =>
   obtain⟨k,d,hk,_⟩:=R4 (r:=r') (by rw[e];exact Nat.succ_pos m)
   exact absurd hk atN
 have C8:Clean ⟨List.replicate (n * w) none,List.replicate (r * w) none,List.replicate (c * w) none,List.replicate (r * w) none,List.replicate (c * w) none⟩ [] zs:=by
  refine⟨λk d h=>absurd h atN,λj k d d' _ h=>absurd h atN,λk d h=>absurd h atN,λr' d h=>absurd h atN,λr' d h=>absurd h atN,λr1 r2 d d' _ h=>absurd h atN,λr' d h=>absurd h atN,λr' hl=> ?_,List.nodup_nil,λp=>⟨λh=>(by cases h),λ⟨h,_⟩=>absurd h atN⟩,λr' d h=>absurd h atN⟩
  rw[led0]at hl;omega
 have fA:∀ y∈LW.L ⟨v,a0,a1,a2,a3,a4,a5⟩,H y=none:=λy hy=>by
  simp[LW.L]at hy
  rcases hy with rfl | rfl | rfl | rfl | rfl | rfl
  ·exact BH.free f0.2
  ·exact BH.free f1.2
  ·exact BH.free f2.2
  ·exact BH.free f3.2
  ·exact BH.free f4.2
  ·exact BH.free ((s.trans s5).free ha5)
 have fv:H v=none:=BH.free ((((s.trans s5).trans s6).trans s7).free hv)
 have ns8:=s08 _ _ hs
 have nsA:sc∉LW.L ⟨v,a0,a1,a2,a3,a4,a5⟩:=λh=>by rw[fA sc h]at hs;cases hs
 have N8:NamesAt H8 ⟨v,a0,a1,a2,a3,a4,a5⟩ nl zs:=⟨s08 _ _ hnl,hzl,hzd,hzs,λh=>by rw[fA nl h]at hnl;cases hnl⟩
 clear nd P f0 f1 f2 f3 f4 g0 g1 g2 g3 g4 g5 d5 dv
 push_cast[↓zfe]
 refine .inl ⟨⟨_,SqL.of ns8⟩,KR (xs:=ns.map V.int) (λi σ H'=>(∃ vw lf,(LWAt H' ⟨v,a0,a1,a2,a3,a4,a5⟩ vw lf/\Clean vw lf zs)/\GK vw (n * w) (r * w) (c * w)/\SameBut (· ∈LW.L ⟨v,a0,a1,a2,a3,a4,a5⟩) H8 H')/\∃ y5 y6,σ=[some (.ref sc),some (.ref z),some (.ref nl),some (.ref l),some (.ref v),y5,y6]) ⟨⟨_,_,⟨I8,C8⟩,⟨by simp,by simp,by simp⟩,SameBut.refl _⟩,_,_,rfl⟩ (λi σ H' _ ⟨⟨_,_,_,_,sb⟩,_⟩=>SqL.of (sb _ _ ns8 nsA)) (λi x σ H9 hx ⟨⟨vw,lf,⟨I9,C9⟩,sz,sb⟩,y5,y6,eσ⟩=> ?_) (λσ H9 ⟨⟨vw,lf,⟨I9,C9⟩,sz,sb⟩,y5,y6,eσ⟩=> ?_)⟩
 ·subst eσ
  obtain⟨cell,_,rfl⟩:=List.mem_map.mp (List.mem_of_getElem? hx)
  push_cast[↓ze6]
  refine⟨⟨by decide,by decide⟩,cell / 8,7,rfl,by omega,λxl xs H10 FT s10 exl hxs hx=> ?_⟩
  have I10:=I9.same s10
  have nxl:xl∉LW.L ⟨v,a0,a1,a2,a3,a4,a5⟩:=λhm=>by
   simp[LW.L]at hm
   obtain⟨_,k0,_⟩:=I9.n
   obtain⟨_,k1,_⟩:=I9.r
   obtain⟨_,k2,_⟩:=I9.p
   obtain⟨_,k3,_⟩:=I9.rm
   obtain⟨_,k4,_⟩:=I9.pm
   have k5:=I9.l
   rcases hm with rfl | rfl | rfl | rfl | rfl | rfl
   ·rw[FT]at k0;cases k0
   ·rw[FT]at k1;cases k1
   ·rw[FT]at k2;cases k2
   ·rw[FT]at k3;cases k3
   ·rw[FT]at k4;cases k4
   ·rw[FT]at k5;cases k5
  have X10:IntsAt H10 ⟨v,a0,a1,a2,a3,a4,a5⟩ xl xs 7:=⟨exl,hxs,hx,nxl⟩
  have N10:=(N8.sb sb).sb s10.sb
  have LB:SameBut (· ∈LW.L ⟨v,a0,a1,a2,a3,a4,a5⟩) H8 H10:=sb.trans s10.sb
  push_cast[↓zfd]
  by_cases h3:cell % 8<3
  ·refine CJ h3 ?_
   push_cast[↓ze7]
   exact⟨⟨v,a0,a1,a2,a3,a4,a5⟩,vw,lf,zs,nl,xl,xs,true,n * w,r * w,c * w,rfl,I10,C9,N10,X10,sz,bn,bc,λvw' lf' H' I' C' sz' sb'=>⟨vw',lf',I',C',sz',LB.trans sb'⟩⟩
  refine B7 h3 ?_
  push_cast[↓zfc]
  by_cases h4:cell % 8=3
  ·refine CJ h4 ?_
   push_cast[↓ze8]
   exact⟨⟨v,a0,a1,a2,a3,a4,a5⟩,vw,lf,zs,nl,xl,xs,n * w,r * w,c * w,rfl,I10,C9,N10,X10,sz,bn,λvw' lf' H' I' C' sz' sb'=>⟨vw',lf',I',C',sz',LB.trans sb'⟩⟩
  refine B7 h4 ?_
  push_cast[↓zfb]
  by_cases h5:cell % 8=4
  ·refine CJ h5 ?_
   push_cast[↓ze9]
   exact⟨⟨v,a0,a1,a2,a3,a4,a5⟩,vw,lf,zs,nl,xl,xs,false,n * w,r * w,c * w,rfl,I10,C9,N10,X10,sz,bn,bc,λvw' lf' H' I' C' sz' sb'=>⟨vw',lf',I',C',sz',LB.trans sb'⟩⟩
  refine B7 h5 ?_
  push_cast[↓zfa]
  exact⟨⟨v,a0,a1,a2,a3,a4,a5⟩,vw,lf,zs,cell % 8,xl,xs,n * w,r * w,c * w,rfl,I10,C9,X10,sz,bc,λvw' lf' H' I' C' sz' sb'=>⟨vw',lf',I',C',sz',LB.trans sb'⟩⟩
 ·subst eσ
  push_cast[↓zff]
  refine q ⟨v,a0,a1,a2,a3,a4,a5⟩ vw lf H9 (λb o e=>sb _ _ (s08 _ _ e) λh=> ?_) I9 C9 sz fv fA
  rw[fA b h]at e;cases e
theorem xZ{p:Addr}{xs:List Int}{k:Nat}{Q:VK}(h:H p=some (.lst (xs.map V.int)))(hk:k<xs.length)(q:Q (.int (xs.getD k 0)) H):AY K (.ref p) (.int k) H Q :=
 B0 (SqL.of h) (n:=k) rfl (by rw[List.getElem?_map,List.getElem?_eq_getElem hk];simp[List.getD,hk]) q
def HR(x:Int):Nat:=97+(x % 26).toNat
theorem cE{x y:Int}(h:HR x=HR y):x % 26=y % 26:=by
 unfold HR at h
 omega
theorem x6{x:Int}{Q:VK}(q:Q (.str ⟨#[HR x]⟩) H):AY K (.str (Str.ofString "abcdefghijklmnopqrstuvwxyz")) (.int (x % 26)) H Q:=by
 obtain⟨b,eb,hb⟩:=JZ x (n:=26) (by omega)
 rw[show((26:Nat):Int)=26 from rfl]at eb
 have:HR x=97+b:=by unfold HR;rw[eb];simp
 rw[this]at q
 rw[eb]
 exact zil rfl hb q
theorem x8{c:Nat}{k:Nat}(h1:1<=k)(h8:k<=8):(LP ⟨#[c]⟩ (k:Int)).cps.toList=List.replicate k c:=by
 rcases(by omega:k=1\/k=2\/k=3\/k=4\/k=5\/k=6\/k=7\/k=8)with h | h | h | h | h | h | h | h<;>subst h<;>rfl
theorem x9{m:Nat}{f:Nat->Str}(h:∀ j k,j<k->k<m->f j≠f k):((List.range m).map f).Nodup:=by
 rw[List.nodup_iff_pairwise_ne,List.pairwise_map,List.pairwise_iff_getElem]
 intro i j hi hj BZ
 rw[List.length_range]at hj
 simp only[List.getElem_range]
 exact h i j BZ hj
def PY(x:Int)(k:Nat):Str:=LP ⟨#[HR (x+(k:Int) / 8)]⟩ (1+(k:Int) % 8)
theorem zjk{x:Int}{j k:Nat}(h:j<k)(hk:k<36):PY x j≠PY x k:=λe=>by
 have e':=congrArg (λz:Str=>z.cps.toList) e
 unfold PY at e'
 have a1:(1+(j:Int) % 8)=((1+j % 8:Nat):Int):=by omega
 have a2:(1+(k:Int) % 8)=((1+k % 8:Nat):Int):=by omega
 simp only[a1,a2]at e'
 rw[x8 (by omega) (by omega),x8 (by omega) (by omega)]at e'
 have el:=congrArg List.length e'
 rw[List.length_replicate,List.length_replicate]at el
 rw[el,show 1+k % 8=k % 8+1 by omega,List.replicate_succ,List.replicate_succ]at e'
 have eh:=(List.cons.inj e').1
 have:=cE eh
 omega
def PZ(fi se:Int)(k j:Nat):Int:=(k:Int) * (if(j:Int)=fi then 1 else 0)+(k:Int) / 26 * (if(j:Int)=se then 1 else 0)
def JH(xs:List Int)(fi se:Int)(k sz:Nat):List Nat:=(List.range sz).map λj=>HR (xs.getD (3+j) 0+PZ fi se k j)
theorem zjl{xs:List Int}{fi se:Int}{j k sz:Nat}(h:j<k)(hk:k<36)(f0:0<=fi)(f1:fi<sz)(g0:0<=se)(g1:se<sz)(ne:fi≠se):JH xs fi se j sz≠JH xs fi se k sz:=λe=>by
 have at':∀ i:Nat,i<sz->HR (xs.getD (3+i) 0+PZ fi se j i)=HR (xs.getD (3+i) 0+PZ fi se k i):=λi hi=>by
  have:=congrArg (λl:List Nat=>l[i]?) e
  unfold JH at this
  simp only[List.getElem?_map,List.getElem?_range hi]at this
  exact Option.some.inj this
 by_cases hq:j / 26=k / 26
 ·have:=cE (at' fi.toNat (by omega))
  unfold PZ at this
  have a1:((fi.toNat:Nat):Int)=fi:=by omega
  rw[a1,if_pos rfl,if_neg ne]at this
  omega
 ·have:=cE (at' se.toNat (by omega))
  unfold PZ at this
  have a1:((se.toNat:Nat):Int)=se:=by omega
  rw[a1,if_pos rfl,if_neg (λz=>ne z.symm)]at this
  omega
theorem zjm{fi y:Int}{sz:Nat}(h2:2<=sz)(h8:sz<=8)(f0:0<=fi)(f1:fi<sz):fi≠(fi+1+y % ((sz:Int) - 1)) % (sz:Int):=by
 rcases(by omega:sz=2\/sz=3\/sz=4\/sz=5\/sz=6\/sz=7\/sz=8)with h | h | h | h | h | h | h<;>subst h<;>simp only[Int.cast_ofNat_Int,Int.reduceSub]<;>omega
theorem zjn{x y:Str}(h:x.cps.toList=y.cps.toList):x=y:=by
 cases x;cases y
 congr 1
 exact Array.toList_inj.mp h
theorem zjo{l:List Int}{z:Str}(h:z.cps.toList=l.map HR):PyData.strOk z=true:=by
 unfold PyData.strOk
 rw[<-Array.all_toList,h,List.all_eq_true]
 intro c hc
 obtain⟨x,_,rfl⟩:=List.mem_map.mp hc
 unfold HR
 simp
 omega
theorem zjp(h:UM K a vs H Q E):Z7 K a (λ_=>E) (A0 Q) (A4 ["cell","many","letters","xs","size","first","second","names","k","word","j","step"] vs) H:=by
 obtain⟨x,m,rfl,hm,q⟩:=h
 push_cast[Z7,↓zat,↓zau]
 refine⟨⟨by decide,by decide⟩,x / 2,12,rfl,by omega,λl xs H1 hl s1 el FT hx=> ?_⟩
 push_cast[↓zaw]
 by_cases h1:x % 2=1
 ·refine CJ h1 ?_
  push_cast[↓zav]
  refine⟨by omega,by omega,?_⟩
  refine LR (small _ (by omega)) (λi ys H'=>H'=H1/\ys=((List.range i).map (PY (xs.getD 0 0))).map V.str) ⟨rfl,rfl⟩ (λi ys H' hi hl ⟨e1,e2⟩=> ?_) (λys H' hl' ⟨e1,e2⟩ p hp=> ?_)
  ·subst e1
   push_cast[B3,Int.zero_add]
   refine xZ (k:=0) el (by omega) ?_
   push_cast[]
   refine⟨⟨by decide,by decide⟩,x6 ?_⟩
   push_cast[]
   refine⟨by omega,by omega,(show(1:Nat)<=1000 by omega),?_⟩
   rw[e2,List.range_succ,List.map_append,List.map_append]
   rfl
  ·subst e1
   refine q p ((List.range m).map (PY (xs.getD 0 0))) _ (s1.free hp) (s1.trans (AV hp)) (by rw[AM,e2]) (by simp) (x9 λj k hjk hk=>zjk hjk (by omega)) λz hz=> ?_
   obtain⟨k,hk,rfl⟩:=List.mem_map.mp hz
   have hk:=List.mem_range.mp hk
   unfold PY
   have e8:∃ b:Nat,HR (xs.getD 0 0+(k:Int) / 8)=97+b/\b<26:=⟨((xs.getD 0 0+(k:Int) / 8) % 26).toNat,rfl,by omega⟩
   obtain⟨b,eb,hb⟩:=e8
   rw[eb]
   exact zio hb (by omega) (by omega)
 ·refine B7 h1 ?_
  push_cast[↓zax]
  refine JE (k:=0) el (by omega) λy1 hy1=> ?_
  have b1:=hx y1 hy1
  push_cast[]
  obtain⟨sz,esz,hsz⟩:∃ sz:Nat,2+y1 % 7=sz/\2<=sz/\sz<=8:=⟨(2+y1 % 7).toNat,by omega,by omega,by omega⟩
  rw[esz]
  push_cast[↓zay]
  refine JE (k:=1) el (by omega) λy2 hy2=> ?_
  push_cast[]
  refine⟨by omega,?_⟩
  have f0:=Int.emod_nonneg y2 (show(sz:Int)≠0 by omega)
  have f1:=Int.emod_lt_of_pos y2 (show(0:Int)<sz by omega)
  generalize y2 % (sz:Int)=first at f0 f1 ⊢
  push_cast[↓zaz]
  refine JE (k:=2) el (by omega) λy3 hy3=> ?_
  push_cast[]
  refine⟨by omega,by omega,?_⟩
  have ne:=zjm (y:=y3) hsz.1 hsz.2 f0 f1
  have g0:=Int.emod_nonneg (first+1+y3 % ((sz:Int) - 1)) (show(sz:Int)≠0 by omega)
  have g1:=Int.emod_lt_of_pos (first+1+y3 % ((sz:Int) - 1)) (show(0:Int)<sz by omega)
  generalize (first+1+y3 % ((sz:Int) - 1)) % (sz:Int)=second at g0 g1 ne ⊢
  push_cast[↓za0]
  refine⟨by decide,λp hp=> ?_⟩
  obtain⟨H2,zz0,s2,e2⟩:=DA (o:=.lst []) hp
  rw[zz0]
  push_cast[↓za6]
  refine⟨by omega,by omega,RE (λi σ H'=>(Same H1 H'/\H' p=some (.lst (((List.range i).map λk=>(⟨(JH xs first second k sz).toArray⟩:Str)).map V.str)))/\∃ y8 y9 y10 y11,σ=[some (.int x),some (.int m),some (.str (Str.ofString "abcdefghijklmnopqrstuvwxyz")),some (.ref l),some (.int sz),some (.int first),some (.int second),some (.ref p),y8,y9,y10,y11]) ⟨⟨s2,e2⟩,_,_,_,_,rfl⟩ (λi σ H' hi ⟨⟨s,e⟩,y8,y9,y10,y11,eσ⟩=> ?_) (λσ H' ⟨⟨s,e⟩,y8,y9,y10,y11,eσ⟩=> ?_)⟩
  ·subst eσ
   push_cast[↓za1,↓za4,Int.zero_add]
   refine⟨by omega,by omega,RE (λj σ H2=>(∃ wd:Str,H2=H'/\wd.cps.toList=JH xs first second i j/\∃ y10 y11,σ=[some (.int x),some (.int m),some (.str (Str.ofString "abcdefghijklmnopqrstuvwxyz")),some (.ref l),some (.int sz),some (.int first),some (.int second),some (.ref p),some (.int (i:Int)),some (.str wd),y10,y11])) ⟨Str.ofString "",rfl,rfl,_,_,rfl⟩ (λj σ H2 hj hzz=> ?_) (λσ H2 hzz=> ?_)⟩
   ·obtain⟨wd,eH,hw,y10,y11,eσ⟩:=hzz
    subst eσ;subst eH
    push_cast[↓za2,↓za3,Int.zero_add]
    refine⟨.inl ⟨by omega,by omega⟩,⟨by decide,by decide⟩,.inl ⟨by omega,by omega⟩,?_⟩
    rw[show(3:Int)+(j:Int)=((3+j:Nat):Int) by omega]
    refine xZ (k:=3+j) (s _ _ el) (by omega) ?_
    push_cast[]
    refine x6 ?_
    push_cast[]
    have hwl:wd.length=j:=by
     have:wd.cps.toList.length=j:=by rw[hw];unfold JH;simp
     simpa [Str.length]using this
    refine⟨small _ (by rw[hwl];show j+1<=_;omega),_,?_,rfl⟩
    show(wd.cps++_).toList=_
    rw[Array.toList_append,hw]
    unfold JH
    rw[List.range_succ,List.map_append]
    rfl
   ·obtain⟨wd,eH,hw,y10,y11,eσ⟩:=hzz
    subst eσ;subst eH
    push_cast[↓za5]
    refine⟨.inl ⟨rfl,_,SqL.of e⟩,p,_,_,rfl,rfl,e,Nat.lt_of_lt_of_le (show(((List.range i).map λk=>(⟨(JH xs first second k sz).toArray⟩:Str)).map V.str).length<1000 by simp;omega) (by decide),λy o e=>by rw[AO (BX e hp)];exact s _ _ e,?_⟩
    rw[AM,List.range_succ,List.map_append,List.map_append]
    have:wd=(⟨(JH xs first second i sz).toArray⟩:Str):=zjn hw
    rw[this]
    rfl
  ·subst eσ
   push_cast[↓za7]
   refine q p _ H' (s1.free hp) (s1.trans s) e (by simp) (x9 λj k hjk hk=> ?_) λz hz=> ?_
   ·intro e'
    have e'':=congrArg (λz:Str=>z.cps.toList) e'
    exact zjl hjk (by omega) f0 f1 g0 g1 ne e''
   ·obtain⟨k,hk,rfl⟩:=List.mem_map.mp hz
    exact zjo (l:=(List.range sz).map λj=>xs.getD (3+j) 0+PZ first second k j) (by show JH xs first second k sz=_;unfold JH;rw[List.map_map];rfl)
theorem zjq{as:TA}{g:TG}{s1:TS}{D:Ends}{σ:St}:FA (T1 as) g s1 D σ H=(as σ H λvs H1=>∃ m c:Nat,vs=[.int 0,.int ((m * c:Nat):Int),.int c]/\(1<=c/\c<100000/\m * c<100000)/\KQ (OE c m) g s1 D σ H1):=rfl
theorem zjr{c:Int}{n:Nat}{g:TG}{tb:TS}{D:Ends}{σ:St}(Pv:Nat->St->Hp->Prop)(h0:Pv 0 σ H)
  (hs:∀ i σ H,i<n->Pv i σ H->g (.int ((i:Nat) * c)) σ H λσ2 H2=>tb { D with nx:=Pv (i+1),ct:=Pv (i+1),bk:=D.nx } σ2 H2) (hd:∀ σ H,Pv n σ H->D.nx σ H):KQ (OE c n) g tb D σ H:=by
 refine⟨λi m σ H=>m=n - i/\i<=n/\Pv i σ H,⟨n,by simp,Nat.zero_le _,h0⟩,?_⟩
 rintro i m σ H ⟨rfl,hi,p⟩
 by_cases BZ:i<n
 ·refine .inr ⟨BZ,Pv (i+1),λσ' H' p'=>⟨n - (i+1),by omega,rfl,BZ,p'⟩,λx H' y=> ?_⟩
  obtain⟨e,y⟩:=y
  subst e y
  exact hs i σ _ BZ p
 ·have e:i=n:=by omega
  subst e
  exact .inl ⟨Nat.le_refl _,hd σ H p⟩
theorem zjs(h:O6 K a vs H Q E):aS K a (λ_=>E) (A0 Q) (A4 ["plank","view","cells","flat","k"] vs) H:=by
 obtain⟨gp,cl,A,vw,lf,n,r,c,w,rows,m,rfl,TP,P,EW,I,⟨z1,z2,z3⟩,w1,w6,n6,r6,c6,ncl,ncv,q⟩:=h
 have ok:=I.ok
 obtain⟨v1,e1,P1⟩:=I.n
 obtain⟨v2,e2,P2⟩:=I.r
 obtain⟨v3,e3,P3⟩:=I.p
 obtain⟨v4,e4,P4⟩:=I.rm
 obtain⟨v5,e5,P5⟩:=I.pm
 have q1:=P1.length
 have q2:=P2.length
 have q3:=P3.length
 have q4:=P4.length
 have q5:=P5.length
 have l1:=ok.l1
 have l2:=ok.l2
 have bn:=ok.bn
 have br:=ok.br
 have bp:=ok.bp
 push_cast[aS,↓zdy]
 refine I.at0 (I.at1 (PN e1 e2 (by omega) λb1 H1 _ s1 f1=> ?_))
 refine(I.same s1).at2 (PN f1 (s1 _ _ e3) (by rw[List.length_append];omega) λb2 H2 _ s2 f2=> ?_)
 have B8:=s1.trans s2
 refine(I.same B8).at3 (PN f2 (B8 _ _ e4) (by simp only[List.length_append];omega) λb3 H3 _ s3 f3=> ?_)
 have BH:=B8.trans s3
 refine(I.same BH).at4 (PN f3 (BH _ _ e5) (by simp only[List.length_append];omega) λb4 H4 hb4 s4 f4=> ?_)
 have CT:=BH.trans s4
 have fl:(v1++v2++v3++v4++v5).length=(n+r+c+r+c) * w:=by
  simp only[List.length_append,Nat.add_mul]
  omega
 generalize hM:n+r+c+r+c=M at fl EW q
 generalize hF:v1++v2++v3++v4++v5=flat at f4 fl
 have fb:M * w<1000:=by rw[<-fl,<-hF];simp only[List.length_append];omega
 push_cast[↓zd0,↓zjq]
 refine⟨M * w,.inl ⟨_,SqL.of f4,fl.symm⟩,M,w,rfl,rfl,w1,by omega,by omega,?_⟩
 have cut:∀ i,i<M->GI flat (some ((i:Int) * w)) (some ((i:Int) * w+w))=FH w flat i:=λi hi=>by
  have h1:(i+1) * w<=M * w:=Nat.mul_le_mul_right w hi
  rw[Nat.succ_mul]at h1
  unfold GI FH
  have a1:(i:Int) * w=((i * w:Nat):Int):=by simp
  have a2:(i:Int) * w+w=((i * w+w:Nat):Int):=by simp
  rw[a2,a1,HT.sIx_nat,HT.sIx_nat,fl,Nat.min_eq_left (by omega),Nat.min_eq_left (by omega)]
  congr 1
  omega
 have P4':=P.same CT
 obtain⟨dp,IW⟩:=P.ob
 obtain⟨tc,C1,_⟩:=P.ls
 have nb4:b4≠gp/\b4≠cl:=⟨(BX (BH _ _ IW) hb4).symm,(BX (BH _ _ C1) hb4).symm⟩
 let PR:=λi=>((List.range i).map (FH w flat))++rows.drop i
 refine zjr (λi σ H'=>(SameBut (λx=>x=gp\/x=cl) H4 H'/\PlankAt a H' gp cl w (PR i) (m+i))/\∃ y,σ=[some (.ref gp),some (.ref A.v),some (.int w),some (.ref b4),y]) ⟨⟨SameBut.refl _,P4'⟩,_,rfl⟩ (λi σ H' hi ⟨⟨s',P'⟩,y,eσ⟩=> ?_) (λσ H' ⟨⟨s',P'⟩,y,eσ⟩=> ?_)
 ·subst eσ
  obtain⟨dp',JJ⟩:=P'.ob
  have f4':=s' _ _ f4 λz=>z.elim nb4.1 nb4.2
  push_cast[↓zdz]
  refine⟨_,_,JJ,xB _ _ _,⟨by omega,by omega⟩,YQ (SqL.of f4') λl2 EE=> ?_⟩
  rw[cut i hi,Int.mul_ediv_cancel _ (show(w:Int)≠0 by omega)]
  obtain⟨H9,zz0,s9,el2⟩:=DA (o:=.lst (FH w flat i)) EE
  rw[zz0]
  have cl':=zit (xs:=flat) fl hi
  have hPR:(PR i).length=M:=by
   show((List.range i).map (FH w flat)++rows.drop i).length=M
   rw[List.length_append,List.length_map,List.length_range,List.length_drop,EW]
   omega
  refine⟨gp,cl,w,PR i,m+i,(i:Int),l2,FH w flat i,rfl,TP,P'.same s9,SqL.of el2,by omega,λb' eb' hb' hyl Ha Pa sa=> ?_,λz=>by rw[hPR]at z;omega⟩
  obtain rfl:i=b':=by omega
  have ePR:(PR i).set i (FH w flat i)=PR (i+1):=by
   show((List.range i).map (FH w flat)++rows.drop i).set i (FH w flat i)=(List.range (i+1)).map (FH w flat)++rows.drop (i+1)
   rw[List.set_append_right _ _ (by simp),List.length_map,List.length_range,Nat.sub_self,List.drop_eq_getElem_cons (by omega),List.set_cons_zero,List.range_succ,List.map_append,List.append_assoc]
   rfl
  rw[ePR]at Pa
  exact⟨s'.trans (s9.sb.trans sa),Pa⟩
 ·subst eσ
  have ePR:PR M=(List.range M).map (FH w flat):=by
   show(List.range M).map (FH w flat)++rows.drop M=_
   rw[<-EW,List.drop_length,List.append_nil]
  rw[ePR]at P'
  have tk:CZ H H':=λy xs e=>s' _ _ (CT _ _ e) λz=>by
   rcases z with z | z
   ·rw[z,IW]at e;cases e
   ·rw[z,C1]at e;cases e
  refine q _ H' P' (by simp) ⟨⟨v1,v2,v3,v4,v5,by rw[xS fl,hF],Paired.mapP P1 λv c=>NmV.keep tk,Paired.mapP P2 λv c=>RcV.keep tk,Paired.mapP P3 λv c=>PcV.keep tk,Paired.mapP P4 λv c=>MkV.keep tk,Paired.mapP P5 λv c=>MkV.keep tk⟩,z1,z2,z3,ok⟩ (CT.sb.trans s')
theorem zjt{α :Type}{F:Addr-> α ->Prop}{as:List Addr}{x0 x1 x2 x3 x4 x5: α}(h:Paired F as [x0,x1,x2,x3,x4,x5]):∃ a0 a1 a2 a3 a4 a5,as=[a0,a1,a2,a3,a4,a5]/\F a0 x0/\F a1 x1/\F a2 x2/\F a3 x3/\F a4 x4/\F a5 x5:=by
 cases h with | cons h0 h=>cases h with | cons h1 h=>cases h with | cons h2 h=>cases h with | cons h3 h=>cases h with | cons h4 h=>cases h with | cons h5 h =>
  cases h
  exact⟨_,_,_,_,_,_,rfl,h0,h1,h2,h3,h4,h5⟩
theorem zju(h:US K a vs H Q E):ZT K a (λ_=>E) (A0 Q) (A4 ["view"] vs) H:=by
 obtain⟨A,vw,lf,rfl,I,q⟩:=h
 obtain⟨v1,e1,P1⟩:=I.n
 obtain⟨v2,e2,P2⟩:=I.r
 obtain⟨v3,e3,P3⟩:=I.p
 obtain⟨v4,e4,P4⟩:=I.rm
 obtain⟨v5,e5,P5⟩:=I.pm
 push_cast[ZT,↓Yx]
 refine .inl ⟨⟨_,SqL.of I.ob⟩,XS (xs:=[.ref A.a0,.ref A.a1,.ref A.a2,.ref A.a3,.ref A.a4,.ref A.a5]) (small _ (by simp)) (λi ys H'=>Same H H'/\∃ as:List Addr,ys=as.map V.ref/\as.Nodup/\Paired (λx us=>H' x=some (.lst us)/\H x=none) as ([v1,v2,v3,v4,v5,AU lf].take i)) ⟨Same.refl _,[],rfl,List.nodup_nil,.nil⟩ (λi ys H' _ ⟨s,_⟩=>SqL.of (s _ _ I.ob)) (λi x ys H4 hx _ hzz=> ?_) (λys H4 _ ⟨s,as,e,nd,P⟩ vl hvl=> ?_)⟩
 ·obtain⟨s,as,e,nd,P⟩:=hzz
  obtain⟨y,us,rfl,hy,em⟩:∃ (y:Addr) (us:List V),x=.ref y/\H y=some (.lst us)/\[v1,v2,v3,v4,v5,AU lf][i]? =some us:=by
   match i with
   | 0=>cases hx;exact⟨_,_,rfl,e1,rfl⟩
   | 1=>cases hx;exact⟨_,_,rfl,e2,rfl⟩
   | 2=>cases hx;exact⟨_,_,rfl,e3,rfl⟩
   | 3=>cases hx;exact⟨_,_,rfl,e4,rfl⟩
   | 4=>cases hx;exact⟨_,_,rfl,e5,rfl⟩
   | 5=>cases hx;exact⟨_,_,rfl,I.l,rfl⟩
   | i+6=>simp at hx
  push_cast[B3]
  refine⟨_,.inl (SqL.of (s _ _ hy)),λa6 h6=> ?_⟩
  have s6:=AV (o:=.lst us) h6
  refine⟨s.trans s6,as++[a6],by rw[e,List.map_append];rfl,?_,?_⟩
  ·rw[List.nodup_append]
   refine⟨nd,by simp,λx hx y hy=> ?_⟩
   rw[List.mem_singleton.mp hy]
   obtain⟨k,ek⟩:=JD hx
   obtain⟨r',_,hx'⟩:=GL P ek
   exact BX hx'.1 h6
  ·rw[FM em]
   exact Paired.snoc (Paired.mapP P λt r e=>⟨s6 _ _ e.1,e.2⟩) ⟨AM,s.free h6⟩
 have P:Paired (λx us=>H4 x=some (.lst us)/\H x=none) as [v1,v2,v3,v4,v5,AU lf]:=P
 obtain⟨a0,a1,a2,a3,a4,a5,rfl,f0,f1,f2,f3,f4,f5⟩:=zjt P
 subst e
 have s5:=AV (o:=.lst [V.ref a0,V.ref a1,V.ref a2,V.ref a3,V.ref a4,V.ref a5]) hvl
 have HW:=s.trans s5
 have e5':upd H4 vl (.lst [V.ref a0,V.ref a1,V.ref a2,V.ref a3,V.ref a4,V.ref a5]) vl=some (.lst [V.ref a0,V.ref a1,V.ref a2,V.ref a3,V.ref a4,V.ref a5]):=AM
 refine q ⟨vl,a0,a1,a2,a3,a4,a5⟩ _ HW ⟨e5',⟨_,s5 _ _ f0.1,Paired.mapP P1 λv c=>NmV.keep HW.tk⟩,⟨_,s5 _ _ f1.1,Paired.mapP P2 λv c=>RcV.keep HW.tk⟩,⟨_,s5 _ _ f2.1,Paired.mapP P3 λv c=>PcV.keep HW.tk⟩,⟨_,s5 _ _ f3.1,Paired.mapP P4 λv c=>MkV.keep HW.tk⟩,⟨_,s5 _ _ f4.1,Paired.mapP P5 λv c=>MkV.keep HW.tk⟩,s5 _ _ f5.1,I.ok,nd,?_⟩ (s.free hvl) ?_
 ·have dv:∀ {x:Addr} {us:List V},H4 x=some (.lst us)->vl≠x:=λe=>(BX e hvl).symm
  simp[LW.L,dv f0.1,dv f1.1,dv f2.1,dv f3.1,dv f4.1,dv f5.1]
 ·intro x hx
  simp[LW.L]at hx
  rcases hx with rfl | rfl | rfl | rfl | rfl | rfl
  ·exact f0.2
  ·exact f1.2
  ·exact f2.2
  ·exact f3.2
  ·exact f4.2
  ·exact f5.2
theorem NB{n k:Nat}{p:Nat->Bool}{f:Nat->List V}(hk:k<n)(h:p k=true):DO n p f≠[]:=λe=>by
 have:=List.filter_eq_nil_iff.mp (List.map_eq_nil_iff.mp e) k (List.mem_range.mpr hk)
 exact this h
section
variable{vw:Vw}{lf:List Nat}{zs:List Str}
theorem NC(h:faults vw=[]):((∀ k<vw.nm.length,G9 vw k≠true/\HM vw k≠true)/\(∀ p<vw.pc.length,FC vw p<=1/\(0<FC vw p->(AD vw.pc p).isSome=true/\AD vw.pm p=some 1)))/\∀ r<vw.rc.length,IP vw r≠true/\(0<led vw r->AD vw.rm r=some 1):=by
 simp only[faults,OQ,MW,OR,List.append_eq_nil_iff]at h
 obtain⟨⟨⟨h1,h2⟩,⟨h3,h4⟩,h5⟩,h6,h7⟩:=h
 refine⟨⟨λk hk=>⟨λe=>NB hk e h1,λe=>NB hk e h2⟩,λp hp=>⟨?_,λh0=>⟨?_,?_⟩⟩⟩,λr hr=>⟨λe=>NB hr e h5,λh0=> ?_⟩⟩
 ·exact Nat.le_of_not_lt λz=>NB hp (decide_eq_true z) h3
 ·exact Option.isSome_iff_ne_none.mpr λz=>NB hp (by simp[h0,z]) h4
 ·exact Classical.byContradiction λz=>NB hp (by simp[h0,z]) h7
 ·exact Classical.byContradiction λz=>NB hr (by simp[h0,z]) h6
theorem Clean.lost{k r:Nat}{s:Str}(C:Clean vw lf zs)(hk:vw.nm[k]? =some none)(hs:zs[(CN vw.nm).length]? =some s)(hz:zs.Nodup)(hr:AD vw.rc r=none)(hrm:r<vw.rm.length):L2.faults { vw with nm:=vw.nm.set k (some (s,r)),rm:=vw.rm.set r (some 1) }≠[]:=λh=>by
 have GE:=(List.getElem?_eq_some_iff.mp hk).1
 refine((NC h).1.1 k (by rw[List.length_set];exact GE)).1 ?_
 simp only[G9,EJ GE,if_pos,hr]
 rfl
theorem Clean.twice{j k:Nat}{d:Str × Nat}{c:Int × List Nat}(C:Clean vw lf zs)(hk:vw.nm[k]? =some none)(hj:AD vw.nm j=some d)(hc:AD vw.rc d.2=some c):L2.faults { vw with nm:=vw.nm.set k (some d),rc:=vw.rc.set d.2 (some (c.1+1,c.2)) }≠[]:=λh=>by
 have GE:=(List.getElem?_eq_some_iff.mp hk).1
 have hjl:=JF hj
 have njk:j≠k:=λe=>by
  unfold AD at hj
  rw[e,hk]at hj;cases hj
 have a1:AD (vw.nm.set k (some d)) j=some d:=by rw[EJ GE,if_neg njk,hj]
 have a2:AD (vw.nm.set k (some d)) k=some d:=by rw[EJ GE,if_pos rfl]
 have two:∀ x y,x<y->y<vw.nm.length->AD (vw.nm.set k (some d)) x=some d->AD (vw.nm.set k (some d)) y=some d->False:=λx y hxy hy h1 h2=>by
  refine((NC h).1.1 y (by rw[List.length_set];exact hy)).2 ?_
  simp only[HM,h2]
  exact List.any_eq_true.mpr ⟨x,List.mem_range.mpr hxy,by simp[h1]⟩
 rcases Nat.lt_or_gt_of_ne njk with z | z
 ·exact two j k z GE a1 a2
 ·exact two k j z hjl a2 a1
theorem Clean.shared{p r r1:Nat}{c c1:Int × List Nat}(C:Clean vw lf zs)(h1:AD vw.rc r1=some c1)(hp:p∈c1.2)(hr:AD vw.rc r=some c)(CF:p<vw.pc.length):L2.faults { vw with rc:=vw.rc.set r (some (c.1,c.2++[p])) }≠[]:=λh=>by
 have cnt:∀ (l:List GJ) (i:Nat),l[i]? =some (some c)->(DN (l.set i (some (c.1,c.2++[p])))).count p=(DN l).count p+1:=by
  intro l
  induction l with
  | nil=>intro i h;simp at h
  | cons x l ih =>
   intro i h
   cases i with
   | zero =>
    cases h
    simp[DN,HL,List.count_append]
    omega
   | succ i =>
    have:=ih i (by simpa using h)
    unfold DN at this ⊢
    simp only[List.set_cons_succ,List.flatMap_cons,List.count_append,this]
    omega
 have pos:0<(DN vw.rc).count p:=List.count_pos_iff.mpr (R5.mpr ⟨r1,c1,h1,hp⟩)
 have:=((NC h).1.2 p CF).1
 unfold FC at this
 rw[cnt vw.rc r (by unfold AD at hr;cases e:vw.rc[r]? with | none=>rw[e]at hr;cases hr | some y=>rw[e]at hr;exact congrArg some hr)]at this
 omega
theorem Clean.empty{p r1:Nat}{c1:Int × List Nat}(C:Clean vw lf zs)(h1:AD vw.rc r1=some c1)(hp:p∈c1.2)(CF:p<vw.pc.length):L2.faults { vw with pc:=vw.pc.set p none }≠[]:=λh=>by
 have:=(((NC h).1.2 p (by rw[List.length_set];exact CF)).2 (List.count_pos_iff.mpr (R5.mpr ⟨r1,c1,h1,hp⟩))).1
 simp only[EJ CF,if_pos]at this
 cases this
theorem Clean.freeP{p r1:Nat}{c1:Int × List Nat}{x:Option Int}(C:Clean vw lf zs)(h1:AD vw.rc r1=some c1)(hp:p∈c1.2)(CF:p<vw.pc.length)(hpm:p<vw.pm.length)(hx:x≠some 1):L2.faults { vw with pm:=vw.pm.set p x }≠[]:=λh=>by
 have:=(((NC h).1.2 p CF).2 (List.count_pos_iff.mpr (R5.mpr ⟨r1,c1,h1,hp⟩))).2
 simp only[EJ hpm,if_pos]at this
 exact hx this
theorem Clean.few{r:Nat}{c:Int × List Nat}(C:Clean vw lf zs)(hr:AD vw.rc r=some c)(hl:2<=led vw r):L2.faults { vw with rc:=vw.rc.set r (some (1,c.2)) }≠[]:=λh=>by
 have EW:=JF hr
 refine((NC h).2 r (by rw[List.length_set];exact EW)).1 ?_
 simp only[IP,EJ EW,if_pos]
 have:2<=led { vw with rc:=vw.rc.set r (some (1,c.2)) } r:=hl
 simp;omega
theorem Clean.freeR{r:Nat}{x:Option Int}(C:Clean vw lf zs)(hr:r<vw.rc.length)(hrm:r<vw.rm.length)(hl:0<led vw r)(hx:x≠some 1):L2.faults { vw with rm:=vw.rm.set r x }≠[]:=λh=>by
 have:=((NC h).2 r hr).2 hl
 simp only[EJ hrm,if_pos]at this
 exact hx this
end
theorem yA{nm:List GD}{k:Nat}(hk1:k<nm.length)(hk2:(AD nm k).isNone=true):nm[k]? =some none:=by
 unfold AD at hk2
 rw[List.getElem?_eq_getElem hk1]at hk2 ⊢
 have:nm[k].isNone=true:=hk2
 rw[Option.isNone_iff_eq_none.mp this]
theorem ND{α :Type}{l:List α}(h:l≠[]):1<=l.length:=by
 cases l with
 | nil=>exact absurd rfl h
 | cons _ _=>simp
theorem zjv(h:HN K a vs H Q E):aD K a (λ_=>E) (A0 Q) (A4 ["view","names","xs","free","records","k","r"] vs) H:=by
 obtain⟨A,vw,lf,zs,nl,xl,xs,n,r0,c0,rfl,I,C,N,X,⟨z1,z2,z3⟩,HY,n1,r1,c1,q1,q2⟩:=h
 have br:=I.ok.br
 push_cast[aD,↓zbl]
 refine⟨A,vw,lf,rfl,I,λfl H1 hfl s1 GZ=> ?_⟩
 have I1:=I.same s1
 push_cast[↓zbm]
 refine I1.at1 ⟨vw.rc.length,I1.len1,by omega,by omega,KU (λr=>(AD vw.rc r).isNone) (small _ (by omega)) (λk hk QB qb=> ?_) λrl EW=> ?_⟩
 ·push_cast[B3]
  refine I1.ix1 hk λv hv=> ?_
  push_cast[]
  rw[PK hv]
  exact qb
 have s2:=AV (o:=.lst (((List.range vw.rc.length).filter λr=>(AD vw.rc r).isNone).map λ(i:Nat)=>V.int i)) EW
 have er:upd H1 rl (.lst (((List.range vw.rc.length).filter λr=>(AD vw.rc r).isNone).map λ(i:Nat)=>V.int i)) rl=some (.lst (AU ((List.range vw.rc.length).filter λr=>(AD vw.rc r).isNone))):=AM
 revert s2 er
 generalize upd H1 rl (.lst (((List.range vw.rc.length).filter λr=>(AD vw.rc r).isNone).map λ(i:Nat)=>V.int i))=H2
 intro s2 er
 have B8:=s1.trans s2
 push_cast[↓zbn]
 refine⟨by decide,λe0 EQ=> ?_⟩
 have s3:=AV (o:=.lst []) EQ
 refine MD ((s2.trans s3) _ _ GZ) AM ⟨_,rfl,?_⟩
 have BH:=B8.trans s3
 have ED:=s3 _ _ er
 have IU:=(s2.trans s3) _ _ GZ
 revert BH ED IU
 generalize upd H2 e0 (.lst [])=H3
 intro BH ED IU
 generalize hRL:((List.range vw.rc.length).filter λr=>(AD vw.rc r).isNone)=RL at ED
 by_cases hf:FJ vw=[]
 ·refine CJ (by simp[hf]) ?_
  push_cast[↓p7]
  exact q1 _ BH.sb
 refine B7 (by simp[hf]) ⟨by decide,λe1 he1=> ?_⟩
 have s4:=AV (o:=.lst []) he1
 refine MD (s4 _ _ ED) AM ⟨_,rfl,?_⟩
 have CT:=BH.trans s4
 have HD:=s4 _ _ ED
 have HC:=s4 _ _ IU
 revert CT HD HC
 generalize upd H3 e1 (.lst [])=H4
 intro CT HD HC
 by_cases hg:RL=[]
 ·refine CJ (by simp[hg]) ?_
  push_cast[↓p7]
  exact q1 _ CT.sb
 refine B7 (by simp[hg]) ?_
 have I4:=I.same CT
 have X4:=X.sb CT.sb
 have f1:=ND hf
 have g1:=ND hg
 push_cast[↓zbo]
 refine X4.at (k:=1) (by omega) λy _ _=>⟨(FJ vw).length,.inl ⟨_,SqL.of HC,by rw[CO]⟩,?_⟩
 push_cast[]
 refine⟨by omega,HA HC hf λk hk=> ?_⟩
 obtain⟨hk1,hk2⟩:=FN hk
 have hkn:=yA hk1 hk2
 push_cast[↓zbp]
 refine X4.at (k:=2) (by omega) λy2 _ _=>⟨RL.length,.inl ⟨_,SqL.of HD,by rw[CO]⟩,?_⟩
 push_cast[]
 refine⟨by omega,HA HD hg λr hr=> ?_⟩
 rw[<-hRL]at hr
 obtain⟨FS,G0⟩:=FN hr
 have hrn:AD vw.rc r=none:=Option.isNone_iff_eq_none.mp G0
 have ffl:(FJ vw).length+(CN vw.nm).length=vw.nm.length:=xU (nm:=vw.nm)
 have eu:=List.getElem?_eq_getElem (l:=zs) (i:=(CN vw.nm).length) (by rw[N.l];omega)
 push_cast[↓zbq]
 refine I4.at0 ⟨vw.nm.length,I4.len0,(FJ vw).length,.inl ⟨_,SqL.of HC,by rw[CO]⟩,?_⟩
 rw[show((vw.nm.length:Int) - ((FJ vw).length:Int))=(((CN vw.nm).length:Nat):Int) by omega]
 refine B0 (SqL.of (CT _ _ N.e)) (n:=(CN vw.nm).length) rfl (by rw[List.getElem?_map,eu];rfl) ?_
 revert eu
 generalize zs[(CN vw.nm).length]'(by rw[N.l];omega)=sN
 intro eu
 refine⟨by decide,λp hp=> ?_⟩
 obtain⟨H5,zz0,s5,e5⟩:=DA (o:=.tup [V.str sN,V.int ↑r]) hp
 rw[zz0]
 have I5:=I4.same s5
 refine I5.at0 (I5.set0 (cc:=some (sN,r)) hk1 ⟨p,rfl,e5⟩ (λc hc=>by cases hc;exact⟨FS,N.s _ (List.mem_of_getElem? eu)⟩) λH6 I6 sb6 tk6=> ?_)
 push_cast[↓zbr]
 refine I6.at3 (I6.set3 (cc:=some 1) FS rfl (λ_ _=>trivial) λH7 I7 sb7 tk7=> ?_)
 push_cast[↓zbs]
 refine⟨by decide,λt ht=> ?_⟩
 have s8:=AV (o:=.tup [V.str (Str.ofString "lost"),V.int ↑k]) ht
 exact q2 t _ _ lf _ AM (I7.same s8) (C.lost hkn eu N.d hrn (by rw[I.ok.l1];exact FS)) ⟨by simp only[List.length_set];exact z1,z2,z3⟩ (((CT.trans s5).sb.trans sb6).trans (sb7.trans s8.sb))
theorem zjw(h:UT K a vs H Q E):aP K a (λ_=>E) (A0 Q) (A4 ["view","names","xs","free","numbers","k","j","r"] vs) H:=by
 obtain⟨A,vw,lf,zs,nl,xl,xs,n,r0,c0,rfl,I,C,N,X,⟨z1,z2,z3⟩,HY,n1,r1,c1,q1,q2⟩:=h
 have bn:=I.ok.bn
 push_cast[aP,↓zcy]
 refine⟨A,vw,lf,rfl,I,λfl H1 hfl s1 GZ=> ?_⟩
 have I1:=I.same s1
 push_cast[↓zcz]
 refine I1.at0 ⟨vw.nm.length,I1.len0,by omega,by omega,KU (λr=> !(AD vw.nm r).isNone) (small _ (by omega)) (λk hk QB qb=> ?_) λrl EW=> ?_⟩
 ·push_cast[B3]
  refine I1.ix0 hk λv hv=> ?_
  push_cast[]
  rw[cA hv]
  exact qb
 have s2:=AV (o:=.lst (((List.range vw.nm.length).filter λr=> !(AD vw.nm r).isNone).map λ(i:Nat)=>V.int i)) EW
 have er:upd H1 rl (.lst (((List.range vw.nm.length).filter λr=> !(AD vw.nm r).isNone).map λ(i:Nat)=>V.int i)) rl=some (.lst (AU ((List.range vw.nm.length).filter λr=> !(AD vw.nm r).isNone))):=AM
 revert s2 er
 generalize upd H1 rl (.lst (((List.range vw.nm.length).filter λr=> !(AD vw.nm r).isNone).map λ(i:Nat)=>V.int i))=H2
 intro s2 er
 have B8:=s1.trans s2
 have lost:∀ {H':Hp},Same H H'->HN K a [.ref A.v,.ref nl,.ref xl] H' Q E:=λs=>⟨A,vw,lf,zs,nl,xl,xs,n,r0,c0,rfl,I.same s,C,N.sb s.sb,X.sb s.sb,⟨z1,z2,z3⟩,HY,n1,r1,c1,λH'' sb=>q1 H'' (s.sb.trans sb),λt f vw' lf' H'' e1 e2 e3 e4 sb=>q2 t f vw' lf' H'' e1 e2 e3 e4 (s.sb.trans sb)⟩
 push_cast[↓zc0]
 refine⟨by decide,λe0 EQ=> ?_⟩
 have s3:=AV (o:=.lst []) EQ
 refine MD ((s2.trans s3) _ _ GZ) AM ⟨_,rfl,?_⟩
 have BH:=B8.trans s3
 have ED:=s3 _ _ er
 have IU:=(s2.trans s3) _ _ GZ
 revert BH ED IU
 generalize upd H2 e0 (.lst [])=H3
 intro BH ED IU
 generalize hRL:((List.range vw.nm.length).filter λr=> !(AD vw.nm r).isNone)=RL at ED
 by_cases hf:FJ vw=[]
 ·refine CJ (by simp[hf]) ?_
  push_cast[↓sE]
  exact lost BH
 refine B7 (by simp[hf]) ⟨by decide,λe1 he1=> ?_⟩
 have s4:=AV (o:=.lst []) he1
 refine MD (s4 _ _ ED) AM ⟨_,rfl,?_⟩
 have CT:=BH.trans s4
 have HD:=s4 _ _ ED
 have HC:=s4 _ _ IU
 revert CT HD HC
 generalize upd H3 e1 (.lst [])=H4
 intro CT HD HC
 by_cases hg:RL=[]
 ·refine CJ (by simp[hg]) ?_
  push_cast[↓sE]
  exact lost CT
 refine B7 (by simp[hg]) ?_
 have I4:=I.same CT
 have X4:=X.sb CT.sb
 have f1:=ND hf
 have g1:=ND hg
 push_cast[↓zc1]
 refine X4.at (k:=1) (by omega) λy _ _=>⟨(FJ vw).length,.inl ⟨_,SqL.of HC,by rw[CO]⟩,?_⟩
 push_cast[]
 refine⟨by omega,HA HC hf λk hk=> ?_⟩
 obtain⟨hk1,hk2⟩:=FN hk
 have hkn:=yA hk1 hk2
 push_cast[↓zc2]
 refine X4.at (k:=2) (by omega) λy2 _ _=>⟨RL.length,.inl ⟨_,SqL.of HD,by rw[CO]⟩,?_⟩
 push_cast[]
 refine⟨by omega,HA HD hg λj hj=> ?_⟩
 rw[<-hRL]at hj
 obtain⟨hj1,hj2⟩:=FN hj
 obtain⟨d,hd⟩:∃ d,AD vw.nm j=some d:=by
  cases e:AD vw.nm j with
  | none=>rw[e]at hj2;cases hj2
  | some d=>exact⟨d,rfl⟩
 obtain⟨c,hc⟩:=Option.isSome_iff_exists.mp (C.ls j d hd)
 have hr:=JF hc
 push_cast[↓zc3]
 refine I4.ix0 hj1 λv hv=> ?_
 rw[hd]at hv
 obtain⟨pd,rfl,hpd⟩:=hv
 refine BY hpd (n:=1) rfl rfl ?_
 push_cast[↓zc4]
 refine I4.ix0 hj1 λv2 G1=> ?_
 rw[hd]at G1
 obtain⟨pd2,rfl,hpd2⟩:=G1
 refine I4.at0 (I4.set0 (cc:=some d) hk1 ⟨pd2,rfl,hpd2⟩ (λc' hc'=>by cases hc';exact I.ok.n1 d (J5 hd)) λH6 I6 sb6 tk6=> ?_)
 push_cast[↓zc5]
 refine I6.ix1 hr λv3 hv3=> ?_
 have hv3:RcV H6 v3 (AD vw.rc d.2):=hv3
 rw[hc]at hv3
 obtain⟨p3,t3,rfl,hp3,ht3⟩:=hv3
 refine BY hp3 (n:=0) rfl rfl ?_
 push_cast[]
 refine I6.ix1 hr λv4 hv4=> ?_
 have hv4:RcV H6 v4 (AD vw.rc d.2):=hv4
 rw[hc]at hv4
 obtain⟨p4,t4,rfl,hp4,ht4⟩:=hv4
 refine BY hp4 (n:=1) rfl rfl ⟨by decide,λnp hnp=> ?_⟩
 obtain⟨H7,zz0,s7,e7⟩:=DA (o:=.tup [V.int (c.1+1),V.ref t4]) hnp
 rw[zz0]
 have I7:=I6.same s7
 refine I7.at1 (I7.set1 (cc:=some (c.1+1,c.2)) hr ⟨np,t4,rfl,e7,s7 _ _ ht4⟩ (λc' h=>by cases h;exact I.ok.n2 c (J5 hc)) λH8 I8 sb8 tk8=> ?_)
 push_cast[↓zc6]
 refine⟨by decide,λt ht=> ?_⟩
 have em:(if((k:Nat):Int) >((j:Nat):Int)then((k:Nat):Int)else((j:Nat):Int))=((max j k:Nat):Int):=by
  split<;>omega
 rw[em]at *
 have s9:=AV (o:=.tup [V.str (Str.ofString "twice"),V.int ↑(max j k)]) ht
 exact q2 t _ _ lf _ AM (I8.same s9) (C.twice hkn hd hc) ⟨by simp only[List.length_set];exact z1,by simp only[List.length_set];exact z2,z3⟩ ((CT.sb.trans sb6).trans ((s7.sb.trans sb8).trans s9.sb))
theorem zjx(h:UV K a vs H Q E):aR K a (λ_=>E) (A0 Q) (A4 ["view","names","xs","led","least","records","r"] vs) H:=by
 obtain⟨A,vw,lf,zs,nl,xl,xs,n,r0,c0,rfl,I,C,N,X,⟨z1,z2,z3⟩,HY,n1,r1,c1,q1,q2⟩:=h
 have br:=I.ok.br
 push_cast[aR,↓zdn]
 refine⟨A,vw,lf,rfl,I,λll H1 hll s1 ell=> ?_⟩
 have ell:H1 ll=some (.lst (AU ((List.range vw.rc.length).map (led vw)))):=ell
 have lost:∀ {H':Hp},Same H H'->HN K a [.ref A.v,.ref nl,.ref xl] H' Q E:=λs=>⟨A,vw,lf,zs,nl,xl,xs,n,r0,c0,rfl,I.same s,C,N.sb s.sb,X.sb s.sb,⟨z1,z2,z3⟩,HY,n1,r1,c1,λH'' sb=>q1 H'' (s.sb.trans sb),λt f vw' lf' H'' e1 e2 e3 e4 sb=>q2 t f vw' lf' H'' e1 e2 e3 e4 (s.sb.trans sb)⟩
 have I1:=I.same s1
 have X1:=X.sb s1.sb
 push_cast[↓zdo]
 refine X1.at (k:=0) (by omega) λy _ _=> ?_
 push_cast[]
 obtain⟨m,hm,hm'⟩:∃ m:Nat,(1+(if decide (y % 7=4)=true then 1 else 0):Int)=m/\(m=1\/m=2):=by
  by_cases h4:y % 7=4
  ·exact⟨2,by simp[h4],.inr rfl⟩
  ·exact⟨1,by simp[h4],.inl rfl⟩
 simp only[decide_eq_true_eq]at hm
 rw[hm]
 push_cast[↓zdp]
 refine⟨vw.rc.length,.inl ⟨_,SqL.of ell,by rw[CO,JX]⟩,by omega,by omega,KU (λr=>decide (m<=led vw r)) (small _ (by omega)) (λk hk QB qb=> ?_) λrl EW=> ?_⟩
 ·push_cast[B3]
  refine M6 ell hk ?_
  push_cast[]
  rw[show decide ((m:Int)<=((led vw k:Nat):Int))=decide (m<=led vw k) by rw[decide_eq_decide];omega]
  exact qb
 have s2:=AV (o:=.lst (((List.range vw.rc.length).filter λr=>decide (m<=led vw r)).map λ(i:Nat)=>V.int i)) EW
 have er:upd H1 rl (.lst (((List.range vw.rc.length).filter λr=>decide (m<=led vw r)).map λ(i:Nat)=>V.int i)) rl=some (.lst (AU ((List.range vw.rc.length).filter λr=>decide (m<=led vw r)))):=AM
 revert s2 er
 generalize upd H1 rl (.lst (((List.range vw.rc.length).filter λr=>decide (m<=led vw r)).map λ(i:Nat)=>V.int i))=H2
 intro s2 er
 have B8:=s1.trans s2
 push_cast[↓zdr]
 refine⟨by decide,λe0 EQ=> ?_⟩
 have s3:=AV (o:=.lst []) EQ
 refine MD (s3 _ _ er) AM ⟨_,rfl,?_⟩
 have BH:=B8.trans s3
 have ED:=s3 _ _ er
 revert BH ED
 generalize upd H2 e0 (.lst [])=H3
 intro BH ED
 generalize hRL:((List.range vw.rc.length).filter λr=>decide (m<=led vw r))=RL at ED
 by_cases hf:RL=[]
 ·refine CJ (by simp[hf]) ?_
  push_cast[↓zdq]
  exact lost BH
 refine B7 (by simp[hf]) ?_
 have I3:=I.same BH
 have X3:=X.sb BH.sb
 have f1:=ND hf
 push_cast[↓zds]
 refine X3.at (k:=1) (by omega) λy1 _ _=>⟨RL.length,.inl ⟨_,SqL.of ED,by rw[CO]⟩,?_⟩
 push_cast[]
 refine⟨by omega,HA ED hf λr hr=> ?_⟩
 rw[<-hRL]at hr
 obtain⟨FS,G0⟩:=FN hr
 have G0:m<=led vw r:=by simpa using G0
 push_cast[↓zdv]
 rcases hm' with rfl | rfl
 ·refine B7 (by decide) ?_
  push_cast[↓zdw]
  refine⟨by decide,λkl GE=> ?_⟩
  obtain⟨H4,zz0,s4,e4⟩:=DA (o:=.lst [V.int 0,V.non]) GE
  rw[zz0]
  refine(X3.sb s4.sb).at (k:=2) (by omega) λy2 _ _=> ?_
  push_cast[]
  obtain⟨b,eb,hb⟩:=JZ y2 (n:=2) (by omega)
  rw[show((2:Nat):Int)=2 from rfl]at eb
  rw[eb]
  obtain⟨v,x,ev,hv,hx⟩:∃ (v:V) (x:Option Int),[V.int 0,V.non][b]? =some v/\MkV H4 v x/\x≠some 1:=by
   rcases(by omega:b=0\/b=1)with rfl | rfl
   ·exact⟨_,some 0,rfl,rfl,by decide⟩
   ·exact⟨_,none,rfl,rfl,by decide⟩
  refine B0 (SqL.of e4) (n:=b) rfl ev ?_
  have I4:=I3.same s4
  refine I4.at3 (I4.set3 (cc:=x) FS hv (λ_ _=>trivial) λH5 I5 FR tk5=> ?_)
  push_cast[↓zdx]
  refine⟨by decide,λt ht=> ?_⟩
  have s6:=AV (o:=.tup [V.str (Str.ofString "free"),V.str (Str.ofString "record"),V.int ↑r]) ht
  exact q2 t _ _ lf _ AM (I5.same s6) (C.freeR FS (by rw[I.ok.l1];exact FS) G0 hx) ⟨z1,z2,z3⟩ (((BH.trans s4).sb.trans FR).trans s6.sb)
 ·refine CJ (by decide) ?_
  obtain⟨k,d,hk,hd⟩:=R4 (vw:=vw) (r:=r) (by omega)
  have hrs:=C.ls k d hk
  rw[hd]at hrs
  obtain⟨c,hc⟩:=Option.isSome_iff_exists.mp hrs
  push_cast[↓zdt]
  refine I3.ix1 FS λv hv=> ?_
  rw[hc]at hv
  obtain⟨p,t,rfl,hp,ht⟩:=hv
  refine BY hp (n:=1) rfl rfl ⟨by decide,λnp hnp=> ?_⟩
  obtain⟨H4,zz0,s4,e4⟩:=DA (o:=.tup [V.int 1,V.ref t]) hnp
  rw[zz0]
  have I4:=I3.same s4
  refine I4.at1 (I4.set1 (cc:=some (1,c.2)) FS ⟨np,t,rfl,e4,s4 _ _ ht⟩ (λc' h=>by cases h;exact I.ok.n2 c (J5 hc)) λH5 I5 FR tk5=> ?_)
  push_cast[↓zdu]
  refine⟨by decide,λt ht=> ?_⟩
  have s6:=AV (o:=.tup [V.str (Str.ofString "few"),V.int ↑r]) ht
  exact q2 t _ _ lf _ AM (I5.same s6) (C.few hc G0) ⟨z1,by simp only[List.length_set];exact z2,z3⟩ (((BH.trans s4).sb.trans FR).trans s6.sb)
theorem zjy(h:UW K a vs H Q E):bD K a (λ_=>E) (A0 Q) (A4 ["view","names","xs","kind"] vs) H:=by
 obtain⟨A,vw,lf,zs,nl,xl,xs,n,r0,c0,rfl,I,C,N,X,sz,HY,n1,r1,c1,q⟩:=h
 have go:∀ {H':Hp},Same H H'->O5 K a [.ref A.v,.ref nl,.ref xl] H' Q E:=λs=>⟨A,vw,lf,zs,nl,xl,xs,n,r0,c0,rfl,I.same s,C,N.sb s.sb,X.sb s.sb,sz,HY,n1,r1,c1,λH'' sb=>q.1 H'' (s.sb.trans sb),λt f vw' lf' H'' e1 e2 e3 e4 sb=>q.2 t f vw' lf' H'' e1 e2 e3 e4 (s.sb.trans sb)⟩
 push_cast[bD,↓zeu]
 refine X.at (k:=0) (by omega) λy _ _=> ?_
 push_cast[]
 push_cast[↓zew]
 by_cases h0:y % 7=0
 ·refine CJ h0 ?_
  push_cast[↓zev]
  exact go (Same.refl _)
 refine B7 h0 ?_
 push_cast[↓zey]
 by_cases h1:y % 7=1
 ·refine CJ h1 ?_
  push_cast[↓zex]
  exact go (Same.refl _)
 refine B7 h1 ?_
 push_cast[↓ze0]
 obtain⟨b,eb,hb⟩:=JZ y (n:=7) (by omega)
 rw[show((7:Nat):Int)=7 from rfl]at eb
 rw[eb]
 refine⟨by decide,λt ht=> ?_⟩
 have s1:=AV (o:=.tup [V.int 2,V.int 3,V.int 6]) ht
 have e1:upd H t (.tup [V.int 2,V.int 3,V.int 6]) t=some (.tup (AU [2,3,6])):=AM
 revert s1 e1
 generalize upd H t (.tup [V.int 2,V.int 3,V.int 6])=H1
 intro s1 e1
 refine zi1 e1 ⟨_,rfl,?_⟩
 by_cases h2:b∈[2,3,6]
 ·refine CJ (decide_eq_true h2) ?_
  push_cast[↓zez]
  exact go s1
 refine B7 (by simpa using h2) ?_
 push_cast[↓ze1]
 exact go s1
theorem zjz{t1 t2:Addr}{ps:List Nat}{p:Nat}{Q:VK}(h1:H t1=some (.tup (AU ps)))(h2:H t2=some (.tup [.int p]))(hl:ps.length<=100)(q:∀ t H',Same H H'->H' t=some (.tup (AU (ps++[p])))->Q (.ref t) H'):BT K (.ref t1) (.ref t2) H Q:=by
 rw[j3]
 by_cases h0:ps=[]
 ·subst h0
  exact .inr (.inr ⟨t1,t2,_,rfl,rfl,SqT.of h1,SqT.of h2,q _ _ (Same.refl _) h2⟩)
 ·refine .inr (.inl ⟨t1,t2,_,_,rfl,rfl,SqT.of h1,SqT.of h2,λz=>h0 (by simpa [AU]using z),small _ (by rw[CO];simp;omega),λz=>(by cases z),λ_ t ht=> ?_⟩)
  refine q t _ (AV ht) ?_
  rw[AM]
  simp[AU]
theorem zj0(h:UU K a vs H Q E):aQ K a (λ_=>E) (A0 Q) (A4 ["view","names","xs","records","pieces","r","p"] vs) H:=by
 obtain⟨A,vw,lf,zs,nl,xl,xs,n,r0,c0,rfl,I,C,N,X,⟨z1,z2,z3⟩,HY,n1,r1,c1,q1,q2⟩:=h
 have br:=I.ok.br
 have lost:∀ {H':Hp},Same H H'->HN K a [.ref A.v,.ref nl,.ref xl] H' Q E:=λs=>⟨A,vw,lf,zs,nl,xl,xs,n,r0,c0,rfl,I.same s,C,N.sb s.sb,X.sb s.sb,⟨z1,z2,z3⟩,HY,n1,r1,c1,λH'' sb=>q1 H'' (s.sb.trans sb),λt f vw' lf' H'' e1 e2 e3 e4 sb=>q2 t f vw' lf' H'' e1 e2 e3 e4 (s.sb.trans sb)⟩
 push_cast[aQ,↓zc7]
 refine I.at1 ⟨vw.rc.length,I.len1,by omega,by omega,KU (λr=> !(AD vw.rc r).isNone) (small _ (by omega)) (λk hk QB qb=> ?_) λrl EW=> ?_⟩
 ·push_cast[B3]
  refine I.ix1 hk λv hv=> ?_
  push_cast[]
  rw[PK hv]
  exact qb
 have s1:=AV (o:=.lst (((List.range vw.rc.length).filter λr=> !(AD vw.rc r).isNone).map λ(i:Nat)=>V.int i)) EW
 have er:upd H rl (.lst (((List.range vw.rc.length).filter λr=> !(AD vw.rc r).isNone).map λ(i:Nat)=>V.int i)) rl=some (.lst (AU ((List.range vw.rc.length).filter λr=> !(AD vw.rc r).isNone))):=AM
 revert s1 er
 generalize upd H rl (.lst (((List.range vw.rc.length).filter λr=> !(AD vw.rc r).isNone).map λ(i:Nat)=>V.int i))=H1
 intro s1 er
 have hRLb:((List.range vw.rc.length).filter λr=> !(AD vw.rc r).isNone).length<=vw.rc.length:=by
  have:=List.length_filter_le (λr=> !(AD vw.rc r).isNone) (List.range vw.rc.length)
  rwa [List.length_range]at this
 have hRLm:∀ {r:Nat},r∈((List.range vw.rc.length).filter λr=> !(AD vw.rc r).isNone)->∃ c,AD vw.rc r=some c:=λ{r} hr=>by
  have:=(FN hr).2
  cases e:AD vw.rc r with
  | none=>rw[e]at this;cases this
  | some c=>exact⟨c,rfl⟩
 have hRLi:∀ {r:Nat} {c:Int × List Nat},AD vw.rc r=some c->r∈((List.range vw.rc.length).filter λr=> !(AD vw.rc r).isNone):=λ{r c} h=>List.mem_filter.mpr ⟨List.mem_range.mpr (JF h),by rw[h];rfl⟩
 revert er hRLb hRLm hRLi
 generalize ((List.range vw.rc.length).filter λr=> !(AD vw.rc r).isNone)=RL
 intro er hRLb hRLm hRLi
 push_cast[↓zc8]
 refine⟨by decide,λpl CF=> ?_⟩
 have s2:=AV (o:=.lst []) CF
 have e2:upd H1 pl (.lst []) pl=some (.lst (AU [])):=AM
 revert s2 e2
 generalize upd H1 pl (.lst [])=H2
 intro s2 e2
 have B8:=s1.trans s2
 push_cast[↓zda]
 refine .inl ⟨⟨_,SqL.of (s2 _ _ er)⟩,KR (xs:=AU RL) (λi σ H'=>(∃ (pl:Addr) (ps:List Nat) (y5:Option V),(Same H1 H'/\H' pl=some (.lst (AU ps)))/\(∀ p∈ps,∃ r c,AD vw.rc r=some c/\p∈c.2)/\ps.length<=3 * i/\σ=[some (.ref A.v),some (.ref nl),some (.ref xl),some (.ref rl),some (.ref pl),y5,none])) ⟨pl,[],none,⟨s2,e2⟩,λp hp=>(by cases hp),Nat.le_refl _,rfl⟩ (λi σ H' _ ⟨_,_,_,⟨s,_⟩,_⟩=>SqL.of (s _ _ er)) (λi x σ H' hx ⟨pl,ps,y5,⟨s,e⟩,hps,hl,eσ⟩=> ?_) (λσ H' ⟨pl,ps,y5,⟨s,e⟩,hps,hl,eσ⟩=> ?_)⟩
 ·subst eσ
  obtain⟨r,hr,rfl⟩:=List.mem_map.mp (List.mem_of_getElem? hx)
  obtain⟨c,hc⟩:=hRLm hr
  have h3:=C.p3 r c hc
  have hi:=(List.getElem?_eq_some_iff.mp hx).1
  rw[CO]at hi
  push_cast[↓zc9]
  refine(I.same (s1.trans s)).ix1 (JF hc) λv hv=> ?_
  rw[hc]at hv
  obtain⟨p,t,rfl,hp,ht⟩:=hv
  refine BY hp (n:=1) rfl rfl ?_
  push_cast[]
  refine⟨_,.inr (SqT.of ht),λl hl'=> ?_⟩
  have s5:=AV (o:=.lst (AU c.2)) hl'
  refine PN (s5 _ _ e) AM (by rw[CO,CO];omega) λl6 H6 hl6 s6 e6=> ?_
  refine⟨(s.trans s5).trans s6,l6,ps++c.2,by rw[e6];simp[AU],λp hp=> ?_,by rw[List.length_append];omega,rfl⟩
  rcases List.mem_append.mp hp with h | h
  ·exact hps p h
  ·exact⟨r,c,hc,h⟩
 subst eσ
 have BH:=s1.trans s
 have ED:=s _ _ er
 push_cast[↓zdc]
 refine⟨by decide,λe0 EQ=> ?_⟩
 have s4:=AV (o:=.lst []) EQ
 refine MD (s4 _ _ e) AM ⟨_,rfl,?_⟩
 have CT:=BH.trans s4
 have HD:=s4 _ _ ED
 have e4:=s4 _ _ e
 revert CT HD e4
 generalize upd H' e0 (.lst [])=H4
 intro CT HD e4
 by_cases hf:ps=[]
 ·refine CJ (by simp[hf]) ?_
  push_cast[↓zdb]
  exact lost CT
 refine B7 (by simp[hf]) ?_
 have I4:=I.same CT
 have X4:=X.sb CT.sb
 have f1:=ND hf
 push_cast[↓zdd]
 refine X4.at (k:=1) (by omega) λy1 _ _=>⟨ps.length,.inl ⟨_,SqL.of e4,by rw[CO]⟩,?_⟩
 push_cast[]
 refine⟨by omega,HA e4 hf λp hp=> ?_⟩
 obtain⟨rp,cp,hcp,KD⟩:=hps p hp
 have CF:p<vw.pc.length:=(I.ok.n2 cp (J5 hcp)).1 p KD
 have hg:RL≠[]:=λz=>by
  have:=hRLi hcp
  rw[z]at this;cases this
 have g1:=ND hg
 push_cast[↓zdh]
 refine X4.at (k:=0) (by omega) λy0 _ _=> ?_
 push_cast[]
 by_cases h2:y0 % 7=2
 ·refine CJ h2 ?_
  push_cast[↓zde]
  refine X4.at (k:=2) (by omega) λy2 _ _=>⟨RL.length,.inl ⟨_,SqL.of HD,by rw[CO]⟩,?_⟩
  push_cast[]
  refine⟨by omega,HA HD hg λr hr=> ?_⟩
  obtain⟨c,hc⟩:=hRLm hr
  have EW:=JF hc
  have h3:=C.p3 r c hc
  push_cast[↓zdf]
  refine I4.ix1 EW λv hv=> ?_
  rw[hc]at hv
  obtain⟨p1,t1,rfl,EX,ht1⟩:=hv
  refine BY EX (n:=0) rfl rfl ?_
  push_cast[]
  refine I4.ix1 EW λv2 G1=> ?_
  rw[hc]at G1
  obtain⟨p2,t2,rfl,JI,ht2⟩:=G1
  refine BY JI (n:=1) rfl rfl ⟨by decide,λtp htp=> ?_⟩
  have s5:=AV (o:=.tup [V.int ↑p]) htp
  refine zjz (s5 _ _ ht2) AM (by omega) λt6 H6 s6 e6=>⟨by decide,λnp hnp=> ?_⟩
  have NP:=s5.trans s6
  obtain⟨H7,zz0,s7,e7⟩:=DA (o:=.tup [V.int c.1,V.ref t6]) hnp
  rw[zz0]
  have s07:=(CT.trans NP).trans s7
  have I7:=I.same s07
  refine I7.at1 (I7.set1 (cc:=some (c.1,c.2++[p])) EW ⟨np,t6,rfl,e7,s7 _ _ e6⟩ (λc' h=>by cases h;exact⟨λp' hp'=>(List.mem_append.mp hp').elim ((I.ok.n2 c (J5 hc)).1 p') λz=>by rw[List.mem_singleton.mp z];exact CF,by simp;omega⟩) λH8 I8 sb8 tk8=> ?_)
  push_cast[↓zdg]
  refine⟨by decide,λt ht=> ?_⟩
  have s9:=AV (o:=.tup [V.str (Str.ofString "shared"),V.int ↑p]) ht
  exact q2 t _ _ lf _ AM (I8.same s9) (C.shared hcp KD hc CF) ⟨z1,by simp only[List.length_set];exact z2,z3⟩ ((s07.sb.trans sb8).trans s9.sb)
 refine B7 h2 ?_
 push_cast[↓zdk]
 refine X4.at (k:=0) (by omega) λy0' _ _=> ?_
 push_cast[]
 by_cases h3:y0' % 7=3
 ·refine CJ h3 ?_
  push_cast[↓zdi]
  refine I4.at2 (I4.set2 (cc:=none) CF rfl (λc h=>by cases h) λH5 I5 FR tk5=> ?_)
  push_cast[↓zdj]
  refine⟨by decide,λt ht=> ?_⟩
  have s9:=AV (o:=.tup [V.str (Str.ofString "empty"),V.int ↑p]) ht
  exact q2 t _ _ lf _ AM (I5.same s9) (C.empty hcp KD CF) ⟨z1,z2,by simp only[List.length_set];exact z3⟩ ((CT.sb.trans FR).trans s9.sb)
 refine B7 h3 ?_
 push_cast[↓zdl]
 refine⟨by decide,λkl GE=> ?_⟩
 obtain⟨H5,zz0,s5,e5⟩:=DA (o:=.lst [V.int 0,V.non]) GE
 rw[zz0]
 refine(X4.sb s5.sb).at (k:=2) (by omega) λy2 _ _=> ?_
 push_cast[]
 obtain⟨b,eb,hb⟩:=JZ y2 (n:=2) (by omega)
 rw[show((2:Nat):Int)=2 from rfl]at eb
 rw[eb]
 obtain⟨v,x,ev,hv,hx⟩:∃ (v:V) (x:Option Int),[V.int 0,V.non][b]? =some v/\MkV H5 v x/\x≠some 1:=by
  rcases(by omega:b=0\/b=1)with rfl | rfl
  ·exact⟨_,some 0,rfl,rfl,by decide⟩
  ·exact⟨_,none,rfl,rfl,by decide⟩
 refine B0 (SqL.of e5) (n:=b) rfl ev ?_
 have I5:=I4.same s5
 refine I5.at4 (I5.set4 (cc:=x) CF hv (λ_ _=>trivial) λH6 I6 sb6 tk6=> ?_)
 push_cast[↓zdm]
 refine⟨by decide,λt ht=> ?_⟩
 have s9:=AV (o:=.tup [V.str (Str.ofString "free"),V.str (Str.ofString "piece"),V.int ↑p]) ht
 exact q2 t _ _ lf _ AM (I6.same s9) (C.freeP hcp KD CF (by rw[I.ok.l2];exact CF) hx) ⟨z1,z2,z3⟩ (((CT.trans s5).sb.trans sb6).trans s9.sb)
theorem LWAt.fresh{A:LW}{vw:Vw}{lf:List Nat}{x:Addr}(I:LWAt H A vw lf)(h:H x=none):x∉A.L/\x≠A.v:=by
 refine⟨λhm=> ?_,λe=>by rw[e,I.ob]at h;cases h⟩
 simp[LW.L]at hm
 obtain⟨_,k0,_⟩:=I.n
 obtain⟨_,k1,_⟩:=I.r
 obtain⟨_,k2,_⟩:=I.p
 obtain⟨_,k3,_⟩:=I.rm
 obtain⟨_,k4,_⟩:=I.pm
 have k5:=I.l
 rcases hm with rfl | rfl | rfl | rfl | rfl | rfl
 ·rw[h]at k0;cases k0
 ·rw[h]at k1;cases k1
 ·rw[h]at k2;cases k2
 ·rw[h]at k3;cases k3
 ·rw[h]at k4;cases k4
 ·rw[h]at k5;cases k5
theorem FindsL.on{H':Hp}{l:Addr}{fs:List (List V)}(h:FindsL H l fs)(hl:∀ o,H l=some o->H' l=some o)(tk:CZ H H'):FindsL H' l fs:=by
 obtain⟨ps,e,P⟩:=h
 exact⟨ps,hl _ e,Paired.mapP P λp f e=>tk _ _ e⟩
theorem zj1(ns:List Int)(lo hi:Option Int):∃ ms:List Int,GI (ns.map V.int) lo hi=ms.map V.int/\ms.length<=ns.length:=by
 refine⟨(ns.drop (HT.sIx ns.length 0 lo)).take (HT.sIx ns.length ns.length hi - HT.sIx ns.length 0 lo),?_,?_⟩
 ·unfold GI
  rw[List.length_map,<-List.map_drop,<-List.map_take]
 ·rw[List.length_take,List.length_drop]
  omega
theorem yB(vw:Vw):JU vw=(FX vw).map (kU vw):=by
 unfold JU OS OT OU FX DO
 simp only[List.map_append,List.map_map]
 rfl
theorem cF{α :Type}{f:Nat->Option α}{n k:Nat}:AD ((List.range n).map f) k=if k<n then f k else none:=by
 unfold AD
 by_cases h:k<n
 ·rw[if_pos h,List.getElem?_map,List.getElem?_range h]
  rfl
 ·rw[if_neg h,List.getElem?_eq_none (by simp;omega)]
  rfl
theorem VM{α :Type}{l:List (Option α)}{k:Nat}(h:¬ k<l.length):AD l k=none:=by
 unfold AD
 rw[List.getElem?_eq_none (by omega)]
 rfl
section
variable{vw:Vw}
theorem HB(r:Nat):AD (mended vw).rc r=C5 vw r:=by
 show AD ((List.range vw.rc.length).map (C5 vw)) r=_
 rw[cF]
 split
 ·rfl
 ·rename_i h
  unfold C5
  rw[VM h]
theorem P7(ok:E5 vw)(r:Nat):AD (mended vw).rm r=D1 vw r:=by
 show AD ((List.range vw.rc.length).map (D1 vw)) r=_
 rw[cF]
 split
 ·rfl
 ·rename_i h
  have h2:AD vw.rm r=none:=VM (by rw[ok.l1];exact h)
  unfold D1
  rw[VM h,h2]
  simp
theorem P8(ok:E5 vw)(p:Nat):AD (mended vw).pm p=FL vw p:=by
 show AD ((List.range vw.pc.length).map (FL vw)) p=_
 rw[cF]
 split
 ·rfl
 ·rename_i h
  have h2:AD vw.pm p=none:=VM (by rw[ok.l2];exact h)
  unfold FL
  rw[h2]
  simp
theorem zj2{k:Nat}{c:Str × Nat}(h:AD vw.nm k=some c):0<led vw c.2:=by
 unfold led CN
 rw[List.count_pos_iff,List.mem_filterMap]
 exact⟨some c,J5 h,rfl⟩
theorem yC(r:Nat):led (mended vw) r=led vw r:=rfl
theorem NE{r:Nat}{d:Int × List Nat}(h:C5 vw r=some d):∃ c,AD vw.rc r=some c/\0<led vw r/\d=((led vw r:Int),c.2):=by
 unfold C5 at h
 cases e:AD vw.rc r with
 | none=>rw[e]at h;cases h
 | some c =>
  rw[e]at h
  by_cases h0:led vw r=0
  ·simp only[h0,if_true]at h;cases h
  ·simp only[h0,if_false,Option.some.injEq]at h
   exact⟨c,rfl,by omega,h.symm⟩
theorem NF{r:Nat}{c:Int × List Nat}(h:AD vw.rc r=some c)(hl:0<led vw r):C5 vw r=some ((led vw r:Int),c.2):=by
 unfold C5
 rw[h]
 simp only
 rw[if_neg (by omega)]
theorem yD{p:Nat}:RK (mended vw) p↔RK vw p:=by
 constructor
 ·intro h r c hl hc hm
  exact h r ((led vw r:Int),c.2) hl (by rw[HB];exact NF hc hl) hm
 ·intro h r d hl hd hm
  rw[HB]at hd
  obtain⟨c,hc,h0,rfl⟩:=NE hd
  exact h r c h0 hc hm
theorem yE{p:Nat}:FW (mended vw) p=0↔FW vw p=0:=by rw[<-PQ,<-PQ,yD]
theorem R6(ok:E5 vw):E5 (mended vw):=by
 refine⟨λc h=> ?_,λc h=> ?_,ok.n3,?_,?_,ok.bn,?_,ok.bp⟩
 ·show c.2<((List.range vw.rc.length).map (C5 vw)).length/\_
  simp only[List.length_map,List.length_range]
  exact ok.n1 c h
 ·have h:some c∈(List.range vw.rc.length).map (C5 vw):=h
  obtain⟨r,_,hr⟩:=List.mem_map.mp h
  obtain⟨d,hd,_,rfl⟩:=NE hr
  exact ok.n2 d (J5 hd)
 ·show((List.range vw.rc.length).map (D1 vw)).length=((List.range vw.rc.length).map (C5 vw)).length
  simp
 ·show((List.range vw.pc.length).map (FL vw)).length=vw.pc.length
  simp
 ·show((List.range vw.rc.length).map (C5 vw)).length<=100
  simp only[List.length_map,List.length_range]
  exact ok.br
theorem Clean.mended{lf:List Nat}{zs:List Str}(C:Clean vw lf zs)(ok:E5 vw):Clean (mended vw) [] zs:=by
 have rcs:∀ {r:Nat} {d:Int × List Nat},AD (L2.mended vw).rc r=some d->∃ c,AD vw.rc r=some c/\0<led vw r/\d=((led vw r:Int),c.2):=λh=>NE (by rw[<-HB];exact h)
 refine⟨C.nm,C.ds,λk c h=> ?_,λr d h=> ?_,λr d h=> ?_,λr r' d d' ne h h' p hp hp'=> ?_,λr d h p hp=> ?_,λr hl=> ?_,List.nodup_nil,λp=>⟨λh=>(by cases h),λ⟨h1,h2⟩=> ?_⟩,λr d h=> ?_⟩
 ·have h:AD vw.nm k=some c:=h
  obtain⟨z,hz⟩:=Option.isSome_iff_exists.mp (C.ls k c h)
  rw[HB,NF hz (zj2 h)]
  rfl
 ·obtain⟨c,_,_,rfl⟩:=rcs h
  exact Int.le_refl _
 ·obtain⟨c,hc,_,rfl⟩:=rcs h
  exact C.s1 r c hc
 ·obtain⟨c,hc,_,rfl⟩:=rcs h
  obtain⟨c',hc',_,rfl⟩:=rcs h'
  exact C.s2 r r' c c' ne hc hc' p hp hp'
 ·obtain⟨c,hc,hl,rfl⟩:=rcs h
  have:=C.em r c hc p hp
  refine⟨this.1,?_⟩
  rw[P8 ok]
  unfold FL
  rw[if_neg,this.2]
  intro⟨_,h0⟩
  exact PQ.mpr h0 r c hl hc hp
 ·have hl:0<led vw r:=hl
  obtain⟨k,d,hk,hd⟩:=R4 hl
  have hrs:=C.ls k d hk
  rw[hd]at hrs
  obtain⟨c,hc⟩:=Option.isSome_iff_exists.mp hrs
  rw[P7 ok]
  unfold D1
  rw[hc]
  simp only
  rw[if_neg (by omega)]
  exact C.fr r hl
 ·rw[P8 ok]at h1
  rw[yD,PQ]at h2
  unfold FL at h1
  by_cases h3:AD vw.pm p=some 1/\FW vw p=0
  ·rw[if_pos h3]at h1;cases h1
  ·rw[if_neg h3]at h1
   exact absurd ⟨h1,h2⟩ h3
 ·obtain⟨c,hc,_,rfl⟩:=rcs h
  exact C.p3 r c hc
theorem yF{lf:List Nat}{zs:List Str}(C:Clean vw lf zs)(ok:E5 vw):JU (mended vw)=[]:=by
 have rcs:∀ {r:Nat} {d:Int × List Nat},AD (L2.mended vw).rc r=some d->∃ c,AD vw.rc r=some c/\0<led vw r/\d=((led vw r:Int),c.2):=λh=>NE (by rw[<-HB];exact h)
 unfold JU OS OT OU
 rw[JG,JG,JG,JG]
 ·rfl
 ·intro r _
  rw[P7 ok,HB]
  cases e:AD vw.rc r with
  | none =>
   by_cases h1:AD vw.rm r=some 1
   ·have:D1 vw r=some 0:=by unfold D1;rw[e];simp only;rw[if_pos h1]
    rw[this];rfl
   ·have:D1 vw r=AD vw.rm r:=by unfold D1;rw[e];simp only;rw[if_neg h1]
    rw[this];simp[h1]
  | some c =>
   by_cases h0:led vw r=0
   ·have:D1 vw r=some 0:=by unfold D1;rw[e];simp only;rw[if_pos h0]
    rw[this];rfl
   ·rw[NF e (by omega)]
    simp
 ·intro p _
  rw[P8 ok]
  by_cases h3:AD vw.pm p=some 1/\FW vw p=0
  ·have:FL vw p=some 0:=if_pos h3
   rw[this];rfl
  ·have:FL vw p=AD vw.pm p:=if_neg h3
   rw[this]
   by_cases h1:AD vw.pm p=some 1
   ·have:¬ FW (mended vw) p=0:=λz=>h3 ⟨h1,yE.mp z⟩
    simp[this]
   ·simp[h1]
 ·intro r _
  rw[HB]
  cases e:C5 vw r with
  | none=>rfl
  | some d =>
   obtain⟨c,_,h,_⟩:=NE e
   rw[yC]
   simp
   omega
 ·intro r _
  unfold GW
  cases e:AD (mended vw).rc r with
  | none=>rfl
  | some d =>
   obtain⟨c,_,h,rfl⟩:=rcs e
   simp only[yC]
   simp
theorem zj3{lf:List Nat}{zs:List Str}(C:Clean vw lf zs)(ok:E5 vw):mended (mended vw)=mended vw:=by
 have ok2:=R6 ok
 have hl:=yF C ok
 have e1:∀ r,C5 (mended vw) r=C5 vw r:=λr=>by
  cases e:C5 vw r with
  | none =>
   unfold C5
   rw[HB,e]
  | some d =>
   obtain⟨c,hc,h,rfl⟩:=NE e
   rw[NF (vw:=mended vw) (c:=((led vw r:Int),c.2)) (by rw[HB];exact e) h]
   rfl
 have e2:∀ r,D1 (mended vw) r=D1 vw r:=λr=>by
  have key:D1 (mended vw) r=(match C5 vw r with
   | none=>if D1 vw r=some 1 then some 0 else D1 vw r
   | some _=>if led vw r=0 then some 0 else D1 vw r):=by
   unfold D1
   rw[HB,P7 ok]
   rfl
  rw[key]
  cases e:C5 vw r with
  | none =>
   simp only
   rw[if_neg]
   intro z
   cases er:AD vw.rc r with
   | none =>
    unfold D1 at z
    rw[er]at z
    simp only at z
    split at z
    ·cases z
    ·rename_i h;exact h z
   | some c =>
    by_cases h0:led vw r=0
    ·unfold D1 at z
     rw[er]at z
     simp only[h0,if_true]at z
     cases z
    ·rw[NF er (by omega)]at e;cases e
  | some d =>
   obtain⟨c,hc,h,rfl⟩:=NE e
   simp only
   rw[if_neg (by omega)]
 have e3:∀ p,FL (mended vw) p=FL vw p:=λp=>by
  have key:FL (mended vw) p=if FL vw p=some 1/\FW (mended vw) p=0 then some 0 else FL vw p:=by
   show(if AD (mended vw).pm p=some 1/\FW (mended vw) p=0 then some 0 else AD (mended vw).pm p)=_
   rw[P8 ok]
  rw[key,if_neg]
  intro⟨z1,z2⟩
  rw[yE]at z2
  unfold FL at z1
  by_cases h3:AD vw.pm p=some 1/\FW vw p=0
  ·rw[if_pos h3]at z1;cases z1
  ·rw[if_neg h3]at z1
   exact h3 ⟨z1,z2⟩
 have l1:(mended vw).rc.length=vw.rc.length:=by
  show((List.range vw.rc.length).map (C5 vw)).length=_
  simp
 show Vw.mk (mended vw).nm ((List.range (mended vw).rc.length).map (C5 (mended vw))) (mended vw).pc ((List.range (mended vw).rc.length).map (D1 (mended vw))) ((List.range (mended vw).pc.length).map (FL (mended vw)))=_
 rw[l1,show C5 (mended vw)=C5 vw from funext e1,show D1 (mended vw)=D1 vw from funext e2,show FL (mended vw)=FL vw from funext e3]
 rfl
end
theorem P9{α β γ :Type}{F: α -> β ->Prop}{G: α -> γ ->Prop}{f: β -> γ}:∀ {l:List α} {m:List β},Paired F l m->(∀ x y,F x y->G x (f y))->Paired G l (m.map f)
 | _,_,.nil,_=>.nil
 | _,_,.cons h t,k=>.cons (k _ _ h) (P9 t k)
theorem QC{α β γ :Type}{F: α -> β ->Prop}{G: α -> γ ->Prop}{f: β -> γ}(k:∀ x y,G x (f y)->F x y):∀ {l:List α} {m:List β},Paired G l (m.map f)->Paired F l m
 | _,[],h=>by cases h;exact .nil
 | _,y::m,h=>by
  cases h with
  | cons h t=>exact .cons (k _ _ h) (QC k t)
theorem R7{α β :Type}{F: α -> β ->Prop}:∀ {bs:List β} {l:List α} {ds:List β},Paired F l (bs++ds)->∃ x y,l=x++y/\Paired F x bs/\Paired F y ds
 | [],l,ds,h=>⟨[],l,rfl,.nil,h⟩
 | b::bs,l,ds,h=>by
  cases h with
  | cons h t =>
   obtain⟨x,y,rfl,p1,p2⟩:=R7 t
   exact⟨_::x,y,rfl,.cons h p1,p2⟩
theorem PlV.asC{rows:List (List V)}{n r c w:Nat}{vw:Vw}(h:PlV H rows n r c w vw):Paired (CelV H) rows.flatten (E6 vw):=by
 obtain⟨v1,v2,v3,v4,v5,ef,P1,P2,P3,P4,P5⟩:=h.vs
 rw[ef]
 exact M9 (M9 (M9 (M9 (P9 P1 λ_ _ h=>h) (P9 P2 λ_ _ h=>h)) (P9 P3 λ_ _ h=>h)) (P9 P4 λ_ _ h=>h)) (P9 P5 λ_ _ h=>h)
theorem PlV.of{rows:List (List V)}{n r c w:Nat}{vw:Vw}(P:Paired (CelV H) rows.flatten (E6 vw))(z1:vw.nm.length=n * w)(z2:vw.rc.length=r * w)(z3:vw.pc.length=c * w)(ok:E5 vw):PlV H rows n r c w vw:=by
 obtain⟨x4,v5,e5,P,P5⟩:=R7 P
 obtain⟨x3,v4,e4,P,P4⟩:=R7 P
 obtain⟨x2,v3,e3,P,P3⟩:=R7 P
 obtain⟨v1,v2,e2,P1,P2⟩:=R7 P
 exact⟨⟨v1,v2,v3,v4,v5,by rw[e5,e4,e3,e2],QC (G:=CelV H) (f:=Cel.nm) (λ_ _ h=>h) P1,QC (G:=CelV H) (f:=Cel.rc) (λ_ _ h=>h) P2,QC (G:=CelV H) (f:=Cel.pc) (λ_ _ h=>h) P3,QC (G:=CelV H) (f:=Cel.mk) (λ_ _ h=>h) P4,QC (G:=CelV H) (f:=Cel.mk) (λ_ _ h=>h) P5⟩,z1,z2,z3,ok⟩
theorem CelV.keep{H':Hp}(tk:CZ H H'){v:V}:∀ {c:Cel},CelV H v c->CelV H' v c
 | .nm _,h=>NmV.keep tk h
 | .rc _,h=>RcV.keep tk h
 | .pc _,h=>PcV.keep tk h
 | .mk _,h=>MkV.keep tk h
theorem R8{α :Type}{l:List (Option α)}{k:Nat}(h:k<l.length):l[k]? =some (AD l k):=by
 unfold AD
 rw[List.getElem?_eq_getElem h]
 rfl
def J7(vw:Vw)(N R P f:Nat):Cel:=if f<N then .nm (AD vw.nm f)else if f<N+R then .rc (AD vw.rc (f - N))else if f<N+R+P then .pc (AD vw.pc (f - N - R))else if f<N+R+P+R then .mk (AD vw.rm (f - N - R - P))else .mk (AD vw.pm (f - N - R - P - R))
theorem zj4(vw:Vw)(ok:E5 vw):(E6 vw).length=vw.nm.length+vw.rc.length+vw.pc.length+vw.rc.length+vw.pc.length:=by
 unfold E6
 simp only[List.length_append,List.length_map,ok.l1,ok.l2]
theorem VN{vw:Vw}(ok:E5 vw){N R P f:Nat}(h1:vw.nm.length=N)(h2:vw.rc.length=R)(h3:vw.pc.length=P)(hf:f<N+R+P+R+P):(E6 vw)[f]? =some (J7 vw N R P f):=by
 have l1:=ok.l1
 have l2:=ok.l2
 unfold E6 J7
 by_cases a1:f<N
 ·rw[if_pos a1,List.getElem?_append_left (by simp;omega),List.getElem?_append_left (by simp;omega),List.getElem?_append_left (by simp;omega),List.getElem?_append_left (by simp;omega),List.getElem?_map,R8 (by omega)]
  rfl
 rw[if_neg a1]
 by_cases a2:f<N+R
 ·rw[if_pos a2,List.getElem?_append_left (by simp;omega),List.getElem?_append_left (by simp;omega),List.getElem?_append_left (by simp;omega),List.getElem?_append_right (by simp;omega),List.getElem?_map,List.length_map,h1,R8 (by omega)]
  rfl
 rw[if_neg a2]
 by_cases a3:f<N+R+P
 ·rw[if_pos a3,List.getElem?_append_left (by simp;omega),List.getElem?_append_left (by simp;omega),List.getElem?_append_right (by simp;omega),List.getElem?_map,List.length_append,List.length_map,List.length_map,h1,h2,Nat.sub_add_eq,R8 (by omega)]
  rfl
 rw[if_neg a3]
 by_cases a4:f<N+R+P+R
 ·rw[if_pos a4,List.getElem?_append_left (by simp;omega),List.getElem?_append_right (by simp;omega),List.getElem?_map]
  simp only[List.length_append,List.length_map,h1,h2,h3,Nat.sub_add_eq]
  rw[R8 (by omega)]
  rfl
 rw[if_neg a4,List.getElem?_append_right (by simp;omega),List.getElem?_map]
 simp only[List.length_append,List.length_map,h1,h2,h3,l1,Nat.sub_add_eq]
 rw[R8 (by omega)]
 rfl
theorem zj5{n:Nat}{p:Nat->Bool}{f:Nat->List V}(h:DO n p f=[]){k:Nat}(hk:k<n):p k=false:=by
 unfold DO at h
 have:=List.filter_eq_nil_iff.mp (List.map_eq_nil_iff.mp h) k (List.mem_range.mpr hk)
 simpa using this
theorem zj6{vw:Vw}(h:faults vw=[]){r:Nat}(hr:r<vw.rc.length):IP vw r=false:=by
 unfold faults MW at h
 have h1:=(List.append_eq_nil_iff.mp (List.append_eq_nil_iff.mp h).1).2
 exact zj5 (List.append_eq_nil_iff.mp h1).2 hr
theorem yG{vw:Vw}{lv:Lv}(h:lv∈FX vw):(∃ r,lv=.many r/\r<vw.rc.length/\GW vw r=true)\/(∃ r,lv=.leftR r/\r<vw.rc.length/\(AD vw.rc r).isSome=true/\led vw r=0)\/(∃ p,lv=.leftP p/\p<vw.pc.length/\AD vw.pm p=some 1/\FW vw p=0)\/∃ r,lv=.marked r/\r<vw.rc.length/\AD vw.rm r=some 1/\AD vw.rc r=none:=by
 unfold FX at h
 simp only[List.mem_append,List.mem_map,List.mem_filter,List.mem_range,Bool.and_eq_true,decide_eq_true_eq]at h
 rcases h with((⟨r,h,rfl⟩ | ⟨r,h,rfl⟩) | ⟨p,h,rfl⟩) | ⟨r,h,rfl⟩
 ·exact .inl ⟨r,rfl,h.1,h.2⟩
 ·exact .inr (.inl ⟨r,rfl,h.1,h.2.1,h.2.2⟩)
 ·exact .inr (.inr (.inl ⟨p,rfl,h.1,h.2.1,h.2.2⟩))
 ·exact .inr (.inr (.inr ⟨r,rfl,h.1,h.2.1,Option.isNone_iff_eq_none.mp h.2.2⟩))
section
variable{vw:Vw}{n r c w:Nat}
theorem zj7(ok:E5 vw)(z1:vw.nm.length=n * w)(z2:vw.rc.length=r * w)(z3:vw.pc.length=c * w){lv:Lv}(h:lv∈FX vw){fx:Nat × Cel}(hx:fx∈FY vw n r c w lv):(E6 (mended vw))[fx.1]? =some fx.2:=by
 have ok2:=R6 ok
 have g1:(mended vw).nm.length=n * w:=z1
 have g2:(mended vw).rc.length=r * w:=by
  show((List.range vw.rc.length).map (C5 vw)).length=_
  simp[z2]
 have g3:(mended vw).pc.length=c * w:=z3
 have get:∀ f,f<n * w+r * w+c * w+r * w+c * w->(E6 (mended vw))[f]? =some (J7 (mended vw) (n * w) (r * w) (c * w) f):=λf hf=>VN ok2 g1 g2 g3 hf
 rcases yG h with⟨k,rfl,hk,hm⟩ | ⟨k,rfl,hk,hs,hl⟩ | ⟨k,rfl,hk,h1,h2⟩ | ⟨k,rfl,hk,h1,h2⟩
 ·simp only[FY,List.mem_singleton]at hx
  subst hx
  rw[get _ (by simp only;omega)]
  unfold J7
  rw[if_neg (by simp only;omega),if_pos (by simp only;omega),HB,show n * w+k - n * w=k by omega]
 ·obtain⟨d,hd⟩:=Option.isSome_iff_exists.mp hs
  simp only[FY,List.mem_cons,List.not_mem_nil,or_false]at hx
  rcases hx with rfl | rfl
  ·rw[get _ (by simp only;omega)]
   unfold J7
   rw[if_neg (by simp only;omega),if_pos (by simp only;omega),HB,show n * w+k - n * w=k by omega]
   unfold C5
   rw[hd]
   simp[hl]
  ·have e:(n+r+c) * w=n * w+r * w+c * w:=by simp only[Nat.add_mul]
   rw[get _ (by simp only;omega)]
   unfold J7
   rw[if_neg (by simp only;omega),if_neg (by simp only;omega),if_neg (by simp only;omega),if_pos (by simp only;omega),P7 ok]
   simp only[e,show n * w+r * w+c * w+k - n * w - r * w - c * w=k by omega]
   unfold D1
   rw[hd]
   simp[hl]
 ·have e:(n+r+c+r) * w=n * w+r * w+c * w+r * w:=by simp only[Nat.add_mul]
  simp only[FY,List.mem_singleton]at hx
  subst hx
  rw[get _ (by simp only;omega)]
  unfold J7
  rw[if_neg (by simp only;omega),if_neg (by simp only;omega),if_neg (by simp only;omega),if_neg (by simp only;omega),P8 ok]
  simp only[e,show n * w+r * w+c * w+r * w+k - n * w - r * w - c * w - r * w=k by omega]
  unfold FL
  rw[if_pos ⟨h1,h2⟩]
 ·have e:(n+r+c) * w=n * w+r * w+c * w:=by simp only[Nat.add_mul]
  simp only[FY,List.mem_singleton]at hx
  subst hx
  rw[get _ (by simp only;omega)]
  unfold J7
  rw[if_neg (by simp only;omega),if_neg (by simp only;omega),if_neg (by simp only;omega),if_pos (by simp only;omega),P7 ok]
  simp only[e,show n * w+r * w+c * w+k - n * w - r * w - c * w=k by omega]
  unfold D1
  rw[h2]
  simp[h1]
theorem zj8(ok:E5 vw)(z1:vw.nm.length=n * w)(z2:vw.rc.length=r * w)(z3:vw.pc.length=c * w)(hf0:faults vw=[]){f:Nat}(hf:f<n * w+r * w+c * w+r * w+c * w)(hno:∀ lv∈FX vw,∀ fx∈FY vw n r c w lv,fx.1≠f):(E6 (mended vw))[f]? =(E6 vw)[f]? :=by
 have ok2:=R6 ok
 have g1:(mended vw).nm.length=n * w:=z1
 have g2:(mended vw).rc.length=r * w:=by
  show((List.range vw.rc.length).map (C5 vw)).length=_
  simp[z2]
 have g3:(mended vw).pc.length=c * w:=z3
 have e1:(n+r+c) * w=n * w+r * w+c * w:=by simp only[Nat.add_mul]
 have e2:(n+r+c+r) * w=n * w+r * w+c * w+r * w:=by simp only[Nat.add_mul]
 rw[VN ok2 g1 g2 g3 hf,VN ok z1 z2 z3 hf]
 have inL:∀ {lv:Lv},(lv∈FX vw)->∀ fx∈FY vw n r c w lv,fx.1≠f:=λh=>hno _ h
 unfold J7
 by_cases a1:f<n * w
 ·rw[if_pos a1,if_pos a1]
  rfl
 rw[if_neg a1,if_neg a1]
 by_cases a2:f<n * w+r * w
 ·rw[if_pos a2,if_pos a2,HB]
  generalize hk:f - n * w=k
  have hk':k<vw.rc.length:=by omega
  congr 2
  cases e:AD vw.rc k with
  | none=>unfold C5;rw[e]
  | some d =>
   have h0:0<led vw k:=by
    rcases Nat.eq_zero_or_pos (led vw k)with z | z
    ·refine absurd (by omega) (inL (lv:=.leftR k) ?_ (n * w+k,.rc none) (by simp[FY]))
     unfold FX
     simp only[List.mem_append,List.mem_map,List.mem_filter,List.mem_range,Bool.and_eq_true,decide_eq_true_eq]
     exact .inl (.inl (.inr ⟨k,⟨hk',by rw[e];rfl,z⟩,rfl⟩))
    ·exact z
   have h1:¬ ((led vw k:Int)<d.1):=λz=>by
    refine absurd (by omega) (inL (lv:=.many k) ?_ (n * w+k,.rc (C5 vw k)) (by simp[FY]))
    unfold FX
    simp only[List.mem_append,List.mem_map,List.mem_filter,List.mem_range,Bool.and_eq_true,decide_eq_true_eq]
    refine .inl (.inl (.inl ⟨k,⟨hk',?_⟩,rfl⟩))
    unfold GW
    rw[e]
    simp[h0,z]
   have h2:=zj6 hf0 hk'
   unfold IP at h2
   rw[e]at h2
   simp only[decide_eq_false_iff_not]at h2
   rw[NF e h0]
   have:d.1=(led vw k:Int):=by omega
   rw[<-this]
 rw[if_neg a2,if_neg a2]
 by_cases a3:f<n * w+r * w+c * w
 ·rw[if_pos a3,if_pos a3]
  rfl
 rw[if_neg a3,if_neg a3]
 by_cases a4:f<n * w+r * w+c * w+r * w
 ·rw[if_pos a4,if_pos a4,P7 ok]
  generalize hk:f - n * w - r * w - c * w=k
  have hk':k<vw.rc.length:=by omega
  congr 2
  cases e:AD vw.rc k with
  | none =>
   unfold D1
   rw[e]
   simp only
   rw[if_neg]
   intro z
   refine absurd (by simp only;omega) (inL (lv:=.marked k) ?_ ((n+r+c) * w+k,.mk (some 0)) (by simp[FY]))
   unfold FX
   simp only[List.mem_append,List.mem_map,List.mem_filter,List.mem_range,Bool.and_eq_true,decide_eq_true_eq]
   exact .inr ⟨k,⟨hk',z,by rw[e];rfl⟩,rfl⟩
  | some d =>
   unfold D1
   rw[e]
   simp only
   rw[if_neg]
   intro z
   refine absurd (by simp only;omega) (inL (lv:=.leftR k) ?_ ((n+r+c) * w+k,.mk (some 0)) (by simp[FY]))
   unfold FX
   simp only[List.mem_append,List.mem_map,List.mem_filter,List.mem_range,Bool.and_eq_true,decide_eq_true_eq]
   exact .inl (.inl (.inr ⟨k,⟨hk',by rw[e];rfl,z⟩,rfl⟩))
 rw[if_neg a4,if_neg a4,P8 ok]
 generalize hk:f - n * w - r * w - c * w - r * w=k
 have hk':k<vw.pc.length:=by omega
 congr 2
 unfold FL
 rw[if_neg]
 intro⟨z1',z2'⟩
 refine absurd (by simp only;omega) (inL (lv:=.leftP k) ?_ ((n+r+c+r) * w+k,.mk (some 0)) (by simp[FY]))
 unfold FX
 simp only[List.mem_append,List.mem_map,List.mem_filter,List.mem_range,Bool.and_eq_true,decide_eq_true_eq]
 exact .inl (.inr ⟨k,⟨hk',z1',z2'⟩,rfl⟩)
end
def EU:Cel->PyData
 | .nm none=>.none
 | .nm (some c)=>.tuple [.str c.1,.int c.2]
 | .rc none=>.none
 | .rc (some c)=>.tuple [.int c.1,.tuple (c.2.map λ(k:Nat)=>PyData.int k)]
 | .pc none=>.none
 | .pc (some s)=>.str s
 | .mk none=>.none
 | .mk (some i)=>.int i
theorem zj9(l:List Nat):∀ {n:Nat},Paired (Dat K H n) (AU l) (l.map λ(k:Nat)=>PyData.int k):=by
 intro n
 unfold AU
 induction l with
 | nil=>exact .nil
 | cons x r ih=>exact .cons (.int _) ih
theorem CelV.dat{v:V}:∀ {c:Cel},CelV H v c->c.ok->Dat K H 2 v (EU c)
 | .nm none,h,_=>by cases (show v=.non from h);exact Dat.non
 | .nm (some c),h,o=>by
  obtain⟨p,rfl,e⟩:=(show ∃ p,v=.ref p/\H p=some (.tup [.str c.1,.int c.2])from h)
  exact Dat.tup (n:=1) (SqT.of e) (.cons (⟨.str c.1,o,Nat.zero_le _⟩:Dat K H 1 (.str c.1) (.str c.1)) (.cons (Dat.int _) .nil))
 | .rc none,h,_=>by cases (show v=.non from h);exact Dat.non
 | .rc (some c),h,_=>by
  obtain⟨p,q,rfl,e,e2⟩:=(show ∃ p q,v=.ref p/\H p=some (.tup [.int c.1,.ref q])/\H q=some (.tup (AU c.2))from h)
  exact Dat.tup (n:=1) (SqT.of e) (.cons (Dat.int _) (.cons (Dat.tup (n:=0) (SqT.of e2) (zj9 c.2)) .nil))
 | .pc none,h,_=>by cases (show v=.non from h);exact Dat.non
 | .pc (some s),h,o=>by
  cases (show v=.str s from h)
  exact⟨.str s,o,Nat.zero_le _⟩
 | .mk none,h,_=>by cases (show v=.non from h);exact Dat.non
 | .mk (some i),h,_=>by cases (show v=.int i from h);exact Dat.int i
theorem yH:∀ (l m:List Nat),PyData.eqvAll (l.map λ(k:Nat)=>PyData.int k) (m.map λ(k:Nat)=>PyData.int k)=decide (l=m)
 | [],[]=>rfl
 | [],_::_=>rfl
 | _::_,[]=>rfl
 | x::l,y::m=>by
  show(((x:Int) ==(y:Int)) && PyData.eqvAll (l.map λ(k:Nat)=>PyData.int k) (m.map λ(k:Nat)=>PyData.int k))=_
  rw[yH l m,Bool.eq_iff_iff]
  simp
  intro _
  omega
theorem zka:∀ {c c':Cel},c.kind=c'.kind->PyData.eqv (EU c) (EU c')=decide (c=c')
 | .nm c,.nm c',_=>by
  cases c with
  | none=>cases c'<;>simp[EU,PyData.eqv]
  | some c =>
   cases c' with
   | none=>simp[EU,PyData.eqv]
   | some d =>
    obtain⟨s,k⟩:=c
    obtain⟨s',k'⟩:=d
    rw[Bool.eq_iff_iff]
    simp[EU,PyData.eqv,PyData.eqvAll]
    intro _
    omega
 | .rc c,.rc c',_=>by
  cases c with
  | none=>cases c'<;>simp[EU,PyData.eqv]
  | some c =>
   cases c' with
   | none=>simp[EU,PyData.eqv]
   | some d =>
    obtain⟨s,k⟩:=c
    obtain⟨s',k'⟩:=d
    rw[Bool.eq_iff_iff]
    simp[EU,PyData.eqv,PyData.eqvAll,yH]
 | .pc c,.pc c',_=>by
  cases c with
  | none=>cases c'<;>simp[EU,PyData.eqv]
  | some c =>
   cases c' with
   | none=>simp[EU,PyData.eqv]
   | some d =>
    rw[Bool.eq_iff_iff]
    simp[EU,PyData.eqv]
 | .mk c,.mk c',_=>by
  cases c with
  | none=>cases c'<;>simp[EU,PyData.eqv]
  | some c =>
   cases c' with
   | none=>simp[EU,PyData.eqv]
   | some d =>
    rw[Bool.eq_iff_iff]
    simp[EU,PyData.eqv]
 | .nm _,.rc _,h=>by cases h
 | .nm _,.pc _,h=>by cases h
 | .nm _,.mk _,h=>by cases h
 | .rc _,.nm _,h=>by cases h
 | .rc _,.pc _,h=>by cases h
 | .rc _,.mk _,h=>by cases h
 | .pc _,.nm _,h=>by cases h
 | .pc _,.rc _,h=>by cases h
 | .pc _,.mk _,h=>by cases h
 | .mk _,.nm _,h=>by cases h
 | .mk _,.rc _,h=>by cases h
 | .mk _,.pc _,h=>by cases h
theorem yI:∀ {cs cs':List Cel},cs.map Cel.kind=cs'.map Cel.kind->PyData.eqvAll (cs.map EU) (cs'.map EU)=decide (cs=cs')
 | [],[],_=>rfl
 | [],_::_,h=>by cases h
 | _::_,[],h=>by cases h
 | x::l,y::m,h=>by
  rw[List.map_cons,List.map_cons]at h
  injection h with h1 h2
  show(PyData.eqv (EU x) (EU y) && PyData.eqvAll (l.map EU) (m.map EU))=_
  rw[zka h1,yI h2,Bool.eq_iff_iff]
  simp
theorem yJ{xs:List V}{cs:List Cel}(h:Paired (CelV H) xs cs)(ok:∀ c∈cs,c.ok):Paired (Dat K H 2) xs (cs.map EU):=by
 induction h with
 | nil=>exact .nil
 | cons h t ih=>exact .cons (h.dat (ok _ List.mem_cons_self)) (ih λc hc=>ok c (List.mem_cons_of_mem _ hc))
theorem zkb{p q:Addr}{xs ys:List V}{cs cs':List Cel}(h1:H p=some (.lst xs))(h2:H q=some (.lst ys))(P1:Paired (CelV H) xs cs)(P2:Paired (CelV H) ys cs')(o1:∀ c∈cs,c.ok)(o2:∀ c∈cs',c.ok)(hk:cs.map Cel.kind=cs'.map Cel.kind)(hq:Q (.bl (!decide (cs=cs'))) H):DH K (.ref p) (.ref q) H Q:=by
 unfold DH
 rw[if_neg (by simp[G3])]
 have e1:Dat K H 3 (.ref p) _:=Dat.lst (SqL.of h1) (yJ P1 o1)
 have e2:Dat K H 3 (.ref q) _:=Dat.lst (SqL.of h2) (yJ P2 o2)
 refine⟨_,_,e1.1,e2.1,e1.shp (by omega),e2.shp (by omega),?_⟩
 show Q (.bl (!PyData.eqvAll (cs.map EU) (cs'.map EU))) H
 rw[yI hk]
 exact hq
theorem yK{w f g:Nat}(h:pk w f=pk w g):f=g:=by
 unfold pk at h
 injection h with h1 h
 injection h with h2 _
 injection h1 with h1
 injection h2 with h2
 have a1:=Nat.div_add_mod f w
 have a2:=Nat.div_add_mod g w
 rw[show f / w=g / w by omega,show f % w=g % w by omega]at a1
 omega
def cG(b j:Nat):Int:=reduceHash (Builtin.Tuple.tupleHashOf [hashInt b,hashInt j])
theorem zkc:∀ j,j<6->∀ b,b<31->∀ c,c<31->cG b j=cG c j->b=c:=by decide +kernel
theorem zkd{k:List A1}{v:V}:RF [(k,v)]:=λP w=>by simp
theorem zke{w f g:Nat}{v u:V}(w6:w<=6)(w1:1<=w)(hf:f / w<31)(hg:g / w<31)(he:f % w=g % w)(ne:f / w≠g / w):RF [(pk w f,v),(pk w g,u)]:=λP W=>by
 have e:∀ h:Nat,(tupleKind (ER P W)).hash (pk w h)=cG (h / w) (h % w):=λh=>rfl
 simp only[List.map_cons,List.map_nil,List.nodup_cons,List.mem_singleton,List.not_mem_nil,not_false_eq_true,List.nodup_nil,and_true]
 rw[e,e,he]
 intro z
 exact ne (zkc (g % w) (Nat.lt_of_lt_of_le (Nat.mod_lt _ w1) w6) _ hf _ hg z)
theorem R9{w b k:Nat}{x:Int}(hw:1<=w)(hx:x=b):([.int (x+(k:Int) / (w:Int)),.int ((k:Int) % (w:Int))]:List V)=(pk w (b * w+k)).map kV:=by
 unfold pk
 have h1:(b * w+k) / w=b+k / w:=by rw[Nat.mul_comm,Nat.mul_add_div (by omega)]
 have h2:(b * w+k) % w=k % w:=by rw[Nat.mul_comm,Nat.mul_add_mod]
 rw[h1,h2,hx]
 simp only[List.map_cons,List.map_nil,kV]
 rw[Int.natCast_add,Int.natCast_ediv,Int.natCast_emod]
theorem zkf{gp cl:Addr}{w m f:Nat}{rows:List (List V)}{cs:List Cel}{x:Cel}(P:PlankAt a H gp cl w rows m)(hw:1<=w)(hc:Paired (CelV H) rows.flatten cs)(hx:cs[f]? =some x)(hb:f / w<rows.length):∃ row v,rows[f / w]? =some row/\row[f % w]? =some v/\CelV H v x:=by
 obtain⟨v,hv,hr⟩:=FQ hc hx
 have e:=VL (b:=f / w) (j:=f % w) P.wd hb (Nat.mod_lt _ hw)
 rw[Nat.mul_comm,Nat.div_add_mod,hv]at e
 cases er:rows[f / w]? with
 | none=>rw[er]at e;cases e
 | some row =>
  rw[er]at e
  exact⟨row,v,rfl,e.symm,hr⟩
theorem zkg(h:UX K a vs H Q E):PD K a (λ_=>E) (A0 Q) (A4 ["layout","plank","find","place"] vs) H:=by
 obtain⟨ly,gp,cl,fd,n,r,c,w,rows,m,vw,lv,rfl,S,hlv,EO,q⟩:=h
 obtain⟨dl,GS⟩:=S.la.ob
 have w1:=S.w1
 have z1:=S.pv.ln
 have z2:=S.pv.lr
 have z3:=S.pv.lp
 have n6:=S.n6
 have r6:=S.r6
 have c6:=S.c6
 have q1:∀ {p t:Addr} {f:Nat} {x:Cel} {v:V} {H2:Hp},H p=none->Same H H2->H2 p=some (.dT [])->H2 t=some (.tup ((pk w f).map kV))->CelV H2 v x->FY vw n r c w lv=[(f,x)]->H2 p=some (.dT [])/\∃ kvs:List (List A1 × V),T3 H2 [(.ref t,v)] kvs/\kvs.length<=15/\Q (.ref p) (upd H2 p (.dT (FB [] kvs))):=λ{p t f x v H2} hp s e et hv ef=>by
  refine⟨e,[(pk w f,v)],.cons ⟨⟨t,rfl,et⟩,rfl⟩ .nil,by simp,?_⟩
  have tk:CZ H2 (upd H2 p (.dT (FB [] [(pk w f,v)]))):=λy ys ey=>by rw[AO (DB ey e (λz=>nomatch z))];exact ey
  refine q p [(pk w f,v)] _ hp (λy o ey=>by rw[AO (BX ey hp)];exact s _ _ ey) AM ?_ zkd
  rw[ef]
  exact .cons ⟨rfl,CelV.keep tk hv⟩ .nil
 rcases yG hlv with⟨k,rfl,hk,hm⟩ | ⟨k,rfl,hk,hsm,hl⟩ | ⟨k,rfl,hk,h1,h2⟩ | ⟨k,rfl,hk,h1,h2⟩
 ·have EO:H fd=some (.tup [.str (Str.ofString "many"),.int k,.int (led vw k)]):=EO
  obtain⟨d,hd⟩:∃ d,AD vw.rc k=some d:=by
   unfold GW at hm
   cases e:AD vw.rc k with
   | none=>rw[e]at hm;cases hm
   | some d=>exact⟨d,rfl⟩
  have hl:0<led vw k:=by
   unfold GW at hm
   rw[hd]at hm
   simp at hm
   exact hm.1
  push_cast[PD,↓VB]
  refine BY EO (n:=0) rfl rfl ?_
  push_cast[]
  push_cast[↓zbw]
  refine⟨_,_,GS,EH (by decide +kernel),BY EO (n:=1) rfl rfl ⟨ly,n,r,c,w,k,rfl,S.tl,S.la,λt ht=> ?_⟩⟩
  obtain⟨H1,zz0,s1,e1⟩:=DA (o:=.tup [.int ((n:Int)+(k:Int) / (w:Int)),.int ((k:Int) % (w:Int))]) ht
  rw[zz0]
  push_cast[↓zbx]
  intro p hp
  obtain⟨H2,zz0,s2,e2⟩:=DA (o:=.dT []) hp
  rw[zz0]
  have B8:=s1.trans s2
  have P2:=S.pl.same B8
  obtain⟨dp,JJ⟩:=P2.ob
  have f1:(n * w+k) / w=n+k / w:=by rw[Nat.mul_comm,Nat.mul_add_div (by omega)]
  have f2:(n * w+k) % w=k % w:=by rw[Nat.mul_comm,Nat.mul_add_mod]
  have hkw:k / w<r:=by
   rw[Nat.div_lt_iff_lt_mul (by omega)]
   omega
  obtain⟨row,v,er,ev,hv⟩:=zkf (f:=n * w+k) (x:=.rc (AD vw.rc k)) P2 w1 (S.pv.same B8.tk).asC (by
   rw[VN S.pv.ok z1 z2 z3 (by omega)]
   unfold J7
   rw[if_neg (by omega),if_pos (by omega),show n * w+k - n * w=k by omega]) (by rw[S.rl];omega)
  rw[f1]at er
  rw[f2]at ev
  have hv:RcV H2 v (AD vw.rc k):=hv
  rw[hd]at hv
  obtain⟨pv,tv,rfl,hpv,htv⟩:=hv
  refine BY ((s1.trans s2) _ _ EO) (n:=2) rfl rfl ⟨_,_,JJ,RX _ _ _,BY (s2 _ _ e1) (n:=0) rfl rfl ⟨gp,cl,w,rows,m,_,rfl,S.tp,P2,λi row' eb er' l hnl=> ?_,λz=> ?_⟩⟩
  ·have ei:i=n+k / w:=by
    have:((n+k / w:Nat):Int)=(n:Int)+(k:Int) / (w:Int):=by rw[Int.natCast_add,Int.natCast_ediv]
    omega
   subst ei
   rw[er]at er'
   cases er'
   obtain⟨H3,zz0,s3,e3⟩:=DA (o:=.lst row) hnl
   rw[zz0]
   refine BY (s3 _ _ (s2 _ _ e1)) (n:=1) rfl rfl (B0 (SqL.of e3) (n:=k % w) (by rw[Int.natCast_emod]) ev (BY (s3 _ _ hpv) (n:=1) rfl rfl ⟨by decide,λp1 EX=> ?_⟩))
   have s4:=AV (o:=.tup [V.int ↑(led vw k),V.ref tv]) EX
   have s24:=s3.trans s4
   refine q1 (f:=n * w+k) (x:=.rc (C5 vw k)) (s1.free hp) (B8.trans s24) (s24 _ _ e2) ?_ ?_ rfl
   ·rw[<-R9 (x:=(n:Int)) w1 rfl]
    exact s24 _ _ (s2 _ _ e1)
   ·show RcV _ _ (C5 vw k)
    rw[NF hd hl]
    exact⟨p1,tv,rfl,AM,s24 _ _ htv⟩
  ·exfalso
   have:((n+k / w:Nat):Int)=(n:Int)+(k:Int) / (w:Int):=by rw[Int.natCast_add,Int.natCast_ediv]
   have rl:=S.rl
   rw[<-this]at z
   rcases z with z | z
   ·exact absurd z (Int.not_lt.mpr (Int.natCast_nonneg _))
   ·have z:rows.length<=n+k / w:=Int.ofNat_le.mp z
    omega
 ·have EO:H fd=some (.tup [.str (Str.ofString "left"),.str (Str.ofString "record"),.int k]):=EO
  push_cast[PD,↓VB]
  refine BY EO (n:=0) rfl rfl ?_
  push_cast[]
  refine B7 (by decide +kernel) ?_
  push_cast[↓aH]
  refine BY EO (n:=0) rfl rfl ?_
  push_cast[]
  refine B7 (by decide +kernel) ?_
  push_cast[↓qO]
  refine BY EO (n:=1) rfl rfl ?_
  push_cast[]
  push_cast[↓zbz]
  intro p hp
  obtain⟨H2,zz0,s2,e2⟩:=DA (o:=.dT []) hp
  rw[zz0]
  refine⟨_,_,s2 _ _ GS,EH (by decide +kernel),BY (s2 _ _ EO) (n:=2) rfl rfl ⟨ly,n,r,c,w,k,rfl,S.tl,S.la.same s2,λt ht=> ?_⟩⟩
  have s3:=AV (o:=.tup [.int ((n:Int)+(k:Int) / (w:Int)),.int ((k:Int) % (w:Int))]) ht
  have e3:upd H2 t (.tup [.int ((n:Int)+(k:Int) / (w:Int)),.int ((k:Int) % (w:Int))]) t=some (.tup ((pk w (n * w+k)).map kV)):=by rw[AM,R9 (x:=(n:Int)) w1 rfl]
  revert s3 e3
  generalize upd H2 t (.tup [.int ((n:Int)+(k:Int) / (w:Int)),.int ((k:Int) % (w:Int))])=H3
  intro s3 e3
  have BH:=s2.trans s3
  refine⟨_,_,BH _ _ GS,EH (by decide +kernel),BY (BH _ _ EO) (n:=2) rfl rfl ⟨ly,n,r,c,w,k,rfl,S.tl,S.la.same BH,λt2 ht2=> ?_⟩⟩
  have s4:=AV (o:=.tup [.int ((n:Int)+r+c+(k:Int) / (w:Int)),.int ((k:Int) % (w:Int))]) ht2
  have e4:upd H3 t2 (.tup [.int ((n:Int)+r+c+(k:Int) / (w:Int)),.int ((k:Int) % (w:Int))]) t2=some (.tup ((pk w ((n+r+c) * w+k)).map kV)):=by rw[AM,R9 (x:=(n:Int)+r+c) (b:=n+r+c) w1 (by omega)]
  revert s4 e4
  generalize upd H3 t2 (.tup [.int ((n:Int)+r+c+(k:Int) / (w:Int)),.int ((k:Int) % (w:Int))])=H4
  intro s4 e4
  have s24:=s3.trans s4
  have e2':=s24 _ _ e2
  have f1:(n * w+k) / w=n+k / w:=by rw[Nat.mul_comm,Nat.mul_add_div (by omega)]
  have f2:(n * w+k) % w=k % w:=by rw[Nat.mul_comm,Nat.mul_add_mod]
  have g1:((n+r+c) * w+k) / w=n+r+c+k / w:=by rw[Nat.mul_comm,Nat.mul_add_div (by omega)]
  have g2:((n+r+c) * w+k) % w=k % w:=by rw[Nat.mul_comm,Nat.mul_add_mod]
  have hkw:k / w<r:=by
   rw[Nat.div_lt_iff_lt_mul (by omega)]
   omega
  generalize hkd:k / w=kd at f1 g1 hkw
  have ap:∀ {v u:V},RF [(pk w (n * w+k),v),(pk w ((n+r+c) * w+k),u)]:=zke S.w6 w1 (by rw[f1];omega) (by rw[g1];omega) (by rw[f2,g2]) (by rw[f1,g1];omega)
  have mg:FB [] [(pk w (n * w+k),V.non),(pk w ((n+r+c) * w+k),.int 0)]=[(pk w (n * w+k),V.non),(pk w ((n+r+c) * w+k),.int 0)]:=YL _ [] (by
   simp only[List.nil_append,List.map_cons,List.map_nil,List.nodup_cons,List.mem_singleton,List.not_mem_nil,not_false_eq_true,List.nodup_nil,and_true]
   intro z
   have:=yK z
   have e9:(n * w+k) / w=((n+r+c) * w+k) / w:=by rw[this]
   rw[f1,g1]at e9
   omega)
  refine⟨e2',[(pk w (n * w+k),V.non),(pk w ((n+r+c) * w+k),.int 0)],.cons ⟨⟨t,rfl,s4 _ _ e3⟩,rfl⟩ (.cons ⟨⟨t2,rfl,e4⟩,rfl⟩ .nil),by simp,?_⟩
  rw[mg]
  refine q p _ _ hp (λy o ey=>by rw[AO (BX ey hp)];exact(s2.trans s24) _ _ ey) AM (.cons ⟨rfl,rfl⟩ (.cons ⟨rfl,rfl⟩ .nil)) ap
 ·have EO:H fd=some (.tup [.str (Str.ofString "left"),.str (Str.ofString "piece"),.int k]):=EO
  push_cast[PD,↓VB]
  refine BY EO (n:=0) rfl rfl ?_
  push_cast[]
  refine B7 (by decide +kernel) ?_
  push_cast[↓aH]
  refine BY EO (n:=0) rfl rfl ?_
  push_cast[]
  refine B7 (by decide +kernel) ?_
  push_cast[↓qO]
  refine BY EO (n:=1) rfl rfl ?_
  push_cast[]
  refine B7 (by decide +kernel) ?_
  push_cast[↓zb0]
  intro p hp
  obtain⟨H2,zz0,s2,e2⟩:=DA (o:=.dT []) hp
  rw[zz0]
  refine⟨_,_,s2 _ _ GS,EH (by decide +kernel),BY (s2 _ _ EO) (n:=2) rfl rfl ⟨ly,n,r,c,w,k,rfl,S.tl,S.la.same s2,λt ht=> ?_⟩⟩
  have s3:=AV (o:=.tup [.int ((n:Int)+r+c+r+(k:Int) / (w:Int)),.int ((k:Int) % (w:Int))]) ht
  have e3:upd H2 t (.tup [.int ((n:Int)+r+c+r+(k:Int) / (w:Int)),.int ((k:Int) % (w:Int))]) t=some (.tup ((pk w ((n+r+c+r) * w+k)).map kV)):=by rw[AM,R9 (x:=(n:Int)+r+c+r) (b:=n+r+c+r) w1 (by omega)]
  exact q1 (f:=(n+r+c+r) * w+k) (x:=.mk (some 0)) hp (s2.trans s3) (s3 _ _ e2) e3 rfl rfl
 ·have EO:H fd=some (.tup [.str (Str.ofString "marked"),.int k]):=EO
  push_cast[PD,↓VB]
  refine BY EO (n:=0) rfl rfl ?_
  push_cast[]
  refine B7 (by decide +kernel) ?_
  push_cast[↓aH]
  refine BY EO (n:=0) rfl rfl ?_
  push_cast[]
  push_cast[↓zby]
  intro p hp
  obtain⟨H2,zz0,s2,e2⟩:=DA (o:=.dT []) hp
  rw[zz0]
  refine⟨_,_,s2 _ _ GS,EH (by decide +kernel),BY (s2 _ _ EO) (n:=1) rfl rfl ⟨ly,n,r,c,w,k,rfl,S.tl,S.la.same s2,λt ht=> ?_⟩⟩
  have s3:=AV (o:=.tup [.int ((n:Int)+r+c+(k:Int) / (w:Int)),.int ((k:Int) % (w:Int))]) ht
  have e3:upd H2 t (.tup [.int ((n:Int)+r+c+(k:Int) / (w:Int)),.int ((k:Int) % (w:Int))]) t=some (.tup ((pk w ((n+r+c) * w+k)).map kV)):=by rw[AM,R9 (x:=(n:Int)+r+c) (b:=n+r+c) w1 (by omega)]
  exact q1 (f:=(n+r+c) * w+k) (x:=.mk (some 0)) hp (s2.trans s3) (s3 _ _ e2) e3 rfl rfl
theorem yL{α β :Type}{F: α -> β ->Prop}:∀ {l:List α} {m:List β} (k:Nat),Paired F l m->Paired F (l.take k) (m.take k)
 | _,_,0,_=>by rw[List.take_zero,List.take_zero];exact .nil
 | _,_,_+1,.nil=>.nil
 | _,_,k+1,.cons h t=>.cons h (yL k t)
theorem yM{α β :Type}{F: α -> β ->Prop}:∀ {l:List α} {m:List β} (k:Nat),Paired F l m->Paired F (l.drop k) (m.drop k)
 | _,_,0,h=>h
 | _,_,_+1,.nil=>.nil
 | _,_,k+1,.cons h t=>yM k t
theorem yN{w b:Nat}{cs:List Cel}:DW w cs (b+1)=DW w (cs.drop w) b:=by
 unfold DW
 rw[List.drop_drop,Nat.succ_mul,Nat.add_comm]
theorem yO{w:Nat}:∀ {rows:List (List V)} {cs:List Cel},(∀ r∈rows,r.length=w)->Paired (CelV H) rows.flatten cs->∀ {b:Nat} {row:List V},rows[b]? =some row->Paired (CelV H) row (DW w cs b)
 | [],_,_,_,_,_,e=>by simp at e
 | r0::rs,cs,hw,P,0,row,e=>by
  cases e
  have h0:=hw r0 List.mem_cons_self
  have:=yL w P
  rw[List.flatten_cons,<-h0,List.take_left]at this
  unfold DW
  rw[Nat.zero_mul,List.drop_zero,<-h0]
  exact this
 | r0::rs,cs,hw,P,b+1,row,e=>by
  have h0:=hw r0 List.mem_cons_self
  have:=yM w P
  rw[List.flatten_cons,<-h0,List.drop_left,h0]at this
  rw[yN]
  exact yO (λr hr=>hw r (List.mem_cons_of_mem _ hr)) this e
theorem yP{w:Nat}:∀ {rows:List (List V)} {cs:List Cel},cs.length=rows.length * w->(∀ {b:Nat} {row:List V},rows[b]? =some row->Paired (CelV H) row (DW w cs b))->Paired (CelV H) rows.flatten cs
 | [],cs,hl,_=>by
  rw[List.length_nil,Nat.zero_mul]at hl
  rw[List.length_eq_zero_iff.mp hl]
  exact .nil
 | r0::rs,cs,hl,h=>by
  rw[List.length_cons,Nat.succ_mul]at hl
  have h0:Paired (CelV H) r0 (DW w cs 0):=h (b:=0) rfl
  unfold DW at h0
  rw[Nat.zero_mul,List.drop_zero]at h0
  have ih:=yP (w:=w) (rows:=rs) (cs:=cs.drop w) (by rw[List.length_drop];omega) λ{b row} e=>by
   rw[<-yN]
   exact h (b:=b+1) e
  have:=M9 h0 ih
  rw[List.take_append_drop]at this
  exact this
theorem yQ{w:Nat}:∀ {rows:List (List V)},(∀ r∈rows,r.length=w)->rows.flatten.length=rows.length * w
 | [],_=>by simp
 | r::rs,h=>by
  rw[List.flatten_cons,List.length_append,yQ λx hx=>h x (List.mem_cons_of_mem _ hx),h r List.mem_cons_self,List.length_cons,Nat.succ_mul]
  omega
theorem QD(cl:Addr)(w n:Int):(pf cl w n).lookup ("blocks":Str)=none:=OG _ _ _ (by decide +kernel) (by decide +kernel) (by decide +kernel)
theorem yR{w b j:Nat}{cs:List Cel}(hj:j<w):(DW w cs b)[j]? =cs[b * w+j]? :=by
 unfold DW
 rw[List.getElem?_take,if_pos hj,List.getElem?_drop]
theorem zkh{w b:Nat}{cs cs':List Cel}(h:cs'.map Cel.kind=cs.map Cel.kind):(DW w cs' b).map Cel.kind=(DW w cs b).map Cel.kind:=by
 unfold DW
 rw[List.map_take,List.map_drop,List.map_take,List.map_drop,h]
theorem yS{w b:Nat}{cs:List Cel}{c:Cel}(h:c∈DW w cs b):c∈cs:=List.mem_of_mem_drop (List.mem_of_mem_take h)
theorem yT{w i:Nat}{cs cs':List Cel}:JV w (i+1) cs cs'=JV w i cs cs'+if DW w cs i=DW w cs' i then 0 else 1:=by
 unfold JV
 rw[List.range_succ,List.filter_append,List.length_append]
 congr 1
 by_cases h:DW w cs i=DW w cs' i
 ·simp[h]
 ·simp[h]
theorem zki{w b j:Nat}(hj:j<w):([.int (b:Int),.int (j:Int)]:List V)=(pk w (b * w+j)).map kV:=by
 unfold pk
 have h1:(b * w+j) / w=b:=by rw[Nat.mul_comm,Nat.mul_add_div (by omega),Nat.div_eq_of_lt hj,Nat.add_zero]
 have h2:(b * w+j) % w=j:=by rw[Nat.mul_comm,Nat.mul_add_mod,Nat.mod_eq_of_lt hj]
 rw[h1,h2]
 rfl
structure yU(a:Ad)(gp cl:Addr)(w m M:Nat)(cs cs':List Cel)(H:Hp)(i:Nat)(rs:List (List V))(H':Hp):Prop where
 p:PlankAt a H' gp cl w rs (m+JV w i cs cs')
 l:rs.length=M
 c:∀ {b:Nat} {row:List V},rs[b]? =some row->Paired (CelV H') row (if b<i then DW w cs' b else DW w cs b)
 s:SameBut (λx=>x=gp\/x=cl) H H'
theorem zkj(h:UY K a vs H Q E):aI K a (λ_=>E) (A0 Q) (A4 ["plank","due","block","before","after"] vs) H:=by
 obtain⟨gp,cl,dl,w,rows,m,kvs,cs,cs',rfl,TP,P,hM,w1,w6,hdl,PC,hk,o1,o2,hc,q⟩:=h
 obtain⟨dp,JJ⟩:=P.ob
 obtain⟨tc,C1,_⟩:=P.ls
 have hcl':cs.length=rows.length * w:=by
  rw[<-PC.length]
  exact yQ P.wd
 have GT:cs'.length=cs.length:=by
  have:=congrArg List.length hk
  simpa using this
 have ndl:dl≠gp/\dl≠cl:=⟨DB hdl JJ (λz=>nomatch z),DB hdl C1 (λz=>nomatch z)⟩
 push_cast[aI,↓zb5]
 refine⟨_,_,JJ,QD _ _ _,gp,cl,w,rows,m,rfl,TP,P,?_⟩
 push_cast[]
 refine⟨by omega,by omega,RE (λi σ H'=>(∃ rs,yU a gp cl w m rows.length cs cs' H i rs H')/\∃ y2 y3 y4,σ=[some (.ref gp),some (.ref dl),y2,y3,y4]) ⟨⟨rows,⟨P,rfl,λe=>by rw[if_neg (Nat.not_lt_zero _)];exact yO P.wd PC e,SameBut.refl _⟩⟩,_,_,_,rfl⟩ (λi σ H1 hi ⟨⟨rs,J⟩,y2,y3,y4,eσ⟩=> ?_) (λσ H1 ⟨⟨rs,J⟩,y2,y3,y4,eσ⟩=> ?_)⟩
 ·subst eσ
  obtain⟨dp1,hob1⟩:=J.p.ob
  obtain⟨tc1,hcl1,_⟩:=J.p.ls
  have hdl1:=J.s _ _ hdl λz=>z.elim ndl.1 ndl.2
  have tk1:CZ H H1:=λy ys e=>J.s _ _ e λz=>by
   rcases z with z | z
   ·rw[z,JJ]at e;cases e
   ·rw[z,C1]at e;cases e
  have er:=List.getElem?_eq_getElem (l:=rs) (i:=i) (by rw[J.l];exact hi)
  revert er
  generalize rs[i]'(by rw[J.l];exact hi)=row
  intro er
  have Pr:=J.c er
  rw[if_neg (Nat.lt_irrefl _)]at Pr
  have hrw:row.length=w:=J.p.wd row (List.mem_of_getElem? er)
  push_cast[↓zb1,Int.zero_add]
  refine⟨_,_,hob1,RX _ _ _,gp,cl,w,rs,_,i,rfl,TP,J.p,λi' row' eb er' l hl=> ?_,λz=>by rw[J.l]at z;omega⟩
  obtain rfl:i=i':=by omega
  rw[er]at er'
  cases er'
  obtain⟨H2,zz0,s2,e2⟩:=DA (o:=.lst row) hl
  rw[zz0]
  push_cast[↓zb2]
  refine⟨⟨_,SqL.of e2⟩,YJ (xs:=row) (λ_=>true) (small _ (by omega)) (λj ys H'=>Same H2 H'/\Paired (CelV H') ys ((DW w cs' i).take j)) ⟨Same.refl _,.nil⟩ (λj ys H' hj ⟨s,P⟩=>⟨SqL.of (s _ _ e2),?_⟩) (λj ys H' t o ⟨s,P⟩ h=>⟨HQ s h,Paired.mapP P λv c=>CelV.keep (AV h).tk⟩) (λj x ys H' hx _ QB qb=>qb) (λj x ys H' hx _ ⟨s,P⟩=> ?_) (λj x ys H' hx hp=>by cases hp) (λys H3 ⟨s,P⟩ l2 EE=> ?_)⟩
  ·rw[P.length,List.length_take];omega
  ·have hj:j<w:=by rw[<-hrw];exact(List.getElem?_eq_some_iff.mp hx).1
   push_cast[B3]
   have hd':=s _ _ (s2 _ _ hdl1)
   have BZ:i * w+j<cs.length:=by
    rw[hcl']
    have:=Nat.mul_le_mul_right w (show i+1<=rows.length from hi)
    rw[Nat.succ_mul]at this
    omega
   refine⟨.inr ⟨kvs,.inl hd'⟩,by decide,λp hp=>⟨CK kvs (pk w (i * w+j)),?_,HQ s hp,?_⟩⟩
   ·have sp:=AV (o:=.tup [V.int (i:Int),V.int (j:Int)]) hp
    exact DGet.t (sp _ _ hd') (by rw[AM,zki hj])
   ·have sp:=AV (o:=.tup [V.int (i:Int),V.int (j:Int)]) hp
    have ec':=List.getElem?_eq_getElem (l:=cs') (i:=i * w+j) (by rw[GT];exact BZ)
    revert ec'
    generalize cs'[i * w+j]'(by rw[GT];exact BZ)=c'
    intro ec'
    obtain⟨c,ec,hv⟩:=GL Pr hx
    rw[yR hj]at ec
    rw[FM (x:=c') (by rw[yR hj];exact ec')]
    refine Paired.snoc (Paired.mapP P λv c=>CelV.keep sp.tk) ?_
    have s1p:=(s2.trans s).trans sp
    rcases hc _ c c' ec ec' with⟨e1,e2'⟩ | ⟨v,e1,e2'⟩
    ·rw[e1,e2']
     exact CelV.keep s1p.tk hv
    ·rw[e1]
     exact CelV.keep s1p.tk (CelV.keep tk1 e2')
  ·have hcl3:(DW w cs' i).length=w:=by
    unfold DW
    rw[List.length_take,List.length_drop,GT,hcl']
    have:=Nat.mul_le_mul_right w (show i+1<=rows.length from hi)
    rw[Nat.succ_mul]at this
    omega
   rw[hrw,List.take_of_length_le (by omega)]at P
   obtain⟨H4,zz0,s4,e4⟩:=DA (o:=.lst ys) EE
   rw[zz0]
   have s14:=(s2.trans s).trans s4
   have P4:Paired (CelV H4) ys (DW w cs' i):=Paired.mapP P λv c=>CelV.keep s4.tk
   have hys:ys.length=w:=by rw[P4.length,hcl3]
   have J4:yU a gp cl w m rows.length cs cs' H i rs H4:=⟨J.p.same s14,J.l,λe=>Paired.mapP (J.c e) λv c=>CelV.keep s14.tk,J.s.trans s14.sb⟩
   push_cast[↓zb4]
   refine zkb e4 ((s.trans s4) _ _ e2) P4 (Paired.mapP Pr λv c=>CelV.keep s14.tk) (λc hc=>o2 c (yS hc)) (λc hc=>o1 c (yS hc)) (zkh hk) ⟨_,rfl,?_⟩
   by_cases he:DW w cs' i=DW w cs i
   ·refine B7 (by simp[he]) ?_
    refine⟨rs,⟨by rw[yT,if_pos he.symm];exact J4.p,J4.l,λ{b row} e=> ?_,J4.s⟩⟩
    have:=J4.c e
    by_cases hb:b=i
    ·rw[hb,if_neg (Nat.lt_irrefl _)]at this
     rw[hb,if_pos (Nat.lt_succ_self _),he]
     exact this
    ·simp only[show(b<i+1)=(b<i)from propext ⟨λh=>by omega,λh=>by omega⟩]
     exact this
   ·refine CJ (by simp[he]) ?_
    obtain⟨dp4,hob4⟩:=J4.p.ob
    obtain⟨tc4,hcl4,_⟩:=J4.p.ls
    push_cast[↓zb3]
    refine⟨_,_,hob4,xB _ _ _,gp,cl,w,rs,_,(i:Int),l2,ys,rfl,TP,J4.p,SqL.of e4,by omega,λi' eb hb' hyl H5 P5 FR=> ?_,λz=>by rw[J.l]at z;omega⟩
    obtain rfl:i=i':=by omega
    have tk5:CZ H4 H5:=λy ys e=>FR _ _ e λz=>by
     rcases z with z | z
     ·rw[z,hob4]at e;cases e
     ·rw[z,hcl4]at e;cases e
    refine⟨rs.set i ys,⟨?_,by rw[List.length_set];exact J.l,λ{b row} e=> ?_,J4.s.trans FR⟩⟩
    ·rw[yT,if_neg (λz=>he z.symm),<-Nat.add_assoc]
     exact P5
    ·by_cases hb:b=i
     ·subst hb
      rw[List.getElem?_set_self (by rw[J.l];exact hi)]at e
      cases e
      rw[if_pos (Nat.lt_succ_self _)]
      exact Paired.mapP P4 λv c=>CelV.keep tk5
     ·rw[List.getElem?_set_ne (λz=>hb z.symm)]at e
      have:=J4.c e
      simp only[show(b<i+1)=(b<i)from propext ⟨λh=>by omega,λh=>by omega⟩]
      exact Paired.mapP this λv c=>CelV.keep tk5
 ·subst eσ
  refine q rs H1 J.p J.l (yP (w:=w) (by rw[J.l,GT,hcl']) λ{b row} e=> ?_) J.s
  have hb:b<rows.length:=by rw[<-J.l];exact(List.getElem?_eq_some_iff.mp e).1
  have:=J.c e
  rw[if_pos hb]at this
  exact this
theorem yV{vw:Vw}(ok:E5 vw):∀ c∈E6 vw,c.ok:=λc hc=>by
 unfold E6 at hc
 simp only[List.mem_append,List.mem_map]at hc
 rcases hc with(((⟨x,hx,rfl⟩ | ⟨x,hx,rfl⟩) | ⟨x,hx,rfl⟩) | ⟨x,hx,rfl⟩) | ⟨x,hx,rfl⟩
 ·cases x with
  | none=>exact trivial
  | some d=>exact(ok.n1 d hx).2
 ·cases x<;>exact trivial
 ·cases x with
  | none=>exact trivial
  | some d=>exact ok.n3 d hx
 ·cases x<;>exact trivial
 ·cases x<;>exact trivial
theorem J9{α :Type}{f: α ->Cel}{k:Nat}(h:∀ x,(f x).kind=k)(l:List α):(l.map f).map Cel.kind=List.replicate l.length k:=by
 rw[List.map_map]
 induction l with
 | nil=>rfl
 | cons x r ih=>rw[List.map_cons,ih,List.length_cons,List.replicate_succ];exact congrArg (· ::_) (h x)
theorem zkk{vw:Vw}(ok:E5 vw):(E6 (mended vw)).map Cel.kind=(E6 vw).map Cel.kind:=by
 have ok2:=R6 ok
 have l1:(mended vw).rc.length=vw.rc.length:=by
  show((List.range vw.rc.length).map (C5 vw)).length=_
  simp
 unfold E6
 simp only[List.map_append]
 rw[J9 (k:=0) (f:=Cel.nm) λ_=>rfl,J9 (k:=1) (f:=Cel.rc) λ_=>rfl,J9 (k:=2) (f:=Cel.pc) λ_=>rfl,J9 (k:=3) (f:=Cel.mk) λ_=>rfl,J9 (k:=3) (f:=Cel.mk) λ_=>rfl,
  J9 (k:=0) (f:=Cel.nm) λ_=>rfl,J9 (k:=1) (f:=Cel.rc) λ_=>rfl,J9 (k:=2) (f:=Cel.pc) λ_=>rfl,J9 (k:=3) (f:=Cel.mk) λ_=>rfl,J9 (k:=3) (f:=Cel.mk) λ_=>rfl,ok2.l1,ok2.l2,ok.l1,ok.l2,l1]
 rfl
theorem yW{P:List A1->V->Prop}:∀ {more kvs:List (List A1 × V)},(∀ k v,CK kvs k=some v->P k v)->(∀ kv∈more,P kv.1 kv.2)->∀ k v,CK (FB kvs more) k=some v->P k v
 | [],kvs,h,_=>h
 | p::r,kvs,h,hm=>yW (more:=r) (kvs:=DC kvs p.1 p.2) (λk v e=>by
   rw[TF]at e
   by_cases z:k=p.1
   ·rw[if_pos z]at e
    cases e
    rw[z]
    exact hm p List.mem_cons_self
   ·rw[if_neg z]at e
    exact h k v e) λkv hkv=>hm kv (List.mem_cons_of_mem _ hkv)
theorem cH:∀ {more kvs:List (List A1 × V)} {k:List A1},(CK kvs k).isSome=true->(CK (FB kvs more) k).isSome=true
 | [],_,_,h=>h
 | p::r,kvs,k,h=>cH (more:=r) (kvs:=DC kvs p.1 p.2) (by
   rw[TF]
   split
   ·rfl
   ·exact h)
theorem yX:∀ {more kvs:List (List A1 × V)} {kv:List A1 × V},kv∈more->(CK (FB kvs more) kv.1).isSome=true
 | [],_,_,h=>by cases h
 | p::r,kvs,kv,h=>by
  rcases List.mem_cons.mp h with rfl | h
  ·exact cH (more:=r) (kvs:=DC kvs kv.1 kv.2) (by rw[TF,if_pos rfl];rfl)
  ·exact yX (more:=r) h
theorem zkl{vw:Vw}{n r c w:Nat}(lv:Lv):(FY vw n r c w lv).length<=2:=by
 cases lv<;>simp[FY]
structure DuI(vw:Vw)(n r c w:Nat)(dl:Addr)(H2:Hp)(i:Nat)(kvs:List (List A1 × V))(H':Hp):Prop where
 s:Same H2 H'
 e:H' dl=some (.dT kvs)
 A:∀ k v,CK kvs k=some v->∃ lv∈FX vw,∃ fx∈FY vw n r c w lv,k=pk w fx.1/\CelV H' v fx.2
 B:∀ j lv,j<i->(FX vw)[j]? =some lv->∀ fx∈FY vw n r c w lv,(CK kvs (pk w fx.1)).isSome=true
 l:kvs.length<=2 * i
theorem zkn{vw:Vw}(ok:E5 vw):(FX vw).length<=400:=by
 obtain⟨_,_,_,m4,m5,m6⟩:=VH ok
 have:=congrArg List.length (yB vw)
 unfold JU at this
 simp only[List.length_append,List.length_map]at this
 omega
theorem Site.ground{ly gp cl:Addr}{n r c w:Nat}{rows:List (List V)}{m:Nat}{vw:Vw}(S:Site K a H ly gp cl n r c w rows m vw):Ground K a H ly gp vw:=⟨cl,n,r,c,w,rows,m,S.tv,S.tl,S.tp,S.la,S.pl,S.rl,S.pv⟩
theorem Site.same{ly gp cl:Addr}{n r c w:Nat}{rows:List (List V)}{m:Nat}{vw:Vw}{H':Hp}(S:Site K a H ly gp cl n r c w rows m vw)(s:Same H H'):Site K a H' ly gp cl n r c w rows m vw:=⟨S.tv,S.tl,S.tp,S.la.same s,S.pl.same s,S.rl,S.pv.same s.tk,S.w1,S.w6,S.n6,S.r6,S.c6⟩
theorem zko(h:kW K a vs H Q E):RW K a (λ_=>E) (A0 Q) (A4 ["layout","plank","finds","due","find"] vs) H:=by
 obtain⟨ly,gp,cl,n,r,c,w,rows,m,vw,rfl,S,hf,q⟩:=h
 have z1:=S.pv.ln
 have z2:=S.pv.lr
 have z3:=S.pv.lp
 have ok:=S.pv.ok
 have n6:=S.n6
 have r6:=S.r6
 have c6:=S.c6
 have rl:=S.rl
 push_cast[RW,↓vU]
 refine⟨ly,gp,vw,rfl,S.ground,λH1 s1=> ?_⟩
 rw[decide_eq_true hf]
 push_cast[]
 push_cast[↓zfp]
 refine⟨ly,gp,vw,rfl,S.ground.same s1,λfo H2 hfo s2 F2=> ?_⟩
 rw[hf,List.nil_append]at F2
 have F0:=F2
 rw[yB]at F2
 obtain⟨ps,efo,PF⟩:=F2
 have B8:=s1.trans s2
 push_cast[↓zfq]
 intro dl hdl
 obtain⟨H3,zz0,s3,e3⟩:=DA (o:=.dT []) hdl
 rw[zz0]
 have ln:=zkn ok
 have pl:ps.length=(FX vw).length:=by rw[PF.length,List.length_map]
 push_cast[↓zfs]
 refine .inl ⟨⟨_,SqL.of (s3 _ _ efo)⟩,KR (xs:=ps.map V.ref) (λi σ H'=>(∃ kvs,DuI vw n r c w dl H2 i kvs H')/\∃ y,σ=[some (.ref ly),some (.ref gp),some (.ref fo),some (.ref dl),y]) ⟨⟨[],⟨s3,e3,λk v h=>(by cases h),λj lv h=>absurd h (Nat.not_lt_zero _),Nat.le_refl _⟩⟩,_,rfl⟩ (λi σ H' _ ⟨⟨_,J⟩,_⟩=>SqL.of (J.s _ _ efo)) (λi x σ H4 hx ⟨⟨kvs,J⟩,y,eσ⟩=> ?_) (λσ H4 ⟨⟨kvs,J⟩,y,eσ⟩=> ?_)⟩
 ·subst eσ
  rw[List.getElem?_map,Option.map_eq_some_iff]at hx
  obtain⟨fd,efd,rfl⟩:=hx
  obtain⟨g,eg,EO⟩:=GL PF efd
  rw[List.getElem?_map,Option.map_eq_some_iff]at eg
  obtain⟨lv,elv,rfl⟩:=eg
  have hlv:=List.mem_of_getElem? elv
  have hi:i<(FX vw).length:=(List.getElem?_eq_some_iff.mp elv).1
  push_cast[↓zfr]
  refine⟨.inr (.inr (.inl ⟨rfl,.inr ⟨kvs,J.e⟩⟩)),ly,gp,cl,fd,n,r,c,w,rows,m,vw,lv,rfl,(S.same B8).same J.s,hlv,J.s _ _ EO,λdm more H5 hdm s5 e5 PM ap=> ?_⟩
  have ml:more.length<=2:=by rw[PM.length];exact zkl lv
  have jl:=J.l
  have tk6:CZ H5 (upd H5 dl (.dT (FB kvs more))):=λy ys ey=>by rw[AO (DB ey (s5 _ _ J.e) (λz=>nomatch z))];exact ey
  refine⟨dl,dm,kvs,more,rfl,rfl,BX J.e hdm,s5 _ _ J.e,e5,λ_=>ap,small _ (by omega),FB kvs more,⟨λy o ey=> ?_,AM,?_,λj lv' hj ej fx hfx=> ?_,?_⟩⟩
  ·rw[AO (BX ey hdl)]
   exact s5 _ _ (J.s _ _ ey)
  ·refine yW (λk v e=> ?_) λkv hkv=> ?_
   ·obtain⟨lv',h1,fx,h2,h3,h4⟩:=J.A k v e
    exact⟨lv',h1,fx,h2,h3,CelV.keep tk6 (CelV.keep s5.tk h4)⟩
   ·obtain⟨k,ek⟩:=JD hkv
    obtain⟨fx,efx,h1,h2⟩:=GL PM ek
    exact⟨lv,hlv,fx,List.mem_of_getElem? efx,h1,CelV.keep tk6 h2⟩
  ·by_cases hji:j<i
   ·exact cH (J.B j lv' hji ej fx hfx)
   ·obtain rfl:j=i:=by omega
    rw[elv]at ej
    cases ej
    obtain⟨k,ek⟩:=JD hfx
    obtain⟨kv,ekv,h1,_⟩:=FQ PM ek
    rw[<-h1]
    exact yX (List.mem_of_getElem? ekv)
  ·have:=YK more kvs
   omega
 ·subst eσ
  have S4:=(S.same B8).same J.s
  have w1:=S.w1
  obtain⟨dp,IW⟩:=S4.pl.ob
  obtain⟨tc,C1,_⟩:=S4.pl.ls
  obtain⟨dp1,hgp1⟩:=(S.same s1).pl.ob
  obtain⟨tc1,hcl1,_⟩:=(S.same s1).pl.ls
  have nfo:fo≠gp/\fo≠cl:=⟨(BX hgp1 hfo).symm,(BX hcl1 hfo).symm⟩
  have ok2:=R6 ok
  have g2:(mended vw).rc.length=r * w:=by
   show((List.range vw.rc.length).map (C5 vw)).length=_
   simp[z2]
  have e0:(n+r+c+r+c) * w=n * w+r * w+c * w+r * w+c * w:=by simp only[Nat.add_mul]
  push_cast[↓zft]
  refine⟨gp,cl,dl,w,rows,m,kvs,E6 vw,E6 (mended vw),rfl,S.tp,S4.pl,by omega,w1,S.w6,J.e,S4.pv.asC,zkk ok,yV ok,yV ok2,λf x x' ex EY=> ?_,λrows' H5 P5 hl5 PC5 FR=> ?_⟩
  ·have BZ:f<n * w+r * w+c * w+r * w+c * w:=by
    have:=(List.getElem?_eq_some_iff.mp ex).1
    rw[zj4 vw ok]at this
    omega
   cases ev:CK kvs (pk w f)with
   | none =>
    refine .inl ⟨rfl,?_⟩
    have:=zj8 ok z1 z2 z3 hf BZ λlv hlv fx hfx e=> ?_
    ·rw[ex,EY]at this
     exact Option.some.inj this
    ·obtain⟨j,ej⟩:=JD hlv
     have hj:j<(ps.map V.ref).length:=by rw[List.length_map,pl];exact(List.getElem?_eq_some_iff.mp ej).1
     have:=J.B j lv hj ej fx hfx
     rw[e,ev]at this
     cases this
   | some v =>
    obtain⟨lv,hlv,fx,hfx,e1,e2⟩:=J.A _ v ev
    have:=yK e1
    have h3:=zj7 ok z1 z2 z3 hlv hfx
    rw[<-this,EY]at h3
    cases h3
    exact .inr ⟨v,rfl,e2⟩
  ·have tk5:CZ H4 H5:=λy ys e=>FR _ _ e λz=>by
    rcases z with z | z
    ·rw[z,IW]at e;cases e
    ·rw[z,C1]at e;cases e
   push_cast[↓zfu]
   exact q fo rows' H5 (s1.free hfo) ((F0.same J.s).on (λo e=>FR _ _ e λz=>z.elim nfo.1 nfo.2) tk5) P5 (by rw[hl5,rl]) (PlV.of PC5 z1 g2 z3 ok2) ((B8.trans J.s).sb.trans FR)
theorem zkp(h:MZ K a vs H Q E):RW K a (λ_=>E) (A0 Q) (A4 ["layout","plank","finds","due","find"] vs) H:=by
 rcases h with h | ⟨ly,gp,cl,n,r,c,w,rows,m,vw,rfl,S,hf,q⟩
 ·exact zko h
 push_cast[RW,↓vU]
 refine⟨ly,gp,vw,rfl,S.ground,λH1 s1=> ?_⟩
 rw[decide_eq_false hf]
 push_cast[]
 push_cast[↓zfo]
 exact⟨by decide,q _ s1⟩
theorem zkq(h:MZ K a vs H Q E):vs.length=2:=by
 rcases h with⟨_,_,_,_,_,_,_,_,_,_,rfl,_⟩ | ⟨_,_,_,_,_,_,_,_,_,_,rfl,_⟩
 ·rfl
 ·rfl
theorem LbAt.off{S:SA}{w n:Nat}{rows:List (List V)}{G:Addr->Prop}{H':Hp}(I:LbAt a H S w rows n)(s:SameBut G H H')(tk:CZ H H')(f:∀ x,G x->x∉[S.b,S.gp,S.cl,S.m,S.lt,S.ou]):LbAt a H' S w rows n:=by
 obtain⟨⟨dx,b1⟩,b2,b3,b4,⟨⟨d2,f1⟩,⟨ts,f2,f3⟩,f4,f5,f6⟩⟩:=I
 exact⟨⟨dx,s _ _ b1 λg=>f _ g (by simp)⟩,s _ _ b2 λg=>f _ g (by simp),s _ _ b3 λg=>f _ g (by simp),s _ _ b4 λg=>f _ g (by simp),⟨d2,s _ _ f1 λg=>f _ g (by simp)⟩,⟨ts,s _ _ f2 λg=>f _ g (by simp),Paired.mapP f3 λt r z=>tk _ _ z⟩,f4,f5,f6⟩
theorem LbAt.same{S:SA}{w n:Nat}{rows:List (List V)}{H':Hp}(I:LbAt a H S w rows n)(s:Same H H'):LbAt a H' S w rows n:=I.off (G:=λ_=>False) (Same.sb s) s.tk (λ_ z=>z.elim)
theorem LbAt.fresh{S:SA}{w n:Nat}{rows:List (List V)}{x:Addr}(I:LbAt a H S w rows n)(h:H x=none):x∉[S.b,S.gp,S.cl,S.m,S.lt,S.ou]:=by
 obtain⟨⟨dx,b1⟩,b2,b3,b4,⟨⟨d2,f1⟩,⟨ts,f2,f3⟩,_⟩⟩:=I
 simp[(BX b1 h).symm,(BX f1 h).symm,(BX f2 h).symm,(BX b2 h).symm,(BX b3 h).symm,(BX b4 h).symm]
theorem cI{gp cl x C dx w n:Nat}{rows:List (List V)}(P:PlankAt a H gp cl w rows n)(hx:H x=some (.ins C dx [])):gp≠x:=λz=>by
 obtain⟨dp,e⟩:=P.ob
 rw[z,hx]at e
 have e:=(HO.ins.inj (Option.some.inj e)).2.2
 simp[pf]at e
theorem SameBut.rfl{G:Addr->Prop}{H:Hp}:SameBut G H H:=λ_ _ e _=>e
theorem zkr(h:UZ K a vs H Q E):ZX K a (λ_=>E) (A0 Q) (A4 ["self","plank"] vs) H:=by
 obtain⟨b,gp,cl,dx,w,rows,n,rfl,T,TP,P,hb,q⟩:=h
 have V0:VI (a "Hold") H H b dx [] [] []:=⟨hb,SameBut.rfl,λp hp=>by cases hp⟩
 push_cast[ZX,↓Zz]
 refine V0.put T.cl T.nG λH1 V1=> ?_
 push_cast[↓zaa]
 refine⟨by decide,λm hm=>(V1.new hm).put T.cl T.nM λH2 V2=> ?_⟩
 push_cast[↓zab]
 have P2:=P.off hb (cI P hb) V2.s
 obtain⟨dp,hp⟩:=P2.ob
 have hr:=P.sz
 refine⟨_,_,hp,QD _ _ _,gp,cl,w,rows,n,rfl,TP,P2,rows.length,rfl,by omega,by omega,?_⟩
 rw[Int.toNat_natCast]
 refine LR (small _ (by omega)) (λi ys H'=>Same H2 H') (Same.refl _) (λi ys H' hi hl s=> ?_) (λys H' hl s mi hmi=> ?_)
 ·push_cast[]
  exact⟨by decide,λl hl'=>s.trans (AV hl')⟩
 refine((V2.same s).new hmi).put T.cl T.nI λH3 V3=> ?_
 push_cast[↓zac]
 refine λlt BZ=>(V3.new BZ).put T.cl T.nL λH4 V4=> ?_
 push_cast[↓zad]
 refine λou hou=>(V4.new hou).put T.cl T.nO λH5 V5=> ?_
 exact q m mi lt ou H5 V5.ob (V5.al _ (.tail _ (.tail _ (.tail _ (.head _))))).1 (V5.al _ (.tail _ (.head _))).1 (V5.al _ (.head _)).1 V5.s
theorem zks(h:U0 K a vs H Q E):ZY K a (λ_=>E) (A0 Q) (A4 ["self","place"] vs) H:=by
 obtain⟨S,w,rows,n,pl,i,j,rfl,T,TP,B,hp,hij,q⟩:=h
 obtain⟨dx,hb⟩:=B.ob
 obtain⟨dp,hg⟩:=B.pk.ob
 push_cast[ZY,↓zae,↓zaf]
 refine BY hp (n:=0) rfl rfl ?_
 push_cast[]
 refine CJ (by simp) ⟨_,_,_,hb,T.cl,T.nG,_,YS,S.gp,rfl,_,_,hg,QD _ _ _,S.gp,S.cl,w,rows,n,rfl,TP,B.pk,?_⟩
 push_cast[]
 refine B7 (by simp;omega) (BY hp (n:=1) rfl rfl ?_)
 push_cast[]
 refine CJ (by simp) ⟨_,_,_,hb,T.cl,T.nG,_,YS,S.gp,rfl,_,_,hg,OG _ _ _ (by decide +kernel) (by decide +kernel) (by decide +kernel),S.gp,S.cl,w,rows,n,rfl,TP,B.pk,?_⟩
 push_cast[]
 exact B7 (by simp;omega) q
theorem zkt(h:U1 K a vs H Q E):aJ K a (λ_=>E) (A0 Q) (A4 ["self","place"] vs) H:=by
 obtain⟨S,w,rows,n,pl,i,j,rfl,T,TP,B,hp,hij,q⟩:=h
 obtain⟨dx,hb⟩:=B.ob
 push_cast[aJ,↓zb6,↓zb7]
 refine⟨_,_,hb,OJ (by decide +kernel),S,w,rows,n,pl,i,j,rfl,T,TP,B,hp,hij,?_⟩
 push_cast[]
 exact⟨_,_,_,hb,T.cl,T.nL,_,Uj,S.lt,rfl,.inr ⟨_,.inl B.lt⟩,_,Rl B.lt hp,q⟩
theorem zku(h:L4 K a vs H Q E):aU K a (λ_=>E) (A0 Q) (A4 ["self","place","number"] vs) H:=by
 obtain⟨S,w,rows,n,pl,i,j,rfl,T,TP,B,hp,hij,q⟩:=h
 obtain⟨dx,hb⟩:=B.ob
 obtain⟨dp,hg⟩:=B.pk.ob
 push_cast[aU,↓zec,↓zed,↓zee,↓zef]
 refine⟨_,_,hb,OJ (by decide +kernel),S,w,rows,n,pl,i,j,rfl,T,TP,B,hp,hij,?_⟩
 push_cast[]
 refine⟨_,_,_,hb,T.cl,T.nG,_,YS,S.gp,rfl,_,_,hg,RX _ _ _,BY hp (n:=0) rfl rfl ⟨S.gp,S.cl,w,rows,n,i,rfl,TP,B.pk,λb' row eb er vl hvl=> ?_,λz=>by omega⟩⟩
 obtain rfl:i=b':=by omega
 have s1:=AV (o:=.lst row) hvl
 have rl:=B.pk.wd row (List.mem_of_getElem? er)
 have ej:=List.getElem?_eq_getElem (show j<row.length by omega)
 refine BY (s1 _ _ hp) (n:=1) rfl rfl (B0 (SqL.of AM) (n:=j) rfl ej (q _ _ ?_ s1))
 unfold O7
 rw[er]
 exact ej
theorem zkv(h:U3 K a vs H Q E):ZC K a (λ_=>E) (A0 Q) (A4 ["self"] vs) H:=by
 obtain⟨S,w,rows,n,rfl,T,B,q⟩:=h
 obtain⟨dx,hb⟩:=B.ob
 push_cast[ZC,↓Wp]
 refine⟨_,_,_,hb,T.cl,T.nM,_,Uh,0,.inl ⟨_,SqL.of B.m,rfl⟩,by decide,by decide,?_⟩
 exact KU (λ_=>true) (small _ (by decide)) (λi hi QB qb=>absurd hi (by simp)) λp hp=>q p _ (AV hp) AM
section
variable{lp b tk:Addr}
theorem VO:(sf lp b tk).lookup ("plan":Str)=some (V.ref lp):=by simp[sf]
theorem VP:(sf lp b tk).lookup ("book":Str)=some (V.ref b):=by
 simp[sf,List.lookup_cons,BL (a:="book") (b:="plan") (by decide +kernel)]
theorem HS{x:Str}(h:(EN x "plan" || EN x "book" || EN x "taken_out")=false):(sf lp b tk).lookup x=none:=by
 simp only[Bool.or_eq_false_iff]at h
 obtain⟨⟨h1,h2⟩,h3⟩:=h
 simp[sf,List.lookup_cons,BL h1,BL h2,BL h3]
end
theorem zkw(h:U5 K a vs H Q E):ZD K a (λ_=>E) (A0 Q) (A4 ["self"] vs) H:=by
 obtain⟨x,dx,lp,b,tk,rfl,T,e,q⟩:=h
 push_cast[ZD,↓Wq]
 exact⟨_,_,_,e,T.cl,T.n2,_,VP,q⟩
section
variable{S:SA}{n r c w m:Nat}{rows:List (List V)}{vw:Vw}
theorem UpAt.off{G:Addr->Prop}{H':Hp}(I:UpAt K a H S n r c w rows m vw)(s:SameBut G H H')(tk:CZ H H')(f:∀ x,G x->x∉[S.b,S.gp,S.cl,S.m,S.lt,S.ou])(n1:¬ G S.st)(n2:¬ G S.lp):UpAt K a H' S n r c w rows m vw:=by
 obtain⟨t4,⟨dx,e1⟩,ly,bk,rl,pv,w1,w6,n6,r6,c6⟩:=I
 exact⟨t4,⟨dx,s _ _ e1 n1⟩,ly.sb s n2,bk.off s tk f,rl,pv.same tk,w1,w6,n6,r6,c6⟩
theorem UpAt.same{H':Hp}(I:UpAt K a H S n r c w rows m vw)(s:Same H H'):UpAt K a H' S n r c w rows m vw :=
 I.off (G:=λ_=>False) (Same.sb s) s.tk (λ_ z=>z.elim) id id
end
theorem zkx(h:M0 K a vs H Q E):aV K a (λ_=>E) (A0 Q) (A4 ["self","layout","plank"] vs) H:=by
 obtain⟨x,dx,lp,gp,cl,n,r,c,w,rows,m,vw,rfl,T4,hx,L,P,rl,pv,⟨w1,w6,n6,r6,c6⟩,q⟩:=h
 have T4':=T4
 obtain⟨T,TP,TL,TS⟩:=T4'
 have V0:VI (a "Store") H H x dx [] [] []:=⟨hx,SameBut.rfl,λp hp=>by cases hp⟩
 push_cast[aV,↓zeg]
 refine V0.put TS.cl TS.n1 λH1 V1=> ?_
 push_cast[↓zeh]
 intro b db hb hdb ndb
 have s0:Same H1 (upd (upd H1 db (.own b)) b (.ins (a "Hold") db [])):=(AV hdb).trans (AV (by rw[AO ndb.symm];exact hb))
 have P1:=(P.off hx (cI P hx) V1.s).same s0
 refine⟨b,gp,cl,db,w,rows,m,rfl,T,TP,P1,AM,λmm mi lt ou H4 b1 b2 b3 b4 sb4=>⟨rfl,?_⟩⟩
 have s4:Same H1 H4:=λy o e=>sb4 _ _ (s0 _ _ e) (BX e hb)
 have V4:=V1.same s4
 have W4:VI (a "Store") H4 H4 x dx _ _ []:=⟨V4.ob,SameBut.rfl,λp hp=>by cases hp⟩
 refine W4.put TS.cl TS.n2 λH5 V5=> ?_
 push_cast[↓zei]
 refine λp hp=>(V5.new hp).put TS.cl TS.n3 λH6 V6=> ?_
 have P4:=P.off hx (cI P hx) V4.s
 obtain⟨dp,e5⟩:=P4.ob
 obtain⟨ts,e6,_⟩:=P4.ls
 obtain⟨dl,el⟩:=L.ob
 have B4:LbAt a H4 ⟨x,lp,p,b,gp,cl,mm,mi,lt,ou⟩ w rows m:=⟨⟨db,b1⟩,b2,b3,b4,P4⟩
 have sb:=V4.s.trans V6.s
 have tk:CZ H4 H6:=λy ys e=>V6.s _ _ e (DB e V4.ob (by intro z;cases z))
 refine q ⟨x,lp,p,b,gp,cl,mm,mi,lt,ou⟩ H6 rfl rfl rfl rfl ⟨T4,⟨dx,V6.ob⟩,L.sb sb (DB el hx (YO (by simp[lf]))),B4.off V6.s tk λy hy=> ?_,rl,pv.same λy ys e=>sb _ _ e (DB e hx (by intro z;cases z)),w1,w6,n6,r6,c6⟩ sb
 rw[show y=x from hy]
 simp[(DB b1 V4.ob (YO (by simp[bf,MC]))).symm,(DB e5 V4.ob (YO (by simp[pf,MC]))).symm,(DB e6 V4.ob (by intro z;cases z)).symm,(DB b2 V4.ob (by intro z;cases z)).symm,(DB b3 V4.ob (by intro z;cases z)).symm,(DB b4 V4.ob (by intro z;cases z)).symm]
theorem yY{ly gp cl:Addr}{n r c w m:Nat}{rows:List (List V)}{vw:Vw}{H1:Hp}{Q:Addr->Hp->Prop}{E:XK}(T4:L7 K a)(S:Site K a H1 ly gp cl n r c w rows m vw)
  (q:∀ (S:SA) (H2:Hp),S.lp=ly->S.gp=gp->S.cl=cl->UpAt K a H2 S n r c w rows m vw->Same H1 H2->Q S.st H2) :
  ∀ x dx,H1 x=none->H1 dx=none->dx≠x->M0 K a [.ref x,.ref ly,.ref gp] (upd (upd H1 dx (.own x)) x (.ins (a "Store") dx [])) (λv H2=>v=.non/\Q x H2) E:=λx dx hx NR nd=>by
 have s0:Same H1 (upd (upd H1 dx (.own x)) x (.ins (a "Store") dx [])):=(AV NR).trans (AV (by rw[AO nd.symm];exact hx))
 have S0:=S.same s0
 exact⟨x,dx,ly,gp,cl,n,r,c,w,rows,m,vw,rfl,T4,AM,S0.la,S0.pl,S.rl,S0.pv,⟨S.w1,S.w6,S.n6,S.r6,S.c6⟩,λS' H2 e1 e2 e3 e4 U sb=>⟨rfl,e1 ▸ q S' H2 e2 e3 e4 U λy o e=>sb _ _ (s0 _ _ e) (BX e hx)⟩⟩
section
variable{S:SA}{n r c w m:Nat}{rows:List (List V)}{vw:Vw}
theorem UpAt.hand(I:UpAt K a H S n r c w rows m vw){b k d:Nat}{pre us post:List V}(e:rows.flatten=pre++us++post)(hp:pre.length=b * w)(hu:us.length=d * w)(hb:b+d<=rows.length)(hk:k<d * w):RO rows w (b+k / w) (k % w)/\O7 rows (b+k / w) (k % w)=us[k]? :=by
 obtain⟨h1,h2,h3⟩:=cB I.bk.pk.wd I.w1 hk hb
 refine⟨⟨h2,h3⟩,?_⟩
 show(rows[b+k / w]?).bind (λr=>r[k % w]?)=_
 rw[<-VL I.bk.pk.wd h2 h3]
 have:(b+k / w) * w+k % w=b * w+k:=by
  rw[Nat.add_mul,Nat.add_assoc]
  congr 1
  rw[Nat.mul_comm];exact Nat.div_add_mod k w
 rw[this,e,List.append_assoc,List.getElem?_append_right (by omega),List.getElem?_append_left (by omega)]
 congr 1
 omega
theorem UpAt.nmH(I:UpAt K a H S n r c w rows m vw){k:Nat}(hk:k<n * w):RO rows w (k / w) (k % w)/\∀ v x,O7 rows (k / w) (k % w)=some v->vw.nm[k]? =some x->NmV H v x:=by
 obtain⟨v1,v2,v3,v4,v5,e,p1,p2,p3,p4,p5⟩:=I.pv.vs
 have:=I.hand (b:=0) (k:=k) (d:=n) (pre:=[]) (us:=v1) (post:=v2++v3++v4++v5) (by rw[e];simp) (by simp) (by rw[p1.length,I.pv.ln]) (by have:=I.rl;omega) hk
 rw[Nat.zero_add]at this
 refine⟨this.1,λv x hv hx=> ?_⟩
 rw[this.2]at hv
 obtain⟨v',ev,q⟩:=FQ p1 hx
 rw[hv]at ev
 cases ev
 exact q
theorem UpAt.rcH(I:UpAt K a H S n r c w rows m vw){k:Nat}(hk:k<r * w):RO rows w (n+k / w) (k % w)/\∀ v x,O7 rows (n+k / w) (k % w)=some v->vw.rc[k]? =some x->RcV H v x:=by
 obtain⟨v1,v2,v3,v4,v5,e,p1,p2,p3,p4,p5⟩:=I.pv.vs
 have:=I.hand (b:=n) (k:=k) (d:=r) (pre:=v1) (us:=v2) (post:=v3++v4++v5) (by rw[e];simp) (by rw[p1.length,I.pv.ln]) (by rw[p2.length,I.pv.lr]) (by have:=I.rl;omega) hk
 refine⟨this.1,λv x hv hx=> ?_⟩
 rw[this.2]at hv
 obtain⟨v',ev,q⟩:=FQ p2 hx
 rw[hv]at ev
 cases ev
 exact q
theorem UpAt.pcH(I:UpAt K a H S n r c w rows m vw){k:Nat}(hk:k<c * w):RO rows w (n+r+k / w) (k % w)/\∀ v x,O7 rows (n+r+k / w) (k % w)=some v->vw.pc[k]? =some x->PcV H v x:=by
 obtain⟨v1,v2,v3,v4,v5,e,p1,p2,p3,p4,p5⟩:=I.pv.vs
 have:=I.hand (b:=n+r) (k:=k) (d:=c) (pre:=v1++v2) (us:=v3) (post:=v4++v5) (by rw[e];simp) (by rw[List.length_append,p1.length,I.pv.ln,p2.length,I.pv.lr,Nat.add_mul]) (by rw[p3.length,I.pv.lp]) (by have:=I.rl;omega) hk
 refine⟨this.1,λv x hv hx=> ?_⟩
 rw[this.2]at hv
 obtain⟨v',ev,q⟩:=FQ p3 hx
 rw[hv]at ev
 cases ev
 exact q
end
theorem zky(h:K0 K a vs H Q E):bE K a (λ_=>E) (A0 Q) (A4 ["self"] vs) H:=by
 obtain⟨S,n,r,c,w,rows,m,vw,us,rfl,I,rfl,q⟩:=h
 obtain⟨T,TP,TL,TS⟩:=I.t4
 obtain⟨dx,ho⟩:=I.ob
 obtain⟨dl,el⟩:=I.ly.ob
 obtain⟨db,eb⟩:=I.bk.ob
 have hkm:n * w<=36:=Nat.mul_le_mul I.n6 I.w6
 push_cast[bE,↓ze2]
 refine⟨_,_,_,ho,TS.cl,TS.n1,_,VO,S.lp,rfl,_,_,el,EH (by decide +kernel),S.lp,n,r,c,w,rfl,TL,I.ly,λt ht=> ?_⟩
 have s1:=AV (o:=.tup [V.int ((n:Int) * w),V.int ((r:Int) * w),V.int ((c:Int) * w)]) ht
 refine BY AM (n:=0) rfl rfl ?_
 revert s1
 generalize upd H t (.tup [V.int ((n:Int) * w),V.int ((r:Int) * w),V.int ((c:Int) * w)])=H1
 intro s1
 have em:(n:Int) * w=(n * w:Nat):=by simp
 rw[em]
 push_cast[]
 refine⟨by omega,by omega,LR (small _ (by omega)) (λi ys H'=>Same H H'/\Paired (NmV H') ys (vw.nm.take i)) ⟨s1,.nil⟩ (λi ys H' hi hl ⟨s,al⟩=> ?_) (λys H' hl ⟨s,al⟩ p hp=> ?_)⟩
 ·push_cast[B3]
  refine⟨_,_,_,s _ _ ho,TS.cl,TS.n2,_,VP,S.b,rfl,_,_,s _ _ eb,OJ (by decide +kernel),_,_,_,s _ _ ho,TS.cl,TS.n1,_,VO,S.lp,rfl,_,_,s _ _ el,EH (by decide +kernel),S.lp,n,r,c,w,i,by simp,TL,I.ly.same s,λu hu=> ?_⟩
  have s2:=s.trans (AV (o:=.tup [.int (0+(i:Int) / w),.int ((i:Int) % w)]) hu)
  have SR:i<vw.nm.length:=by rw[I.pv.ln];exact hi
  have ex:=List.getElem?_eq_getElem SR
  refine⟨S,w,rows,m,u,(i / w:Nat),(i % w:Nat),rfl,T,TP,I.bk.same s2,by rw[AM];simp,(I.nmH hi).1,λv H3 ev s3=>⟨s2.trans s3,?_⟩⟩
  rw[FM ex]
  exact Paired.snoc (Paired.mapP al λv c h=>h.keep ((AV hu).trans s3).tk) (((I.nmH hi).2 v _ ev ex).keep (s2.trans s3).tk)
 ·have sp:=AV (o:=.lst ys) hp
  rw[List.take_of_length_le (by rw[I.pv.ln];exact Nat.le_refl _)]at al
  exact q p ys _ (s.trans sp) AM (Paired.mapP al λv c h=>h.keep sp.tk)
theorem zkz(h:K0 K a vs H Q E):vs.length=1:=by
 obtain⟨_,_,_,_,_,_,_,_,_,rfl,_,rfl,_⟩:=h
 rfl
theorem zk0(h:RQ K a vs H Q E):bK K a (λ_=>E) (A0 Q) (A4 ["self","name","cell","value"] vs) H:=by
 obtain⟨S,n,r,c,w,rows,m,vw,us,rfl,I,z,k,r',rfl,N,q⟩:=h
 obtain⟨dx,ho⟩:=I.ob
 push_cast[bK,↓zfm]
 refine⟨_,_,ho,HS (by decide +kernel),S,n,r,c,w,rows,m,vw,[],rfl,I,rfl,λl xs H1 s1 el hx=> ?_⟩
 refine⟨l,rfl,⟨_,SqL.of el⟩,kE (xs:=xs) (λi σ H'=>(Same H H'/\Same H1 H'/\i<=k)/\∃ x y,σ=[some (.ref S.st),some (.str z),x,y]) ⟨⟨s1,Same.refl _,Nat.zero_le _⟩,_,_,rfl⟩ (λi σ H' _ ⟨⟨_,s,_⟩,_⟩=>SqL.of (s _ _ el)) (λi x σ H' t hxi ⟨⟨sH,s,lo⟩,y1,y2,ez⟩ ht=> ?_) (λσ H' ⟨⟨sH,s,lo⟩,y1,y2,ez⟩=> ?_)⟩
 ·subst ez
  have hi:=(List.getElem?_eq_some_iff.mp hxi).1
  rw[hx.length]at hi
  have en:=List.getElem?_eq_getElem hi
  have s2:=s.trans (AV (o:=.tup [.int (i:Int),x]) ht)
  have sH2:=sH.trans (AV (o:=.tup [.int (i:Int),x]) ht)
  obtain⟨x',EY,nx⟩:=FQ hx en
  rw[hxi]at EY
  cases EY
  have nx:=nx.keep s2.tk
  push_cast[]
  refine⟨_,SqT.of AM,rfl,_,_,rfl,_,_,rfl,rfl,?_⟩
  revert s2 sH2 nx
  generalize upd H' t (.tup [.int (i:Int),x])=H2
  intro s2 sH2 nx
  push_cast[↓zfl,↓zfk]
  have next:i≠k->Same H H2/\Same H1 H2/\i+1<=k:=λh=>⟨sH2,s2,by omega⟩
  revert nx
  cases e:vw.nm[i]with
  | none =>
   intro nx
   rw[show x=.non from nx]
   push_cast[]
   exact next λz=>by subst z;rw[N.1,e]at en;cases en
  | some p =>
   rintro ⟨u,rfl,eu⟩
   rw[if_pos (by simp)]
   refine BY eu (n:=0) rfl rfl ?_
   push_cast[]
   by_cases hz:p.1=z
   ·rw[if_pos hz]
    have:i=k:=by
     rcases Nat.lt_or_ge i k with y | y
     ·exact absurd hz (N.2 i p y (by rw[en,e]))
     ·omega
    rw[this]
    exact q _ sH2
   ·rw[if_neg hz]
    exact next λy=>by subst y;rw[N.1,e]at en;cases en;exact hz rfl
 ·exfalso
  have:=(List.getElem?_eq_some_iff.mp N.1).1
  rw[hx.length]at lo
  omega
theorem zk1(h:RQ K a vs H Q E):vs.length=2:=by
 obtain⟨_,_,_,_,_,_,_,_,_,rfl,_,_,_,_,rfl,_⟩:=h
 rfl
theorem zk2(h:L8 K a vs H Q E):bJ K a (λ_=>E) (A0 Q) (A4 ["self"] vs) H:=by
 obtain⟨S,n,r,c,w,rows,m,vw,us,rfl,I,rfl,q⟩:=h
 obtain⟨dx,ho⟩:=I.ob
 have hkm:n * w<=36:=Nat.mul_le_mul I.n6 I.w6
 push_cast[bJ,↓zfj]
 refine⟨_,_,ho,HS (by decide +kernel),S,n,r,c,w,rows,m,vw,[],rfl,I,rfl,λl xs H1 s1 el hx=> ?_⟩
 have FT:=hx.length
 have hnl:=I.pv.ln
 push_cast[]
 refine .inl ⟨⟨_,SqL.of el⟩,X7 (xs:=xs) (small _ (by omega)) (λi σ' ys H'=>H'=H1/\(∃ y0,σ'=[y0])/\ys=(IS (vw.nm.take i)).map V.str) ⟨rfl,⟨_,rfl⟩,rfl⟩ (λi σ' ys H' ⟨e,_,ey⟩=>⟨e ▸ SqL.of el,by rw[ey,List.length_map];exact Nat.le_trans (List.length_filterMap_le _ _) (by rw[List.length_take];exact Nat.min_le_left _ _)⟩) (λi x σ' ys H' hi hxi ⟨e,⟨y0,es⟩,ey⟩=> ?_) (λσ' ys H' ⟨e,_,ey⟩ p hp=> ?_)⟩
 ·subst e es
  have SR:i<vw.nm.length:=by omega
  have en:=List.getElem?_eq_getElem SR
  obtain⟨x',EY,nx⟩:=FQ hx en
  rw[hxi]at EY
  cases EY
  have JK:IS (vw.nm.take (i+1))=IS (vw.nm.take i)++((vw.nm[i]).map (·.1)).toList:=by
   rw[FM en]
   unfold IS
   rw[List.filterMap_append]
   cases vw.nm[i]<;>rfl
  push_cast[]
  revert nx JK
  cases e:vw.nm[i]with
  | none =>
   intro nx JK
   rw[show x=.non from nx,if_neg (by simp)]
   exact⟨_,by omega,rfl,by omega,by rw[JK,ey];simp⟩
  | some p =>
   rintro ⟨u,rfl,eu⟩ JK
   rw[if_pos (by simp)]
   exact⟨λy H4=>y=.str p.1/\H4=H',λy H4 ⟨e1,e2⟩=>⟨_,by omega,rfl,by omega,e2,by rw[JK,ey,e1];simp⟩,BY eu (n:=0) rfl rfl ⟨rfl,rfl⟩⟩
 ·subst e
  rw[List.take_of_length_le (by omega)]at ey
  have sp:=AV (o:=.lst ys) hp
  refine⟨p,IS vw.nm,rfl,by rw[<-ey];exact SqL.of AM,Nat.lt_of_le_of_lt (List.length_filterMap_le _ _) (by omega),λD ks hD pk hs=> ?_⟩
  exact q D ks _ ((s1.trans sp).trans (AV hD)) AM pk hs
theorem zk3(h:L8 K a vs H Q E):vs.length=1:=by
 obtain⟨_,_,_,_,_,_,_,_,_,rfl,_,rfl,_⟩:=h
 rfl
theorem zk4(h:RR K a vs H Q E):bL K a (λ_=>E) (A0 Q) (A4 ["self","name","cell"] vs) H:=by
 obtain⟨S,n,r,c,w,rows,m,vw,us,rfl,I,z,k,r',rfl,N,q⟩:=h
 obtain⟨dx,ho⟩:=I.ob
 push_cast[bL,↓zfv]
 refine⟨_,_,ho,HS (by decide +kernel),S,n,r,c,w,rows,m,vw,[.str z],rfl,I,z,k,r',rfl,N,λH1 s1=> ?_⟩
 push_cast[↓zfx,↓zfy]
 refine⟨_,_,s1 _ _ ho,HS (by decide +kernel),S,n,r,c,w,rows,m,vw,[],rfl,I.same s1,rfl,λl xs H2 s2 el hx=> ?_⟩
 obtain⟨x,ex,u,rfl,eu⟩:=FQ hx N.1
 exact B0 (SqL.of el) rfl ex (BY eu (n:=1) rfl rfl (q _ (s1.trans s2)))
theorem zk5(h:RR K a vs H Q E):vs.length=2:=by
 obtain⟨_,_,_,_,_,_,_,_,_,rfl,_,_,_,_,rfl,_⟩:=h
 rfl
theorem zk6(h:RS K a vs H Q E):bF K a (λ_=>E) (A0 Q) (A4 ["self","record"] vs) H:=by
 obtain⟨S,n,r,c,w,rows,m,vw,us,rfl,I,k,x,rfl,ex,q⟩:=h
 obtain⟨T,TP,TL,TS⟩:=I.t4
 obtain⟨dx,ho⟩:=I.ob
 obtain⟨dl,el⟩:=I.ly.ob
 obtain⟨db,eb⟩:=I.bk.ob
 have hk:k<r * w:=by rw[<-I.pv.lr];exact(List.getElem?_eq_some_iff.mp ex).1
 push_cast[bF,↓ze3]
 refine⟨_,_,_,ho,TS.cl,TS.n2,_,VP,S.b,rfl,_,_,eb,OJ (by decide +kernel),_,_,_,ho,TS.cl,TS.n1,_,VO,S.lp,rfl,_,_,el,EH (by decide +kernel),S.lp,n,r,c,w,k,rfl,TL,I.ly,λu hu=> ?_⟩
 have s2:=AV (o:=.tup [.int (n+(k:Int) / w),.int ((k:Int) % w)]) hu
 refine⟨S,w,rows,m,u,(n+k / w:Nat),(k % w:Nat),rfl,T,TP,I.bk.same s2,by rw[AM];simp,(I.rcH hk).1,λv H3 ev s3=> ?_⟩
 exact q v H3 (s2.trans s3) (((I.rcH hk).2 v x ev ex).keep (s2.trans s3).tk)
theorem zk7(h:RS K a vs H Q E):vs.length=2:=by
 obtain⟨_,_,_,_,_,_,_,_,_,rfl,_,_,_,rfl,_⟩:=h
 rfl
theorem zk8(h:L9 K a vs H Q E):bN K a (λ_=>E) (A0 Q) (A4 ["self","name","pieces"] vs) H:=by
 obtain⟨S,n,r,c,w,rows,m,vw,us,rfl,I,z,k,r',x,ts,rfl,N,ex,pt,q⟩:=h
 obtain⟨T,TP,TL,TS⟩:=I.t4
 obtain⟨dx,ho⟩:=I.ob
 obtain⟨dl,el⟩:=I.ly.ob
 obtain⟨db,eb⟩:=I.bk.ob
 push_cast[bN,↓zfz]
 refine⟨_,_,ho,HS (by decide +kernel),_,_,ho,HS (by decide +kernel),S,n,r,c,w,rows,m,vw,[.str z],rfl,I,z,k,r',rfl,N,λH1 s1=> ?_⟩
 refine⟨S,n,r,c,w,rows,m,vw,[.int r'],rfl,I.same s1,r',some x,rfl,ex,λv H2 s2 rv=> ?_⟩
 obtain⟨t0,u0,rfl,et0,eu0⟩:=rv
 refine BY et0 (n:=1) rfl rfl ?_
 have NN:=s1.trans s2
 have hx10:=(I.pv.ok.n2 x (List.mem_of_getElem? ex)).2
 push_cast[↓zf0]
 refine .inr ⟨⟨_,SqT.of eu0⟩,cC (xs:=AU x.2) (small _ (by simp[AU];omega)) (λi ys H'=>Same H2 H'/\ys=(ts.take i).map V.str) ⟨Same.refl _,rfl⟩ (λi ys H' _ ⟨s',_⟩=>SqT.of (s' _ _ eu0)) (λi y ys H' hx hyl ⟨s',ey⟩=> ?_) (λys H' hyl ⟨s',ey⟩ lc hlc=> ?_)⟩
 ·unfold AU at hx
  rw[List.getElem?_map,Option.map_eq_some_iff]at hx
  obtain⟨p,ep,rfl⟩:=hx
  have gX:i<ts.length:=by have:=(List.getElem?_eq_some_iff.mp ep).1;have:=pt.length;omega
  have SN:=List.getElem?_eq_getElem gX
  obtain⟨p',ep',eP⟩:=FQ pt SN
  rw[ep]at ep'
  cases ep'
  have KD:p<c * w:=by rw[<-I.pv.lp];exact(List.getElem?_eq_some_iff.mp eP).1
  have sH:=NN.trans s'
  have I':=I.same sH
  push_cast[B3]
  refine⟨_,_,_,sH _ _ ho,TS.cl,TS.n2,_,VP,S.b,rfl,_,_,sH _ _ eb,OJ (by decide +kernel),_,_,_,sH _ _ ho,TS.cl,TS.n1,_,VO,S.lp,rfl,_,_,sH _ _ el,EH (by decide +kernel),S.lp,n,r,c,w,p,rfl,TL,I'.ly,λu' hu'=> ?_⟩
  have su:=AV (o:=.tup [.int (n+r+(p:Int) / w),.int ((p:Int) % w)]) hu'
  refine⟨S,w,rows,m,u',(n+r+p / w:Nat),(p % w:Nat),rfl,T,TP,I'.bk.same su,by rw[AM];simp,(I.pcH KD).1,λv H3 ev s3=> ?_⟩
  rw[show v=.str ts[i]from(I.pcH KD).2 v _ ev eP]
  refine⟨(s'.trans su).trans s3,?_⟩
  rw[List.take_add_one,SN,ey,List.map_append]
  rfl
 ·have hl:(AU x.2).length=ts.length:=by rw[<-pt.length];simp[AU]
  rw[hl,List.take_length]at ey
  subst ey
  exact q lc _ ((NN.trans s').trans (AV hlc)) AM
theorem zk9(h:L9 K a vs H Q E):vs.length=2:=by
 obtain⟨_,_,_,_,_,_,_,_,_,rfl,_,_,_,_,_,_,rfl,_⟩:=h
 rfl
theorem zla(h:MA K a vs H Q E):VC K a (λ_=>E) (A0 Q) (A4 ["layout","plank"] vs) H:=by
 rcases h with⟨ly,gp,cl,n,r,c,w,rows,m,vw,rfl,T4,S,hf,q⟩ | ⟨ly,gp,cl,n,r,c,w,rows,m,vw,rfl,S,hf,q⟩
 ·push_cast[VC,↓wE]
  refine .inl ⟨ly,gp,cl,n,r,c,w,rows,m,vw,rfl,S,hf,λfo KE H2 hfo F2 P2 EE pv2 IV=> ?_⟩
  obtain⟨dl,el⟩:=S.la.ob
  obtain⟨dp,ep⟩:=S.pl.ob
  obtain⟨tc,ec,_⟩:=S.pl.ls
  have nly:¬ (ly=gp\/ly=cl):=λz=>by
   rcases z with z | z
   ·rw[z,ep]at el;injection el with z;injection z with _ _ z;exact absurd (congrArg List.length z) (by simp[pf,lf])
   ·rw[z,ec]at el;cases el
  push_cast[↓zf1]
  refine yY T4 ⟨S.tv,S.tl,S.tp,S.la.sb IV nly,P2,EE,pv2,S.w1,S.w6,S.n6,S.r6,S.c6⟩ λS' H3 e1 e2 e3 U s3=> ?_
  exact q S' KE H3 e1 e2 e3 U (IV.trans (Same.sb s3))
 ·push_cast[VC,↓wE]
  exact .inr ⟨ly,gp,cl,n,r,c,w,rows,m,vw,rfl,S,hf,q⟩
theorem zlb(h:MA K a vs H Q E):vs.length=2:=by
 rcases h with⟨_,_,_,_,_,_,_,_,_,_,rfl,_⟩ | ⟨_,_,_,_,_,_,_,_,_,_,rfl,_⟩
 ·rfl
 ·rfl
theorem zlc(h:RN K a vs H Q E):bO K a (λ_=>E) (A0 Q) (A4 ["layout","plank","right","other","e"] vs) H:=by
 obtain⟨ly,gp,cl,n,r,c,w,rows,m,vw,rfl,X,S,hf,q⟩:=h
 push_cast[bO,↓zf2,↓zf3,↓zf7,↓zf4]
 refine .inr ⟨ly,gp,cl,n,r,c,w,rows,m,vw,rfl,S,hf,λH1 s1=>.inl ⟨X.hit,λe he=> ?_⟩⟩
 obtain⟨H2,zz0,se,ee⟩:=DA (o:=.ext (KO e (.ref (a "NotSound")))) he
 rw[zz0]
 have ty:∀ {H':Hp},Same H2 H'->TyX K H' (.ref e) (.ref (a "NotSound")):=λs=>.inr ⟨e,a "NotSound",rfl,rfl,s _ _ ee,X.ec⟩
 push_cast[↓zf5]
 refine j9 (ty (Same.refl _)) (.own _) X.i1 ⟨true,rfl,CJ rfl (j9 (ty (Same.refl _)) (.ty _) X.iv ?_)⟩
 push_cast[↓zf6]
 refine⟨by decide,λt ht=> ?_⟩
 have s3:=AV (o:=.tup [.ref (a "NoBlock"),.ref (a "NoChange"),.ref (a "NoName"),.ref (a "NoPiece"),.ref (a "NoRoom"),.ref (a "NoRow"),.ref (a "Twice")]) ht
 refine Qp (ty s3) (SqT.of AM) (.cons (.own _) (.cons (.own _) (.cons (.own _) (.cons (.own _) (.cons (.own _) (.cons (.own _) (.cons (.own _) .nil))))))) X.no ?_
 push_cast[↓zf8]
 exact q _ ((s1.trans se).trans s3)
theorem zld{w n:Nat}{cs:List Cel}:JV w n cs cs=0:=by
 unfold JV
 simp
theorem zle{l e0:Addr}(F:FindsL H l [])(h2:H e0=some (.lst []))(q:Q (.bl false) H):DH K (.ref l) (.ref e0) H Q:=by
 obtain⟨ps,e,P⟩:=F
 cases P
 exact XZ (n:=1) (by decide) (SqL.of e) .nil (SqL.of h2) q
theorem LWAt.off{F:Addr->Prop}{A:LW}{vw:Vw}{lf:List Nat}{H':Hp}(I:LWAt H A vw lf)(s:SameBut F H H')(tk:CZ H H')(hv:¬ F A.v)(hL:∀ x∈A.L,¬ F x):LWAt H' A vw lf:=by
 have m0:¬ F A.a0:=hL _ (by simp[LW.L])
 have m1:¬ F A.a1:=hL _ (by simp[LW.L])
 have m2:¬ F A.a2:=hL _ (by simp[LW.L])
 have m3:¬ F A.a3:=hL _ (by simp[LW.L])
 have m4:¬ F A.a4:=hL _ (by simp[LW.L])
 have m5:¬ F A.a5:=hL _ (by simp[LW.L])
 exact⟨s _ _ I.ob hv,I.n.keep (λv c=>NmV.keep tk) (λo e=>s _ _ e m0),I.r.keep (λv c=>RcV.keep tk) (λo e=>s _ _ e m1),I.p.keep (λv c=>PcV.keep tk) (λo e=>s _ _ e m2),I.rm.keep (λv c=>MkV.keep tk) (λo e=>s _ _ e m3),I.pm.keep (λv c=>MkV.keep tk) (λo e=>s _ _ e m4),s _ _ I.l m5,I.ok,I.nd,I.nv⟩
theorem zlf{l1 l2:Addr}{p1 p2:List Addr}{rows:List (List V)}(e1:H l1=some (.lst (p1.map V.ref)))(e2:H l2=some (.lst (p2.map V.ref)))(P1:Paired (λl r=>H l=some (.lst r)) p1 rows)(P2:Paired (λl r=>H l=some (.lst r)) p2 rows)(g:good7 H rows)(q:Q (.bl false) H):DH K (.ref l1) (.ref l2) H Q:=by
 have:∃ ds:List PyData,∀ ps:List Addr,Paired (λl r=>H l=some (.lst r)) ps rows->Paired (Dat K H 8) (ps.map V.ref) ds:=by
  clear P1 P2 e1 e2
  induction rows with
  | nil=>exact⟨[],λps P=>by cases P;exact .nil⟩
  | cons f r ih =>
   obtain⟨ds,hd⟩:=ih λr' hr=>g r' (List.mem_cons_of_mem _ hr)
   obtain⟨d,hf⟩:=zhr (K:=K) (g f List.mem_cons_self)
   refine⟨.list d::ds,λps P=> ?_⟩
   cases P with
   | cons e P=>exact .cons (Dat.lst (n:=7) (SqL.of e) hf) (hd _ P)
 obtain⟨ds,hd⟩:=this
 exact TZ (n:=9) (by decide) (Dat.lst (n:=8) (SqL.of e1) (hd _ P1)) (Dat.lst (n:=8) (SqL.of e2) (hd _ P2)) q
theorem yZ{gp cl:Addr}{w m:Nat}{rows:List (List V)}{σ:St}{Q:VK}(TP:FG K a)(P:PlankAt a H gp cl w rows m)(hM:rows.length<=30)(hσ:B3 [5] σ=[some (.ref gp)])(q:∀ R ls H2,Same H H2->H2 R=some (.lst (ls.map V.ref))->Paired (λl r=>H2 l=some (.lst r)) ls rows->Q (.ref R) H2):FU (GU 0 rows.length) (AG 0) DL (BC (a "Plank") "read" (G8 K a) [] (λ_=>E0) (EA 1) (DZ (EA 0) BI)) 1 [5] σ H Q:=by
 refine LR (small _ (by omega)) (λi ys H'=>Same H H'/\∃ ls:List Addr,ys=ls.map V.ref/\Paired (λl r=>H' l=some (.lst r)) ls (rows.take i)) ⟨Same.refl _,[],rfl,.nil⟩ (λi ys H1 hi _ hzz=> ?_) (λys H1 _ ⟨s,ls,e,P1⟩ p hp=> ?_)
 ·obtain⟨s,ls,e,P1⟩:=hzz
  have P2:=P.same s
  obtain⟨dp,JJ⟩:=P2.ob
  rw[hσ]
  push_cast[Int.zero_add]
  refine⟨_,_,JJ,RX _ _ _,gp,cl,w,rows,_,i,rfl,TP,P2,λb' row eb er l hl=> ?_,λz=>by omega⟩
  obtain rfl:i=b':=by omega
  refine⟨HQ s hl,ls++[l],by rw[e,List.map_append];rfl,?_⟩
  rw[FM er]
  exact Paired.snoc (Paired.mapP P1 λt r e=>AV hl _ _ e) AM
 ·subst e
  rw[List.take_length]at P1
  exact q p ls _ (s.trans (AV hp)) AM (Paired.mapP P1 λl r e=>AV hp _ _ e)
def HU(nm:List GD):List (Str × Nat):=nm.filterMap id
theorem zA(nm:List GD):(HU nm).map (·.1)=IS nm:=by
 induction nm with
 | nil=>rfl
 | cons c r ih=>cases c with
  | none=>exact ih
  | some c=>exact congrArg (c.1::·) ih
theorem zlg{nm:List GD}{i:Nat}{c:GD}(e:nm[i]? =some c):HU (nm.take (i+1))=HU (nm.take i)++c.toList:=by
 rw[FM e]
 unfold HU
 rw[List.filterMap_append]
 cases c<;>rfl
theorem zlh{nm:List GD}{c:Str × Nat}(h:c∈HU nm):∃ k:Nat,nm[k]? =some (some c):=by
 obtain⟨x,hx,e⟩:=List.mem_filterMap.mp h
 obtain⟨k,ek⟩:=JD hx
 exact⟨k,by rw[ek];exact congrArg some e⟩
theorem K5{n:Nat}:∀ {l:List Str},(∀ z∈l,PyData.strOk z=true)->Paired (Dat K H n) (l.map V.str) (l.map PyData.str)
 | [],_=>.nil
 | z::r,h=>.cons ⟨.str z,h z List.mem_cons_self,Nat.zero_le _⟩ (K5 λy hy=>h y (List.mem_cons_of_mem _ hy))
theorem SB{α :Type}{l:List (Option α)}{k:Nat}{x: α}:AD l k=some x↔l[k]? =some (some x):=by
 unfold AD
 cases l[k]? with
 | none=>simp
 | some y=>simp
theorem zB{vw:Vw}{lf:List Nat}{zs:List Str}(C:Clean vw lf zs)(ok:E5 vw){c:Str × Nat}(h:c∈HU vw.nm):∃ (k:Nat) (x:Int × List Nat) (y:Int) (ts:List Str),RP (mended vw) c.1 k c.2/\vw.rc[c.2]? =some (some x)/\(mended vw).rc[c.2]? =some (some (y,x.2))/\U6 vw x.2 ts/\(∀ t∈ts,PyData.strOk t=true)/\x.2.length<=10:=by
 obtain⟨k,ek⟩:=zlh h
 have ak:=SB.mpr ek
 have hs:=C.ls k c ak
 cases ex:AD vw.rc c.2 with
 | none=>rw[ex]at hs;cases hs
 | some x =>
  have EY:=SB.mp ex
  have hl:0<led vw c.2:=by
   refine List.count_pos_iff.mpr (List.mem_filterMap.mpr ⟨some c,List.mem_of_getElem? ek,rfl⟩)
  have em:C5 vw c.2=some ((led vw c.2:Int),x.2):=by
   unfold C5
   rw[ex]
   exact if_neg (by omega)
  have tx:∀ ps:List Nat,(∀ p∈ps,(AD vw.pc p).isSome=true)->∃ ts,U6 vw ps ts/\∀ t∈ts,PyData.strOk t=true:=by
   intro ps
   induction ps with
   | nil=>exact λ_=>⟨[],.nil,by simp⟩
   | cons p r ih =>
    intro hp
    obtain⟨ts,h1,h2⟩:=ih λq hq=>hp q (List.mem_cons_of_mem _ hq)
    have hp:=hp p List.mem_cons_self
    cases e:AD vw.pc p with
    | none=>rw[e]at hp;cases hp
    | some t =>
     have e':=SB.mp e
     refine⟨t::ts,.cons e' h1,λs hs=> ?_⟩
     rcases List.mem_cons.mp hs with rfl | hs
     ·exact ok.n3 _ (List.mem_of_getElem? e')
     ·exact h2 s hs
  obtain⟨ts,h1,h2⟩:=tx x.2 λp hp=>(C.em c.2 x ex p hp).1
  exact⟨k,x,_,ts,⟨ek,λj d hj hd=>C.ds j k d c hj (SB.mpr hd) ak⟩,EY,SB.mp (by rw[HB];exact em),h1,h2,(ok.n2 x (List.mem_of_getElem? EY)).2⟩
structure St64(K:W.Frag)(a:Ad)(H:Hp)(A:LW)(S:SA)(z l:Addr)(n r c w:Nat)(rows:List (List V))(m:Nat)(vw:Vw)(lf:List Nat)(xs:List V):Prop where
 ez:H z=some (.tup [.int n,.int r,.int c,.int w])
 I:LWAt H A vw lf
 U:UpAt K a H S n r c w rows m (mended vw)
 sl:H l=some (.lst xs)
 sp:Paired (λv c=>NmV H v (some c)) xs (HU vw.nm)
section
variable{A:LW}{S:SA}{z l:Addr}{n r c w m:Nat}{rows:List (List V)}{vw:Vw}{lf:List Nat}{xs:List V}
def QE(A:LW)(S:SA)(l x:Addr):Prop:=x≠A.v/\x∉A.L/\x≠S.lp/\x≠S.st/\x∉[S.b,S.gp,S.cl,S.m,S.lt,S.ou]/\x≠l
theorem St64.fresh(J:St64 K a H A S z l n r c w rows m vw lf xs){x:Addr}(h:H x=none):QE A S l x:=by
 obtain⟨d1,e1⟩:=J.U.ob
 obtain⟨d2,e2⟩:=J.U.ly.ob
 have f:=J.I.fresh h
 exact⟨f.2,f.1,(BX e2 h).symm,(BX e1 h).symm,J.U.bk.fresh h,(BX J.sl h).symm⟩
theorem St64.off{G:Addr->Prop}{H':Hp}(J:St64 K a H A S z l n r c w rows m vw lf xs)(s:SameBut G H H')(tk:CZ H H')(f:∀ x,G x->QE A S l x):St64 K a H' A S z l n r c w rows m vw lf xs :=
 ⟨tk _ _ J.ez,J.I.off s tk (λg=>(f _ g).1 rfl) (λx hx g=>(f _ g).2.1 hx),J.U.off s tk (λx g=>(f _ g).2.2.2.2.1) (λg=>(f _ g).2.2.2.1 rfl) (λg=>(f _ g).2.2.1 rfl),s _ _ J.sl (λg=>(f _ g).2.2.2.2.2 rfl),Paired.mapP J.sp λv c h=>h.keep tk⟩
theorem St64.same{H':Hp}(J:St64 K a H A S z l n r c w rows m vw lf xs)(s:Same H H'):St64 K a H' A S z l n r c w rows m vw lf xs :=
 J.off (G:=λ_=>False) (Same.sb s) s.tk (λ_ z=>z.elim)
end
def VQ(K:FK)(a:Ad)(E:XE):TS:=AF (bX K a E E) (AF (bY K a E E) (AF (bZ K a E E) (AF (b0 K a E E) (b6 K a E E))))
def cJ(K:FK)(a:Ad)(E:XE):TS:=AF (bU K a E E) (AF (bV K a E E) (AF (bW K a E E) (AF (VD K a E E) (AF (VE K a E E) (VQ K a E)))))
def cK(K:FK)(a:Ad)(E:XE):TS:=AF (bQ K a E E) (AF (bR K a E E) (AF (bS K a E E) (AF (bT K a E E) (cJ K a E))))
theorem zC{vw:Vw}(ok:E5 vw){ks:List Str}(p:ks.Perm (IS vw.nm)):∀ z∈ks,PyData.strOk z=true:=λz hz=>by
 obtain⟨c,hc,e⟩:=List.mem_filterMap.mp (p.mem_iff.mp hz)
 cases c with
 | none=>cases e
 | some c=>cases e;exact(ok.n1 c hc).2
section
variable{A:LW}{S:SA}{z l:Addr}{n r c w m:Nat}{rows:List (List V)}{vw:Vw}{lf:List Nat}{xs:List V}{zs:List Str}
theorem cL{P:V->Hp->Prop}(U:UpAt K a H S n r c w rows m vw)(q:∀ (l:Addr) (ks:List Str) (H':Hp),Same H H'->H' l=some (.lst (ks.map V.str))->ks.Perm (IS vw.nm)->sortedS ks=true->P (.ref l) H'):L8 K a [.ref S.st] H P E :=
 ⟨S,n,r,c,w,rows,m,vw,[],rfl,U,rfl,q⟩
theorem cM{P:V->Hp->Prop}{lf:List Nat}(C:Clean vw lf zs)(ok:E5 vw)(U:UpAt K a H S n r c w rows m (mended vw)){k:Nat}{d:Str × Nat}{x:Int × List Nat}{y:Int}{ts:List Str}(N:RP (mended vw) d.1 k d.2)(e:(mended vw).rc[d.2]? =some (some (y,x.2)))(tx:U6 vw x.2 ts)(q:∀ l H',Same H H'->H' l=some (.lst (ts.map V.str))->P (.ref l) H'):L9 K a [.ref S.st,.str d.1] H P E :=
 ⟨S,n,r,c,w,rows,m,_,[.str d.1],rfl,U,d.1,k,d.2,(y,x.2),ts,rfl,N,e,tx,q⟩
theorem zli{s gp2 cl2:Addr}{m2:Nat}{KE:List (List V)}{y2 y6 y7 y8 y11 y12 y15:Option V}(X4:L7 K a)(T:TV K a)(J:St64 K a H A S z l n r c w rows m vw lf xs)(C:Clean vw lf zs)(D:Site K a H S.lp gp2 cl2 n r c w KE m2 (mended vw))(f1:QE A S l gp2)(f2:QE A S l cl2)(q:∀ H',Q (.bl true) H') :
  VQ K a (λ_=>E) (A0 Q) [some (.ref s),some (.ref z),y2,some (.ref A.v),some (.ref S.lp),some (.ref S.gp),y6,y7,y8,some (.ref S.st),some (.ref l),y11,y12,some (.ref gp2),some (.int m2),y15] H:=by
 have ok:=J.I.ok
 have CM:=C.mended ok
 have hfl:faults (mended vw)++JU (mended vw)=[]:=by rw[CM.faults,yF C ok];rfl
 have ff:∀ x,(x=gp2\/x=cl2)->QE A S l x:=λx h=>by rcases h with rfl | rfl;exact f1;exact f2
 obtain⟨dp,IW⟩:=D.pl.ob
 obtain⟨tc,C1,_⟩:=D.pl.ls
 push_cast[VQ]
 push_cast[↓zg1]
 refine⟨_,_,IW,b8 _ _ _,_,_,_,_,_,rfl,D.tp,D.pl,?_⟩
 push_cast[]
 have P0:=J.U.bk.pk
 refine⟨S.lp,S.gp,mended vw,rfl,⟨S.cl,n,r,c,w,rows,m,T,D.tl,D.tp,J.U.ly,P0,J.U.rl,J.U.pv⟩,λlw H1 hlw s1 F1=>⟨by decide,λe0 EQ=> ?_⟩⟩
 rw[hfl]at F1
 have s2:=AV (o:=.lst []) EQ
 refine zle (F1.same s2) AM ⟨false,rfl,B7 (by decide) ?_⟩
 have B8:=s1.trans s2
 revert B8
 generalize upd H1 e0 (.lst [])=H2
 intro B8
 clear s2 F1 s1 hlw EQ
 have J2:=J.same B8
 have D2:=D.same B8
 have hgp2:=B8 _ _ IW
 have GT:=B8 _ _ C1
 push_cast[↓zg2]
 refine .inl ⟨S.lp,gp2,cl2,n,r,c,w,KE,m2,mended vw,rfl,X4,D2,CM.faults,λS2 rows3 H3 e1 e2 e3 U2 QN=> ?_⟩
 rw[zj3 C ok,zld,Nat.add_zero]at U2
 have tk3:CZ H2 H3:=λy ys e=>QN _ _ e λz=>by
  rcases z with z | z
  ·rw[z,hgp2]at e;cases e
  ·rw[z,GT]at e;cases e
 have J3:=J2.off QN tk3 ff
 have D3:Site K a H3 S.lp gp2 cl2 n r c w rows3 m2 (mended vw):=⟨T,D.tl,D.tp,e1 ▸ U2.ly,by have:=U2.bk.pk;rw[e2,e3]at this;exact this,U2.rl,U2.pv,D.w1,D.w6,D.n6,D.r6,D.c6⟩
 clear U2 QN tk3 J2 D2 hgp2 GT
 push_cast[↓zg3]
 refine yY X4 D3 λS4 H4 g1 g2 g3 U4 s4=> ?_
 have J4:=J3.same s4
 have D4:=D3.same s4
 have FT:=J4.sp.length
 push_cast[↓zg6]
 refine .inl ⟨⟨_,SqL.of J4.sl⟩,KR (xs:=xs) (λi σ H'=>Same H4 H'/\∃ y11 y12,σ=[some (.ref s),some (.ref z),y2,some (.ref A.v),some (.ref S.lp),some (.ref S.gp),y6,y7,y8,some (.ref S.st),some (.ref l),y11,y12,some (.ref gp2),some (.int m2),some (.ref S4.st)]) ⟨Same.refl _,_,_,rfl⟩ (λi σ H' _ ⟨s',_⟩=>SqL.of (s' _ _ J4.sl)) (λi x σ H' hx hzz=> ?_) (λσ H' hzz=> ?_)⟩
 ·obtain⟨s',u11,u12,es⟩:=hzz
  subst es
  have hi:=(List.getElem?_eq_some_iff.mp hx).1
  have hi':i<(HU vw.nm).length:=by omega
  have ec:=List.getElem?_eq_getElem hi'
  obtain⟨x',EY,t,rfl,et⟩:=FQ J4.sp ec
  rw[hx]at EY
  cases EY
  obtain⟨k,x,y,ts,N,r1,r2,tx,tok,_⟩:=zB C ok (List.mem_of_getElem? ec)
  push_cast[]
  refine⟨_,SqT.of (s' _ _ et),rfl,_,_,rfl,_,_,rfl,rfl,?_⟩
  push_cast[↓zg5]
  obtain⟨d4,h4⟩:=U4.ob
  obtain⟨d0,h0⟩:=J4.U.ob
  refine⟨_,_,s' _ _ h4,HS (by decide +kernel),cM C ok (U4.same s') N r2 tx λl1 H5 s5 e5=> ?_⟩
  have NO:=s'.trans s5
  refine⟨_,_,NO _ _ h0,HS (by decide +kernel),cM C ok (J4.U.same NO) N r2 tx λl2 H6 s6 e6=> ?_⟩
  refine TZ (n:=2) (by decide) (Dat.lst (SqL.of (s6 _ _ e5)) (K5 tok)) (Dat.lst (SqL.of e6) (K5 tok)) ?_
  push_cast[]
  exact NO.trans s6
 ·obtain⟨s',u11,u12,es⟩:=hzz
  subst es
  push_cast[↓zg7]
  obtain⟨d4,h4⟩:=U4.ob
  obtain⟨d0,h0⟩:=J4.U.ob
  refine⟨_,_,s' _ _ h4,HS (by decide +kernel),cL (U4.same s') λl1 ks1 H5 s5 e5 p5 o5=> ?_⟩
  have NO:=s'.trans s5
  refine⟨_,_,NO _ _ h0,HS (by decide +kernel),cL (J4.U.same NO) λl2 ks2 H6 s6 e6 p6 o6=> ?_⟩
  obtain rfl:ks1=ks2:=kH o5 o6 (p5.trans p6.symm)
  have NP:=NO.trans s6
  have D6:=D4.same NP
  obtain⟨dp6,WC⟩:=D6.pl.ob
  have SM:=zC ok p6
  refine Rp (n:=2) (by decide) (Dat.lst (SqL.of (s6 _ _ e5)) (K5 SM)) (Dat.lst (SqL.of e6) (K5 SM)) ?_
  push_cast[]
  refine⟨_,_,WC,b8 _ _ _,_,_,_,_,_,rfl,D.tp,D6.pl,?_⟩
  push_cast[]
  exact q _
theorem VR{gp cl:Addr}{H':Hp}{w m:Nat}{rows:List (List V)}(P:PlankAt a H gp cl w rows m)(s:SameBut (λx=>x=gp\/x=cl) H H'):CZ H H':=λy ys e=>s _ _ e λz=>by
 obtain⟨dp,h1⟩:=P.ob
 obtain⟨tc,h2,_⟩:=P.ls
 rcases z with z | z
 ·rw[z,h1]at e;cases e
 ·rw[z,h2]at e;cases e
theorem zlj{s:Addr}{v7:V}{wr:Nat}{y2 y6 y8 y11 y12 y13 y14 y15:Option V}(X4:L7 K a)(T:TV K a)(J:St64 K a H A S z l n r c w rows m vw lf xs)(C:Clean vw lf zs)(sz:GK vw (n * w) (r * w) (c * w))(hw:wr=JV w (n+r+c+r+c) (E6 vw) (E6 (mended vw)))(hm:(v7=.non/\m=n+r+c+r+c+wr)\/∃ t,v7=.ref t/\m=n+r+c+r+c+(n+r+c+r+c)+wr)(q:∀ H',Q (.bl true) H') :
  cJ K a (λ_=>E) (A0 Q) [some (.ref s),some (.ref z),y2,some (.ref A.v),some (.ref S.lp),some (.ref S.gp),y6,some v7,y8,some (.ref S.st),some (.ref l),y11,y12,y13,y14,y15] H:=by
 have X4':=X4
 obtain⟨_,TP,TL,_⟩:=X4'
 obtain⟨dl,el⟩:=J.U.ly.ob
 push_cast[cJ]
 push_cast[↓zgu]
 refine⟨_,_,el,EH (by decide +kernel),S.lp,n,r,c,w,rfl,TL,TP,J.U.ly,λgp2 cl2 H1 IW C1 P1 s1=> ?_⟩
 have f1:=J.fresh IW
 have f2:=J.fresh C1
 have ff:∀ x,(x=gp2\/x=cl2)->QE A S l x:=λx h=>by rcases h with rfl | rfl;exact f1;exact f2
 have J1:=J.same s1
 obtain⟨dp,hp⟩:=J1.U.bk.pk.ob
 push_cast[↓zgv]
 refine⟨_,_,hp,b8 _ _ _,_,_,_,_,_,rfl,TP,J1.U.bk.pk,?_⟩
 have go:VD K a (λ_=>E) (λ_=>E) { nx:=AF (VE K a (λ_=>E) (λ_=>E)) (VQ K a λ_=>E) (A0 Q),rt:=Q } [some (.ref s),some (.ref z),y2,some (.ref A.v),some (.ref S.lp),some (.ref S.gp),y6,some v7,y8,some (.ref S.st),some (.ref l),y11,y12,some (.ref gp2),some (.int (n+r+c+r+c+wr:Nat)),y15] H1:=by
  push_cast[↓zgy]
  refine BY J1.ez (n:=3) rfl rfl ⟨gp2,cl2,A,vw,lf,n,r,c,w,_,0,rfl,TP,P1,by rw[List.length_replicate],J1.I,sz,J.U.w1,J.U.w6,J.U.n6,J.U.r6,J.U.c6,f2.2.1,f2.1,λKE H2 P2 EE pv2 IV=> ?_⟩
  have tk2:=VR P1 IV
  have J2:=J1.off IV tk2 ff
  push_cast[↓zgz]
  refine .inl ⟨S.lp,gp2,cl2,n,r,c,w,KE,_,vw,rfl,⟨T,TL,TP,J2.U.ly,P2,EE,pv2,J.U.w1,J.U.w6,J.U.n6,J.U.r6,J.U.c6⟩,C.faults,λfo rows3 H3 hfo F3 P3 hl3 pv3 QN=> ?_⟩
  have J3:=J2.off QN (VR P2 QN) ff
  rw[EE,<-hw,Nat.zero_add]at P3
  exact zli X4 T J3 C ⟨T,TL,TP,J3.U.ly,P3,hl3,pv3,J.U.w1,J.U.w6,J.U.n6,J.U.r6,J.U.c6⟩ f1 f2 q
 push_cast[↓zgx]
 rcases hm with⟨rfl,hm⟩ | ⟨t,rfl,hm⟩
 ·push_cast[]
  rw[hm]
  exact go
 ·push_cast[↓zgw]
  refine⟨_,_,hp,QD _ _ _,_,_,_,_,_,rfl,TP,J1.U.bk.pk,?_⟩
  push_cast[]
  rw[show((m:Int) - (rows.length:Int))=((n+r+c+r+c+wr:Nat):Int)from by have:=J.U.rl;omega]
  exact go
theorem zlk{s ly gp cl:Addr}{v7:V}{y2 y6 y8 y9 y10 y11 y12 y13 y14 y15:Option V}(X4:L7 K a)(D:Site K a H ly gp cl n r c w rows m vw)(ez:H z=some (.tup [.int n,.int r,.int c,.int w]))(I:LWAt H A vw lf)(C:Clean vw lf zs)(sz:GK vw (n * w) (r * w) (c * w))(fv:¬ (A.v=gp\/A.v=cl))(fL:∀ x∈A.L,¬ (x=gp\/x=cl))(hm:(v7=.non/\m=n+r+c+r+c)\/∃ t,v7=.ref t/\m=n+r+c+r+c+(n+r+c+r+c))(q:∀ H',Q (.bl true) H') :
  cK K a (λ_=>E) (A0 Q) [some (.ref s),some (.ref z),y2,some (.ref A.v),some (.ref ly),some (.ref gp),y6,some v7,y8,y9,y10,y11,y12,y13,y14,y15] H:=by
 have ok:=I.ok
 have WD:vw.nm.length<=36:=by rw[sz.1];exact Nat.mul_le_mul D.n6 D.w6
 push_cast[cK]
 push_cast[↓zgn]
 refine .inl ⟨ly,gp,cl,n,r,c,w,rows,m,vw,rfl,X4,D,C.faults,λS KE H2 g1 g2 g3 U2 IV=> ?_⟩
 have tk2:=VR D.pl IV
 have I2:=I.off IV tk2 fv fL
 have ez2:=tk2 _ _ ez
 subst g1 g2 g3
 rw[D.rl]at U2
 obtain⟨v1,e1,P1⟩:=I2.n
 have hv1:=P1.length
 push_cast[↓zgo]
 refine B0 (SqL.of I2.ob) (n:=0) rfl rfl ?_
 push_cast[]
 refine .inl ⟨⟨_,SqL.of e1⟩,X7 (xs:=v1) (small _ (by omega)) (λi σ' ys H'=>H'=H2/\(∃ y0,σ'=[y0])/\Paired (λv c=>NmV H2 v (some c)) ys (HU (vw.nm.take i))) ⟨rfl,⟨_,rfl⟩,.nil⟩ (λi σ' ys H' ⟨e,_,ey⟩=>⟨e ▸ SqL.of e1,by rw[ey.length];exact Nat.le_trans (List.length_filterMap_le _ _) (by rw[List.length_take];exact Nat.min_le_left _ _)⟩) (λi x σ' ys H' hi hxi ⟨e,⟨y0,es⟩,ey⟩=> ?_) (λσ' xs H' ⟨e,_,ey⟩ l hl=> ?_)⟩
 ·subst e es
  have SR:i<vw.nm.length:=by omega
  have en:=List.getElem?_eq_getElem SR
  obtain⟨x',EY,nx⟩:=FQ P1 en
  rw[hxi]at EY
  cases EY
  have JK:=zlg en
  push_cast[]
  revert nx JK
  cases e:vw.nm[i]with
  | none =>
   intro nx JK
   rw[show x=.non from nx,if_neg (by simp)]
   exact⟨_,by omega,rfl,by omega,by rw[JK];simpa using ey⟩
  | some p =>
   intro nx JK
   have nx':=nx
   obtain⟨u,rfl,eu⟩:=nx'
   rw[if_pos (by simp)]
   exact⟨λy H4=>y=.ref u/\H4=H',λy H4 ⟨e1,e2⟩=>⟨_,by omega,rfl,by omega,e2,by rw[e1,JK];exact Paired.snoc ey nx⟩,rfl,rfl⟩
 subst e
 rw[List.take_of_length_le (by omega)]at ey
 obtain⟨H3,zz0,s3,e3⟩:=DA (o:=.lst xs) hl
 rw[zz0]
 have J3:St64 K a H3 A S z l n r c w KE _ vw lf xs:=⟨s3 _ _ ez2,I2.same s3,U2.same s3,e3,Paired.mapP ey λv c h=>h.keep s3.tk⟩
 clear ey e3 s3 U2 I2 ez2 P1 e1 hl
 obtain⟨d0,h0⟩:=J3.U.ob
 have FT:=J3.sp.length
 have hsl:(HU vw.nm).length<=36:=Nat.le_trans (List.length_filterMap_le _ _) WD
 push_cast[↓zgq]
 refine⟨_,_,h0,HS (by decide +kernel),cL J3.U λl1 ks1 H4 s4 e4 p4 o4=> ?_⟩
 have J4:=J3.same s4
 refine .inl ⟨⟨_,SqL.of J4.sl⟩,XS (xs:=xs) (small _ (by omega)) (λi ys H'=>H'=H4/\ys=(((HU vw.nm).take i).map (·.1)).map V.str) ⟨rfl,rfl⟩ (λi ys H' _ ⟨e,_⟩=>e ▸ SqL.of J4.sl) (λi x ys H' hx hyl ⟨e,ey⟩=> ?_) (λys H' hyl ⟨e,ey⟩ l2 EE=> ?_)⟩
 ·subst e
  have hi:=(List.getElem?_eq_some_iff.mp hx).1
  have hi':i<(HU vw.nm).length:=by omega
  have ec:=List.getElem?_eq_getElem hi'
  obtain⟨x',EY,t,rfl,et⟩:=FQ J4.sp ec
  rw[hx]at EY
  cases EY
  push_cast[B3]
  refine BY et (n:=0) rfl rfl ⟨rfl,?_⟩
  rw[FM ec,List.map_append,List.map_append,ey]
  rfl
 subst e
 rw[FT,List.take_length,zA]at ey
 subst ey
 have s5:=AV (o:=.lst ((IS vw.nm).map V.str)) EE
 refine⟨l2,IS vw.nm,rfl,SqL.of AM,by rw[<-zA,List.length_map];omega,λl3 ks2 hl3 p5 o5=> ?_⟩
 obtain rfl:ks1=ks2:=kH o4 o5 (p4.trans p5.symm)
 have s6:=AV (o:=.lst (ks1.map V.str)) hl3
 have SM:=zC ok p5
 refine TZ (n:=2) (by decide) (Dat.lst (SqL.of (s6 _ _ (s5 _ _ e4))) (K5 SM)) (Dat.lst (SqL.of AM) (K5 SM)) ?_
 have QL:=s5.trans s6
 revert QL
 generalize upd (upd H' l2 (.lst ((IS vw.nm).map V.str))) l3 (.lst (ks1.map V.str))=H6
 intro QL
 clear s5 s6 EE hl3
 have J6:=J4.same QL
 obtain⟨d6,h6⟩:=J6.U.ob
 obtain⟨db,hb⟩:=J6.U.bk.ob
 push_cast[]
 refine⟨_,_,h6,HS (by decide +kernel),S.st,d6,S.lp,S.b,S.tk,rfl,X4.2.2.2,h6,_,rfl,_,_,hb,OJ (by decide +kernel),S,w,KE,_,rfl,X4.1,J6.U.bk,λl4 H7 s7 e7=>⟨by decide,λe0 EQ=> ?_⟩⟩
 have s8:=AV (o:=.lst []) EQ
 refine XZ (n:=1) (xs:=[]) (by decide) (SqL.of (s8 _ _ e7)) .nil (SqL.of AM) ⟨false,rfl,B7 (by decide) ?_⟩
 have s78:=s7.trans s8
 revert s78
 generalize upd H7 e0 (.lst [])=H8
 intro s78
 have J8:=J6.same s78
 obtain⟨w1,e81,Q1⟩:=J8.I.r
 obtain⟨w2,e82,Q2⟩:=J8.I.p
 clear s8 s7 e7 EQ J6 J4 h6 hb d6 db
 push_cast[↓zgt]
 refine .inl ⟨⟨_,SqL.of J8.sl⟩,KR (xs:=xs) (λi σ H'=>Same H8 H'/\∃ y11 y12,σ=[some (.ref s),some (.ref z),y2,some (.ref A.v),some (.ref S.lp),some (.ref S.gp),y6,some v7,y8,some (.ref S.st),some (.ref l),y11,y12,y13,y14,y15]) ⟨Same.refl _,_,_,rfl⟩ (λi σ H' _ ⟨s',_⟩=>SqL.of (s' _ _ J8.sl)) (λi x σ H' hx hzz=> ?_) (λσ H' hzz=> ?_)⟩
 ·obtain⟨s',u11,u12,es⟩:=hzz
  subst es
  have hi:=(List.getElem?_eq_some_iff.mp hx).1
  have hi':i<(HU vw.nm).length:=by omega
  have ec:=List.getElem?_eq_getElem hi'
  obtain⟨x',EY,t,rfl,et⟩:=FQ J8.sp ec
  rw[hx]at EY
  cases EY
  obtain⟨k,x,y,ts,N,r1,r2,tx,tok,x10⟩:=zB C ok (List.mem_of_getElem? ec)
  push_cast[]
  refine⟨_,SqT.of (s' _ _ et),rfl,_,_,rfl,_,_,rfl,rfl,?_⟩
  push_cast[↓zgs]
  obtain⟨d9,h9⟩:=J8.U.ob
  refine⟨_,_,s' _ _ h9,HS (by decide +kernel),cM C ok (J8.U.same s') N r2 tx λl5 H9 s9 e9=> ?_⟩
  have MF:=s'.trans s9
  obtain⟨v2,ev2,p2,q2,rfl,ep2,eq2⟩:=FQ Q1 r1
  refine B0 (SqL.of (MF _ _ J8.I.ob)) (n:=1) rfl rfl (B0 (SqL.of (MF _ _ e81)) rfl ev2 (BY (MF _ _ ep2) (n:=1) rfl rfl ?_))
  push_cast[]
  refine .inr ⟨⟨_,SqT.of (MF _ _ eq2)⟩,cC (xs:=AU x.2) (small _ (by simp[AU];omega)) (λi ys H'=>H'=H9/\ys=(ts.take i).map V.str) ⟨rfl,rfl⟩ (λi ys H' _ ⟨e,_⟩=>e ▸ SqT.of (MF _ _ eq2)) (λi y ys H' hx hyl ⟨e,ey⟩=> ?_) (λys H' hyl ⟨e,ey⟩ lc hlc=> ?_)⟩
  ·subst e
   unfold AU at hx
   rw[List.getElem?_map,Option.map_eq_some_iff]at hx
   obtain⟨p,ep,rfl⟩:=hx
   have gX:i<ts.length:=by have:=(List.getElem?_eq_some_iff.mp ep).1;have:=tx.length;omega
   have SN:=List.getElem?_eq_getElem gX
   obtain⟨p',ep',eP⟩:=FQ tx SN
   rw[ep]at ep'
   cases ep'
   obtain⟨v3,ev3,rfl⟩:=FQ Q2 eP
   push_cast[B3]
   refine B0 (SqL.of (MF _ _ J8.I.ob)) (n:=2) rfl rfl (B0 (SqL.of (MF _ _ e82)) rfl ev3 ⟨rfl,?_⟩)
   rw[FM SN,List.map_append,ey]
   rfl
  ·subst e
   have hl:(AU x.2).length=ts.length:=by rw[<-tx.length];simp[AU]
   rw[hl,List.take_length]at ey
   subst ey
   have sc:=AV (o:=.lst (ts.map V.str)) hlc
   refine TZ (n:=2) (by decide) (Dat.lst (SqL.of (sc _ _ e9)) (K5 tok)) (Dat.lst (SqL.of AM) (K5 tok)) ?_
   push_cast[]
   exact MF.trans sc
 ·obtain⟨s',u11,u12,es⟩:=hzz
  subst es
  refine zlj X4 D.tv (J8.same s') C sz rfl ?_ q
  rcases hm with⟨h,e⟩ | ⟨t,h,e⟩
  ·exact .inl ⟨h,by rw[e]⟩
  ·exact .inr ⟨t,h,by rw[e]⟩
end
theorem zll(h:kX K a vs H Q E):b7 K a (λ_=>E) (A0 Q) (A4 ["script","sizes","names","view","layout","plank","bad","fault","rows","store","stands","name","r","other","writings","straight"] vs) H:=by
 obtain⟨s,ns,rfl,T,TL,TP,X,T4,hs,hns,q⟩:=h
 push_cast[b7,↓zf9,↓YU]
 refine⟨ns,0,rfl,hs,by omega,_,rfl,λz n r c w H1 s1 ez n1 n6 r1 r6 c1 c6 w1 w6=> ?_⟩
 have bw:∀ k:Nat,k<=6->k * w<=36:=λk hk=>Nat.mul_le_mul hk w6
 have pw:∀ k:Nat,1<=k->1<=k * w:=λk hk=>Nat.mul_le_mul hk w1
 push_cast[↓zga,↓YU]
 refine⟨ns,1,rfl,s1.seq hs,by omega,_,36,rfl,by omega,λnl zs H2 hnl s2 gZ hzl hzd hzs=> ?_⟩
 have B8:=s1.trans s2
 obtain⟨ms,ems,hms⟩:=zj1 ns (some 3) none
 push_cast[↓zgb]
 refine YQ (B8.seq hs) λrr hrr=> ?_
 rw[ems]
 obtain⟨H3,zz0,s3,ED⟩:=DA (o:=.lst (ms.map V.int)) hrr
 rw[zz0]
 have BH:=B8.trans s3
 refine⟨rr,z,nl,ms,zs,n,r,c,w,rfl,ED,by omega,(s2.trans s3) _ _ ez,n1,n6,r1,r6,c1,c6,w1,w6,s3 _ _ gZ,hzl,hzd,hzs,λA vw lf H4 s4 I4 C sz _ _=> ?_⟩
 have CT:=BH.trans s4
 have SQ:=((s2.trans s3).trans s4) _ _ ez
 have enl4:=(s3.trans s4) _ _ gZ
 have hs4:=CT.seq hs
 clear s1 s2 B8 hrr s3 ED BH s4 CT ez gZ hnl
 push_cast[↓zgc]
 refine BY SQ (n:=0) rfl rfl (BY SQ (n:=1) rfl rfl (BY SQ (n:=2) rfl rfl (BY SQ (n:=3) rfl rfl ?_)))
 refine zi2 TL (by omega) (by omega) (by omega) w1 (by omega) λly H5 L5 s5=> ?_
 obtain⟨dl,GS⟩:=L5.ob
 have I5:=I4.same s5
 have ez5:=s5 _ _ SQ
 have enl5:=s5 _ _ enl4
 have hs5:=s5.seq hs4
 push_cast[↓zgd]
 refine⟨_,_,GS,EH (by decide +kernel),ly,n,r,c,w,rfl,TL,TP,L5,λgp cl H6 IW C1 P6 s6=> ?_⟩
 have fc:=I5.fresh C1
 have fg:=I5.fresh IW
 have nly:ly≠gp/\ly≠cl:=⟨BX GS IW,BX GS C1⟩
 have I6:=I5.same s6
 have gY:=s6 _ _ ez5
 have L6:=L5.same s6
 obtain⟨dp6,WC⟩:=P6.ob
 obtain⟨tc6,QR,_⟩:=P6.ls
 have nA:∀ x∈A.L,¬ (x=gp\/x=cl):=λx hx z=>by
  rcases z with z | z
  ·exact fg.1 (z ▸ hx)
  ·exact fc.1 (z ▸ hx)
 have nv:¬ (A.v=gp\/A.v=cl):=λz=>z.elim (λz=>fg.2 z.symm) λz=>fc.2 z.symm
 have tail:∀ {H':Hp} {rows:List (List V)} {m:Nat} {v7:V} {y6 y8 y9 y10 y11 y12 y13 y14 y15:Option V},H' z=some (.tup [.int n,.int r,.int c,.int w])->LWAt H' A vw lf->PlankAt a H' gp cl w rows m->rows.length=n+r+c+r+c->LayAt a H' ly n r c w->(v7=.non/\m=0\/∃ t,v7=.ref t/\m=n+r+c+r+c)->bP K a (λ_=>E) (λ_=>E) { nx:=cK K a (λ_=>E) (A0 Q),rt:=Q } [some (.ref s),some (.ref z),some (.ref nl),some (.ref A.v),some (.ref ly),some (.ref gp),y6,some v7,y8,y9,y10,y11,y12,y13,y14,y15] H':=λ{H' rows m v7 y6 y8 y9 y10 y11 y12 y13 y14 y15} ez' I' P' hl' L' hm=>by
  push_cast[↓zgm]
  refine BY ez' (n:=3) rfl rfl ⟨gp,cl,A,vw,lf,n,r,c,w,rows,m,rfl,TP,P',hl',I',sz,w1,w6,n6,r6,c6,fc.1,fc.2,λKE H2 P2 EE pv2 IV=> ?_⟩
  have tk2:=VR P' IV
  refine zlk T4 ⟨T,TL,TP,L'.sb IV λz=>z.elim nly.1 nly.2,P2,EE,pv2,w1,w6,n6,r6,c6⟩ (tk2 _ _ ez') (I'.off IV tk2 nv nA) C sz nv nA ?_ q
  rcases hm with⟨h,e⟩ | ⟨t,h,e⟩
  ·exact .inl ⟨h,by omega⟩
  ·exact .inr ⟨t,h,by omega⟩
 clear GS
 push_cast[↓zge]
 refine⟨A,vw,lf,rfl,I6,λA' H7 s7 I7 hv' hL'=> ?_⟩
 push_cast[↓zgf,↓YU]
 refine⟨ns,2,rfl,(s6.trans s7).seq hs5,by omega,_,3,rfl,by omega,λxl xs H8 FT s8 exl hxs hx=> ?_⟩
 have s68:=s7.trans s8
 have g6:=s6 _ _ enl5
 refine⟨A',vw,lf,zs,nl,xl,xs,n * w,r * w,c * w,rfl,I7.same s8,C,⟨s68 _ _ g6,hzl,hzd,hzs,λhm=>by rw[hL' nl hm]at g6;cases g6⟩,⟨exl,hxs,hx,(I7.fresh FT).1⟩,sz,bw n n6,pw n n1,pw r r1,pw c c1,λH9 KC=> ?_,λt f vb lb H9 et I9 hf sz9 KC=> ?_⟩
 ·have HX:Same H6 H9:=λb o e=>KC _ _ (s68 _ _ e) λhm=>by rw[hL' b hm]at e;cases e
  push_cast[↓wZ]
  exact tail (HX _ _ gY) (I6.same HX) (P6.same HX) (by rw[List.length_replicate]) (L6.same HX) (.inl ⟨rfl,rfl⟩)
 have HX:Same H6 H9:=λb o e=>KC _ _ (s68 _ _ e) λhm=>by rw[hL' b hm]at e;cases e
 push_cast[↓wZ]
 have ncl':cl∉A'.L:=λhm=>by rw[hL' cl hm]at QR;cases QR
 have ncv':cl≠A'.v:=λe=>by rw[e,hv']at QR;cases QR
 have hgp9:=HX _ _ WC
 have hcl9:=HX _ _ QR
 push_cast[↓zgg]
 refine BY (HX _ _ gY) (n:=3) rfl rfl ⟨gp,cl,A',vb,lb,n,r,c,w,_,0,rfl,TP,P6.same HX,by rw[List.length_replicate],I9,sz9,w1,w6,n6,r6,c6,ncl',ncv',λQQ H10 P10 hl10 pv10 LB=> ?_⟩
 have tk10:CZ H9 H10:=λy ys e=>LB _ _ e λz=>by
  rcases z with z | z
  ·rw[z,hgp9]at e;cases e
  ·rw[z,hcl9]at e;cases e
 have I10:=(I6.same HX).off LB tk10 nv nA
 have L10:LayAt a H10 ly n r c w:=(L6.same HX).sb LB λz=>z.elim nly.1 nly.2
 have ez10:=tk10 _ _ (HX _ _ gY)
 obtain⟨m10,em10⟩:∃ m10,m10=n+r+c+r+c:=⟨_,rfl⟩
 rw[Nat.zero_add,<-em10]at P10
 have S10:Site K a H10 ly gp cl n r c w QQ m10 vb:=⟨T,TL,TP,L10,P10,hl10,pv10,w1,w6,n6,r6,c6⟩
 have hfn:faults vb≠[]:=hf
 have bM:QQ.length<=30:=by omega
 obtain⟨dp10,hob10⟩:=P10.ob
 clear KC LB I9 HX s68 P6 WC QR hgp9 hcl9
 push_cast[↓zgh]
 refine⟨_,_,hob10,QD _ _ _,gp,cl,w,QQ,m10,rfl,TP,P10,?_⟩
 push_cast[]
 refine⟨by omega,by omega,yZ TP P10 bM rfl λR1 ls1 H11 s11 eR1 PR1=> ?_⟩
 have P11:=P10.same s11
 obtain⟨dp11,hob11⟩:=P11.ob
 push_cast[↓zgj]
 refine⟨ly,gp,cl,n,r,c,w,QQ,m10,vb,rfl,X,S10.same s11,hfn,λH12 NN=> ?_⟩
 have s1012:=s11.trans NN
 push_cast[]
 refine⟨ly,gp,cl,n,r,c,w,QQ,m10,vb,rfl,X,S10.same s1012,hfn,λH13 s13=> ?_⟩
 have s1013:=s1012.trans s13
 push_cast[]
 have P13:=P10.same s1013
 obtain⟨dp13,hob13⟩:=P13.ob
 push_cast[↓zgl]
 refine⟨_,_,hob13,QD _ _ _,gp,cl,w,QQ,m10,rfl,TP,P13,?_⟩
 push_cast[]
 refine⟨by omega,by omega,yZ TP P13 bM rfl λR2 ls2 H14 s14 eR2 PR2=> ?_⟩
 have SO:=s1013.trans s14
 have s1114:=(NN.trans s13).trans s14
 have P14:=P10.same SO
 obtain⟨dp14,hob14⟩:=P14.ob
 refine zlf eR2 (s1114 _ _ eR1) PR2 (Paired.mapP PR1 λl r e=>s1114 _ _ e) (pv10.same SO.tk).good ⟨_,rfl,B7 (by decide) ?_⟩
 exact tail (SO _ _ ez10) (I10.same SO) P14 hl10 (L10.same SO) (.inr ⟨t,rfl,em10⟩)
end
end L2
namespace L2
def BG(i:Nat):Stmt:=PySem.Challenge.pw_holdback_k64_up_from_made_planks.main.body.getD i (.Pass ⟨0,0,0,0⟩)
structure Txt(K:W.Frag)(mg:Str->Option Value)(a:Ad):Prop where
 NS:Cls K (a "Hold")
 EF:Cls K (a "Layout")
 FI:Cls K (a "Plank")
 HF:Cls K (a "Store")
 LD:Cls K (a "View")
 zp5:mg "HoldError"=some (.ref (a "HoldError"))
 zqj:GV mg "HoldError" (.ref (a "HoldError"))
 zqp:Exc K (a "HoldError")
 g9:mg "NoBlock"=some (.ref (a "NoBlock"))
 zpx:GV mg "NoBlock" (.ref (a "NoBlock"))
 hE:Exc K (a "NoBlock")
 zqk:mg "NoChange"=some (.ref (a "NoChange"))
 zpy:GV mg "NoChange" (.ref (a "NoChange"))
 zqq:Exc K (a "NoChange")
 zp6:mg "NoName"=some (.ref (a "NoName"))
 zpz:GV mg "NoName" (.ref (a "NoName"))
 zp8:Exc K (a "NoName")
 zql:mg "NoPiece"=some (.ref (a "NoPiece"))
 zp0:GV mg "NoPiece" (.ref (a "NoPiece"))
 zqr:Exc K (a "NoPiece")
 zqm:mg "NoRoom"=some (.ref (a "NoRoom"))
 zp1:GV mg "NoRoom" (.ref (a "NoRoom"))
 zqs:Exc K (a "NoRoom")
 zqn:mg "NoRow"=some (.ref (a "NoRow"))
 zp2:GV mg "NoRow" (.ref (a "NoRow"))
 zqt:Exc K (a "NoRow")
 zp7:mg "NotSound"=some (.ref (a "NotSound"))
 zp3:GV mg "NotSound" (.ref (a "NotSound"))
 zp9:Exc K (a "NotSound")
 zqo:mg "Twice"=some (.ref (a "Twice"))
 zp4:GV mg "Twice" (.ref (a "Twice"))
 zqu:Exc K (a "Twice")
 zpv:mg "ValueError"=none
 LC:mg "enumerate"=none
 g7:mg "int"=none
 g8:mg "isinstance"=none
 DF:mg "len"=none
 WE:mg "list"=none
 zpw:mg "max"=none
 D8:mg "range"=none
 Am:mg "sorted"=none
 Ap:mg "tuple"=none
section
variable(P:Program)(w:World){K:W.Frag}{mg:Str->Option Value}(base:Heap){a:Ad}{f:Addr}{fd:FuncData}
seal wpAny
abbrev cN:Stmt:=C0 (BG 12) 1
theorem zD:FnScope ["self"] ["self"] (AZ cN):=.go
theorem zE:(["record","value","self"]:List Str).Nodup:=by decide +kernel
theorem zlm(T:Txt K mg a) (F:Fun K "records_led_to" "View.records_led_to" cN f fd) :
  FP P w K mg base 1 f fd ["self"] (UC K a) :=
 F.okL (Y2 K a) zD zh0 λ_ _ _ _ _ E hr hx=>(AL (A6 (DU (tn:=["record","value" ]) (cn:=["self"]) (cap:=[0]) zD.cp rfl (KW rfl T.LC (AI (BW (AA 0) rfl))) (λ_ _ _ _ _ _=>(IB rfl (ES (BJ 0 zE) (ES (BJ 1 zE) IA)))) (λ_ _ _ _ _ _=>(EM (BD OB (A9 BB (BW (AA 2) rfl) (AA 0) (λ_ _=>rfl)) AK (A8 _)))) (λ_ _ _ _ _ _=>(AA 1)))))
abbrev cO:Stmt:=C0 (BG 12) 2
theorem zF:FnScope ["self"] ["self"] (AZ cO):=.go
theorem zG:(["record","value"]:List Str).Nodup:=by decide +kernel
theorem zln(T:Txt K mg a) (F:Fun K "records_standing" "View.records_standing" cO f fd) :
  FP P w K mg base 1 f fd ["self"] (OW K a) :=
 F.okL (Y3 K a) zF zhw λ_ _ _ _ _ E hr hx=>(AL (A6 (DU (tn:=["record","value" ]) (cn:=[]) (cap:=[]) zF.cp rfl (KW rfl T.LC (AI (BW (AA 0) rfl))) (λ_ _ _ _ _ _=>(IB rfl (ES (BJ 0 zG) (ES (BJ 1 zG) IA)))) (λ_ _ _ _ _ _=>(EM (BD IF (AA 1) DG (A8 _)))) (λ_ _ _ _ _ _=>(AA 0)))))
abbrev cP:Stmt:=C0 (BG 12) 3
theorem zH:FnScope ["self"] ["self"] (AZ cP):=.go
theorem zI:(["piece","many"]:List Str).Nodup:=by decide +kernel
theorem zlo(T:Txt K mg a) (F:Fun K "pieces_named" "View.pieces_named" cP f fd) :
  FP P w K mg base 1 f fd ["self"] (MX K a) :=
 F.okL (Y4 K a) zH zhz λ_ _ _ _ _ E hr hx=>(AL (A6 (DU (tn:=["piece","many" ]) (cn:=[]) (cap:=[]) zH.cp rfl (KW rfl T.LC (AI (BW (AA 0) rfl))) (λ_ _ _ _ _ _=>(IB rfl (ES (BJ 0 zI) (ES (BJ 1 zI) IA)))) (λ_ _ _ _ _ _=>(EM (BD OB (AA 1) AK (A8 _)))) (λ_ _ _ _ _ _=>(AA 0)))))
abbrev cQ:Stmt:=C0 (BG 12) 4
theorem zlp:FnScope ["self","record"] ["self","record"] (AZ cQ):=.go
theorem zlq(T:Txt K mg a) (F:Fun K "count_of" "View.count_of" cQ f fd) :
  FP P w K mg base 1 f fd ["self","record"] (OX K a) :=
 F.okL (Y5 K a) zlp zhv λ_ _ _ _ _ E hr hx=>(AL (A6 (A9 BB (A9 BB (BW (AA 0) rfl) (AA 1) (λ_ _=>rfl)) AK (λ_ _=>rfl))))
abbrev cR:Stmt:=BG 16
theorem QF:FnScope ["view","lost","twice","seen","k","value"] ["view"] (AZ cR):=.go
theorem zlr(T:Txt K mg a) (F:Fun K "faults_of_names" "faults_of_names" cR f fd) :
  FP P w K mg base 1 f fd ["view"] (UD K a) :=
 F.okL (Y7 K a) QF zh9 λ_ _ _ _ _ E hr hx=>(AH (BF 1 QF.nd (CW DT)) (AH (BF 2 QF.nd (CW DT)) (AH (BF 3 QF.nd XC) (AH (F8 hx.po rfl (KW rfl T.LC (AI (BW (AA 0) rfl))) (IB rfl (ES (BJ 4 QF.nd) (ES (BJ 5 QF.nd) IA))) (AL (CC (BD IF (AA 5) DG (A8 _)) (AH (CC (BD IZ (A9 BB (BW (AA 0) rfl) (AT (AA 5)) (λ_ _=>rfl)) DG (A8 _)) (AL (DP (IJ PySem.F.plainAttrs_list PySem.F.slot_list_append PySem.F.type_list_append LM (AA 1) (AI (C2 (BM CU (AA 4))))))) CI) (AH (CC (hR (Gq (JP hr) (AT (AA 5)) (AA 3)) (by with_unfolding_all rfl)) (AL (DP (IJ PySem.F.plainAttrs_list PySem.F.slot_list_append PySem.F.type_list_append LM (AA 2) (AI (C2 (BM CU (AA 4))))))) CI) (AL (Gw (JP hr) (AA 3) (AT (AA 5)) IX rfl)))) CI))) (AL (A6 (AR B2 (AA 1) (AA 2))))))))
abbrev cS:Stmt:=BG 21
theorem VS:FnScope ["view","marked"] ["view"] (AZ cS):=.go
theorem zJ:(["piece","mark"]:List Str).Nodup:=by decide +kernel
theorem VT:(["piece","view"]:List Str).Nodup:=by decide +kernel
theorem zls(T:Txt K mg a) (F:Fun K "left_pieces" "left_pieces" cS f fd) :
  FP P w K mg base 1 f fd ["view"] (UH K a) :=
 F.okL (Y8 K a) VS zh1 λ_ _ _ _ _ E hr hx=>(AH (GA (i:=1) (tn:=["piece","mark" ]) (cn:=[]) (cap:=[]) VS.cp rfl VS.nd rfl rfl (KW rfl T.LC (AI (BW (AA 0) rfl))) (λ_ _ _ _ _ _=>(IB rfl (ES (BJ 0 zJ) (ES (BJ 1 zJ) IA)))) (λ_ _ _ _ _ _=>(EM (BD (C3 hr.units) (AA 1) AK (A8 _)))) (λ_ _ _ _ _ _=>(AA 0))) (AL (A6 (DU (tn:=["piece"]) (cn:=["view"]) (cap:=[0]) VS.cp rfl (EG (AA 1)) (λ_ _ _ _ _ _=>(BJ 0 VT)) (λ_ _ _ _ _ _=>(EM (BD (C3 hr.units) (A9 BB (BW (AA 1) rfl) (AA 0) (λ_ _=>rfl)) AK (A8 _)))) (λ_ _ _ _ _ _=>(C2 (EB CU CU (AA 0))))))))
abbrev cT:Stmt:=BG 22
theorem VU:FnScope ["view","marked"] ["view"] (AZ cT):=.go
theorem zK:(["record","mark"]:List Str).Nodup:=by decide +kernel
theorem cU:(["record","view"]:List Str).Nodup:=by decide +kernel
theorem zlt(T:Txt K mg a) (F:Fun K "marked_records" "marked_records" cT f fd) :
  FP P w K mg base 1 f fd ["view"] (UI K a) :=
 F.okL (Y9 K a) VU zh2 λ_ _ _ _ _ E hr hx=>(AH (GA (i:=1) (tn:=["record","mark" ]) (cn:=[]) (cap:=[]) VU.cp rfl VU.nd rfl rfl (KW rfl T.LC (AI (BW (AA 0) rfl))) (λ_ _ _ _ _ _=>(IB rfl (ES (BJ 0 zK) (ES (BJ 1 zK) IA)))) (λ_ _ _ _ _ _=>(EM (BD (C3 hr.units) (AA 1) AK (A8 _)))) (λ_ _ _ _ _ _=>(AA 0))) (AL (A6 (DU (tn:=["record"]) (cn:=["view"]) (cap:=[0]) VU.cp rfl (EG (AA 1)) (λ_ _ _ _ _ _=>(BJ 0 cU)) (λ_ _ _ _ _ _=>(EM (BD IZ (A9 BB (BW (AA 1) rfl) (AA 0) (λ_ _=>rfl)) DG (A8 _)))) (λ_ _ _ _ _ _=>(C2 (BM CU (AA 0))))))))
abbrev cV:Stmt:=BG 24
theorem VW:FnScope ["many","numbers","counts","number"] ["many","numbers"] (AZ cV):=.go
theorem zlu:(["k"]:List Str).Nodup:=by decide +kernel
theorem zlv(T:Txt K mg a) (F:Fun K "tally" "tally" cV f fd) :
  FP P w K mg base 1 f fd ["many","numbers"] (OV K a) :=
 F.okL (ZA K a) VW zib λ_ _ _ _ _ E hr hx=>(AH (GA (i:=2) (tn:=["k"]) (cn:=[]) (cap:=[]) VW.cp rfl VW.nd rfl rfl (D9 rfl T.D8 (AI (AA 0))) (λ_ _ _ _ _ _=>(BJ 0 zlu)) (λ_ _ _ _ _ _=>FD) (λ_ _ _ _ _ _=>AK)) (AH (F8 hx.po rfl (EG (AA 1)) (BJ 3 VW.nd) (AL (Sk (AA 2) (AA 3) AK iK))) (AL (A6 (AA 2)))))
abbrev cW:Stmt:=BG 25
theorem cX:FnScope ["records","pieces","value"] ["records"] (AZ cW):=.go
theorem zlw(T:Txt K mg a) (F:Fun K "pieces_in" "pieces_in" cW f fd) :
  FP P w K mg base 1 f fd ["records"] (RJ K a) :=
 F.okL (ZB K a) cX zic λ_ _ _ _ _ E hr hx=>(AH (BF 1 cX.nd (CW DT)) (AH (F8 hx.po rfl (EG (AA 0)) (BJ 2 cX.nd) (AL (CC (BD IF (AA 2) DG (A8 _)) (AL (DP (IJ PySem.F.plainAttrs_list PySem.F.slot_list_extend PySem.F.type_list_extend Sm (AA 1) (AI (AT (AA 2)))))) CI))) (AL (A6 (AA 1)))))
abbrev cY:Stmt:=C0 (BG 31) 4
theorem zL:FnScope ["self"] ["self"] (AZ cY):=.go
theorem zlx:(["number","self"]:List Str).Nodup:=by decide +kernel
theorem zly(T:Txt K mg a) (F:Fun K "waiting" "Book.waiting" cY f fd) :
  FP P w K mg base 1 f fd ["self"] (U3 K a) :=
 F.okL (ZC K a) zL zkv λ_ _ _ _ _ E hr hx=>(AL (A6 (DU (tn:=["number"]) (cn:=["self"]) (cap:=[0]) zL.cp rfl (D9 rfl T.D8 (AI (CL DE rfl T.DF (by rfl) (AI (BW (AA 0) rfl))))) (λ_ _ _ _ _ _=>(BJ 0 zlx)) (λ_ _ _ _ _ _=>(EM (hR (Gv (JP hr) (AA 0) (BW (AA 1) rfl)) (by with_unfolding_all rfl)))) (λ_ _ _ _ _ _=>(AA 0)))))
abbrev cZ:Stmt:=C0 (BG 35) 12
theorem zlz:FnScope ["self"] ["self"] (AZ cZ):=.go
theorem zl0(T:Txt K mg a) (F:Fun K "hold" "Store.hold" cZ f fd) :
  FP P w K mg base 1 f fd ["self"] (U5 K a) :=
 F.okL (ZD K a) zlz zkw λ_ _ _ _ _ E hr hx=>(AL (A6 (BW (AA 0) rfl)))
abbrev c5:Stmt:=C0 (BG 39) 0
theorem zM:FnScope ["self","blocks","cells"] ["self","blocks","cells"] (AZ c5):=.go
theorem zl1:(["block","cells"]:List Str).Nodup:=by decide +kernel
theorem zl2(T:Txt K mg a) (F:Fun K "__init__" "Plank.__init__" c5 f fd) :
  FP P w K mg base 1 f fd ["self","blocks","cells"] (T7 K a) :=
 F.okL (ZE K a) zM zg8 λ_ _ _ _ _ E hr hx=>(AH (E4 (AA 0) (DU (tn:=["block"]) (cn:=["cells"]) (cap:=[2]) zM.cp rfl (D9 rfl T.D8 (AI (AA 1))) (λ_ _ _ _ _ _=>(BJ 0 zl1)) (λ_ _ _ _ _ _=>FD) (λ_ _ _ _ _ _=>(AR G6 (C2 (AI DG)) (AA 1)))) rfl) (AH (E4 (AA 0) (AA 2) rfl) (AL (E4 (AA 0) AK rfl))))
abbrev c7:Stmt:=C0 (BG 39) 1
theorem zl3:FnScope ["self"] ["self"] (AZ c7):=.go
theorem zl4(T:Txt K mg a) (F:Fun K "blocks" "Plank.blocks" c7 f fd) :
  FP P w K mg base 1 f fd ["self"] (IM K a) :=
 F.okL (ZF K a) zl3 zg9 λ_ _ _ _ _ E hr hx=>(AL (A6 (CL DE rfl T.DF (by rfl) (AI (BW (AA 0) rfl)))))
abbrev c8:Stmt:=C0 (BG 39) 2
theorem zl5:FnScope ["self"] ["self"] (AZ c8):=.go
theorem zl6(T:Txt K mg a) (F:Fun K "cells" "Plank.cells" c8 f fd) :
  FP P w K mg base 1 f fd ["self"] (T8 K a) :=
 F.okL (ZG K a) zl5 zha λ_ _ _ _ _ E hr hx=>(AL (A6 (BW (AA 0) rfl)))
abbrev c9:Stmt:=C0 (BG 39) 3
theorem zl7:FnScope ["self"] ["self"] (AZ c9):=.go
theorem zl8(T:Txt K mg a) (F:Fun K "writings" "Plank.writings" c9 f fd) :
  FP P w K mg base 1 f fd ["self"] (OH K a) :=
 F.okL (ZH K a) zl7 zhe λ_ _ _ _ _ E hr hx=>(AL (A6 (BW (AA 0) rfl)))
abbrev dA:Stmt:=C0 (BG 39) 6
theorem zl9:FnScope ["self","block"] ["self","block"] (AZ dA):=.go
theorem zma(T:Txt K mg a) (F:Fun K "ask_for_block" "Plank.ask_for_block" dA f fd) :
  FP P w K mg base 1 f fd ["self","block"] (LS K a) :=
 F.okL (ZI K a) zl9 zhb λ_ _ _ _ _ E hr hx=>(AL (CC (NW (WN XN OA AK (AA 1) (CL DE rfl T.DF (by rfl) (AI (BW (AA 0) rfl))))) (AL (RA hx T.hE rfl T.g9 (AI CU))) CI))
abbrev dB:Stmt:=C0 (BG 41) 0
theorem zmb:FnScope ["self","names","records","pieces","cells"] ["self","names","records","pieces","cells"] (AZ dB):=.go
theorem zmc(T:Txt K mg a) (F:Fun K "__init__" "Layout.__init__" dB f fd) :
  FP P w K mg base 1 f fd ["self","names","records","pieces","cells"] (RH K a) :=
 F.okL (ZJ K a) zmb zhg λ_ _ _ _ _ E hr hx=>(AH (E4 (AA 0) (AA 1) rfl) (AH (E4 (AA 0) (AA 2) rfl) (AH (E4 (AA 0) (AA 3) rfl) (AL (E4 (AA 0) (AA 4) rfl)))))
abbrev dC:Stmt:=C0 (BG 41) 6
theorem zmd:FnScope ["self"] ["self"] (AZ dC):=.go
theorem zme(T:Txt K mg a) (F:Fun K "counts" "Layout.counts" dC f fd) :
  FP P w K mg base 1 f fd ["self"] (OO K a) :=
 F.okL (ZK K a) zmd zhp λ_ _ _ _ _ E hr hx=>(AL (A6 (C2 (EB (AR G6 (BW (AA 0) rfl) (BW (AA 0) rfl)) (AR G6 (BW (AA 0) rfl) (BW (AA 0) rfl)) (AR G6 (BW (AA 0) rfl) (BW (AA 0) rfl))))))
abbrev dD:Stmt:=C0 (BG 41) 9
theorem zmf:FnScope ["self"] ["self"] (AZ dD):=.go
theorem zmg(T:Txt K mg a) (F:Fun K "blocks_ahead_of_marks" "Layout.blocks_ahead_of_marks" dD f fd) :
  FP P w K mg base 1 f fd ["self"] (LV K a) :=
 F.okL (ZL K a) zmf zhn λ_ _ _ _ _ E hr hx=>(AL (A6 (AR B2 (AR B2 (BW (AA 0) rfl) (BW (AA 0) rfl)) (BW (AA 0) rfl))))
abbrev dE:Stmt:=C0 (BG 41) 10
theorem zmh:FnScope ["self","block","k"] ["self","block","k"] (AZ dE):=.go
theorem zmi(T:Txt K mg a) (F:Fun K "place_from" "Layout.place_from" dE f fd) :
  FP P w K mg base 1 f fd ["self","block","k"] (IN K a) :=
 F.okL (ZM K a) zmh zhh λ_ _ _ _ _ E hr hx=>(AL (A6 (C2 (BM (AR B2 (AA 1) (AR IE (AA 2) (BW (AA 0) rfl))) (AR CB (AA 2) (BW (AA 0) rfl))))))
abbrev dF:Stmt:=BG 43
theorem zmj:FnScope ["script","k"] ["script","k"] (AZ dF):=.go
theorem zmk(T:Txt K mg a) (F:Fun K "_law_cell_at" "_law_cell_at" dF f fd) :
  FP P w K mg base 1 f fd ["script","k"] (LX K a) :=
 F.okL (ZN K a) zmj zhf λ_ _ _ _ _ E hr hx=>(AH (CC (BD OA (AA 1) (CL DE rfl T.DF (by rfl) (AI (AA 0))) (A8 _)) (AL (A6 (A9 BB (AA 0) (AA 1) (λ_ _=>rfl)))) CI) (AL (A6 AK)))
abbrev dG:Stmt:=BG 44
theorem NG:FnScope ["cell","many","here","there","found","k"] ["cell","many"] (AZ dG):=.go
theorem zml(T:Txt K mg a) (F:Fun K "_law_spun" "_law_spun" dG f fd) :
  FP P w K mg base 1 f fd ["cell","many"] (IQ K a) :=
 F.okL (ZO K a) NG ziq λ_ _ _ _ _ E hr hx=>(AH (BF 2 NG.nd (AR B2 (AR CB (AA 0) AK) AK)) (AH (BF 3 NG.nd (AR B2 (AR CB (AR IE (AA 0) AK) AK) AK)) (AH (BF 4 NG.nd (CW DT)) (AH (F8 hx.po rfl (D9 rfl T.D8 (AI (AA 1))) (BJ 5 NG.nd) (AH (BF 2 NG.nd (AR CB (AR B2 (AR G6 (AA 2) AK) (AA 3)) AK)) (AH (BF 3 NG.nd (AR CB (AR B2 (AR B2 (AR G6 (AA 3) AK) (AR G6 (AA 2) (AA 2))) (AA 5)) AK)) (AL (DP (IJ PySem.F.plainAttrs_list PySem.F.slot_list_append PySem.F.type_list_append LM (AA 4) (AI (AR B2 (AA 2) (AA 3))))))))) (AL (A6 (AA 4)))))))
abbrev dH:Stmt:=BG 48
theorem dI:FnScope ["view","led","cell"] ["view"] (AZ dH):=.go
theorem zmm(T:Txt K mg a) (F:Fun K "_law_led" "_law_led" dH f fd) :
  FP P w K mg base 1 f fd ["view"] (O1 K a) :=
 F.okL (ZP K a) dI zja λ_ _ _ _ _ E hr hx=>(AH (BF 1 dI.nd (AR G6 (CW (AI AK)) (CL DE rfl T.DF (by rfl) (AI (AT (AA 0)))))) (AH (F8 hx.po rfl (EG (AT (AA 0))) (BJ 2 dI.nd) (AL (CC (BD IF (AA 2) DG (A8 _)) (AL (E3 (AR B2 (A9 BB (AA 1) (AT (AA 2)) (λ_ _=>rfl)) AK) (EZ (AA 1) (AT (AA 2)) ET))) CI))) (AL (A6 (AA 1)))))
abbrev dJ:Stmt:=BG 49
theorem zN:FnScope ["view"] ["view"] (AZ dJ):=.go
theorem zO:(["k","view"]:List Str).Nodup:=by decide +kernel
theorem zmn(T:Txt K mg a) (F:Fun K "_law_free_names" "_law_free_names" dJ f fd) :
  FP P w K mg base 1 f fd ["view"] (IR K a) :=
 F.okL (ZQ K a) zN zi7 λ_ _ _ _ _ E hr hx=>(AL (A6 (DU (tn:=["k"]) (cn:=["view"]) (cap:=[0]) zN.cp rfl (D9 rfl T.D8 (AI (CL DE rfl T.DF (by rfl) (AI (AT (AA 0)))))) (λ_ _ _ _ _ _=>(BJ 0 zO)) (λ_ _ _ _ _ _=>(EM (BD IZ (A9 BB (AT (AA 1)) (AA 0) (λ_ _=>rfl)) DG (A8 _)))) (λ_ _ _ _ _ _=>(AA 0)))))
abbrev dM:Stmt:=BG 50
theorem zP:FnScope ["view"] ["view"] (AZ dM):=.go
theorem dN:(["r","view"]:List Str).Nodup:=by decide +kernel
theorem zmo(T:Txt K mg a) (F:Fun K "_law_free_records" "_law_free_records" dM f fd) :
  FP P w K mg base 1 f fd ["view"] (O2 K a) :=
 F.okL (ZR K a) zP zi8 λ_ _ _ _ _ E hr hx=>(AL (A6 (DU (tn:=["r"]) (cn:=["view"]) (cap:=[0]) zP.cp rfl (D9 rfl T.D8 (AI (CL DE rfl T.DF (by rfl) (AI (AT (AA 0)))))) (λ_ _ _ _ _ _=>(BJ 0 dN)) (λ_ _ _ _ _ _=>(EM (PW.pt (LG (BD IZ (A9 BB (AT (AA 1)) (AA 0) (λ_ _=>rfl)) DG (A8 _)) (LF (BD IZ (A9 BB (AT (AA 1)) (AA 0) (λ_ _=>rfl)) DG (A8 _))))))) (λ_ _ _ _ _ _=>(AA 0)))))
abbrev dO:Stmt:=BG 51
theorem zQ:FnScope ["view"] ["view"] (AZ dO):=.go
theorem zR:(["p","view"]:List Str).Nodup:=by decide +kernel
theorem zmp(T:Txt K mg a) (F:Fun K "_law_free_pieces" "_law_free_pieces" dO f fd) :
  FP P w K mg base 1 f fd ["view"] (O3 K a) :=
 F.okL (ZS K a) zQ zi9 λ_ _ _ _ _ E hr hx=>(AL (A6 (DU (tn:=["p"]) (cn:=["view"]) (cap:=[0]) zQ.cp rfl (D9 rfl T.D8 (AI (CL DE rfl T.DF (by rfl) (AI (AT (AA 0)))))) (λ_ _ _ _ _ _=>(BJ 0 zR)) (λ_ _ _ _ _ _=>(EM (PW.pt (LG (BD IZ (A9 BB (AT (AA 1)) (AA 0) (λ_ _=>rfl)) DG (A8 _)) (LF (BD IZ (A9 BB (AT (AA 1)) (AA 0) (λ_ _=>rfl)) DG (A8 _))))))) (λ_ _ _ _ _ _=>(AA 0)))))
abbrev dP:Stmt:=BG 58
theorem zS:FnScope ["view"] ["view"] (AZ dP):=.go
theorem zmq:(["part"]:List Str).Nodup:=by decide +kernel
theorem zmr(T:Txt K mg a) (F:Fun K "_law_copy" "_law_copy" dP f fd) :
  FP P w K mg base 1 f fd ["view"] (US K a) :=
 F.okL (ZT K a) zS zju λ_ _ _ _ _ E hr hx=>(AL (A6 (DU (tn:=["part"]) (cn:=[]) (cap:=[]) zS.cp rfl (EG (AA 0)) (λ_ _ _ _ _ _=>(BJ 0 zmq)) (λ_ _ _ _ _ _=>FD) (λ_ _ _ _ _ _=>(KJ TY rfl T.WE (by rfl) (AI (AA 0)))))))
abbrev dQ:Stmt:=BG 17
theorem NH:FnScope ["view","shared","empty","few"] ["view"] (AZ dQ):=.go
theorem zms(T:Txt K mg a)(WB:BQ P w K mg base (a "View") 1 "pieces_named" ["self"] (MX K a))(gS:BQ P w K mg base (a "View") 1 "records_standing" ["self"] (OW K a))(gR:BQ P w K mg base (a "View") 1 "count_of" ["self","record"] (OX K a))(F:Fun K "faults_of_things" "faults_of_things" dQ f fd) :
  FP P w K mg base 2 f fd ["view"] (UE K a) :=
 F.okL (ZU K a) NH zh6 λ_ _ _ _ _ E hr hx=>(AH (GA (i:=1) (tn:=["piece"]) (cn:=["view"]) (cap:=[0]) NH.cp rfl NH.nd rfl rfl (EG (DM (AA 0) T.LD WB hr hx)) (λ_ _ _ _ _ _=>(BJ 0 VT)) (λ_ _ _ _ _ _=>(EM (BD OB (A9 BB (BW (AA 1) rfl) (AA 0) (λ_ _=>rfl)) AK (A8 _)))) (λ_ _ _ _ _ _=>(C2 (BM CU (AA 0))))) (AH (GA (i:=2) (tn:=["piece"]) (cn:=["view"]) (cap:=[0]) NH.cp rfl NH.nd rfl rfl (EG (DM (AA 0) T.LD WB hr hx)) (λ_ _ _ _ _ _=>(BJ 0 VT)) (λ_ _ _ _ _ _=>(EM (BD IZ (A9 BB (BW (AA 1) rfl) (AA 0) (λ_ _=>rfl)) DG (A8 _)))) (λ_ _ _ _ _ _=>(C2 (BM CU (AA 0))))) (AH (GA (i:=3) (tn:=["record"]) (cn:=["view"]) (cap:=[0]) NH.cp rfl NH.nd rfl rfl (EG (DM (AA 0) T.LD gS hr hx)) (λ_ _ _ _ _ _=>(BJ 0 cU)) (λ_ _ _ _ _ _=>(EM (BD OA (G5 (AA 1) T.LD gR hr.m HI (AI (AA 0))) (A9 BB (BW (AA 1) rfl) (AA 0) (λ_ _=>rfl)) (A8 _)))) (λ_ _ _ _ _ _=>(C2 (BM CU (AA 0))))) (AL (A6 (AR B2 (AR B2 (AA 1) (AA 2)) (AA 3)))))))
abbrev dR:Stmt:=BG 18
theorem NI:FnScope ["view","led_to","records","pieces"] ["view"] (AZ dR):=.go
theorem zT:(["record","many"]:List Str).Nodup:=by decide +kernel
theorem zmt(T:Txt K mg a)(WB:BQ P w K mg base (a "View") 1 "pieces_named" ["self"] (MX K a))(F:Fun K "faults_of_marks" "faults_of_marks" dR f fd) :
  FP P w K mg base 2 f fd ["view"] (UF K a) :=
 F.okL (ZV K a) NI zh5 λ_ _ _ _ _ E hr hx=>(AH (GA (i:=1) (tn:=["record","many" ]) (cn:=[]) (cap:=[]) NI.cp rfl NI.nd rfl rfl (KW rfl T.LC (AI (BW (AA 0) rfl))) (λ_ _ _ _ _ _=>(IB rfl (ES (BJ 0 zT) (ES (BJ 1 zT) IA)))) (λ_ _ _ _ _ _=>(EM (BD OB (AA 1) AK (A8 _)))) (λ_ _ _ _ _ _=>(AA 0))) (AH (GA (i:=2) (tn:=["record"]) (cn:=["view"]) (cap:=[0]) NI.cp rfl NI.nd rfl rfl (EG (AA 1)) (λ_ _ _ _ _ _=>(BJ 0 cU)) (λ_ _ _ _ _ _=>(EM (BD (GB hr.units) (A9 BB (BW (AA 1) rfl) (AA 0) (λ_ _=>rfl)) AK (A8 _)))) (λ_ _ _ _ _ _=>(C2 (EB CU CU (AA 0))))) (AH (GA (i:=3) (tn:=["piece"]) (cn:=["view"]) (cap:=[0]) NI.cp rfl NI.nd rfl rfl (EG (DM (AA 0) T.LD WB hr hx)) (λ_ _ _ _ _ _=>(BJ 0 VT)) (λ_ _ _ _ _ _=>(EM (BD (GB hr.units) (A9 BB (BW (AA 1) rfl) (AA 0) (λ_ _=>rfl)) AK (A8 _)))) (λ_ _ _ _ _ _=>(C2 (EB CU CU (AA 0))))) (AL (A6 (AR B2 (AA 2) (AA 3)))))))
abbrev dU:Stmt:=BG 20
theorem SC:FnScope ["view","many","left","record","leads"] ["view"] (AZ dU):=.go
theorem zmu(T:Txt K mg a)(gS:BQ P w K mg base (a "View") 1 "records_standing" ["self"] (OW K a))(gR:BQ P w K mg base (a "View") 1 "count_of" ["self","record"] (OX K a))(F:Fun K "leavings_of_records" "leavings_of_records" dU f fd) :
  FP P w K mg base 2 f fd ["view"] (UG K a) :=
 F.okL (ZW K a) SC zh8 λ_ _ _ _ _ E hr hx=>(AH (BF 1 SC.nd (CW DT)) (AH (BF 2 SC.nd (CW DT)) (AH (F8 hx.po rfl (EG (DM (AA 0) T.LD gS hr hx)) (BJ 3 SC.nd) (AH (BF 4 SC.nd (A9 BB (BW (AA 0) rfl) (AA 3) (λ_ _=>rfl))) (AL (CC (BD (C3 hr.units) (AA 4) AK (A8 _)) (AL (DP (IJ PySem.F.plainAttrs_list PySem.F.slot_list_append PySem.F.type_list_append LM (AA 2) (AI (C2 (EB CU CU (AA 3))))))) (AL (CC (BD OB (D0 (AA 0) T.LD gR hr hx (AI (AA 3))) (AA 4) (A8 _)) (AL (DP (IJ PySem.F.plainAttrs_list PySem.F.slot_list_append PySem.F.type_list_append LM (AA 1) (AI (C2 (EB CU (AA 3) (AA 4))))))) CI)))))) (AL (A6 (AR B2 (AA 1) (AA 2)))))))
abbrev dW:Stmt:=C0 (BG 31) 0
theorem zU:FnScope ["self","plank"] ["self","plank"] (AZ dW):=.go
theorem zmv:(["block"]:List Str).Nodup:=by decide +kernel
theorem zmw(T:Txt K mg a)(K9:BQ P w K mg base (a "Plank") 1 "blocks" ["self"] (IM K a))(F:Fun K "__init__" "Book.__init__" dW f fd) :
  FP P w K mg base 2 f fd ["self","plank"] (UZ K a) :=
 F.okL (ZX K a) zU zkr λ_ _ _ _ _ E hr hx=>(AH (E4 (AA 0) (AA 1) rfl) (AH (E4 (AA 0) (CW DT) rfl) (AH (E4 (AA 0) (DU (tn:=["block"]) (cn:=[]) (cap:=[]) zU.cp rfl (D9 rfl T.D8 (AI (DM (AA 1) T.FI K9 hr hx))) (λ_ _ _ _ _ _=>(BJ 0 zmv)) (λ_ _ _ _ _ _=>FD) (λ_ _ _ _ _ _=>(CW DT))) rfl) (AH (E4 (AA 0) jF rfl) (AL (E4 (AA 0) XC rfl))))))
abbrev dX:Stmt:=C0 (BG 31) 9
theorem zmx:FnScope ["self","place"] ["self","place"] (AZ dX):=.go
theorem zmy(T:Txt K mg a)(zpm:BQ P w K mg base (a "Plank") 1 "cells" ["self"] (T8 K a))(K9:BQ P w K mg base (a "Plank") 1 "blocks" ["self"] (IM K a))(F:Fun K "ask_for_place" "Book.ask_for_place" dX f fd) :
  FP P w K mg base 2 f fd ["self","place"] (U0 K a) :=
 F.okL (ZY K a) zmx zks λ_ _ _ _ _ E hr hx=>(AL (CC (PW.pt (MI (NW (WN XN OA AK (AT (AA 1)) (DM (BW (AA 0) rfl) T.FI K9 hr hx))) (MH (NW (WN XN OA AK (AT (AA 1)) (DM (BW (AA 0) rfl) T.FI zpm hr hx)))))) (AL (RA hx T.hE rfl T.g9 (AI CU))) CI))
abbrev dY:Stmt:=C0 (BG 39) 4
theorem zmz:FnScope ["self","block"] ["self","block"] (AZ dY):=.go
theorem zm0(T:Txt K mg a)(gM:BQ P w K mg base (a "Plank") 1 "ask_for_block" ["self","block"] (LS K a))(F:Fun K "read" "Plank.read" dY f fd) :
  FP P w K mg base 2 f fd ["self","block"] (G8 K a) :=
 F.okL (ZZ K a) zmz zhc λ_ _ _ _ _ E hr hx=>(AH (DP (D0 (AA 0) T.FI gM hr hx (AI (AA 1)))) (AL (A6 (KJ TY rfl T.WE (by rfl) (AI (A9 BB (BW (AA 0) rfl) (AA 1) (λ_ _=>rfl)))))))
abbrev dZ:Stmt:=C0 (BG 39) 5
theorem zm1:FnScope ["self","block","values"] ["self","block","values"] (AZ dZ):=.go
theorem zm2(T:Txt K mg a)(gM:BQ P w K mg base (a "Plank") 1 "ask_for_block" ["self","block"] (LS K a))(F:Fun K "write" "Plank.write" dZ f fd) :
  FP P w K mg base 2 f fd ["self","block","values"] (OI K a) :=
 F.okL (Z0 K a) zm1 zhd λ_ _ _ _ _ E hr hx=>(AH (DP (D0 (AA 0) T.FI gM hr hx (AI (AA 1)))) (AH (CC (BD (GB hr.units) (CL DE rfl T.DF (by rfl) (AI (AA 2))) (BW (AA 0) rfl) (A8 _)) (AL (RA hx T.hE rfl T.g9 (AI CU))) CI) (AH (E3 (KJ jY rfl T.Ap (by rfl) (AI (AA 2))) (EZ (BW (AA 0) rfl) (AA 1) ET)) (AL (Eb (AA 0) AK iK)))))
abbrev d7:Stmt:=C0 (BG 41) 1
theorem zm3:FnScope ["self","k"] ["self","k"] (AZ d7):=.go
theorem zm4(T:Txt K mg a)(K8:BQ P w K mg base (a "Layout") 1 "place_from" ["self","block","k"] (IN K a))(F:Fun K "name_at" "Layout.name_at" d7 f fd) :
  FP P w K mg base 2 f fd ["self","k"] (OL K a) :=
 F.okL (Z1 K a) zm3 zhi λ_ _ _ _ _ E hr hx=>(AL (A6 (D0 (AA 0) T.EF K8 hr hx (BM AK (AA 1)))))
abbrev d8:Stmt:=C0 (BG 41) 2
theorem zm5:FnScope ["self","k"] ["self","k"] (AZ d8):=.go
theorem zm6(T:Txt K mg a)(K8:BQ P w K mg base (a "Layout") 1 "place_from" ["self","block","k"] (IN K a))(F:Fun K "record_at" "Layout.record_at" d8 f fd) :
  FP P w K mg base 2 f fd ["self","k"] (KY K a) :=
 F.okL (Z2 K a) zm5 zhj λ_ _ _ _ _ E hr hx=>(AL (A6 (D0 (AA 0) T.EF K8 hr hx (BM (BW (AA 0) rfl) (AA 1)))))
abbrev eA:Stmt:=C0 (BG 41) 3
theorem zm7:FnScope ["self","k"] ["self","k"] (AZ eA):=.go
theorem zm8(T:Txt K mg a)(K8:BQ P w K mg base (a "Layout") 1 "place_from" ["self","block","k"] (IN K a))(F:Fun K "piece_at" "Layout.piece_at" eA f fd) :
  FP P w K mg base 2 f fd ["self","k"] (OM K a) :=
 F.okL (Z3 K a) zm7 zhk λ_ _ _ _ _ E hr hx=>(AL (A6 (D0 (AA 0) T.EF K8 hr hx (BM (AR B2 (BW (AA 0) rfl) (BW (AA 0) rfl)) (AA 1)))))
abbrev eB:Stmt:=C0 (BG 41) 4
theorem zm9:FnScope ["self","k"] ["self","k"] (AZ eB):=.go
theorem zna(T:Txt K mg a)(SK:BQ P w K mg base (a "Layout") 1 "blocks_ahead_of_marks" ["self"] (LV K a))(K8:BQ P w K mg base (a "Layout") 1 "place_from" ["self","block","k"] (IN K a))(F:Fun K "record_mark" "Layout.record_mark" eB f fd) :
  FP P w K mg base 2 f fd ["self","k"] (MV K a) :=
 F.okL (Z4 K a) zm9 zhl λ_ _ _ _ _ E hr hx=>(AL (A6 (D0 (AA 0) T.EF K8 hr hx (BM (DM (AA 0) T.EF SK hr hx) (AA 1)))))
abbrev eC:Stmt:=C0 (BG 41) 5
theorem znb:FnScope ["self","k"] ["self","k"] (AZ eC):=.go
theorem znc(T:Txt K mg a)(SK:BQ P w K mg base (a "Layout") 1 "blocks_ahead_of_marks" ["self"] (LV K a))(K8:BQ P w K mg base (a "Layout") 1 "place_from" ["self","block","k"] (IN K a))(F:Fun K "piece_mark" "Layout.piece_mark" eC f fd) :
  FP P w K mg base 2 f fd ["self","k"] (ON K a) :=
 F.okL (Z5 K a) znb zhm λ_ _ _ _ _ E hr hx=>(AL (A6 (D0 (AA 0) T.EF K8 hr hx (BM (AR B2 (DM (AA 0) T.EF SK hr hx) (BW (AA 0) rfl)) (AA 1)))))
abbrev eD:Stmt:=C0 (BG 41) 7
theorem znd:FnScope ["self"] ["self"] (AZ eD):=.go
theorem zne(T:Txt K mg a)(SK:BQ P w K mg base (a "Layout") 1 "blocks_ahead_of_marks" ["self"] (LV K a))(F:Fun K "blocks" "Layout.blocks" eD f fd) :
  FP P w K mg base 2 f fd ["self"] (UB K a) :=
 F.okL (Z6 K a) znd zho λ_ _ _ _ _ E hr hx=>(AL (A6 (AR B2 (AR B2 (DM (AA 0) T.EF SK hr hx) (BW (AA 0) rfl)) (BW (AA 0) rfl))))
abbrev eE:Stmt:=BG 45
theorem HV:FnScope ["cell","many","letters","xs","size","first","second","names","k","word","j","step"] ["cell","many"] (AZ eE):=.go
theorem znf:(["k","letters","xs"]:List Str).Nodup:=by decide +kernel
theorem zng(T:Txt K mg a)(K7:BS P w K mg base (1) "_law_spun" ["cell","many"] (IQ K a))(F:Fun K "_law_names" "_law_names" eE f fd) :
  FP P w K mg base 2 f fd ["cell","many"] (UM K a) :=
 F.okL (Z7 K a) HV zjp λ_ _ _ _ _ E hr hx=>(AH (IC (i:=2) HV.nd rfl (Or.inr rfl) CU) (AH (IC (i:=3) HV.nd rfl (Or.inr rfl) (BK K7 hr hx (BM (AR IE (AA 0) AK) AK))) (AH (CC (BD (C3 hr.units) (AR CB (AA 0) AK) AK (A8 _)) (AL (A6 (DU (tn:=["k"]) (cn:=["letters","xs" ]) (cap:=[2,3]) HV.cp rfl (D9 rfl T.D8 (AI (AA 1))) (λ_ _ _ _ _ _=>(BJ 0 znf)) (λ_ _ _ _ _ _=>FD) (λ_ _ _ _ _ _=>(AR G6 (A9 BB (AA 1) (AR CB (AR B2 (AT (AA 2)) (AR IE (AA 0) AK)) AK) (λ_ _=>rfl)) (AR B2 AK (AR CB (AA 0) AK))))))) CI) (AH (BF 4 HV.nd (AR B2 AK (AR CB (AT (AA 3)) AK))) (AH (BF 5 HV.nd (AR CB (AT (AA 3)) (AA 4))) (AH (BF 6 HV.nd (AR CB (AR B2 (AR B2 (AA 5) AK) (AR CB (AT (AA 3)) (AR QZ (AA 4) AK))) (AA 4))) (AH (BF 7 HV.nd (CW DT)) (AH (F8 hx.po rfl (D9 rfl T.D8 (AI (AA 1))) (BJ 8 HV.nd) (AH (BF 9 HV.nd CU) (AH (F8 hx.po rfl (D9 rfl T.D8 (AI (AA 4))) (BJ 10 HV.nd) (AH (BF 11 HV.nd (AR B2 (AR G6 (AA 8) (KJ WO rfl T.g7 (by rfl) (AI (NX (C3 hr.units) (AA 10) (AA 5) (A8 _))))) (AR G6 (AR IE (AA 8) AK) (KJ WO rfl T.g7 (by rfl) (AI (NX (C3 hr.units) (AA 10) (AA 6) (A8 _))))))) (AL (BF 9 HV.nd (AR B2 (AA 9) (A9 BB (AA 2) (AR CB (AR B2 (A9 BB (AA 3) (AR B2 AK (AA 10)) (λ_ _=>rfl)) (AA 11)) AK) (λ_ _=>rfl))))))) (AL (DP (IJ PySem.F.plainAttrs_list PySem.F.slot_list_append PySem.F.type_list_append LM (AA 7) (AI (AA 9)))))))) (AL (A6 (AA 7)))))))))))
abbrev eF:Stmt:=BG 46
theorem NJ:FnScope ["cell","signs","xs","size"] ["cell"] (AZ eF):=.go
theorem znh:(["k","signs","xs"]:List Str).Nodup:=by decide +kernel
theorem zni(T:Txt K mg a)(K7:BS P w K mg base (1) "_law_spun" ["cell","many"] (IQ K a))(F:Fun K "_law_text" "_law_text" eF f fd) :
  FP P w K mg base 2 f fd ["cell"] (O0 K a) :=
 F.okL (Z9 K a) NJ zis λ_ _ _ _ _ E hr hx=>(AH (IC (i:=1) NJ.nd rfl (Or.inr rfl) CU) (AH (IC (i:=1) NJ.nd rfl (Or.inr rfl) (AR B2 (AA 1) CU)) (AH (IC (i:=2) NJ.nd rfl (Or.inr rfl) (BK K7 hr hx (BM (AA 0) AK))) (AH (BF 3 NJ.nd (AR B2 AK (AR CB (AT (AA 2)) AK))) (AH (CC (BD (C3 hr.units) (AR CB (AR IE (AT (AA 2)) AK) AK) AK (A8 _)) (AL (BF 3 NJ.nd AK)) CI) (AL (A6 (IJ PySem.F.plainAttrs_str PySem.F.slot_str_join PySem.F.type_str_join Rv CU (AI (DU (tn:=["k"]) (cn:=["signs","xs" ]) (cap:=[1,2]) NJ.cp rfl (D9 rfl T.D8 (AI (AA 3))) (λ_ _ _ _ _ _=>(BJ 0 znh)) (λ_ _ _ _ _ _=>FD) (λ_ _ _ _ _ _=>(A9 BB (AA 1) (AR CB (AR B2 (AT (AA 2)) (AR G6 (AA 0) (AT (AA 2)))) AK) (λ_ _=>rfl)))))))))))))
abbrev eG:Stmt:=BG 47
theorem eI:FnScope ["cell","xs","most"] ["cell"] (AZ eG):=.go
theorem znj(T:Txt K mg a)(K7:BS P w K mg base (1) "_law_spun" ["cell","many"] (IQ K a))(F:Fun K "_law_layout" "_law_layout" eG f fd) :
  FP P w K mg base 2 f fd ["cell"] (UL K a) :=
 F.okL (aB K a) eI zir λ_ _ _ _ _ E hr hx=>(AH (BF 1 eI.nd (BK K7 hr hx (BM (AR IE (AA 0) AK) AK))) (AH (BF 2 eI.nd (Bv (BD (C3 hr.units) (AR CB (AR IE (AA 0) AK) AK) AK (A8 _)) AK AK)) (AL (A6 (C2 (JR (AR B2 AK (AR CB (AT (AA 1)) (AA 2))) (AR B2 AK (AR CB (AT (AA 1)) (AA 2))) (AR B2 AK (AR CB (AT (AA 1)) (AA 2))) (AR B2 AK (AR CB (AA 0) AK))))))))
abbrev eJ:Stmt:=BG 53
theorem eK:FnScope ["view","names","r","number","free","word"] ["view","names","r","number"] (AZ eJ):=.go
theorem znk(T:Txt K mg a)(K6:BS P w K mg base (1) "_law_free_names" ["view"] (IR K a))(F:Fun K "_law_named" "_law_named" eJ f fd) :
  FP P w K mg base 2 f fd ["view","names","r","number"] (O4 K a) :=
 F.okL (aC K a) eK zjb λ_ _ _ _ _ E hr hx=>(AH (BF 4 eK.nd (BK K6 hr hx (AI (AA 0)))) (AH (BF 5 eK.nd (A9 BB (AA 1) (AR QZ (CL DE rfl T.DF (by rfl) (AI (AT (AA 0)))) (CL DE rfl T.DF (by rfl) (AI (AA 4)))) (λ_ _=>rfl))) (AL (E3 (C2 (BM (AA 5) (AA 2))) (EZ (AT (AA 0)) (A9 BB (AA 4) (AR CB (AA 3) (CL DE rfl T.DF (by rfl) (AI (AA 4)))) (λ_ _=>rfl)) ET)))))
abbrev eL:Stmt:=BG 59
theorem QH:FnScope ["view","names","xs","free","records","k","r"] ["view","names","xs"] (AZ eL):=.go
theorem znl(T:Txt K mg a)(K6:BS P w K mg base (1) "_law_free_names" ["view"] (IR K a))(F:Fun K "_law_lost" "_law_lost" eL f fd) :
  FP P w K mg base 2 f fd ["view","names","xs"] (HN K a) :=
 F.okL (aD K a) QH zjv λ_ _ _ _ _ E hr hx=>(AH (BF 3 QH.nd (BK K6 hr hx (AI (AA 0)))) (AH (GA (i:=4) (tn:=["r"]) (cn:=["view"]) (cap:=[0]) QH.cp rfl QH.nd rfl rfl (D9 rfl T.D8 (AI (CL DE rfl T.DF (by rfl) (AI (AT (AA 0)))))) (λ_ _ _ _ _ _=>(BJ 0 dN)) (λ_ _ _ _ _ _=>(EM (BD IZ (A9 BB (AT (AA 1)) (AA 0) (λ_ _=>rfl)) DG (A8 _)))) (λ_ _ _ _ _ _=>(AA 0))) (AH (CC (PW.pt (MI (BD (C3 hr.units) (AA 3) (CW DT) (A8 _)) (MH (BD (C3 hr.units) (AA 4) (CW DT) (A8 _))))) (AL (A6 DG)) CI) (AH (BF 5 QH.nd (A9 BB (AA 3) (AR CB (AT (AA 2)) (CL DE rfl T.DF (by rfl) (AI (AA 3)))) (λ_ _=>rfl))) (AH (BF 6 QH.nd (A9 BB (AA 4) (AR CB (AT (AA 2)) (CL DE rfl T.DF (by rfl) (AI (AA 4)))) (λ_ _=>rfl))) (AH (E3 (C2 (BM (A9 BB (AA 1) (AR QZ (CL DE rfl T.DF (by rfl) (AI (AT (AA 0)))) (CL DE rfl T.DF (by rfl) (AI (AA 3)))) (λ_ _=>rfl)) (AA 6))) (EZ (AT (AA 0)) (AA 5) ET)) (AH (E3 AK (EZ (AT (AA 0)) (AA 6) ET)) (AL (A6 (C2 (BM CU (AA 5))))))))))))
abbrev eM:Stmt:=BG 15
theorem znm:FnScope ["view"] ["view"] (AZ eM):=.go
theorem znn(T:Txt K mg a)(zoy:BS P w K mg base (1) "faults_of_names" ["view"] (UD K a))(zoz:BS P w K mg base (2) "faults_of_things" ["view"] (UE K a))(zox:BS P w K mg base (2) "faults_of_marks" ["view"] (UF K a))(F:Fun K "faults_in" "faults_in" eM f fd) :
  FP P w K mg base 3 f fd ["view"] (OY K a) :=
 F.okL (aE K a) znm zh3 λ_ _ _ _ _ E hr hx=>(AL (A6 (AR B2 (AR B2 (BK zoy hr hx (AI (AA 0))) (BK zoz hr hx (AI (AA 0)))) (BK zox hr hx (AI (AA 0))))))
abbrev eN:Stmt:=BG 19
theorem zno:FnScope ["view"] ["view"] (AZ eN):=.go
theorem znp(T:Txt K mg a)(zpd:BS P w K mg base (2) "leavings_of_records" ["view"] (UG K a))(zpe:BS P w K mg base (1) "left_pieces" ["view"] (UH K a))(zpf:BS P w K mg base (1) "marked_records" ["view"] (UI K a))(F:Fun K "leavings_in" "leavings_in" eN f fd) :
  FP P w K mg base 3 f fd ["view"] (UJ K a) :=
 F.okL (aF K a) zno zh4 λ_ _ _ _ _ E hr hx=>(AL (A6 (AR B2 (AR B2 (BK zpd hr hx (AI (AA 0))) (BK zpe hr hx (AI (AA 0)))) (BK zpf hr hx (AI (AA 0))))))
abbrev eO:Stmt:=BG 23
theorem zV:FnScope ["plank","places"] ["plank","places"] (AZ eO):=.go
theorem zW:(["block","cell","plank"]:List Str).Nodup:=by decide +kernel
theorem znq(T:Txt K mg a)(KB:BQ P w K mg base (a "Plank") 2 "read" ["self","block"] (G8 K a))(F:Fun K "values_at" "values_at" eO f fd) :
  FP P w K mg base 3 f fd ["plank","places"] (KZ K a) :=
 F.okL (aG K a) zV zia λ_ _ _ _ _ E hr hx=>(AL (A6 (DU (tn:=["block","cell" ]) (cn:=["plank"]) (cap:=[0]) zV.cp rfl (EG (AA 1)) (λ_ _ _ _ _ _=>(IB rfl (ES (BJ 0 zW) (ES (BJ 1 zW) IA)))) (λ_ _ _ _ _ _=>FD) (λ_ _ _ _ _ _=>(A9 BB (G5 (AA 2) T.FI KB hr.m HI (AI (AA 0))) (AA 1) (λ_ _=>rfl))))))
abbrev eQ:Stmt:=BG 28
theorem zX:FnScope ["layout","plank","find","place"] ["layout","plank","find"] (AZ eQ):=.go
theorem znr(T:Txt K mg a)(QK:BQ P w K mg base (a "Layout") 2 "record_at" ["self","k"] (KY K a))(KB:BQ P w K mg base (a "Plank") 2 "read" ["self","block"] (G8 K a))(WA:BQ P w K mg base (a "Layout") 2 "record_mark" ["self","k"] (MV K a))(gL:BQ P w K mg base (a "Layout") 2 "piece_mark" ["self","k"] (ON K a))(F:Fun K "mended_cells" "mended_cells" eQ f fd) :
  FP P w K mg base 3 f fd ["layout","plank","find"] (UX K a) :=
 F.okL (PD K a) zX zkg λ_ _ _ _ _ E hr hx=>(AH (CC (BD (C3 hr.units) (AT (AA 2)) CU (A8 _)) (AH (BF 3 zX.nd (D0 (AA 0) T.EF QK hr hx (AI (AT (AA 2))))) (AL (A6 (T5 (JP hr) (Q7 (AA 3) (C2 (BM (AT (AA 2)) (A9 BB (A9 BB (D0 (AA 1) T.FI KB hr hx (AI (AT (AA 3)))) (AT (AA 3)) (λ_ _=>rfl)) AK (λ_ _=>rfl)))) TQ) rfl rfl (by simp) (by simp))))) CI) (AH (CC (BD (C3 hr.units) (AT (AA 2)) CU (A8 _)) (AL (A6 (T5 (JP hr) (Q7 (D0 (AA 0) T.EF WA hr hx (AI (AT (AA 2)))) AK TQ) rfl rfl (by simp) (by simp)))) CI) (AH (CC (BD (C3 hr.units) (AT (AA 2)) CU (A8 _)) (AL (A6 (T5 (JP hr) (Q7 (D0 (AA 0) T.EF QK hr hx (AI (AT (AA 2)))) DG (Q7 (D0 (AA 0) T.EF WA hr hx (AI (AT (AA 2)))) AK TQ)) rfl rfl (by simp) (by simp)))) CI) (AL (A6 (T5 (JP hr) (Q7 (D0 (AA 0) T.EF gL hr hx (AI (AT (AA 2)))) AK TQ) rfl rfl (by simp) (by simp)))))))
abbrev eR:Stmt:=BG 29
theorem SD:FnScope ["plank","due","block","before","after"] ["plank","due"] (AZ eR):=.go
theorem zY:(["cell","value","due","block"]:List Str).Nodup:=by decide +kernel
theorem zns(T:Txt K mg a)(K9:BQ P w K mg base (a "Plank") 1 "blocks" ["self"] (IM K a))(KB:BQ P w K mg base (a "Plank") 2 "read" ["self","block"] (G8 K a))(gN:BQ P w K mg base (a "Plank") 2 "write" ["self","block","values"] (OI K a))(F:Fun K "write_due" "write_due" eR f fd) :
  FP P w K mg base 3 f fd ["plank","due"] (UY K a) :=
 F.okL (aI K a) SD zkj λ_ _ _ _ _ E hr hx=>(AL (F8 hx.po rfl (D9 rfl T.D8 (AI (DM (AA 0) T.FI K9 hr hx))) (hV (i:=2) SD.nd rfl (Or.inr rfl)) (AH (BF 3 SD.nd (D0 (AA 0) T.FI KB hr hx (AI (AA 2)))) (AH (GA (i:=4) (tn:=["cell","value" ]) (cn:=["due","block" ]) (cap:=[1,2]) SD.cp rfl SD.nd rfl rfl (KW rfl T.LC (AI (AA 3))) (λ_ _ _ _ _ _=>(IB rfl (ES (BJ 0 zY) (ES (BJ 1 zY) IA)))) (λ_ _ _ _ _ _=>FD) (λ_ _ _ _ _ _=>(Hc (JP hr) (AA 2) (C2 (BM (AA 3) (AA 0))) (AA 1) ⟨rfl,rfl,rfl,rfl⟩))) (AL (CC (BD (GB hr.units) (AA 4) (AA 3) (A8 _)) (AL (DP (D0 (AA 0) T.FI gN hr hx (BM (AA 2) (AA 4))))) CI))))))
abbrev eS:Stmt:=C0 (BG 31) 3
theorem znt:FnScope ["self","place"] ["self","place"] (AZ eS):=.go
theorem znu(T:Txt K mg a)(zpi:BQ P w K mg base (a "Hold") 2 "ask_for_place" ["self","place"] (U0 K a))(F:Fun K "newest" "Book.newest" eS f fd) :
  FP P w K mg base 3 f fd ["self","place"] (U1 K a) :=
 F.okL (aJ K a) znt zkt λ_ _ _ _ _ E hr hx=>(AH (DP (D0 (AA 0) T.NS zpi hr hx (AI (AA 1)))) (AL (A6 (Hb (JP hr) (BW (AA 0) rfl) (AA 1) ⟨rfl,rfl,rfl,rfl⟩))))
abbrev eU:Stmt:=C0 (BG 41) 8
theorem znv:FnScope ["self"] ["self"] (AZ eU):=.go
theorem znw(T:Txt K mg a)(zpl:BQ P w K mg base (a "Layout") 2 "blocks" ["self"] (UB K a))(zpu:KN P w K mg base (a "Plank") 1 "Plank" ["self","blocks","cells"] (T7 K a))(F:Fun K "plank" "Layout.plank" eU f fd) :
  FP P w K mg base 3 f fd ["self"] (RI K a) :=
 F.okL (aK K a) znv zhq λ_ _ _ _ _ E hr hx=>(AL (A6 (MQ zpu hr.m hx.passes rfl (BM (DM (AA 0) T.EF zpl hr hx) (BW (AA 0) rfl)))))
abbrev eV:Stmt:=BG 52
theorem SE:FnScope ["view","xs","many","taken","k","free","p"] ["view","xs","many"] (AZ eV):=.go
theorem znx(T:Txt K mg a)(f9:BS P w K mg base (1) "_law_free_pieces" ["view"] (O3 K a))(gD:BS P w K mg base (2) "_law_text" ["cell"] (O0 K a))(F:Fun K "_law_pieces" "_law_pieces" eV f fd) :
  FP P w K mg base 3 f fd ["view","xs","many"] (UO K a) :=
 F.okL (aL K a) SE zjc λ_ _ _ _ _ E hr hx=>(AH (BF 3 SE.nd (CW DT)) (AH (F8 hx.po rfl (D9 rfl T.D8 (AI (AA 2))) (BJ 4 SE.nd) (AH (BF 5 SE.nd (BK f9 hr hx (AI (AA 0)))) (AL (CC (BD (GB hr.units) (AA 5) (CW DT) (A8 _)) (AH (BF 6 SE.nd (A9 BB (AA 5) (AR CB (A9 BB (AA 1) (AA 4) (λ_ _=>rfl)) (CL DE rfl T.DF (by rfl) (AI (AA 5)))) (λ_ _=>rfl))) (AH (E3 (BK gD hr hx (AI (AR IE (A9 BB (AA 1) (AA 4) (λ_ _=>rfl)) AK))) (EZ (AT (AA 0)) (AA 6) ET)) (AH (E3 AK (EZ (AT (AA 0)) (AA 6) ET)) (AL (DP (IJ PySem.F.plainAttrs_list PySem.F.slot_list_append PySem.F.type_list_append LM (AA 3) (AI (AA 6)))))))) CI)))) (AL (A6 (KJ jY rfl T.Ap (by rfl) (AI (AA 3)))))))
abbrev eW:Stmt:=BG 55
theorem SF:FnScope ["view","names","xs","led","records","r"] ["view","names","xs"] (AZ eW):=.go
theorem zny:(["r","led"]:List Str).Nodup:=by decide +kernel
theorem znz(T:Txt K mg a)(gB:BS P w K mg base (1) "_law_led" ["view"] (O1 K a))(K6:BS P w K mg base (1) "_law_free_names" ["view"] (IR K a))(gC:BS P w K mg base (2) "_law_named" ["view","names","r","number"] (O4 K a))(F:Fun K "_law_more" "_law_more" eW f fd) :
  FP P w K mg base 3 f fd ["view","names","xs"] (UP K a) :=
 F.okL (aM K a) SF zjg λ_ _ _ _ _ E hr hx=>(AH (IC (i:=3) SF.nd rfl (Or.inr rfl) (BK gB hr hx (AI (AA 0)))) (AH (GA (i:=4) (tn:=["r"]) (cn:=["led"]) (cap:=[3]) SF.cp rfl SF.nd rfl rfl (D9 rfl T.D8 (AI (CL DE rfl T.DF (by rfl) (AI (AA 3))))) (λ_ _ _ _ _ _=>(BJ 0 zny)) (λ_ _ _ _ _ _=>(EM (BD OB (A9 BB (AA 1) (AA 0) (λ_ _=>rfl)) AK (A8 _)))) (λ_ _ _ _ _ _=>(AA 0))) (AL (CC (PW.pt (LG (BD (GB hr.units) (AA 4) (CW DT) (A8 _)) (LF (BD (GB hr.units) (BK K6 hr hx (AI (AA 0))) (CW DT) (A8 _))))) (AH (BF 5 SF.nd (A9 BB (AA 4) (AR CB (AT (AA 2)) (CL DE rfl T.DF (by rfl) (AI (AA 4)))) (λ_ _=>rfl))) (AH (E3 (C2 (BM (AR B2 (A9 BB (A9 BB (AT (AA 0)) (AA 5) (λ_ _=>rfl)) AK (λ_ _=>rfl)) AK) (A9 BB (A9 BB (AT (AA 0)) (AA 5) (λ_ _=>rfl)) AK (λ_ _=>rfl)))) (EZ (AT (AA 0)) (AA 5) ET)) (AL (DP (BK gC hr hx (JR (AA 0) (AA 1) (AA 5) (AT (AA 2)))))))) CI))))
abbrev eX:Stmt:=BG 56
theorem SG:FnScope ["view","kind","xs","records","pieces","p"] ["view","kind","xs"] (AZ eX):=.go
theorem zn0(T:Txt K mg a)(gA:BS P w K mg base (1) "_law_free_records" ["view"] (O2 K a))(f9:BS P w K mg base (1) "_law_free_pieces" ["view"] (O3 K a))(gD:BS P w K mg base (2) "_law_text" ["cell"] (O0 K a))(F:Fun K "_law_alone" "_law_alone" eX f fd) :
  FP P w K mg base 3 f fd ["view","kind","xs"] (UQ K a) :=
 F.okL (aO K a) SG zjh λ_ _ _ _ _ E hr hx=>(AH (BF 3 SG.nd (BK gA hr hx (AI (AA 0)))) (AH (BF 4 SG.nd (BK f9 hr hx (AI (AA 0)))) (AH (CC (PW.pt (LG (BD (C3 hr.units) (AA 1) AK (A8 _)) (LF (BD (GB hr.units) (AA 3) (CW DT) (A8 _))))) (AL (E3 AK (EZ (AT (AA 0)) (A9 BB (AA 3) (AR CB (AT (AA 2)) (CL DE rfl T.DF (by rfl) (AI (AA 3)))) (λ_ _=>rfl)) ET))) CI) (AH (CC (PW.pt (LG (BD (C3 hr.units) (AA 1) AK (A8 _)) (LF (BD (GB hr.units) (AA 4) (CW DT) (A8 _))))) (AH (BF 5 SG.nd (A9 BB (AA 4) (AR CB (AT (AA 2)) (CL DE rfl T.DF (by rfl) (AI (AA 4)))) (λ_ _=>rfl))) (AH (E3 AK (EZ (AT (AA 0)) (AA 5) ET)) (AL (DP (IJ PySem.F.plainAttrs_list PySem.F.slot_list_append PySem.F.type_list_append LM (AT (AA 0)) (AI (AA 5))))))) CI) (AL (CC (PW.pt (LG (BD (C3 hr.units) (AA 1) AK (A8 _)) (LF (BD (GB hr.units) (AA 4) (CW DT) (A8 _))))) (AH (BF 5 SG.nd (A9 BB (AA 4) (AR CB (AT (AA 2)) (CL DE rfl T.DF (by rfl) (AI (AA 4)))) (λ_ _=>rfl))) (AH (E3 (BK gD hr hx (AI (AT (AA 2)))) (EZ (AT (AA 0)) (AA 5) ET)) (AL (E3 (A9 BB (CW (BM AK DG)) (AR CB (AT (AA 2)) AK) (λ_ _=>rfl)) (EZ (AT (AA 0)) (AA 5) ET))))) CI))))))
abbrev eY:Stmt:=BG 60
theorem NK:FnScope ["view","names","xs","free","numbers","k","j","r"] ["view","names","xs"] (AZ eY):=.go
theorem zn1(T:Txt K mg a)(K6:BS P w K mg base (1) "_law_free_names" ["view"] (IR K a))(NM:BS P w K mg base (2) "_law_lost" ["view","names","xs"] (HN K a))(F:Fun K "_law_bad_name" "_law_bad_name" eY f fd) :
  FP P w K mg base 3 f fd ["view","names","xs"] (UT K a) :=
 F.okL (aP K a) NK zjw λ_ _ _ _ _ E hr hx=>(AH (BF 3 NK.nd (BK K6 hr hx (AI (AA 0)))) (AH (GA (i:=4) (tn:=["k"]) (cn:=["view"]) (cap:=[0]) NK.cp rfl NK.nd rfl rfl (D9 rfl T.D8 (AI (CL DE rfl T.DF (by rfl) (AI (AT (AA 0)))))) (λ_ _ _ _ _ _=>(BJ 0 zO)) (λ_ _ _ _ _ _=>(EM (BD IF (A9 BB (AT (AA 1)) (AA 0) (λ_ _=>rfl)) DG (A8 _)))) (λ_ _ _ _ _ _=>(AA 0))) (AH (CC (PW.pt (MI (BD (C3 hr.units) (AA 3) (CW DT) (A8 _)) (MH (BD (C3 hr.units) (AA 4) (CW DT) (A8 _))))) (AL (A6 (BK NM hr hx (EB (AA 0) (AA 1) (AA 2))))) CI) (AH (BF 5 NK.nd (A9 BB (AA 3) (AR CB (AT (AA 2)) (CL DE rfl T.DF (by rfl) (AI (AA 3)))) (λ_ _=>rfl))) (AH (BF 6 NK.nd (A9 BB (AA 4) (AR CB (AT (AA 2)) (CL DE rfl T.DF (by rfl) (AI (AA 4)))) (λ_ _=>rfl))) (AH (BF 7 NK.nd (A9 BB (A9 BB (AT (AA 0)) (AA 6) (λ_ _=>rfl)) AK (λ_ _=>rfl))) (AH (E3 (A9 BB (AT (AA 0)) (AA 6) (λ_ _=>rfl)) (EZ (AT (AA 0)) (AA 5) ET)) (AH (E3 (C2 (BM (AR B2 (A9 BB (A9 BB (AT (AA 0)) (AA 7) (λ_ _=>rfl)) AK (λ_ _=>rfl)) AK) (A9 BB (A9 BB (AT (AA 0)) (AA 7) (λ_ _=>rfl)) AK (λ_ _=>rfl)))) (EZ (AT (AA 0)) (AA 7) ET)) (AL (A6 (C2 (BM CU (CL (Qw rfl) rfl T.zpw (by rfl) (BM (AA 6) (AA 5)))))))))))))))
abbrev eZ:Stmt:=BG 61
theorem ME:FnScope ["view","names","xs","records","pieces","r","p"] ["view","names","xs"] (AZ eZ):=.go
theorem zn2(T:Txt K mg a)(NM:BS P w K mg base (2) "_law_lost" ["view","names","xs"] (HN K a))(F:Fun K "_law_bad_piece" "_law_bad_piece" eZ f fd) :
  FP P w K mg base 3 f fd ["view","names","xs"] (UU K a) :=
 F.okL (aQ K a) ME zj0 λ_ _ _ _ _ E hr hx=>(AH (GA (i:=3) (tn:=["r"]) (cn:=["view"]) (cap:=[0]) ME.cp rfl ME.nd rfl rfl (D9 rfl T.D8 (AI (CL DE rfl T.DF (by rfl) (AI (AT (AA 0)))))) (λ_ _ _ _ _ _=>(BJ 0 dN)) (λ_ _ _ _ _ _=>(EM (BD IF (A9 BB (AT (AA 1)) (AA 0) (λ_ _=>rfl)) DG (A8 _)))) (λ_ _ _ _ _ _=>(AA 0))) (AH (BF 4 ME.nd (CW DT)) (AH (F8 hx.po rfl (EG (AA 3)) (BJ 5 ME.nd) (AL (BF 4 ME.nd (AR B2 (AA 4) (KJ TY rfl T.WE (by rfl) (AI (A9 BB (A9 BB (AT (AA 0)) (AA 5) (λ_ _=>rfl)) AK (λ_ _=>rfl)))))))) (AH (CC (BD (C3 hr.units) (AA 4) (CW DT) (A8 _)) (AL (A6 (BK NM hr hx (EB (AA 0) (AA 1) (AA 2))))) CI) (AH (BF 6 ME.nd (A9 BB (AA 4) (AR CB (AT (AA 2)) (CL DE rfl T.DF (by rfl) (AI (AA 4)))) (λ_ _=>rfl))) (AH (CC (BD (C3 hr.units) (AR CB (AT (AA 2)) AK) AK (A8 _)) (AH (BF 5 ME.nd (A9 BB (AA 3) (AR CB (AT (AA 2)) (CL DE rfl T.DF (by rfl) (AI (AA 3)))) (λ_ _=>rfl))) (AH (E3 (C2 (BM (A9 BB (A9 BB (AT (AA 0)) (AA 5) (λ_ _=>rfl)) AK (λ_ _=>rfl)) (AR B2 (A9 BB (A9 BB (AT (AA 0)) (AA 5) (λ_ _=>rfl)) AK (λ_ _=>rfl)) (C2 (AI (AA 6)))))) (EZ (AT (AA 0)) (AA 5) ET)) (AL (A6 (C2 (BM CU (AA 6))))))) CI) (AH (CC (BD (C3 hr.units) (AR CB (AT (AA 2)) AK) AK (A8 _)) (AH (E3 DG (EZ (AT (AA 0)) (AA 6) ET)) (AL (A6 (C2 (BM CU (AA 6)))))) CI) (AH (E3 (A9 BB (CW (BM AK DG)) (AR CB (AT (AA 2)) AK) (λ_ _=>rfl)) (EZ (AT (AA 0)) (AA 6) ET)) (AL (A6 (C2 (EB CU CU (AA 6)))))))))))))
abbrev fB:Stmt:=BG 62
theorem QI:FnScope ["view","names","xs","led","least","records","r"] ["view","names","xs"] (AZ fB):=.go
theorem zn3:(["r","led","least"]:List Str).Nodup:=by decide +kernel
theorem zn4(T:Txt K mg a)(gB:BS P w K mg base (1) "_law_led" ["view"] (O1 K a))(NM:BS P w K mg base (2) "_law_lost" ["view","names","xs"] (HN K a))(F:Fun K "_law_bad_record" "_law_bad_record" fB f fd) :
  FP P w K mg base 3 f fd ["view","names","xs"] (UV K a) :=
 F.okL (aR K a) QI zjx λ_ _ _ _ _ E hr hx=>(AH (IC (i:=3) QI.nd rfl (Or.inr rfl) (BK gB hr hx (AI (AA 0)))) (AH (IC (i:=4) QI.nd rfl (Or.inr rfl) (AR B2 AK (KJ WO rfl T.g7 (by rfl) (AI (NX (C3 hr.units) (AR CB (AT (AA 2)) AK) AK (A8 _)))))) (AH (GA (i:=5) (tn:=["r"]) (cn:=["led","least" ]) (cap:=[3,4]) QI.cp rfl QI.nd rfl rfl (D9 rfl T.D8 (AI (CL DE rfl T.DF (by rfl) (AI (AA 3))))) (λ_ _ _ _ _ _=>(BJ 0 zn3)) (λ_ _ _ _ _ _=>(EM (BD Kb (A9 BB (AA 1) (AA 0) (λ_ _=>rfl)) (AA 2) (A8 _)))) (λ_ _ _ _ _ _=>(AA 0))) (AH (CC (BD (C3 hr.units) (AA 5) (CW DT) (A8 _)) (AL (A6 (BK NM hr hx (EB (AA 0) (AA 1) (AA 2))))) CI) (AH (BF 6 QI.nd (A9 BB (AA 5) (AR CB (AT (AA 2)) (CL DE rfl T.DF (by rfl) (AI (AA 5)))) (λ_ _=>rfl))) (AH (CC (BD (C3 hr.units) (AA 4) AK (A8 _)) (AH (E3 (C2 (BM AK (A9 BB (A9 BB (AT (AA 0)) (AA 6) (λ_ _=>rfl)) AK (λ_ _=>rfl)))) (EZ (AT (AA 0)) (AA 6) ET)) (AL (A6 (C2 (BM CU (AA 6)))))) CI) (AH (E3 (A9 BB (CW (BM AK DG)) (AR CB (AT (AA 2)) AK) (λ_ _=>rfl)) (EZ (AT (AA 0)) (AA 6) ET)) (AL (A6 (C2 (EB CU CU (AA 6))))))))))))
abbrev fC:Stmt:=BG 64
theorem fD:FnScope ["plank","view","cells","flat","k"] ["plank","view","cells"] (AZ fC):=.go
theorem zn5(T:Txt K mg a)(gN:BQ P w K mg base (a "Plank") 2 "write" ["self","block","values"] (OI K a))(F:Fun K "_law_write" "_law_write" fC f fd) :
  FP P w K mg base 3 f fd ["plank","view","cells"] (O6 K a) :=
 F.okL (aS K a) fD zjs λ_ _ _ _ _ E hr hx=>(AH (BF 3 fD.nd (AR B2 (AR B2 (AR B2 (AR B2 (AT (AA 1)) (AT (AA 1))) (AT (AA 1))) (AT (AA 1))) (AT (AA 1)))) (AL (F8 hx.po rfl (Sx rfl T.D8 (EB AK (CL DE rfl T.DF (by rfl) (AI (AA 3))) (AA 2))) (BJ 4 fD.nd) (AL (DP (D0 (AA 0) T.FI gN hr hx (BM (AR IE (AA 4) (AA 2)) (S8 TX (AA 3) (NZ (AA 4)) (NZ (AR B2 (AA 4) (AA 2)))))))))))
abbrev fE:Stmt:=C0 (BG 12) 0
theorem KA:FnScope ["self","layout","plank","counts","records","pieces"] ["self","layout","plank"] (AZ fE):=.go
theorem SH:(["k","layout"]:List Str).Nodup:=by decide +kernel
theorem zZ:(["value"]:List Str).Nodup:=by decide +kernel
theorem zn6(T:Txt K mg a)(gI:BQ P w K mg base (a "Layout") 1 "counts" ["self"] (OO K a))(gJ:BQ P w K mg base (a "Layout") 2 "name_at" ["self","k"] (OL K a))(SI:BS P w K mg base (3) "values_at" ["plank","places"] (KZ K a))(QK:BQ P w K mg base (a "Layout") 2 "record_at" ["self","k"] (KY K a))(gK:BQ P w K mg base (a "Layout") 2 "piece_at" ["self","k"] (OM K a))(WA:BQ P w K mg base (a "Layout") 2 "record_mark" ["self","k"] (MV K a))(gL:BQ P w K mg base (a "Layout") 2 "piece_mark" ["self","k"] (ON K a))(gG:BS P w K mg base (1) "tally" ["many","numbers"] (OV K a))(Ak:BS P w K mg base (1) "pieces_in" ["records"] (RJ K a))(zpr:BQ P w K mg base (a "View") 1 "records_led_to" ["self"] (UC K a))(F:Fun K "__init__" "View.__init__" fE f fd) :
  FP P w K mg base 4 f fd ["self","layout","plank"] (MY K a) :=
 F.okL (aT K a) KA zih λ_ _ _ _ _ E hr hx=>(AH (BF 3 KA.nd (DM (AA 1) T.EF gI hr hx)) (AH (BF 4 KA.nd (AT (AA 3))) (AH (BF 5 KA.nd (AT (AA 3))) (AH (E4 (AA 0) (BK SI hr hx (BM (AA 2) (DU (tn:=["k"]) (cn:=["layout"]) (cap:=[1]) KA.cp rfl (D9 rfl T.D8 (AI (AT (AA 3)))) (λ_ _ _ _ _ _=>(BJ 0 SH)) (λ_ _ _ _ _ _=>FD) (λ_ _ _ _ _ _=>(G5 (AA 1) T.EF gJ hr.m HI (AI (AA 0))))))) rfl) (AH (E4 (AA 0) (BK SI hr hx (BM (AA 2) (DU (tn:=["k"]) (cn:=["layout"]) (cap:=[1]) KA.cp rfl (D9 rfl T.D8 (AI (AA 4))) (λ_ _ _ _ _ _=>(BJ 0 SH)) (λ_ _ _ _ _ _=>FD) (λ_ _ _ _ _ _=>(G5 (AA 1) T.EF QK hr.m HI (AI (AA 0))))))) rfl) (AH (E4 (AA 0) (BK SI hr hx (BM (AA 2) (DU (tn:=["k"]) (cn:=["layout"]) (cap:=[1]) KA.cp rfl (D9 rfl T.D8 (AI (AA 5))) (λ_ _ _ _ _ _=>(BJ 0 SH)) (λ_ _ _ _ _ _=>FD) (λ_ _ _ _ _ _=>(G5 (AA 1) T.EF gK hr.m HI (AI (AA 0))))))) rfl) (AH (E4 (AA 0) (BK SI hr hx (BM (AA 2) (DU (tn:=["k"]) (cn:=["layout"]) (cap:=[1]) KA.cp rfl (D9 rfl T.D8 (AI (AA 4))) (λ_ _ _ _ _ _=>(BJ 0 SH)) (λ_ _ _ _ _ _=>FD) (λ_ _ _ _ _ _=>(G5 (AA 1) T.EF WA hr.m HI (AI (AA 0))))))) rfl) (AH (E4 (AA 0) (BK SI hr hx (BM (AA 2) (DU (tn:=["k"]) (cn:=["layout"]) (cap:=[1]) KA.cp rfl (D9 rfl T.D8 (AI (AA 5))) (λ_ _ _ _ _ _=>(BJ 0 SH)) (λ_ _ _ _ _ _=>FD) (λ_ _ _ _ _ _=>(G5 (AA 1) T.EF gL hr.m HI (AI (AA 0))))))) rfl) (AH (E4 (AA 0) (BK gG hr hx (BM (AA 4) (DU (tn:=["value"]) (cn:=[]) (cap:=[]) KA.cp rfl (EG (BW (AA 0) rfl)) (λ_ _ _ _ _ _=>(BJ 0 zZ)) (λ_ _ _ _ _ _=>(EM (BD IF (AA 0) DG (A8 _)))) (λ_ _ _ _ _ _=>(AT (AA 0)))))) rfl) (AH (E4 (AA 0) (BK gG hr hx (BM (AA 5) (BK Ak hr hx (AI (BW (AA 0) rfl))))) rfl) (AL (E4 (AA 0) (BK gG hr hx (BM (AA 5) (BK Ak hr hx (AI (DM (AA 0) T.LD zpr hr hx))))) rfl))))))))))))
abbrev fF:Stmt:=C0 (BG 31) 2
theorem z0:FnScope ["self","place","number"] ["self","place"] (AZ fF):=.go
theorem zn7(T:Txt K mg a)(zpj:BQ P w K mg base (a "Hold") 3 "newest" ["self","place"] (U1 K a))(KB:BQ P w K mg base (a "Plank") 2 "read" ["self","block"] (G8 K a))(F:Fun K "in_hand" "Book.in_hand" fF f fd) :
  FP P w K mg base 4 f fd ["self","place"] (L4 K a) :=
 F.okL (aU K a) z0 zku λ_ _ _ _ _ E hr hx=>(AH (BF 2 z0.nd (D0 (AA 0) T.NS zpj hr hx (AI (AA 1)))) (AH (CC (BD IZ (AA 2) DG (A8 _)) (AL (A6 (A9 BB (D0 (BW (AA 0) rfl) T.FI KB hr hx (AI (AT (AA 1)))) (AT (AA 1)) (λ_ _=>rfl)))) CI) (AL (A6 (BW (A9 BB (BW (AA 0) rfl) (AA 2) (λ_ _=>rfl)) rfl)))))
abbrev fG:Stmt:=C0 (BG 35) 0
theorem zn8:FnScope ["self","layout","plank"] ["self","layout","plank"] (AZ fG):=.go
theorem zn9(T:Txt K mg a)(zps:KN P w K mg base (a "Hold") 2 "Hold" ["self","plank"] (UZ K a))(F:Fun K "__init__" "Store.__init__" fG f fd) :
  FP P w K mg base 4 f fd ["self","layout","plank"] (M0 K a) :=
 F.okL (aV K a) zn8 zkx λ_ _ _ _ _ E hr hx=>(AH (E4 (AA 0) (AA 1) rfl) (AH (E4 (AA 0) (MQ zps hr.m hx.passes rfl (AI (AA 2))) rfl) (AL (E4 (AA 0) XC rfl))))
abbrev fH:Stmt:=BG 54
theorem VX:FnScope ["view","names","xs","with_name","records","r","pieces"] ["view","names","xs","with_name"] (AZ fH):=.go
theorem zoa(T:Txt K mg a)(gA:BS P w K mg base (1) "_law_free_records" ["view"] (O2 K a))(K6:BS P w K mg base (1) "_law_free_names" ["view"] (IR K a))(zpa:BS P w K mg base (3) "_law_pieces" ["view","xs","many"] (UO K a))(gC:BS P w K mg base (2) "_law_named" ["view","names","r","number"] (O4 K a))(F:Fun K "_law_record" "_law_record" fH f fd) :
  FP P w K mg base 4 f fd ["view","names","xs","with_name"] (RM K a) :=
 F.okL (bC K a) VX zje λ_ _ _ _ _ E hr hx=>(AH (BF 4 VX.nd (BK gA hr hx (AI (AA 0)))) (AH (CC (PW.pt (MI (BD (C3 hr.units) (AA 4) (CW DT) (A8 _)) (MH (PW.pt (LG (Q3 (AA 3) (λ_=>rfl)) (LF (BD (C3 hr.units) (BK K6 hr hx (AI (AA 0))) (CW DT) (A8 _)))))))) (AL Bx) CI) (AH (BF 5 VX.nd (A9 BB (AA 4) (AR CB (AT (AA 2)) (CL DE rfl T.DF (by rfl) (AI (AA 4)))) (λ_ _=>rfl))) (AH (BF 6 VX.nd (BK zpa hr hx (EB (AA 0) (S8 TX (AA 2) (NZ AK) (NZ AK)) (AR CB (AT (AA 2)) AK)))) (AL (CC (Q3 (AA 3) (λ_=>rfl)) (AH (E3 (C2 (BM (AR B2 AK (A9 BB (CW (KI AK (JR AK AK AK (AR QZ (AR Cq AK AK) AK)))) (AR CB (AT (AA 2)) AK) (λ_ _=>rfl))) (AA 6))) (EZ (AT (AA 0)) (AA 5) ET)) (AH (E3 AK (EZ (AT (AA 0)) (AA 5) ET)) (AL (DP (BK gC hr hx (JR (AA 0) (AA 1) (AA 5) (AT (AA 2)))))))) (AH (E3 (C2 (BM (AR B2 AK (AR CB (AT (AA 2)) AK)) (AA 6))) (EZ (AT (AA 0)) (AA 5) ET)) (AH (E3 (A9 BB (CW (JR AK AK AK DG)) (AR CB (AR IE (AT (AA 2)) AK) AK) (λ_ _=>rfl)) (EZ (AT (AA 0)) (AA 5) ET)) (AL (DP (IJ PySem.F.plainAttrs_list PySem.F.slot_list_extend PySem.F.type_list_extend Gc (AT (AA 0)) (AI (KJ TY rfl T.WE (by rfl) (AI (AA 6)))))))))))))))
abbrev fI:Stmt:=BG 63
theorem z6:FnScope ["view","names","xs","kind"] ["view","names","xs"] (AZ fI):=.go
theorem zob(T:Txt K mg a)(NM:BS P w K mg base (2) "_law_lost" ["view","names","xs"] (HN K a))(zo2:BS P w K mg base (3) "_law_bad_name" ["view","names","xs"] (UT K a))(zo3:BS P w K mg base (3) "_law_bad_piece" ["view","names","xs"] (UU K a))(zo4:BS P w K mg base (3) "_law_bad_record" ["view","names","xs"] (UV K a))(F:Fun K "_law_fault" "_law_fault" fI f fd) :
  FP P w K mg base 4 f fd ["view","names","xs"] (UW K a) :=
 F.okL (bD K a) z6 zjy λ_ _ _ _ _ E hr hx=>(AH (BF 3 z6.nd (AR CB (AT (AA 2)) AK)) (AH (CC (BD (C3 hr.units) (AA 3) AK (A8 _)) (AL (A6 (BK NM hr hx (EB (AA 0) (AA 1) (AA 2))))) CI) (AH (CC (BD (C3 hr.units) (AA 3) AK (A8 _)) (AL (A6 (BK zo2 hr hx (EB (AA 0) (AA 1) (AA 2))))) CI) (AH (CC (BD (Rm hr.units) (AA 3) (C2 (EB AK AK AK)) (by with_unfolding_all rfl)) (AL (A6 (BK zo3 hr hx (EB (AA 0) (AA 1) (AA 2))))) CI) (AL (A6 (BK zo4 hr hx (EB (AA 0) (AA 1) (AA 2)))))))))
abbrev fJ:Stmt:=C0 (BG 35) 16
theorem z7:FnScope ["self"] ["self"] (AZ fJ):=.go
theorem zoc:(["k","self"]:List Str).Nodup:=by decide +kernel
theorem zod(T:Txt K mg a)(gI:BQ P w K mg base (a "Layout") 1 "counts" ["self"] (OO K a))(gJ:BQ P w K mg base (a "Layout") 2 "name_at" ["self","k"] (OL K a))(SJ:BQ P w K mg base (a "Hold") 4 "in_hand" ["self","place"] (L4 K a))(F:Fun K "name_cells" "Store.name_cells" fJ f fd) :
  FP P w K mg base 5 f fd ["self"] (K0 K a) :=
 F.okL (bE K a) z7 zky (len:=zkz) λ_ _ _ _ _ E hr hx=>(AL (A6 (DU (tn:=["k"]) (cn:=["self"]) (cap:=[0]) z7.cp rfl (D9 rfl T.D8 (AI (A9 BB (DM (BW (AA 0) rfl) T.EF gI hr hx) AK (λ_ _=>rfl)))) (λ_ _ _ _ _ _=>(BJ 0 zoc)) (λ_ _ _ _ _ _=>FD) (λ_ _ _ _ _ _=>(G5 (BW (AA 1) rfl) T.NS SJ hr.m HI (AI (G5 (BW (AA 1) rfl) T.EF gJ hr.m HI (AI (AA 0)))))))))
abbrev fK:Stmt:=C0 (BG 35) 17
theorem zoe:FnScope ["self","record"] ["self","record"] (AZ fK):=.go
theorem zof(T:Txt K mg a)(QK:BQ P w K mg base (a "Layout") 2 "record_at" ["self","k"] (KY K a))(SJ:BQ P w K mg base (a "Hold") 4 "in_hand" ["self","place"] (L4 K a))(F:Fun K "standing" "Store.standing" fK f fd) :
  FP P w K mg base 5 f fd ["self","record"] (RS K a) :=
 F.okL (bF K a) zoe zk6 (len:=zk7) λ_ _ _ _ _ E hr hx=>(AL (A6 (D0 (BW (AA 0) rfl) T.NS SJ hr hx (AI (D0 (BW (AA 0) rfl) T.EF QK hr hx (AI (AA 1)))))))
abbrev fM:Stmt:=BG 57
theorem NL:FnScope ["cells","sizes","names","many","view","cell","xs"] ["cells","sizes","names"] (AZ fM):=.go
theorem zog:(["size","sizes"]:List Str).Nodup:=by decide +kernel
theorem zoh:(["k","many"]:List Str).Nodup:=by decide +kernel
theorem zoi(T:Txt K mg a)(K7:BS P w K mg base (1) "_law_spun" ["cell","many"] (IQ K a))(Ah:BS P w K mg base (4) "_law_record" ["view","names","xs","with_name"] (RM K a))(zo8:BS P w K mg base (3) "_law_more" ["view","names","xs"] (UP K a))(zo1:BS P w K mg base (3) "_law_alone" ["view","kind","xs"] (UQ K a))(F:Fun K "_law_view" "_law_view" fM f fd) :
  FP P w K mg base 5 f fd ["cells","sizes","names"] (UR K a) :=
 F.okL (bG K a) NL zjj λ_ _ _ _ _ E hr hx=>(AH (IC (i:=3) NL.nd rfl (Or.inr rfl) (DU (tn:=["size"]) (cn:=["sizes"]) (cap:=[1]) NL.cp rfl (EG (S8 TX (AA 1) iS (NZ AK))) (λ_ _ _ _ _ _=>(BJ 0 zog)) (λ_ _ _ _ _ _=>FD) (λ_ _ _ _ _ _=>(AR G6 (AA 0) (AT (AA 1)))))) (AH (BF 4 NL.nd (AR B2 (DU (tn:=["k"]) (cn:=["many"]) (cap:=[3]) NL.cp rfl (EG (CW (KI AK (JR AK AK AK AK)))) (λ_ _ _ _ _ _=>(BJ 0 zoh)) (λ_ _ _ _ _ _=>FD) (λ_ _ _ _ _ _=>(AR G6 (CW (AI DG)) (A9 BB (AA 1) (AA 0) (λ_ _=>rfl))))) (CW (AI (CW DT))))) (AH (F8 hx.po rfl (EG (AA 0)) (BJ 5 NL.nd) (AH (BF 6 NL.nd (BK K7 hr hx (BM (AR IE (AA 5) AK) AK))) (AL (CC (BD OA (AR CB (AA 5) AK) AK (A8 _)) (AL (DP (BK Ah hr hx (JR (AA 4) (AA 2) (AA 6) IX)))) (AL (CC (BD (C3 hr.units) (AR CB (AA 5) AK) AK (A8 _)) (AL (DP (BK zo8 hr hx (EB (AA 4) (AA 2) (AA 6))))) (AL (CC (BD (C3 hr.units) (AR CB (AA 5) AK) AK (A8 _)) (AL (DP (BK Ah hr hx (JR (AA 4) (AA 2) (AA 6) IX)))) (AL (DP (BK zo1 hr hx (EB (AA 4) (AR CB (AA 5) AK) (AA 6))))))))))))) (AL (A6 (AA 4))))))
abbrev fN:Stmt:=BG 13
theorem z8:FnScope ["layout","plank","view"] ["layout","plank"] (AZ fN):=.go
theorem zoj(T:Txt K mg a)(gU:KN P w K mg base (a "View") 4 "View" ["self","layout","plank"] (MY K a))(f7:BS P w K mg base (3) "faults_in" ["view"] (OY K a))(zpc:BS P w K mg base (3) "leavings_in" ["view"] (UJ K a))(F:Fun K "walk" "walk" fN f fd) :
  FP P w K mg base 6 f fd ["layout","plank"] (OZ K a) :=
 F.okL (bH K a) z8 zii λ_ _ _ _ _ E hr hx=>(AH (BF 2 z8.nd (MQ gU hr.m hx.passes rfl (BM (AA 0) (AA 1)))) (AL (A6 (AR B2 (BK f7 hr hx (AI (AA 2))) (BK zpc hr hx (AI (AA 2)))))))
abbrev fO:Stmt:=BG 14
theorem zok:FnScope ["layout","plank"] ["layout","plank"] (AZ fO):=.go
theorem zol(T:Txt K mg a)(gU:KN P w K mg base (a "View") 4 "View" ["self","layout","plank"] (MY K a))(f7:BS P w K mg base (3) "faults_in" ["view"] (OY K a))(F:Fun K "is_sound" "is_sound" fO f fd) :
  FP P w K mg base 6 f fd ["layout","plank"] (UK K a) :=
 F.okL (bI K a) zok zij λ_ _ _ _ _ E hr hx=>(AL (A6 (NX (C3 hr.units) (CL DE rfl T.DF (by rfl) (AI (BK f7 hr hx (AI (MQ gU hr.m hx.passes rfl (BM (AA 0) (AA 1))))))) AK (A8 _))))
abbrev fP:Stmt:=C0 (BG 35) 7
theorem z9:FnScope ["self"] ["self"] (AZ fP):=.go
theorem zom(T:Txt K mg a)(SL:BQ P w K mg base (a "Store") 5 "name_cells" ["self"] (K0 K a))(F:Fun K "names" "Store.names" fP f fd) :
  FP P w K mg base 6 f fd ["self"] (L8 K a) :=
 F.okL (bJ K a) z9 zk2 (len:=zk3) λ_ _ _ _ _ E hr hx=>(AL (A6 (CL (kG rfl) rfl T.Am (by rfl) (AI (DU (tn:=["value"]) (cn:=[]) (cap:=[]) z9.cp rfl (EG (DM (AA 0) T.HF SL hr hx)) (λ_ _ _ _ _ _=>(BJ 0 zZ)) (λ_ _ _ _ _ _=>(EM (BD IF (AA 0) DG (A8 _)))) (λ_ _ _ _ _ _=>(AT (AA 0))))))))
abbrev fQ:Stmt:=C0 (BG 35) 15
theorem fR:FnScope ["self","name","cell","value"] ["self","name"] (AZ fQ):=.go
theorem zon(T:Txt K mg a)(SL:BQ P w K mg base (a "Store") 5 "name_cells" ["self"] (K0 K a))(F:Fun K "cell_of" "Store.cell_of" fQ f fd) :
  FP P w K mg base 6 f fd ["self","name"] (RQ K a) :=
 F.okL (bK K a) fR zk0 (len:=zk1) λ_ _ _ _ _ E hr hx=>(AH (F8 hx.po rfl (KW rfl T.LC (AI (DM (AA 0) T.HF SL hr hx))) (IB rfl (ES (BJ 2 fR.nd) (ES (BJ 3 fR.nd) IA))) (AL (CC (PW.pt (LG (BD IF (AA 3) DG (A8 _)) (LF (BD (C3 hr.units) (AT (AA 3)) (AA 1) (A8 _))))) (AL (A6 (AA 2))) CI))) (AL (A6 DG)))
abbrev fS:Stmt:=BG 27
theorem VY:FnScope ["layout","plank","finds","due","find"] ["layout","plank"] (AZ fS):=.go
theorem zoo(T:Txt K mg a)(zo0:BS P w K mg base (6) "is_sound" ["layout","plank"] (UK K a))(gH:BS P w K mg base (6) "walk" ["layout","plank"] (OZ K a))(zpg:BS P w K mg base (3) "mended_cells" ["layout","plank","find"] (UX K a))(zph:BS P w K mg base (3) "write_due" ["plank","due"] (UY K a))(F:Fun K "mend" "mend" fS f fd) :
  FP P w K mg base 7 f fd ["layout","plank"] (MZ K a) :=
 F.okL (RW K a) VY zkp (len:=zkq) λ_ _ _ _ _ E hr hx=>(AH (CC (NW (Q3 (BK zo0 hr hx (BM (AA 0) (AA 1))) (λ_=>rfl))) (AL (RA hx T.zp9 rfl T.zp7 (AI CU))) CI) (AH (BF 2 VY.nd (BK gH hr hx (BM (AA 0) (AA 1)))) (AH (BF 3 VY.nd jF) (AH (F8 hx.po rfl (EG (AA 2)) (BJ 4 VY.nd) (AL (DP (IJ PySem.F.plainAttrs_dict PySem.F.slot_dict_update PySem.F.type_dict_update (Tl (JP hr)) (AA 3) (AI (BK zpg hr hx (EB (AA 0) (AA 1) (AA 4)))))))) (AH (DP (BK zph hr hx (BM (AA 1) (AA 3)))) (AL (A6 (AA 2))))))))
abbrev fT:Stmt:=C0 (BG 35) 14
theorem Ab:FnScope ["self","name","cell"] ["self","name"] (AZ fT):=.go
theorem zop(T:Txt K mg a)(zpn:BQ P w K mg base (a "Store") 6 "cell_of" ["self","name"] (RQ K a))(SL:BQ P w K mg base (a "Store") 5 "name_cells" ["self"] (K0 K a))(F:Fun K "record_of" "Store.record_of" fT f fd) :
  FP P w K mg base 7 f fd ["self","name"] (RR K a) :=
 F.okL (bL K a) Ab zk4 (len:=zk5) λ_ _ _ _ _ E hr hx=>(AH (BF 2 Ab.nd (D0 (AA 0) T.HF zpn hr hx (AI (AA 1)))) (AH (CC (BD IZ (AA 2) DG (A8 _)) (AL (RA hx T.zp8 rfl T.zp6 (AI CU))) CI) (AL (A6 (A9 BB (A9 BB (DM (AA 0) T.HF SL hr hx) (AA 2) (λ_ _=>rfl)) AK (λ_ _=>rfl))))))
abbrev fU:Stmt:=C0 (BG 35) 8
theorem fV:FnScope ["self","name","pieces"] ["self","name"] (AZ fU):=.go
theorem zoq:(["piece","self"]:List Str).Nodup:=by decide +kernel
theorem zor(T:Txt K mg a)(zpp:BQ P w K mg base (a "Store") 7 "record_of" ["self","name"] (RR K a))(zpq:BQ P w K mg base (a "Store") 5 "standing" ["self","record"] (RS K a))(gK:BQ P w K mg base (a "Layout") 2 "piece_at" ["self","k"] (OM K a))(SJ:BQ P w K mg base (a "Hold") 4 "in_hand" ["self","place"] (L4 K a))(F:Fun K "texts" "Store.texts" fU f fd) :
  FP P w K mg base 8 f fd ["self","name"] (L9 K a) :=
 F.okL (bN K a) fV zk8 (len:=zk9) λ_ _ _ _ _ E hr hx=>(AH (BF 2 fV.nd (A9 BB (D0 (AA 0) T.HF zpq hr hx (AI (D0 (AA 0) T.HF zpp hr hx (AI (AA 1))))) AK (λ_ _=>rfl))) (AL (A6 (DU (tn:=["piece"]) (cn:=["self"]) (cap:=[0]) fV.cp rfl (EG (AA 2)) (λ_ _ _ _ _ _=>(BJ 0 zoq)) (λ_ _ _ _ _ _=>FD) (λ_ _ _ _ _ _=>(G5 (BW (AA 1) rfl) T.NS SJ hr.m HI (AI (G5 (BW (AA 1) rfl) T.EF gK hr.m HI (AI (AA 0))))))))))
abbrev fW:Stmt:=BG 37
theorem zos:FnScope ["layout","plank"] ["layout","plank"] (AZ fW):=.go
theorem zot(T:Txt K mg a)(gF:BS P w K mg base (7) "mend" ["layout","plank"] (MZ K a))(gT:KN P w K mg base (a "Store") 4 "Store" ["self","layout","plank"] (M0 K a))(F:Fun K "come_up" "come_up" fW f fd) :
  FP P w K mg base 8 f fd ["layout","plank"] (MA K a) :=
 F.okL (VC K a) zos zla (len:=zlb) λ_ _ _ _ _ E hr hx=>(AH (DP (BK gF hr hx (BM (AA 0) (AA 1)))) (AL (A6 (MQ gT hr.m hx.passes rfl (BM (AA 0) (AA 1))))))
abbrev fX:Stmt:=BG 65
theorem QJ:FnScope ["layout","plank","right","other","e"] ["layout","plank"] (AZ fX):=.go
theorem zou(T:Txt K mg a)(VZ:BS P w K mg base (8) "come_up" ["layout","plank"] (MA K a))(F:Fun K "_law_refused" "_law_refused" fX f fd) :
  FP P w K mg base 9 f fd ["layout","plank"] (RN K a) :=
 F.okL (bO K a) QJ zlc λ_ _ _ _ _ E hr hx=>(AH (BF 2 QJ.nd IX) (AH (BF 3 QJ.nd IX) (AH (Jg rfl rfl rfl rfl (λE1 _ _ hx1=>(AL (DP (jS VZ hr.m hx1.passes rfl (BM (AA 0) (AA 1)))))) (Jd (i:=4) QJ.nd rfl rfl (Jb rfl T.zp5) (λ_=>(AH (BF 2 QJ.nd (WH (CL XR rfl T.g8 (by rfl) (BM (AA 4) (LN T.zp3 rfl))) (WG (CL XR rfl T.g8 (by rfl) (BM (AA 4) (Bp rfl T.zpv (by rfl) rfl)))))) (AL (BF 3 QJ.nd (CL XR rfl T.g8 (by rfl) (BM (AA 4) (C2 (KI (LN T.zpx rfl) (KI (LN T.zpy rfl) (KI (LN T.zpz rfl) (JR (LN T.zp0 rfl) (LN T.zp1 rfl) (LN T.zp2 rfl) (LN T.zp4 rfl)))))))))))) Hy)) (AL (A6 (WH (AA 2) (WG (Kh (AA 3)))))))))
abbrev fY:Stmt:=BG 66
theorem EV:FnScope ["script","sizes","names","view","layout","plank","bad","fault","rows","store","stands","name","r","other","writings","straight"] ["script"] (AZ fY):=.go
theorem Ac:(["k","plank"]:List Str).Nodup:=by decide +kernel
theorem Ag:(["cell"]:List Str).Nodup:=by decide +kernel
theorem zov(T:Txt K mg a)(f8:BS P w K mg base (1) "_law_cell_at" ["script","k"] (LX K a))(zo7:BS P w K mg base (2) "_law_layout" ["cell"] (UL K a))(zo9:BS P w K mg base (2) "_law_names" ["cell","many"] (UM K a))(zpb:BS P w K mg base (5) "_law_view" ["cells","sizes","names"] (UR K a))(zpt:KN P w K mg base (a "Layout") 1 "Layout" ["self","names","records","pieces","cells"] (RH K a))(Al:BQ P w K mg base (a "Layout") 3 "plank" ["self"] (RI K a))(zo5:BS P w K mg base (1) "_law_copy" ["view"] (US K a))(K7:BS P w K mg base (1) "_law_spun" ["cell","many"] (IQ K a))(zo6:BS P w K mg base (4) "_law_fault" ["view","names","xs"] (UW K a))(gE:BS P w K mg base (3) "_law_write" ["plank","view","cells"] (O6 K a))(K9:BQ P w K mg base (a "Plank") 1 "blocks" ["self"] (IM K a))(KB:BQ P w K mg base (a "Plank") 2 "read" ["self","block"] (G8 K a))(Aj:BS P w K mg base (9) "_law_refused" ["layout","plank"] (RN K a))(VZ:BS P w K mg base (8) "come_up" ["layout","plank"] (MA K a))(zpo:BQ P w K mg base (a "Store") 1 "hold" ["self"] (U5 K a))(zpk:BQ P w K mg base (a "Hold") 1 "waiting" ["self"] (U3 K a))(gP:BQ P w K mg base (a "Store") 6 "names" ["self"] (L8 K a))(gQ:BQ P w K mg base (a "Store") 8 "texts" ["self","name"] (L9 K a))(gO:BQ P w K mg base (a "Plank") 1 "writings" ["self"] (OH K a))(gF:BS P w K mg base (7) "mend" ["layout","plank"] (MZ K a))(gH:BS P w K mg base (6) "walk" ["layout","plank"] (OZ K a))(gT:KN P w K mg base (a "Store") 4 "Store" ["self","layout","plank"] (M0 K a))(F:Fun K "law" "law" fY f fd) :
  FP P w K mg base 10 f fd ["script"] (kX K a) :=
 F.okL (b7 K a) EV zll λ_ _ _ _ _ E hr hx=>(AH (BF 1 EV.nd (BK zo7 hr hx (AI (BK f8 hr hx (BM (AA 0) AK))))) (AH (BF 2 EV.nd (BK zo9 hr hx (BM (BK f8 hr hx (BM (AA 0) AK)) AK))) (AH (IC (i:=3) EV.nd rfl (Or.inr rfl) (BK zpb hr hx (EB (S8 TX (AA 0) (NZ AK) iS) (AA 1) (AA 2)))) (AH (BF 4 EV.nd (MQ zpt hr.m hx.passes rfl (JR (AT (AA 1)) (AT (AA 1)) (AT (AA 1)) (AT (AA 1))))) (AH (IC (i:=5) EV.nd rfl (Or.inr rfl) (DM (AA 4) T.EF Al hr hx)) (AH (BF 6 EV.nd (BK zo5 hr hx (AI (AA 3)))) (AH (BF 7 EV.nd (BK zo6 hr hx (EB (AA 6) (AA 2) (BK K7 hr hx (BM (BK f8 hr hx (BM (AA 0) AK)) AK))))) (AH (CC (BD IF (AA 7) DG (A8 _)) (AH (DP (BK gE hr hx (EB (AA 5) (AA 6) (AT (AA 1))))) (AH (GA (i:=8) (tn:=["k"]) (cn:=["plank"]) (cap:=[5]) EV.cp rfl EV.nd rfl rfl (D9 rfl T.D8 (AI (DM (AA 5) T.FI K9 hr hx))) (λ_ _ _ _ _ _=>(BJ 0 Ac)) (λ_ _ _ _ _ _=>FD) (λ_ _ _ _ _ _=>(G5 (AA 1) T.FI KB hr.m HI (AI (AA 0))))) (AH (CC (PW.pt (MI (NW (Q3 (BK Aj hr hx (BM (AA 4) (AA 5))) (λ_=>rfl))) (MH (NW (Q3 (BK Aj hr hx (BM (AA 4) (AA 5))) (λ_=>rfl)))))) (AL (A6 IX)) CI) (AL (CC (BD (GB hr.units) (DU (tn:=["k"]) (cn:=["plank"]) (cap:=[5]) EV.cp rfl (D9 rfl T.D8 (AI (DM (AA 5) T.FI K9 hr hx))) (λ_ _ _ _ _ _=>(BJ 0 Ac)) (λ_ _ _ _ _ _=>FD) (λ_ _ _ _ _ _=>(G5 (AA 1) T.FI KB hr.m HI (AI (AA 0))))) (AA 8) (A8 _)) (AL (A6 IX)) CI))))) CI) (AH (DP (BK gE hr hx (EB (AA 5) (AA 3) (AT (AA 1))))) (AH (BF 9 EV.nd (BK VZ hr hx (BM (AA 4) (AA 5)))) (AH (GA (i:=10) (tn:=["cell"]) (cn:=[]) (cap:=[]) EV.cp rfl EV.nd rfl rfl (EG (AT (AA 3))) (λ_ _ _ _ _ _=>(BJ 0 Ag)) (λ_ _ _ _ _ _=>(EM (BD IF (AA 0) DG (A8 _)))) (λ_ _ _ _ _ _=>(AA 0))) (AH (CC (PW.pt (MI (BD (GB hr.units) (DM (AA 9) T.HF gP hr hx) (CL (kG rfl) rfl T.Am (by rfl) (AI (DU (tn:=["cell"]) (cn:=[]) (cap:=[]) EV.cp rfl (EG (AA 10)) (λ_ _ _ _ _ _=>(BJ 0 Ag)) (λ_ _ _ _ _ _=>FD) (λ_ _ _ _ _ _=>(AT (AA 0)))))) (A8 _)) (MH (BD (GB hr.units) (DM (DM (AA 9) T.HF zpo hr hx) T.NS zpk hr hx) (CW DT) (A8 _))))) (AL (A6 IX)) CI) (AH (F8 hx.po rfl (EG (AA 10)) (IB rfl (ES (BJ 11 EV.nd) (ES (BJ 12 EV.nd) IA))) (AL (CC (BD (GB hr.units) (D0 (AA 9) T.HF gQ hr hx (AI (AA 11))) (DU (tn:=["p"]) (cn:=["view"]) (cap:=[3]) EV.cp rfl (EG (A9 BB (A9 BB (AT (AA 3)) (AA 12) (λ_ _=>rfl)) AK (λ_ _=>rfl))) (λ_ _ _ _ _ _=>(BJ 0 zR)) (λ_ _ _ _ _ _=>FD) (λ_ _ _ _ _ _=>(A9 BB (AT (AA 1)) (AA 0) (λ_ _=>rfl)))) (A8 _)) (AL (A6 IX)) CI))) (AH (BF 13 EV.nd (DM (AA 4) T.EF Al hr hx)) (AH (BF 14 EV.nd (DM (AA 5) T.FI gO hr hx)) (AH (CC (BD IF (AA 7) DG (A8 _)) (AL (BF 14 EV.nd (AR QZ (AA 14) (DM (AA 5) T.FI K9 hr hx)))) CI) (AH (DP (BK gE hr hx (EB (AA 13) (AA 3) (AT (AA 1))))) (AH (DP (BK gF hr hx (BM (AA 4) (AA 13)))) (AH (CC (PW.pt (MI (BD (GB hr.units) (AA 14) (DM (AA 13) T.FI gO hr hx) (A8 _)) (MH (BD (GB hr.units) (BK gH hr hx (BM (AA 4) (AA 5))) (CW DT) (A8 _))))) (AL (A6 IX)) CI) (AH (DP (BK VZ hr hx (BM (AA 4) (AA 13)))) (AH (BF 15 EV.nd (MQ gT hr.m hx.passes rfl (BM (AA 4) (AA 13)))) (AH (F8 hx.po rfl (EG (AA 10)) (IB rfl (ES (BJ 11 EV.nd) (ES (BJ 12 EV.nd) IA))) (AL (CC (BD (GB hr.units) (D0 (AA 15) T.HF gQ hr hx (AI (AA 11))) (D0 (AA 9) T.HF gQ hr hx (AI (AA 11))) (A8 _)) (AL (A6 IX)) CI))) (AL (A6 (WH (NX (C3 hr.units) (DM (AA 15) T.HF gP hr hx) (DM (AA 9) T.HF gP hr hx) (A8 _)) (WG (NX (C3 hr.units) (DM (AA 13) T.FI gO hr hx) (AA 14) (A8 _))))))))))))))))))))))))))))
end
end L2
namespace L2
theorem zow(q3s q3t q3u q3v q3w q3x q3y q3z q40 q41 q42 q43 q44 q45:Addr):∃ a:Ad,a "HoldError"=q3s/\a "NoBlock"=q3t/\a "NoChange"=q3u/\a "NoRoom"=q3v/\a "NoName"=q3w/\a "Twice"=q3x/\a "NoPiece"=q3y/\a "NotSound"=q3z/\a "NoRow"=q40/\a "View"=q41/\a "Hold"=q42/\a "Store"=q43/\a "Plank"=q44/\a "Layout"=q45 :=
 ⟨λs=>if s="HoldError" then q3s else if s="NoBlock" then q3t else if s="NoChange" then q3u else if s="NoRoom" then q3v else if s="NoName" then q3w else if s="Twice" then q3x else if s="NoPiece" then q3y else if s="NotSound" then q3z else if s="NoRow" then q40 else if s="View" then q41 else if s="Hold" then q42 else if s="Store" then q43 else if s="Plank" then q44 else if s="Layout" then q45 else 0,by simp⟩
def fZ(K:W.Frag):Sp:=λvs H Q _=>∃ (s:Addr) (ns:List Int),vs=[.ref s]/\SqL K H s (ns.map V.int)/\ns.length<=63/\∀ H',Q (.bl true) H'
theorem all_mk{l:W.OpenLaw}{w:World}{K:W.Frag}{h:Heap}{mg:Str->Option Value}{fa:Addr}{q3s q3t q3u q3v q3w q3x q3y q3z q40 q41 q42 q43 q44 q45:Addr}(X:K.In h)(G:h.Ns mainGlobals mg)(hfa:mg "law"=some (.ref fa))
  (q0:GX K q3s "HoldError")
  (q1:GX K q3t "NoBlock")
  (q2:GX K q3u "NoChange")
  (q3:GX K q3v "NoRoom")
  (q4:GX K q3w "NoName")
  (q5:GX K q3x "Twice")
  (q6:GX K q3y "NoPiece")
  (q7:GX K q3z "NotSound")
  (q8:GX K q40 "NoRow")
  (q9:GC K q41 "View")
  (qa:GC K q42 "Hold")
  (qb:GC K q43 "Store")
  (qc:GC K q44 "Plank")
  (qd:GC K q45 "Layout")
  (qe:W.nsIn K mainGlobals "ValueError"=some none)
  (qf:W.nsIn K mainGlobals "enumerate"=some none)
  (qg:W.nsIn K mainGlobals "int"=some none)
  (qh:W.nsIn K mainGlobals "isinstance"=some none)
  (qi:W.nsIn K mainGlobals "len"=some none)
  (qj:W.nsIn K mainGlobals "list"=some none)
  (qk:W.nsIn K mainGlobals "max"=some none)
  (ql:W.nsIn K mainGlobals "range"=some none)
  (qm:W.nsIn K mainGlobals "sorted"=some none)
  (qn:W.nsIn K mainGlobals "tuple"=some none)
  (qo:GF K "law" fY)
  (qp:GM K q41 "pieces_named" "View.pieces_named" cP)
  (qq:GM K q41 "records_standing" "View.records_standing" cO)
  (qr:GM K q41 "count_of" "View.count_of" cQ)
  (qs:GM K q44 "blocks" "Plank.blocks" c7)
  (qt:GM K q44 "cells" "Plank.cells" c8)
  (qu:GM K q44 "ask_for_block" "Plank.ask_for_block" dA)
  (qv:GM K q45 "place_from" "Layout.place_from" dE)
  (qw:GM K q45 "blocks_ahead_of_marks" "Layout.blocks_ahead_of_marks" dD)
  (qx:GF K "_law_spun" dG)
  (qy:GF K "_law_free_names" dJ)
  (qz:GF K "faults_of_names" cR)
  (q10:GF K "faults_of_things" dQ)
  (q11:GF K "faults_of_marks" dR)
  (q12:GF K "leavings_of_records" dU)
  (q13:GF K "left_pieces" cS)
  (q14:GF K "marked_records" cT)
  (q15:GM K q44 "read" "Plank.read" dY)
  (q16:GM K q45 "record_at" "Layout.record_at" d8)
  (q17:GM K q45 "record_mark" "Layout.record_mark" eB)
  (q18:GM K q45 "piece_mark" "Layout.piece_mark" eC)
  (q19:GM K q44 "write" "Plank.write" dZ)
  (q1a:GM K q42 "ask_for_place" "Book.ask_for_place" dX)
  (q1b:GM K q45 "blocks" "Layout.blocks" eD)
  (q1c:GN K q44 "Plank" "Plank.__init__" c5)
  (q1d:GF K "_law_free_pieces" dO)
  (q1e:GF K "_law_text" eF)
  (q1f:GF K "_law_led" dH)
  (q1g:GF K "_law_named" eJ)
  (q1h:GF K "_law_free_records" dM)
  (q1i:GF K "_law_lost" eL)
  (q1j:GM K q45 "counts" "Layout.counts" dC)
  (q1k:GM K q45 "name_at" "Layout.name_at" d7)
  (q1l:GF K "values_at" eO)
  (q1m:GM K q45 "piece_at" "Layout.piece_at" eA)
  (q1n:GF K "tally" cV)
  (q1o:GF K "pieces_in" cW)
  (q1p:GM K q41 "records_led_to" "View.records_led_to" cN)
  (q1q:GM K q42 "newest" "Book.newest" eS)
  (q1r:GN K q42 "Hold" "Book.__init__" dW)
  (q1s:GF K "_law_pieces" eV)
  (q1t:GF K "_law_bad_name" eY)
  (q1u:GF K "_law_bad_piece" eZ)
  (q1v:GF K "_law_bad_record" fB)
  (q1w:GM K q42 "in_hand" "Book.in_hand" fF)
  (q1x:GF K "_law_record" fH)
  (q1y:GF K "_law_more" eW)
  (q1z:GF K "_law_alone" eX)
  (q20:GN K q41 "View" "View.__init__" fE)
  (q21:GF K "faults_in" eM)
  (q22:GF K "leavings_in" eN)
  (q23:GM K q43 "name_cells" "Store.name_cells" fJ)
  (q24:GF K "is_sound" fO)
  (q25:GF K "walk" fN)
  (q26:GF K "mended_cells" eQ)
  (q27:GF K "write_due" eR)
  (q28:GM K q43 "cell_of" "Store.cell_of" fQ)
  (q29:GM K q43 "record_of" "Store.record_of" fT)
  (q2a:GM K q43 "standing" "Store.standing" fK)
  (q2b:GF K "mend" fS)
  (q2c:GN K q43 "Store" "Store.__init__" fG)
  (q2d:GF K "come_up" fW)
  (q2e:GF K "_law_cell_at" dF)
  (q2f:GF K "_law_layout" eG)
  (q2g:GF K "_law_names" eE)
  (q2h:GF K "_law_view" fM)
  (q2i:GN K q45 "Layout" "Layout.__init__" dB)
  (q2j:GM K q45 "plank" "Layout.plank" eU)
  (q2k:GF K "_law_copy" dP)
  (q2l:GF K "_law_fault" fI)
  (q2m:GF K "_law_write" fC)
  (q2n:GF K "_law_refused" fX)
  (q2o:GM K q43 "hold" "Store.hold" cZ)
  (q2p:GM K q42 "waiting" "Book.waiting" cY)
  (q2q:GM K q43 "names" "Store.names" fP)
  (q2r:GM K q43 "texts" "Store.texts" fU)
  (q2s:GM K q44 "writings" "Plank.writings" c9)
  (q2t:W.findIn K (.ref q42) "ground"=some none)
  (q2u:W.findIn K (.ref q42) "made"=some none)
  (q2v:W.findIn K (.ref q42) "made_in"=some none)
  (q2w:W.findIn K (.ref q42) "latest"=some none)
  (q2x:W.findIn K (.ref q42) "outs"=some none)
  (q2y:W.findIn K (.ref q43) "plan"=some none)
  (q2z:W.findIn K (.ref q43) "book"=some none)
  (q30:W.findIn K (.ref q43) "taken_out"=some none)
  (q31:W.findIn K (.ref q44) "contents"=some none)
  (q32:W.findIn K (.ref q44) "width"=some none)
  (q33:W.findIn K (.ref q44) "written"=some none)
  (q34:W.findIn K (.ref q45) "name_blocks"=some none)
  (q35:W.findIn K (.ref q45) "record_blocks"=some none)
  (q36:W.findIn K (.ref q45) "piece_blocks"=some none)
  (q37:W.findIn K (.ref q45) "width"=some none)
  (q38:W.findIn K (.ref q41) "name_values"=some none)
  (q39:W.findIn K (.ref q41) "record_values"=some none)
  (q3a:W.findIn K (.ref q41) "piece_values"=some none)
  (q3b:W.findIn K (.ref q41) "record_marks"=some none)
  (q3c:W.findIn K (.ref q41) "piece_marks"=some none)
  (q3d:W.findIn K (.ref q41) "leads"=some none)
  (q3e:W.findIn K (.ref q41) "namings"=some none)
  (q3f:W.findIn K (.ref q41) "reached"=some none)
  (q3g:W.findIn K (.ref q3z) "__getattribute__"=some (some (.builtin "BaseException.__getattribute__")))
  (q3h:W.findIn K (.ref q3z) "__getattr__"=some none)
  (q3i:W.mroIn K q3z (.type "BaseException")=some true)
  (q3j:W.isClsIn K q3z=true)
  (q3k:W.findIn K (.ref q3z) "__class__"=some (some (.builtin "object.__class__")))
  (q3l:W.specialIn K (.builtin "object.__class__") "__get__"=some (some (.builtin "getset_descriptor.__get__")))
  (q3m:W.takesIn K (.builtin "object.__class__")=some true)
  (q3n:W.mroIn K q3z (.type "object")=some true)
  (q3o:W.exmOne K (.ref q3z) (.ref q3s)=some true)
  (q3p:W.kitOne K (.ref q3z) (.ref q3z)=some true)
  (q3q:W.kitOne K (.ref q3z) (.type "ValueError")=some true)
  (q3r:W.kitAny K (.ref q3z) [.ref q3t,.ref q3u,.ref q3w,.ref q3y,.ref q3v,.ref q40,.ref q3x]=some false) :
  ∃ fd:FuncData,(∀ (s:Shared) (v:Value),BindsTo s fd ⟨[v],[]⟩ [("script",v)])/\∀ base:Heap,K.In base->base.Ns mainGlobals mg->FnOk l.prog w K mg base (FE l.prog w) 10 fa fd ["script"] (fZ K):=by
 obtain⟨a,rfl,rfl,rfl,rfl,rfl,rfl,rfl,rfl,rfl,rfl,rfl,rfl,rfl,rfl⟩:=zow q3s q3t q3u q3v q3w q3x q3y q3z q40 q41 q42 q43 q44 q45
 have T:Txt K mg a:=⟨qa.c,qd.c,qc.c,qb.c,q9.c,W.mg_of X G q0.ac,⟨_,W.mg_of X G q0.ac,rfl⟩,⟨q0.ex⟩,W.mg_of X G q1.ac,⟨_,W.mg_of X G q1.ac,rfl⟩,⟨q1.ex⟩,W.mg_of X G q2.ac,⟨_,W.mg_of X G q2.ac,rfl⟩,⟨q2.ex⟩,W.mg_of X G q4.ac,⟨_,W.mg_of X G q4.ac,rfl⟩,⟨q4.ex⟩,W.mg_of X G q6.ac,⟨_,W.mg_of X G q6.ac,rfl⟩,⟨q6.ex⟩,W.mg_of X G q3.ac,⟨_,W.mg_of X G q3.ac,rfl⟩,⟨q3.ex⟩,W.mg_of X G q8.ac,⟨_,W.mg_of X G q8.ac,rfl⟩,⟨q8.ex⟩,W.mg_of X G q7.ac,⟨_,W.mg_of X G q7.ac,rfl⟩,⟨q7.ex⟩,W.mg_of X G q5.ac,⟨_,W.mg_of X G q5.ac,rfl⟩,⟨q5.ex⟩,W.mg_none_of X G qe,W.mg_none_of X G qf,W.mg_none_of X G qg,W.mg_none_of X G qh,W.mg_none_of X G qi,W.mg_none_of X G qj,W.mg_none_of X G qk,W.mg_none_of X G ql,W.mg_none_of X G qm,W.mg_none_of X G qn⟩
 have TPk:FG K a:=⟨T.FI,q31,q32,q33⟩
 have TLy:FV K a:=⟨T.EF,q34,q35,q36,q37⟩
 have TVw:TV K a:=⟨T.LD,q38,q39,q3a,q3b,q3c,q3d,q3e,q3f⟩
 have TBk:TB K a:=⟨T.NS,q2t,q2u,q2v,q2w,q2x⟩
 have TSt:YY K a:=⟨T.HF,q2y,q2z,q30⟩
 have TNo:YW K a:=⟨q3o,⟨q3g,q3h,q3i,q3j,q3k,q3l,q3m,q3n⟩,q3p,q3q,q3r⟩
 obtain⟨fd,hb,F⟩:=qo.law X G hfa (λ_ _ _ _ _ _ _ _=>.of_eq rfl)
 refine⟨fd,hb,λbase _ _=> ?_⟩
 have q56:=q1p.cal (zlm l.prog w base T)
 have q47:=qq.cal (zln l.prog w base T)
 have q46:=qp.cal (zlo l.prog w base T)
 have q48:=qr.cal (zlq l.prog w base T)
 have q4g:=qz.cal X G (zlr l.prog w base T)
 have q4k:=q13.cal X G (zls l.prog w base T)
 have q4l:=q14.cal X G (zlt l.prog w base T)
 have q54:=q1n.cal X G (zlv l.prog w base T)
 have q55:=q1o.cal X G (zlw l.prog w base T)
 have q66:=q2p.cal (zly l.prog w base T)
 have q65:=q2o.cal (zl0 l.prog w base T)
 have q4t:=q1c.cal X G (zl2 l.prog w base T)
 have q49:=qs.cal (zl4 l.prog w base T)
 have q4a:=qt.cal (zl6 l.prog w base T)
 have q69:=q2s.cal (zl8 l.prog w base T)
 have q4b:=qu.cal (zma l.prog w base T)
 have q5z:=q2i.cal X G (zmc l.prog w base T)
 have q50:=q1j.cal (zme l.prog w base T)
 have q4d:=qw.cal (zmg l.prog w base T)
 have q4c:=qv.cal (zmi l.prog w base T)
 have q5v:=q2e.cal X G (zmk l.prog w base T)
 have q4e:=qx.cal X G (zml l.prog w base T)
 have q4w:=q1f.cal X G (zmm l.prog w base T)
 have q4f:=qy.cal X G (zmn l.prog w base T)
 have q4y:=q1h.cal X G (zmo l.prog w base T)
 have q4u:=q1d.cal X G (zmp l.prog w base T)
 have q61:=q2k.cal X G (zmr l.prog w base T)
 have q4h:=q10.cal X G (zms l.prog w base T q46 q47 q48)
 have q4i:=q11.cal X G (zmt l.prog w base T q46)
 have q4j:=q12.cal X G (zmu l.prog w base T q47 q48)
 have q58:=q1r.cal X G (zmw l.prog w base T q49)
 have q4r:=q1a.cal (zmy l.prog w base T q4a q49)
 have q4m:=q15.cal (zm0 l.prog w base T q4b)
 have q4q:=q19.cal (zm2 l.prog w base T q4b)
 have q51:=q1k.cal (zm4 l.prog w base T q4c)
 have q4n:=q16.cal (zm6 l.prog w base T q4c)
 have q53:=q1m.cal (zm8 l.prog w base T q4c)
 have q4o:=q17.cal (zna l.prog w base T q4d q4c)
 have q4p:=q18.cal (znc l.prog w base T q4d q4c)
 have q4s:=q1b.cal (zne l.prog w base T q4d)
 have q5x:=q2g.cal X G (zng l.prog w base T q4e)
 have q4v:=q1e.cal X G (zni l.prog w base T q4e)
 have q5w:=q2f.cal X G (znj l.prog w base T q4e)
 have q4x:=q1g.cal X G (znk l.prog w base T q4f)
 have q4z:=q1i.cal X G (znl l.prog w base T q4f)
 have q5i:=q21.cal X G (znn l.prog w base T q4g q4h q4i)
 have q5j:=q22.cal X G (znp l.prog w base T q4j q4k q4l)
 have q52:=q1l.cal X G (znq l.prog w base T q4m)
 have q5n:=q26.cal X G (znr l.prog w base T q4n q4m q4o q4p)
 have q5o:=q27.cal X G (zns l.prog w base T q49 q4m q4q)
 have q57:=q1q.cal (znu l.prog w base T q4r)
 have q60:=q2j.cal (znw l.prog w base T q4s q4t)
 have q59:=q1s.cal X G (znx l.prog w base T q4u q4v)
 have q5f:=q1y.cal X G (znz l.prog w base T q4w q4f q4x)
 have q5g:=q1z.cal X G (zn0 l.prog w base T q4y q4u q4v)
 have q5a:=q1t.cal X G (zn1 l.prog w base T q4f q4z)
 have q5b:=q1u.cal X G (zn2 l.prog w base T q4z)
 have q5c:=q1v.cal X G (zn4 l.prog w base T q4w q4z)
 have q63:=q2m.cal X G (zn5 l.prog w base T q4q)
 have q5h:=q20.cal X G (zn6 l.prog w base T q50 q51 q52 q4n q53 q4o q4p q54 q55 q56)
 have q5d:=q1w.cal (zn7 l.prog w base T q57 q4m)
 have q5t:=q2c.cal X G (zn9 l.prog w base T q58)
 have q5e:=q1x.cal X G (zoa l.prog w base T q4y q4f q59 q4x)
 have q62:=q2l.cal X G (zob l.prog w base T q4z q5a q5b q5c)
 have q5k:=q23.cal (zod l.prog w base T q50 q51 q5d)
 have q5r:=q2a.cal (zof l.prog w base T q4n q5d)
 have q5y:=q2h.cal X G (zoi l.prog w base T q4e q5e q5f q5g)
 have q5m:=q25.cal X G (zoj l.prog w base T q5h q5i q5j)
 have q5l:=q24.cal X G (zol l.prog w base T q5h q5i)
 have q67:=q2q.cal (zom l.prog w base T q5k)
 have q5p:=q28.cal (zon l.prog w base T q5k)
 have q5s:=q2b.cal X G (zoo l.prog w base T q5l q5m q5n q5o)
 have q5q:=q29.cal (zop l.prog w base T q5p q5k)
 have q68:=q2r.cal (zor l.prog w base T q5q q5r q53 q5d)
 have q5u:=q2d.cal X G (zot l.prog w base T q5s q5t)
 have q64:=q2n.cal X G (zou l.prog w base T q5u)
 exact(zov l.prog w base T q5v q5w q5x q5y q5z q60 q61 q4e q62 q63 q49 q4m q64 q5u q65 q66 q67 q68 q69 q5s q5m q5t F).imp (λvs H Q E ⟨s,ns,e,hs,hn,q⟩=>⟨s,ns,e,TVw,TLy,TPk,TNo,⟨TBk,TPk,TLy,TSt⟩,hs,hn,q⟩)
theorem walk{l:W.OpenLaw}{q:Program}{loose:List Str}{XP:(Str->Option Value)->Heap->Prop}{YP:World->Heap->Prop}{d:DefRec}{K:Params->W.Frag}(hn:l.most=some 63)(hdf:d.params.defaults=[])
  (hY:∀ (w:World) (h:Heap),YP w h->(K w.params).In h)
  (F:∀ (w:World) (mg:Str->Option Value) (fa:Addr) (h:Heap),(K w.params).In h->h.Ns mainGlobals mg->mg d.name=some (.ref fa) →
   ∃ fd:FuncData,(∀ (s:Shared) (u:Value),BindsTo s fd ⟨[u],[]⟩ [("script",u)])/\∀ base:Heap,(K w.params).In base->base.Ns mainGlobals mg->FnOk l.prog w (K w.params) mg base (FE l.prog w) 10 fa fd ["script"] (fZ (K w.params))) :
  W.WalkO q loose XP YP l.row.toRowW d [] (λf vs=>PySem.call f vs) :=
 L2.walk_of (n:=63) (k:=10) (x:="script") (CX:=λw=>FE l.prog w) (sp:=λw=>fZ (K w.params)) hn (by decide) hdf ⟨rfl,by decide,by decide⟩ hY F (λ_ _ a ns hl _ hS=>⟨a,ns,rfl,hS,hl,λ_=>rfl⟩) λ_ _ _ _ _ z=>jR z
end L2
namespace PySem.W.Fast
def tw396031260240865831:=()
def tw5984152568972961463:=()
def tw17371348464631764564:=()
def tw1375221489680262862:=()
def tw16150188047197138792:=()
def tw12791454013933247615:=()
def tw2310760946266406571:=()
def tw1276378795506295720:=()
def tw3000766336636737359:=()
def tw9039610913667094619:=()
def tw6838333171495452226:=()
def tw16727899645429573255:=()
def tw10119764866392302938:=()
def tw5561299405441706809:=()
def tw9979588207556316205:=()
def tw12251058260539798960:=()
def tw13311768644732884696:=()
def tw5208999757127740667:=()
def tw1731167983940063016:=()
def tw983016350523642539:=()
def tw3744999010472715575:=()
def tw800592032358523250:=()
def tw4023985558176683291:=()
def tw11543012424132155242:=()
def tw3658849790652205440:=()
def tw6906660371660204049:=()
def tw9905407041765735939:=()
def tw8210091206267301985:=()
def tw2045593358138309710:=()
def tw5306161912269033782:=()
def tw5916402908292539293:=()
def tw16361097591204919060:=()
def tw4705644549420399647:=()
def tw13313598433463796871:=()
def tw16531145434966262683:=()
def tw3548328787889307906:=()
def tw4108126388105251182:=()
def tw5050629745494829081:=()
def tw1228823375514233894:=()
def tw9332222501456060688:=()
def tw7762762350128500487:=()
def tw9348772783551539138:=()
def tw2997977834364728874:=()
def tw12765290941433670845:=()
def tw9921013881499601444:=()
def tw16203946695188130831:=()
def tw14444922681698737790:=()
def tw9198055295819199427:=()
def tw12411314690207235655:=()
def tw17937504474891577956:=()
def tw14793829973737597867:=()
def tw384024611616040597:=()
def tw1551060236958809648:=()
def tw3198864224525071494:=()
def tw15147671609499240138:=()
def tw3769014977837219936:=()
def tw1673159715876037429:=()
def tw13591673435759503483:=()
def tw14949579125531007154:=()
def tw17415690797910165256:=()
def tw6240220366280570269:=()
def tw5525539979995835073:=()
def tw9873033180845873616:=()
def tw18043357565433673301:=()
def tw9587292607306085454:=()
def tw822255354550053791:=()
def tw6778131233465366077:=()
def tw6428675273891423367:=()
def tw16783773152011145755:=()
def tw16048724257199414574:=()
def tw11081716236727011078:=()
def tw941350396044679980:=()
def tw14508163547920497769:=()
def tw9880876115635827633:=()
def tw14584388501736482862:=()
def tw16886872947656739269:=()
def tw3891869607454530522:=()
def tw7542003116795911585:=()
def tw970096838302643981:=()
def tw682619853652382757:=()
def tw7128720433402041248:=()
def tw9135425725494051176:=()
def tw8815623912800546624:=()
def tw1750332706667271048:=()
def tw16560761323156347366:=()
def tw16639326296822126654:=()
def tw10801596256807403858:=()
def tw4660968398423148568:=()
def tw5061814683161526204:=()
def tw17727218391615214646:=()
def tw14567755488645926057:=()
def tw11675366417874152551:=()
def tw3447527480270616175:=()
def tw18048941713149878324:=()
def tw5115112736589580119:=()
def tw16428814797620876653:=()
def tw11485130278633221078:=()
def tw16155350146085130460:=()
def tw817033245244959490:=()
def tw14818381178922817021:=()
def tw10446878712964546319:=()
def tw15252119649747823174:=()
def tw4548258182019841913:=()
def tw11671671446456416491:=()
def tw3428425436389527963:=()
def tw2186319148439353640:=()
def tw13889600427050017755:=()
def tw4246188696259492046:=()
def tw15624847642044068506:=()
def tw3220997055907916519:=()
def tw7060480388586156510:=()
def tw4616188167616547030:=()
def tw7494267590522321398:=()
def tw1099592663542459539:=()
def tw5798423955041453797:=()
def tw14536790577210873177:=()
def tw3781072547272326698:=()
def tw10059040428806681107:=()
def tw558202349232157211:=()
def tw12952123344696135047:=()
def tw17529402396208910715:=()
def tw2453743820555683161:=()
def tw13808496167268543500:=()
def tw15492135748756181083:=()
def tw14838986964119931429:=()
def tw12075056333088167637:=()
def tw10436645391080319319:=()
def tw7182485274056788977:=()
def tw5749712160186986529:=()
def tw9759502963156081751:=()
def tw4574883947419480187:=()
def tw9735722062888823806:=()
def tw17266083004845018146:=()
def tw14357674605904134860:=()
def tw8342045875819683493:=()
def tw10216677632321098881:=()
def tw3096546219849934173:=()
def tw7573575725055850000:=()
def tw2218910309015220771:=()
def tw14055702367438090546:=()
def tw1862252632103061560:=()
def tw5914438407997942853:=()
def tw12524913998048852472:=()
def tw13675660687951270708:=()
def tw2379233964536394134:=()
def tw3804628599522834629:=()
def tw2346444105188569062:=()
def tw13537409733929342353:=()
def tw17322378827335559448:=()
def tw3036369732384200864:=()
def tw18154233113970845710:=()
def tw2203729917824979864:=()
def tw1503439684876799510:=()
def tw14464574298355288454:=()
def tw16424976427397636395:=()
def tw217578860289665925:=()
def tw5524837394668892571:=()
def tw206556592992488175:=()
def tw11082207703759414813:=()
def tw7685275946349000572:=()
def tw16471317420605323854:=()
def tw5398751986150414335:=()
def tw14891551104639420935:=()
def tw4869817098020868268:=()
def tw16054659794229636472:=()
def tw1700042809452147121:=()
def tw5934345124927121122:=()
def tw1895491440452662818:=()
def tw2992344469615896362:=()
def tw4007748657491684049:=()
def tw17307030627488597673:=()
def tw15217586099096132246:=()
def tw8443412486568088497:=()
def tw3950593162799841453:=()
def tw1488625173180998787:=()
def tw6537261819905139640:=()
def tw705532301281369993:=()
def tw1411068826591212873:=()
def tw5700771047794017411:=()
def tw11540545466135847952:=()
def tw5184948491060726003:=()
def tw17309146221784854222:=()
def tw3158484207713365591:=()
def tw9380924460253694934:=()
def tw7170412249749504097:=()
def tw18096640415607153328:=()
def tw15685820523704150864:=()
def tw5446256277202918668:=()
def tw3240573179260480643:=()
def tw17159958848924799392:=()
def tw16359016188139296441:=()
def tw16828254850644022456:=()
def tw903517888585099062:=()
def tw11500564673795601301:=()
def tw109143090231378204:=()
def tw18392668162766876182:=()
def tw3599996188368643435:=()
def tw13948490728169418635:=()
def tw1971646094636212615:=()
def tw6312971386636811097:=()
def tw17955634762336247664:=()
def tw14537112310367815863:=()
def tw15398242140323378420:=()
def tw6007664320427780946:=()
def tw14467085527353526377:=()
def tw18265628465962594320:=()
def tw10951736843581227454:=()
def tw2623406490978740102:=()
def tw1006259690578719652:=()
def tw7141479984004075325:=()
def tw10866562572335204637:=()
def tw9461029766899313980:=()
def tw12488012735839888572:=()
def tw10726864582747239437:=()
def tw16463380190104194043:=()
def tw8093693525686541792:=()
def tw5837424821133671335:=()
def tw14193544353526753789:=()
def tw15993033664513685353:=()
def tw10918787165191530352:=()
def tw3159951038080350905:=()
def tw1004130178807961666:=()
def tw1162611776488240027:=()
def tw8413003775240636065:=()
def tw17775938580083830071:=()
def tw12284624322118919854:=()
def tw9814783005087548493:=()
def tw11695905819516976370:=()
def tw144182149155942965:=()
def tw5756085375111812391:=()
def tw12828795197677116062:=()
def tw3524998600355066070:=()
def tw471772267913540237:=()
def tw10621419870015299682:=()
def tw6816633611223223740:=()
def tw11912132588096858134:=()
def tw10815597785573513696:=()
def tw11619141596385087180:=()
def tw8416893046956617676:=()
def tw12765973171411141615:=()
def tw18014427684026369580:=()
def tw6027909443963897224:=()
def tw9335099661420686375:=()
def tw6196616524084499993:=()
def tw611303705975180607:=()
def tw17298696185075583519:=()
def tw5385133113685166122:=()
def tw15760183990322909607:=()
def tw15481936797453789808:=()
def tw3937685814143309918:=()
def tw10054225179094274823:=()
def tw10093669786473418054:=()
def tw2239817973641184819:=()
def tw1014676095312445709:=()
def tw17705999573253043581:=()
def tw7860560815301854891:=()
def tw10833554048714847131:=()
def tw9048630226474940909:=()
def tw15593133834075495055:=()
def tw2195216159912641583:=()
def tw6251970509622584550:=()
def tw15396738427682842660:=()
def tw18229885582295119281:=()
def tw297513217171059430:=()
def tw4791546488306039599:=()
def tw10964679517043926041:=()
def tw10594292483600216784:=()
def tw8845271817188004226:=()
def tw12200359621802253797:=()
def tw3591805007540453528:=()
def tw8855266856076559900:=()
def tw1895374538249468521:=()
def tw13998824796306518233:=()
def tw7924494227719528410:=()
def tw16171543521279251506:=()
def tw10271172892184149004:=()
def tw14343683168459013016:=()
def tw11900029313985232896:=()
def tw464920386269980308:=()
def tw6753725969461346531:=()
def tw16064152230245724256:=()
def tw3611093060707116771:=()
def tw445009678207278075:=()
def tw1699021596360042201:=()
def tw3117658537880402558:=()
def tw70291965931476600:=()
def tw13486309886973560038:=()
def tw9062316050138672317:=()
def tw15215492124867178889:=()
def tw1587027213981877800:=()
def tw3802270226820199396:=()
def tw4712182022778134393:=()
def tw13222254931847156544:=()
def tw369106780274858348:=()
def tw6329350209287444934:=()
def tw1726679365024896432:=()
def tw12668995718410732734:=()
def tw14054701005984454221:=()
def tw18177944368605282150:=()
def tw2502137514360334558:=()
def tw16968619402420982871:=()
def tw5129798858656583732:=()
def tw12689099695063368050:=()
def tw5271737728931198656:=()
def tw16101965312330000577:=()
def tw9805532333271950402:=()
def tw10525758267695055543:=()
def tw17255924654616506283:=()
def tw7059453334770364007:=()
def tw8989137813758630263:=()
def tw13972368918301166092:=()
def tw2144959458072186304:=()
def tw2359470500850013863:=()
def tw16966188181149034263:=()
def tw10695761854416061653:=()
def tw10331436661191770011:=()
def tw17368311847895927161:=()
def tw15238628322793560177:=()
def tw14938038161932168948:=()
def tw13614899071811066527:=()
def tw12876191933544751135:=()
def tw6642606167282763485:=()
def tw9196029416000343320:=()
def tw12119364835095992713:=()
def tw1215860781295798894:=()
def tw18021052287016744121:=()
def tw14319472226298894816:=()
def tw4389741695876937881:=()
def tw12413493235164479462:=()
def tw7810028077455317091:=()
def tw14026474471785980231:=()
def tw13459022331387111869:=()
def tw11713493326777495705:=()
def tw4312009077107579576:=()
def tw1872379919072593676:=()
def tw13892930833790854828:=()
def tw4232852088740943092:=()
def tw13692467558949620490:=()
def tw6264814368261723594:=()
def tw5244351543225526195:=()
def tw18428963398349939439:=()
def tw10060500040108762257:=()
def tw1474708635491994185:=()
def tw10632728009481947265:=()
def tw8478574359501683730:=()
def tw11877692952625910066:=()
def tw6122084194771581611:=()
def tw17976088183959206995:=()
def tw13955305593696798140:=()
def tw5896332506079335249:=()
def tw10765446599453293177:=()
def tw9637469021757231017:=()
def tw692406462211600657:=()
def tw2017377399419737543:=()
def tw16759714916017721142:=()
def tw1814568207562445314:=()
def tw12755905497296341845:=()
def tw15490292413012094650:=()
def tw17397647852303857095:=()
def tw983058803381134741:=()
def tw12103171573728980948:=()
def tw17765144795105578815:=()
def tw8068422178958598564:=()
def tw6600775854716678313:=()
def tw4174557947348517327:=()
def tw11610882706267463908:=()
def tw6770265556033807152:=()
def tw12113059465547088253:=()
def tw5012374363850478632:=()
def tw6936928144568311663:=()
def tw16200034616976634865:=()
def tw12852046250633724086:=()
def tw14819111051203059776:=()
def tw7917223304963220466:=()
def tw2356901863192858689:=()
def tw3356643612783766550:=()
def tw9678128043025500654:=()
def tw14541508566785132485:=()
def tw14035308306277716433:=()
def tw4250340011107021221:=()
def tw10596894601131341382:=()
def tw2013944073882273817:=()
def tw15720053045419828519:=()
def tw3794398237382857600:=()
def tw11832619303253766025:=()
def tw16665552812180611488:=()
def tw5004138416942124992:=()
def tw8100811655112126607:=()
def tw18009388770372908903:=()
def tw17365164076588573010:=()
def tw10983034330163978779:=()
def tw1609910815947085477:=()
def tw10802297524299669453:=()
def tw4444558064116359056:=()
def tw3026664286960071156:=()
def tw11980876030777339889:=()
def tw17129122474556144121:=()
def tw12884868497863253782:=()
def tw16500332952743058533:=()
def tw9720413896868746406:=()
def tw4040212514995063458:=()
def tw8792554022004279751:=()
def tw12820871572334856232:=()
def tw16544761205050279731:=()
def tw4005267361860173209:=()
def tw3145185944308948840:=()
def tw14344745419317526534:=()
def tw4150146693003262589:=()
def tw1451397123677718979:=()
def tw8181451933716428547:=()
def tw7532649723885684223:=()
def tw15176788848729313205:=()
def tw10403563117098001746:=()
def tw9995956621986536196:=()
def tw2233064755128787140:=()
def tw5023115836143118961:=()
def tw13072472233032107331:=()
def tw4417444841433995383:=()
def tw2409636054840829092:=()
def tw17544273162540364697:=()
def tw1271406617130017320:=()
def tw17122654937542653061:=()
def tw8048511574067846060:=()
def tw1705893320650282763:=()
def tw5870188122152062591:=()
def tw9791894250582022429:=()
def tw15403880950995381755:=()
def tw5683356081263377203:=()
def tw7787378652913561951:=()
def tw8024281561991602481:=()
def tw12023452256825999347:=()
def tw15104198651263881884:=()
def tw5511675177254799536:=()
def tw18016532378325949025:=()
def tw12377342597505424428:=()
def tw17192814621336301912:=()
def tw5334549792255547493:=()
def tw32164228742974508:=()
def tw11077445158588419364:=()
def tw16417537104276061280:=()
def tw13473118517697016467:=()
def tw12450098131293889344:=()
def tw1170532214361169195:=()
def tw7647923636518997324:=()
def tw608888266164417682:=()
def tw9865906709743366835:=()
def tw5026176440549572540:=()
def tw2766234795609626500:=()
def tw17597597157846957319:=()
def tw6221767169969242595:=()
def tw9993138328238736263:=()
def tw6883493877874985147:=()
def tw17426649600855878922:=()
def tw12181277920474526307:=()
def tw2798459407175558945:=()
def tw3904032545966733701:=()
def tw1152994514983433945:=()
def tw13472651392401863744:=()
def tw5359713058060942582:=()
def tw6480521473416845093:=()
def tw15911720855687809180:=()
def tw1798512087180575919:=()
def tw9518599900824186847:=()
def tw17007391265600477445:=()
def tw12799421419909139424:=()
def tw5730620079052171739:=()
def tw2049956972402820326:=()
def tw13232146487762206950:=()
def tw6417351052245117097:=()
def tw3539280040419630469:=()
def tw3326025513025109700:=()
def tw2282786559530912460:=()
def tw6786946873475595982:=()
def tw8282929166237505040:=()
def tw16123555174476735673:=()
def tw14103653279196306113:=()
def tw18209433928668820903:=()
def tw4075448548868325895:=()
def tw7203340753589636711:=()
def tw16396567562096931267:=()
def tw5238097963426015537:=()
def tw10536035234770917880:=()
def tw13519911030847664946:=()
def tw10452058060048183419:=()
def tw4421742887190696793:=()
def tw15177405857842105223:=()
def tw14991222771386602976:=()
def tw15751538540630148410:=()
def tw1055913693836370485:=()
def tw10398968530860617138:=()
def tw13825527780743304840:=()
def tw9886776078999442901:=()
def tw14905458609301245192:=()
def tw1181590971447468487:=()
def tw9154066296876517219:=()
def tw5667878955904044473:=()
def tw17631014407147554970:=()
def tw2464335394004973789:=()
def tw117842010116427232:=()
def tw4446108940319209221:=()
def tw10636685037255717436:=()
def tw2879816397178387752:=()
def tw16212247082171988618:=()
def tw16630076498363434456:=()
def tw9126318135476809130:=()
def tw17111883230332644281:=()
def tw15256274972333754363:=()
def tw6334359743151270605:=()
def tw17276091908083356334:=()
def tw994947038596267312:=()
def tw5192296763240066624:=()
def tw5292610766642027574:=()
def tw9231470889118874751:=()
def tw16837470402974452795:=()
def tw13561213398497519435:=()
def tw11548559695615768589:=()
def tw3432607512828809542:=()
def tw10795686537143475718:=()
def tw10926641628855044901:=()
def tw12802900360659117769:=()
def tw12977820868336018552:=()
def tw6721654107799200305:=()
def tw5288624265308525495:=()
def tw9872824298422906485:=()
def tw9393600998418526796:=()
def tw771100755468350895:=()
def tw8522182258469213170:=()
def tw9286580575571661682:=()
def tw3636082579857401234:=()
def tw2092662862833901172:=()
def tw10413325010621143021:=()
def tw16721703099762107498:=()
def tw13248668083790637633:=()
def tw7631923936575308248:=()
def tw4436759504491814726:=()
def tw3180882950259459690:=()
def tw7212356688542275488:=()
def tw1050670874964368608:=()
def tw3438828611628071236:=()
def tw16120341647722590458:=()
def tw11604278301068491135:=()
def tw15214124185875583647:=()
def tw17970343409546117239:=()
def tw5729428427879277084:=()
def tw8844758577727462613:=()
def tw17757144806476409777:=()
def tw7437259122493108050:=()
def tw9727380199802842771:=()
def tw16223510994347453:=()
def tw11229634006049120674:=()
def tw8671097577950608757:=()
def tw3028390574741430891:=()
def tw3858804782379228893:=()
def tw11368005064974746076:=()
def tw5862958012473739905:=()
def tw12080114148431067890:=()
def tw3366556434286167913:=()
def tw1774936597751187114:=()
def tw14048097663228566699:=()
def tw9880326717244012194:=()
def tw16199541711074632743:=()
def tw2874850005722486555:=()
def tw2949977239279548727:=()
def tw3702428110636726295:=()
def tw5771609363111724706:=()
def tw17164708823228940183:=()
def tw14896747836614704545:=()
def tw15478561833339843451:=()
def tw10890238196647061998:=()
def tw5937426584787185629:=()
def tw15315763039872974798:=()
def tw2509935482918497246:=()
def tw2019846032650872705:=()
def tw14089309743513279056:=()
def tw1058679977911279278:=()
def tw17976836151939202140:=()
def tw4471969418574662607:=()
def tw15098294868319795135:=()
def tw7418428690532328020:=()
def tw3452606434329707025:=()
def tw2297591044875528173:=()
def tw601074112654030730:=()
def tw5939308759033002929:=()
def tw5266923617853121503:=()
def tw6381738295731058052:=()
def tw7527390087862995370:=()
def tw1930631327798599778:=()
def tw4996797316539393317:=()
def tw18423099957880991862:=()
def tw9036072038798409370:=()
def tw7268807125115466902:=()
def tw17888262681235345306:=()
def tw12614297456162055958:=()
def tw1055541465920457358:=()
def tw325011916855740629:=()
def tw16112965751337096812:=()
def tw7823196460280650872:=()
def tw10188072121429701198:=()
def tw14530906669979180402:=()
def tw13373294754358625456:=()
def tw2319574670646967970:=()
def tw5438284183163098026:=()
def tw18244350197258376711:=()
def tw9291204146174832379:=()
def tw1938932044028299384:=()
def tw8166165499703735669:=()
def tw10837032246791036987:=()
def tw5968897938506604199:=()
def tw10521530442190849010:=()
def tw13566550634637620807:=()
def tw172963068586618213:=()
def tw15721006642510053426:=()
def tw13501104409737612912:=()
def tw15661244621099758042:=()
def tw2193056053106664682:=()
def tw14218757347666342281:=()
def tw6766332706721229611:=()
def tw634259285992084899:=()
def tw7535179348972022410:=()
def tw16861962227745036739:=()
def tw6409388070206389322:=()
def tw4319235691086952043:=()
def tw9210051997297679437:=()
def tw2193835373319029695:=()
def tw16704780517835550110:=()
def tw8898822493374188481:=()
def tw9398985973542607902:=()
def tw4346559533891043291:=()
def tw10150220710261427601:=()
def tw12578458230082325682:=()
def tw18147318122996389256:=()
def tw2414511150080659018:=()
def tw7745907301437109915:=()
def tw7352241662719690549:=()
def tw4720489220289060574:=()
def tw15002842088242238354:=()
def tw15596287220120399617:=()
def tw14590365872344631237:=()
def tw12900048592289442689:=()
def tw3192545980863730744:=()
def tw10771743260735939726:=()
def tw13824773635300471343:=()
def tw11273672004337227076:=()
def tw1541468011077749970:=()
def tw14701929491656323763:=()
def tw228420607966815363:=()
def tw2332019451971501458:=()
def tw6955126658621076040:=()
def tw4285695139571703431:=()
def tw16123591294356376636:=()
def tw1456659310925034711:=()
def tw2156510863917333688:=()
def tw13938692034559507843:=()
def tw18299481774152295900:=()
def tw9870669555007306792:=()
def tw1423569394617709178:=()
def tw18148669748615339167:=()
def tw188181604945692842:=()
def tw2085729107843530056:=()
def tw11525840741600840646:=()
def tw6476353377616523712:=()
def tw3631328593264300706:=()
def tw14359530843779349827:=()
def tw15347152875395490883:=()
def tw3867340908462486971:=()
def tw8760472621747457033:=()
def tw2296884006536959704:=()
def tw11146596815258720892:=()
def tw12440276687060588385:=()
def tw4269196841001465857:=()
def tw3886474375148506076:=()
def tw13195623224030681351:=()
def tw5335221582765642773:=()
def tw3597757226773752171:=()
def tw15019160298887272378:=()
def tw14820245063809643226:=()
def tw2750962795350330160:=()
def tw1615794508556526445:=()
def tw3232299921999172348:=()
def tw3872337801320766704:=()
def tw1990579427814572213:=()
def tw16163128180646477606:=()
def tw11825719974536707407:=()
def tw12343944489324621809:=()
def tw3977821582065956775:=()
def tw8114990925260210557:=()
def tw1211754274463476735:=()
def tw3989969848502780263:=()
def tw14647846530460351824:=()
def tw10313509185780314936:=()
def tw9485474907541428242:=()
end PySem.W.Fast
open PySem PySem.W PyProof.Rows
set_option Elab.async false
set_option maxRecDepth 100000 in
set_option maxHeartbeats 0 in
theorem PySem.Challenge.cw_holdback_k64_up_from_made_planks_holds : PySem.Challenge.rw_holdback_k64_up_from_made_planks.Holds := by
 w_on;o_law;k_head;(case hw=>w_witness2)
 k_fill
 refine L2.walk (l:=PySem.Challenge.rw_holdback_k64_up_from_made_planks) rfl rfl (λw h Y=>PySem.W.kIn_of Y) ?F
 case F =>
  intro w mg fa h KX G hmg
  refine' L2.all_mk KX G hmg ?q0 ?q1 ?q2 ?q3 ?q4 ?q5 ?q6 ?q7 ?q8 ?q9 ?qa ?qb ?qc ?qd ?qe ?qf ?qg ?qh ?qi ?qj ?qk ?ql ?qm ?qn ?qo ?qp ?qq ?qr ?qs ?qt ?qu ?qv ?qw ?qx ?qy ?qz ?q10 ?q11 ?q12 ?q13 ?q14 ?q15 ?q16 ?q17 ?q18 ?q19 ?q1a ?q1b ?q1c ?q1d ?q1e ?q1f ?q1g ?q1h ?q1i ?q1j ?q1k ?q1l ?q1m ?q1n ?q1o ?q1p ?q1q ?q1r ?q1s ?q1t ?q1u ?q1v ?q1w ?q1x ?q1y ?q1z ?q20 ?q21 ?q22 ?q23 ?q24 ?q25 ?q26 ?q27 ?q28 ?q29 ?q2a ?q2b ?q2c ?q2d ?q2e ?q2f ?q2g ?q2h ?q2i ?q2j ?q2k ?q2l ?q2m ?q2n ?q2o ?q2p ?q2q ?q2r ?q2s ?q2t ?q2u ?q2v ?q2w ?q2x ?q2y ?q2z ?q30 ?q31 ?q32 ?q33 ?q34 ?q35 ?q36 ?q37 ?q38 ?q39 ?q3a ?q3b ?q3c ?q3d ?q3e ?q3f ?q3g ?q3h ?q3i ?q3j ?q3k ?q3l ?q3m ?q3n ?q3o ?q3p ?q3q ?q3r
  case q9 | qa | qb | qc | qd=>(apply L2.gc;(case a=>k_is);(case l=>k_is);(case c=>k_is);(case k=>k_is);(case i=>k_is))
  case q0 | q1 | q2 | q3 | q4 | q5 | q6 | q7 | q8=>(apply L2.GX.mk;(case ac=>k_is);(case ex=>k_exc))
  case qe | qf | qg | qh | qi | qj | qk | ql | qm | qn | q2t | q2u | q2v | q2w | q2x | q2y | q2z | q30 | q31 | q32 | q33 | q34 | q35 | q36 | q37 | q38 | q39 | q3a | q3b | q3c | q3d | q3e | q3f | q3g | q3h | q3i | q3j | q3k | q3l | q3m | q3n=>k_is
  case qo | qx | qy | qz | q10 | q11 | q12 | q13 | q14 | q1d | q1e | q1f | q1g | q1h | q1i | q1l | q1n | q1o | q1s | q1t | q1u | q1v | q1x | q1y | q1z | q21 | q22 | q24 | q25 | q26 | q27 | q2b | q2d | q2e | q2f | q2g | q2h | q2k | q2l | q2m | q2n=>(apply L2.gf;(case a=>k_is);(case l=>k_is);(case c=>k_is);(case k=>k_is))
  case qp | qq | qr | qs | qt | qu | qv | qw | q15 | q16 | q17 | q18 | q19 | q1a | q1b | q1j | q1k | q1m | q1p | q1q | q1w | q23 | q28 | q29 | q2a | q2j | q2o | q2p | q2q | q2r | q2s=>(apply L2.gm;(case a=>k_is);(case l=>k_is);(case c=>k_is);(case k=>k_is);(case i=>k_is))
  case q1c | q1r | q20 | q2c | q2i=>(apply L2.gn;(case a=>k_is);(case l=>k_is);(case c=>k_is);(case k=>k_is);(case i=>k_is);(case m=>k_is);(case n=>k_is);(case s=>k_is))
  case q3o=>kts_exm
  case q3p | q3q | q3r=>kit_is
