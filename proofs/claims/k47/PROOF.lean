import PyProof.Rows.All
import Wide.All
import OpenK.AllK
import Wide.FinOn
import Lean
import PyProof.EqAt
import PyProof.EqKinds
import PyProof.TupleCall
import PyProof.SetScanFacts
import PyProof.Rows.SetFrom
import PyProof.Rows.SortWalk
import PyProof.CollectWalk
import PyProof.DictWalks
import KE.KDictList
import PySem.Challenge.RW_holdback_k47_whole_swept_and_moved
set_option linter.all false
set_option maxRecDepth 100000
set_option maxHeartbeats 8000000
open PySem PySem.Spec PyProof.Rows
set_option Elab.async false
namespace L2
abbrev AH:=Sum Int Str
def JK:AH->Value->Bool
 | .inl k,v=>Value.isInt k v
 | .inr x,v=>Value.isStrOf x v
def sY(w:World):AH->Int
 | .inl k=>hashInt k
 | .inr x=>hashStr w x
theorem GZ:∀ {k:AH} {v:Value},JK k v=true->(∃ i t,k=Sum.inl i/\v=Value.int i t)\/(∃ x t,k=Sum.inr x/\v=Value.str x t)
 | .inl i,v,h=>by
  obtain⟨t,e⟩:=Value.isInt_shape (k:=i) (v:=v) h
  exact .inl ⟨i,t,rfl,e⟩
 | .inr x,v,h=>by
  obtain⟨t,e⟩:=Value.isStrOf_shape (x:=x) (v:=v) h
  exact .inr ⟨x,t,rfl,e⟩
theorem sZ(i:Int)(t:Tok):JK (.inl i) (.int i t)=true:=by simp[JK,Value.isInt]
theorem tD(x:Str)(t:Tok):JK (.inr x) (.str x t)=true:=by simp[JK,Value.isStrOf]
theorem tE(a b:Int):decide ((Sum.inl a:AH)=Sum.inl b)=(a == b):=by
 by_cases e:a=b
 ·subst e;simp
 ·have h:¬ (Sum.inl a:AH)=Sum.inl b:=λq=>e (Sum.inl.inj q)
  rw[decide_eq_false h]
  exact(beq_eq_false_iff_ne.mpr e).symm
theorem tF(a b:Str):decide ((Sum.inr a:AH)=Sum.inr b)=decide (a=b):=by
 by_cases e:a=b
 ·subst e;simp
 ·have h:¬ (Sum.inr a:AH)=Sum.inr b:=λq=>e (Sum.inr.inj q)
  rw[decide_eq_false h,decide_eq_false e]
theorem tG(a:Int)(b:Str):decide ((Sum.inl a:AH)=Sum.inr b)=false:=decide_eq_false (λq=>nomatch q)
theorem tH(a:Str)(b:Int):decide ((Sum.inr a:AH)=Sum.inl b)=false:=decide_eq_false (λq=>nomatch q)
def DS(prog:Program)(w:World):PySem.KeyKind prog w AH where
 is:=JK
 hash:=sY w
 inj:=λv a b ha hb=>by
  rcases GZ ha with⟨i,t,rfl,rfl⟩ | ⟨x,t,rfl,rfl⟩
  ·rcases GZ hb with⟨j,u,rfl,e⟩ | ⟨y,u,rfl,e⟩
   ·injection e with e1 _;rw[e1]
   ·exact nomatch e
  ·rcases GZ hb with⟨j,u,rfl,e⟩ | ⟨y,u,rfl,e⟩
   ·exact nomatch e
   ·injection e with e1 _;rw[e1]
 byValue:=λk v h=>by
  rcases GZ h with⟨i,t,rfl,rfl⟩ | ⟨x,t,rfl,rfl⟩<;>rfl
 pyHash:=λhv h=>by
  rcases GZ hv with⟨i,t,rfl,rfl⟩ | ⟨x,t,rfl,rfl⟩
  ·exact wpAny_pyHash_int h
  ·exact wpAny_pyHash_str h
 eqBool:=λhu hv h=>by
  rcases GZ hu with⟨i,t,rfl,rfl⟩ | ⟨x,t,rfl,rfl⟩
  ·rcases GZ hv with⟨j,u,rfl,rfl⟩ | ⟨y,u,rfl,rfl⟩
   ·rw[tE]at h;exact wpAny_eqBool_int h
   ·rw[tG]at h;exact SeqAt.EqAt.int_str i t y u _ _ _ _ h
  ·rcases GZ hv with⟨j,u,rfl,rfl⟩ | ⟨y,u,rfl,rfl⟩
   ·rw[tH]at h;exact SeqAt.EqAt.str_int x t j u _ _ _ _ h
   ·rw[tF]at h;exact wpAny_eqBool_str h
 «strs» :=λk x t v h=>by
  rcases GZ h with⟨i,u,rfl,e⟩ | ⟨y,u,rfl,e⟩
  ·exact nomatch e
  ·injection e with e1 _
   subst e1
   cases v<;>rfl
theorem tI(prog:Program)(w:World)(i:Int)(t:Tok):(DS prog w).is (.inl i) (.int i t)=true:=sZ i t
theorem tJ(prog:Program)(w:World)(x:Str)(t:Tok):(DS prog w).is (.inr x) (.str x t)=true:=tD x t
end L2
namespace L2
inductive V where
 | non | bl (b:Bool) | int (i:Int) | str (x:Str) | byt (b:Array UInt8) | flt (b:UInt64) | ref (a:Addr) | ty (n:String)
 deriving DecidableEq
def RelV:V->Value->Prop
 | .non,u=>u=Value.none
 | .bl b,u=>u=Value.bool b
 | .int i,u=>∃ t,u=Value.int i t
 | .str x,u=>∃ t,u=Value.str x t
 | .byt b,u=>∃ t,u=Value.bytes b t
 | .flt b,u=>∃ t,u=Value.float b t
 | .ref a,u=>u=Value.ref a
 | .ty n,u=>u=Value.type n
abbrev Vals:List V->List Value->Prop:=Paired RelV
theorem Vals.length{xs:List V}{us:List Value}(r:Vals xs us):xs.length=us.length:=Paired.length r
theorem Vals.get:∀ {xs:List V} {us:List Value} {i:Nat} {x:V},Vals xs us->xs[i]? =some x->∃ u,us[i]? =some u/\RelV x u
 | _,_,_,_,.nil,e=>by simp at e
 | _,_,0,_,.cons r _,e=>by simp at e;subst e;exact⟨_,rfl,r⟩
 | _,_,i+1,x,.cons _ t,e=>by
  obtain⟨u,h1,h2⟩:=Vals.get (i:=i) (x:=x) t (by simpa using e)
  exact⟨u,by simpa using h1,h2⟩
theorem Vals.set{x:V}{u:Value}(r:RelV x u):∀ {xs:List V} {us:List Value} (i:Nat),Vals xs us->Vals (xs.set i x) (us.set i u)
 | _,_,_,.nil=>.nil
 | _,_,0,.cons _ t=>.cons r t
 | _,_,i+1,.cons q t=>.cons q (Vals.set r i t)
theorem Vals.append:∀ {xs ys:List V} {us ws:List Value},Vals xs us->Vals ys ws->Vals (xs++ys) (us++ws)
 | _,_,_,_,.nil,s=>s
 | _,_,_,_,.cons r t,s=>.cons r (Vals.append t s)
theorem Vals.take:∀ {xs:List V} {us:List Value} (n:Nat),Vals xs us->Vals (xs.take n) (us.take n)
 | _,_,0,_=>.nil
 | _,_,_+1,.nil=>.nil
 | _,_,n+1,.cons r t=>.cons r (Vals.take n t)
theorem Vals.drop:∀ {xs:List V} {us:List Value} (n:Nat),Vals xs us->Vals (xs.drop n) (us.drop n)
 | _,_,0,r=>r
 | _,_,_+1,.nil=>.nil
 | _,_,n+1,.cons _ t=>Vals.drop n t
def RelO:Option V->Option Value->Prop
 | some v,some u=>RelV v u
 | none,none=>True
 | _,_=>False
def KV{κ :Type}:List (κ × V)->List (κ × Value)->Prop:=Paired λ(p: κ × V) (q: κ × Value)=>p.1=q.1/\RelV p.2 q.2
def kV:AH->V
 | .inl i=>.int i
 | .inr x=>.str x
inductive HO where
 /-- a list -/
 | lst (xs:List V)
 /-- a tuple (never changes) -/
 | tup (xs:List V)
 /-- a dict whose keys are ints and texts;one whose keys are tuples of ints and texts (the empty one is both) -/
 | dK (kvs:List (AH × V)) | dT (kvs:List (List AH × V))
 /-- a set of ints: its members,its size -/
 | set (S:Int->Bool) (n:Nat)
 /-- an instance of the class at C,its dict at dx,its attributes -/
 | ins (C dx:Addr) (fs:List (Str × V))
 /-- the dict of the instance at x -/
 | own (x:Addr)
 /-- the dict of an exception -/
 | xd (fs:List (Str × V))
 /-- a bound method,f of x -/
 | met (f x:Addr)
 /-- a range object lo,lo+1,.. below hi -/
 | rng (lo hi:Int)
 /-- a thing that is known to the object (the script;a dict while a loop walks it): read,never written while it is so -/
 | frz (o:Obj) (u:HO)
 /-- a code object's table -/
 | tbl (ps:Array Value)
 /-- any other thing,by what is true of its one object (a def of one's own: SetO a S n:=HO.ext λh=>..) -/
 | ext (φ :Heap->Prop)
abbrev Hp:=Addr->Option HO
def upd(H:Hp)(a:Addr)(o:HO):Hp:=λb=>if b=a then some o else H b
theorem AE{H:Hp}{a:Addr}{o:HO}:upd H a o a=some o:=by unfold upd;rw[if_pos rfl]
theorem AG{H:Hp}{a b:Addr}{o:HO}(h:b≠a):upd H a o b=H b:=by unfold upd;rw[if_neg h]
theorem G1{H:Hp}{a:Addr}{o u:HO}:upd (upd H a o) a u=upd H a u:=by
 funext b;unfold upd;split<;>rfl
theorem BF{H:Hp}{a b:Addr}{o u:HO}(h:H a=some o)(h':H b=some u)(d:o≠u):a≠b:=by
 intro e;subst e;rw[h]at h';exact d (Option.some.inj h')
theorem BN{H:Hp}{a b:Addr}{o:HO}(h:H a=some o)(h':H b=none):a≠b:=by
 intro e;subst e;rw[h]at h';cases h'
section
variable(P:Program)(w:World)
def ObjOk(H:Hp)(h:Heap)(a:Addr):HO->Prop
 | .lst xs=>xs.length<=sizeLine/\∃ (its:List Value) (n:Nat),Vals xs its/\h.get? a=some { cls:=.type "list",data:=.seq its.toArray n }
 | .tup xs=>xs.length<=sizeLine/\∃ its:List Value,Vals xs its/\IsTup h a its.toArray
 | .dK kvs=>kvs.length<=sizeLine/\(a == sysModules)=false/\∃ vs,KV kvs vs/\h.DictOf (DS P w) a vs
 | .dT kvs=>kvs.length<=sizeLine/\(a == sysModules)=false/\∃ xs:List (List AH × Addr × Value),
   Paired (λ(p:List AH × V) (q:List AH × Addr × Value)=>p.1=q.1/\H q.2.1=some (.tup (p.1.map kV))/\RelV p.2 q.2.2) kvs xs ∧
   ∃ o es ep,h.get? a=some o/\o.ExactDict/\o.data=.dict es ep/\es.toList=xs.map (entryOfKey (tupleKind (DS P w)))/\(xs.map (·.1)).Nodup
 | .set S n=>h.SetOf (intKind P w) a S n
 | .ins C dx fs=>H dx=some (.own a)/\fs.length<=1000/\dx≠a/\h.get? a=some (W.instObj C dx) ∧
   ∃ mA,h.Ns1 dx mA/\(∀ f,RelO (fs.lookup f) (mA f))/\PySem.Within mA (fs.map (·.1))
 | .own _=>∃ o,h.get? a=some o
 | .xd fs=>∃ mA,h.Ns1 a mA/\∀ f,RelO (fs.lookup f) (mA f)
 | .rng lo hi=>∃ t u v,h.get? a=some { cls:=.type "range",data:=.fields #[.int lo t,.int hi u,.int 1 v] }
 | .frz o u=>h.get? a=some o/\ObjOk H h a u
 | .tbl ps=>h.get? a=some { cls:=.none,data:=.fields ps }
 | .met f x=>h.get? a=some (W.methodObj (.ref f) (.ref x))
 | .ext φ => φ h/\(∃ o,h.get? a=some o)/\∀ h1 h2:Heap,φ h1->(∀ o,h1.get? a=some o->h2.get? a=some o)-> φ h2
def HOk(H:Hp)(h:Heap):Prop:=∀ a o,H a=some o->ObjOk P w H h a o
end
section
variable{P:Program}{w:World}{H H':Hp}{h h':Heap}{a:Addr}{o:HO}
theorem ObjOk.lt(x:ObjOk P w H h a o):a<h.objs.size:=by
 cases o with
 | lst xs=>obtain⟨_,_,_,_,e⟩:=x;exact Heap.lt_size e
 | tup xs=>obtain⟨_,_,_,p⟩:=x;exact p.lt
 | dK kvs=>obtain⟨_,_,_,_,o,_,_,e,_⟩:=x;exact Heap.lt_size e
 | dT kvs=>obtain⟨_,_,_,_,o,_,_,e,_⟩:=x;exact Heap.lt_size e
 | set S n=>obtain⟨o,_,_,_,e,_⟩:=x;exact Heap.lt_size e
 | ins C dx fs=>obtain⟨_,_,_,e,_⟩:=x;exact Heap.lt_size e
 | own y=>obtain⟨_,e⟩:=x;exact Heap.lt_size e
 | xd fs=>obtain⟨_,⟨_,_,_,e,_⟩,_⟩:=x;exact Heap.lt_size e
 | rng lo hi=>obtain⟨_,_,_,e⟩:=x;exact Heap.lt_size e
 | frz ob u=>obtain⟨e,_⟩:=x;exact Heap.lt_size e
 | tbl ps=>exact Heap.lt_size (show h.get? a=some _ from x)
 | met f y=>exact Heap.lt_size (show h.get? a=some _ from x)
 | ext φ =>obtain⟨_,⟨_,e⟩,_⟩:=x;exact Heap.lt_size e
theorem Paired.mapP{α β :Type}{F G: α -> β ->Prop}:∀ {l₁:List α} {l₂:List β},Paired F l₁ l₂->(∀ a b,F a b->G a b)->Paired G l₁ l₂
 | _,_,.nil,_=>.nil
 | _,_,.cons r t,f=>.cons (f _ _ r) (Paired.mapP t f)
theorem ObjOk.stay(x:ObjOk P w H h a o)(k:∀ b u,(b=a\/H b=some (.own a))->h.get? b=some u->h'.get? b=some u)
  (ho:∀ b,H b=some (.own a)->H' b=some (.own a)) (ht:∀ b xs,H b=some (.tup xs)->H' b=some (.tup xs)):ObjOk P w H' h' a o:=by
 induction o with
 | lst xs=>obtain⟨z,its,n,r,e⟩:=x;exact⟨z,its,n,r,k _ _ (.inl rfl) e⟩
 | tup xs=>obtain⟨z,its,r,ob,e,c⟩:=x;exact⟨z,its,r,ob,k _ _ (.inl rfl) e,c⟩
 | dK kvs=>obtain⟨z,y,vs,r,ob,es,ep,e,c⟩:=x;exact⟨z,y,vs,r,ob,es,ep,k _ _ (.inl rfl) e,c⟩
 | dT kvs =>
  obtain⟨z,y,xs,r,ob,es,ep,e,c⟩:=x
  exact⟨z,y,xs,Paired.mapP r λp q z=>⟨z.1,ht _ _ z.2.1,z.2.2⟩,ob,es,ep,k _ _ (.inl rfl) e,c⟩
 | set S n=>obtain⟨ob,es,ep,t,e,c⟩:=x;exact⟨ob,es,ep,t,k _ _ (.inl rfl) e,c⟩
 | ins C dx fs =>
  obtain⟨d,z,ne,e,mA,⟨od,es,ep,e2,c⟩,r⟩:=x
  exact⟨ho _ d,z,ne,k _ _ (.inl rfl) e,mA,⟨od,es,ep,k _ _ (.inr d) e2,c⟩,r⟩
 | own y=>obtain⟨ob,e⟩:=x;exact⟨ob,k _ _ (.inl rfl) e⟩
 | xd fs=>obtain⟨mA,⟨od,es,ep,e,c⟩,r⟩:=x;exact⟨mA,⟨od,es,ep,k _ _ (.inl rfl) e,c⟩,r⟩
 | rng lo hi=>obtain⟨t,u,v,e⟩:=x;exact⟨t,u,v,k _ _ (.inl rfl) e⟩
 | frz ob u ih=>obtain⟨e,q⟩:=x;exact⟨k _ _ (.inl rfl) e,ih q⟩
 | tbl ps =>
  have e:h.get? a=some { cls:=.none,data:=.fields ps }:=x
  show h'.get? a=some { cls:=.none,data:=.fields ps }
  exact k a _ (.inl rfl) e
 | met f y =>
  have e:h.get? a=some (W.methodObj (.ref f) (.ref y)):=x
  show h'.get? a=some (W.methodObj (.ref f) (.ref y))
  exact k a _ (.inl rfl) e
 | ext φ =>obtain⟨p,⟨o,e⟩,st⟩:=x;exact⟨st _ _ p λo q=>k _ _ (.inl rfl) q,⟨o,k _ _ (.inl rfl) e⟩,st⟩
theorem HOk.lt(x:HOk P w H h)(e:H a=some o):a<h.objs.size:=(x a o e).lt
theorem HOk.fresh(x:HOk P w H h)(e:h.objs.size<=a):H a=none:=by
 cases q:H a with
 | none=>rfl
 | some u=>exact absurd (Nat.lt_of_lt_of_le (x.lt q) e) (Nat.lt_irrefl _)
theorem HOk.kept(x:HOk P w H h)(k:∀ b u,h.get? b=some u->h'.get? b=some u):HOk P w H h':=λa o e =>
 (x a o e).stay (λb u _ q=>k b u q) (λ_ q=>q) λ_ _ q=>q
theorem HOk.laid(x:HOk P w H h)(k:∀ b u,h.get? b=some u->h'.get? b=some u)(hp:h.objs.size<=a)(new:ObjOk P w (upd H a o) h' a o):HOk P w (upd H a o) h':=λb u e=>by
 have hn:=x.fresh hp
 by_cases hb:b=a
 ·subst hb;rw[AE]at e;cases e;exact new
 ·rw[AG hb]at e
  exact(x b u e).stay (λc v _ q=>k c v q) (λc q=>by rw[AG (BN q hn)];exact q) λc xs q=>by rw[AG (BN q hn)];exact q
end
def Rd(H:Hp)(a:Addr)(u:HO):Prop:=H a=some u\/∃ o,H a=some (.frz o u)
theorem Rd.ok{P:Program}{w:World}{H:Hp}{h:Heap}{a:Addr}{u:HO}(r:Rd H a u)(x:HOk P w H h):ObjOk P w H h a u:=by
 rcases r with r | ⟨o,r⟩
 ·exact x a u r
 ·obtain⟨_,q⟩:=x a _ r
  exact q
def M4:Option HO->Prop
 | some (.lst _)=>True
 | some (.dK _)=>True
 | some (.dT _)=>True
 | some (.set _ _)=>True
 | some (.ins _ _ _)=>True
 | some (.ext _)=>True
 | _=>False
section
variable{P:Program}{w:World}{H:Hp}{h h':Heap}{x e:Addr}{o':HO}
theorem HOk.write(ok:HOk P w H h)(mu:M4 (H x))(he:e=x\/H e=some (.own x))(k:∀ b u,b≠e->h.get? b=some u->h'.get? b=some u)(heo:∃ u,h'.get? e=some u)
  (new:ObjOk P w (upd H x o') h' x o'):HOk P w (upd H x o') h':=λb u q=>by
 have nown:∀ c y,H c=some (.own y)->c≠x:=λc y r z=>by subst z;rw[r]at mu;exact mu
 have ntup:∀ c xs,H c=some (.tup xs)->c≠x:=λc xs r z=>by subst z;rw[r]at mu;exact mu
 by_cases hb:b=x
 ·subst hb;rw[AE]at q;cases q;exact new
 ·rw[AG hb]at q
  by_cases hbe:b=e
  ·have q':H b=some (.own x):=by
    rcases he with z | z
    ·exact absurd (hbe.trans z) hb
    ·rw[hbe];exact z
   rw[q]at q';cases q'
   obtain⟨v,hv⟩:=heo
   exact⟨v,by rw[hbe];exact hv⟩
  ·refine(ok b u q).stay (λc v hc r=>k c v ?_ r) (λc r=>by rw[AG (nown c b r)];exact r) λc xs r=>by rw[AG (ntup c xs r)];exact r
   rcases hc with rfl | hc
   ·exact hbe
   ·rintro rfl
    rcases he with z | z
    ·exact nown c b hc z
    ·rw[hc]at z;cases z;exact hb rfl
end
structure Un(fs ex:List Addr)(H H':Hp)(h h':Heap):Prop where
 keep:∀ b o,h.get? b=some o->H b=none->b∉fs->b∉ex->h'.get? b=some o
 slot:∀ b o,h.get? b=some o->H b=none->b∈fs->b∉ex->∃ sl,h'.get? b=some { o with slots:=sl }
 free:∀ b o,h.get? b=some o->H b=none->b∉ex->H' b=none
 there:∀ b o,h.get? b=some o->b∉ex->∃ o',h'.get? b=some o'
 tups:∀ b xs,H b=some (.tup xs)->H' b=some (.tup xs)
 frzs:∀ b o u,H b=some (.frz o u)->H' b=some (.frz o u)
 tbls:∀ b ps,H b=some (.tbl ps)->∃ more,H' b=some (.tbl (ps++more))
section
variable{fs fs' ex ex':List Addr}{H H1 H2:Hp}{h h1 h2 h':Heap}{a x e:Addr}{o:HO}
theorem Un.any(u:Un fs ex H H1 h h1){b:Addr}{ob:Obj}(q:h.get? b=some ob)(n:H b=none)(hx:b∉ex):∃ sl,h1.get? b=some { ob with slots:=sl }:=by
 by_cases hb:b∈fs
 ·exact u.slot b ob q n hb hx
 ·exact⟨ob.slots,u.keep b ob q n hb hx⟩
theorem Un.kept(k:∀ b u,h.get? b=some u->h'.get? b=some u):Un fs ex H H h h' :=
 ⟨λb ob q _ _ _=>k b ob q,λb ob q _ _ _=>⟨ob.slots,k b ob q⟩,λ_ _ _ n _=>n,λb ob q _=>⟨ob,k b ob q⟩,λ_ _ q=>q,λ_ _ _ q=>q,λ_ ps q=>⟨#[],by rw[q];simp⟩⟩
theorem Un.refl:Un fs ex H H h h:=Un.kept λ_ _ q=>q
theorem Un.laid(k:∀ b u,h.get? b=some u->h'.get? b=some u)(hp:h.objs.size<=a)(hn:H a=none):Un fs ex H (upd H a o) h h' where
 keep:=λb u q _ _ _=>k b u q
 slot:=λb u q _ _ _=>⟨u.slots,k b u q⟩
 free:=λb u q n _=>by rw[AG (Nat.ne_of_lt (Nat.lt_of_lt_of_le (Heap.lt_size q) hp))];exact n
 there:=λb u q _=>⟨u,k b u q⟩
 tups:=λb xs q=>by rw[AG (BN q hn)];exact q
 frzs:=λb u xs q=>by rw[AG (BN q hn)];exact q
 tbls:=λb ps q=>⟨#[],by rw[AG (BN q hn),q];simp⟩
theorem Un.write(mu:M4 (H x))(he:e=x\/H e=some (.own x))(k:∀ b u,b≠e->h.get? b=some u->h'.get? b=some u)(heo:∃ u,h'.get? e=some u):Un fs ex H (upd H x o) h h':=by
 have hx:∀ b,H b=none->b≠x:=λb n z=>by subst z;rw[n]at mu;exact mu
 have hb:∀ b,H b=none->b≠e:=λb n z=>by
  subst z
  rcases he with r | r
  ·exact hx b n r
  ·rw[n]at r;cases r
 have hm:∀ b u,H b=some u->¬ M4 (some u)->b≠x:=λb u q nm z=>by subst z;rw[q]at mu;exact nm mu
 refine⟨λb u q n _ _=>k b u (hb b n) q,λb u q n _ _=>⟨u.slots,k b u (hb b n) q⟩,λb u q n _=>by rw[AG (hx b n)];exact n,λb u q _=> ?_,
  λb xs q=>by rw[AG (hm b _ q λz=>z)];exact q,λb u xs q=>by rw[AG (hm b _ q λz=>z)];exact q,λb ps q=>⟨#[],by rw[AG (hm b _ q λz=>z),q];simp⟩⟩
 by_cases hbe:b=e
 ·subst hbe;exact heo
 ·exact⟨u,k b u hbe q⟩
end
def OM(h:Heap)(H:Hp):List Addr:=(List.range h.objs.size).filter λa=>(H a).isSome
def IH(h:Heap)(H:Hp):Heap:=W.hideAll h (OM h H)
theorem tK(h:Heap)(H:Hp):(IH h H).objs.size=h.objs.size:=W.hideAll_size _ _
theorem tL{h:Heap}{H:Hp}{b:Addr}{o:Obj}(e:h.get? b=some o)(n:H b=none):(IH h H).get? b=some o :=
 W.hideAll_get _ e λhm=>by
  have q:(H b).isSome=true:=(List.mem_filter.mp hm).2
  rw[n]at q;simp at q
theorem tM{h:Heap}{H:Hp}{b:Addr}{o:Obj}(e:(IH h H).get? b=some o):h.get? b=some o/\H b=none:=by
 have e':h.get? b=some o:=W.of_hideAll (OM h H) e
 refine⟨e',?_⟩
 cases q:H b with
 | none=>rfl
 | some x =>
  have hm:b∈OM h H:=List.mem_filter.mpr ⟨List.mem_range.mpr (Heap.lt_size e'),by simp[q]⟩
  have z:(IH h H).get? b=none:=W.hideAll_none (OM h H) hm
  rw[z]at e;cases e
def tN(g h:Heap)(L:Addr):List (Addr × Obj):=(List.range h.objs.size).filterMap λa=>if a=L\/(g.get? a).isSome=true then none else(h.get? a).map λo=>(a,o)
def rest(g h:Heap)(L d:Addr):List (Addr × Obj):=(tN g h L).filter λp=>decide (p.1≠d)
end L2
namespace L2
structure Mod(K:W.Frag)(mg:Str->Option Value)(base:Heap):Prop where
 kin:K.In base
 glob:base.Ns mainGlobals mg
 blt:∃ mb,base.Ns builtinsNs mb/\∀ x:Str,x≠"__name__"->mb x=bootBuiltins x
 nolimit:base.NoLimit
structure Cx where
 prog:Program
 w:World
 K:W.Frag
 mg:Str->Option Value
 base:Heap
 A:Around
 N:List Str
 s₀:Shared
 H₀:Hp
 env:Env
 outer:List Env
 stack:List Env
 ex:List Addr
 fn:Str->Bool
 calm:Bool
 pn:List (Addr × Obj)
 xe:Value->Shared->Prop
def DW(l:List Env):List Addr:=l.filterMap (·.frame)
abbrev Cx.fs(X:Cx):List Addr:=DW X.outer
def R4(sc:Scope)(x:Str):Prop:=sc.names.lookup x=some .local\/sc.names.lookup x=some .cell\/sc.names.lookup x=some .free
def LJ(sc:Scope)(x:Str):Prop:=sc.names.lookup x=some .local\/sc.names.lookup x=some .cell
def tO(env:Env)(h:Heap)(m:Str->Option Value)(x:Str)(u:Value):Prop :=
 (env.kindOf x=some .local/\m x=some u)\/((env.kindOf x=some .cell\/env.kindOf x=some .free)/\∃ c,env.cells.lookup x=some c/\h.IsCell c (some u))
structure Cx.Ok(X:Cx):Prop where
 mod:Mod X.K X.mg X.base
 kind:X.env.scope.kind=.function
 glob:X.env.globals=mainGlobals
 blt:X.env.builtins=builtinsNs
 above:X.s₀.heap.objs.size<=X.env.locals
 inj:∀ x y c,X.env.cells.lookup x=some c->X.env.cells.lookup y=some c->x=y
 has:∀ x,(X.env.kindOf x=some .cell\/X.env.kindOf x=some .free)->∃ c,X.env.cells.lookup x=some c
 cab:∀ x c,X.fn x=true->X.env.cells.lookup x=some c->X.s₀.heap.objs.size<=c
 hd:X.calm=true->X.A.handled=none
 frames:X.A.frames=some X.stack
 stk:X.stack=X.outer\/(X.stack=X.env::X.outer/\X.env.frame=some X.env.locals)
 exf:∀ b∈X.ex,b≠X.env.locals/\∀ x c,X.env.cells.lookup x=some c->c≠b
 bs:∀ b o,X.base.get? b=some o->X.s₀.heap.get? b=some o/\X.H₀ b=none
 bsz:X.base.objs.size<=X.s₀.heap.objs.size
 noex:∀ b o,X.base.get? b=some o->b∉X.ex
 exfs:∀ b∈X.ex,b∉X.fs
 funs:X.s₀.heap.FunFrames X.base X.outer
 frf:∀ b∈X.fs,X.H₀ b=none
structure Inv(X:Cx)(AA:List (Addr × Obj))(σ:List (Option V))(H:Hp)(s:Shared):Prop where
 ok:X.Ok
 os:s.os=X.s₀.os
 bare:AllBare s.gens
 base:Un X.fs X.ex X.H₀ H X.s₀.heap s.heap
 loc:∃ m,s.heap.Ns X.env.locals m/\∀ (i:Nat) (x:Str) (v:V),X.N[i]? =some x->σ[i]? =some (some v)->R4 X.env.scope x->∃ u,RelV v u/\tO X.env s.heap m x u
 cell:∀ x c,X.env.cells.lookup x=some c->∃ v,s.heap.IsCell c v
 free:H X.env.locals=none
 freeC:∀ x c,X.env.cells.lookup x=some c->H c=none
 pin:∀ p∈X.pn++AA,s.heap.get? p.1=some p.2/\H p.1=none/\p.1≠X.env.locals/\p.1∉X.fs/\∀ v,p.2.data≠.cell v
 hok:HOk X.prog X.w H s.heap
 len:σ.length=X.N.length
section
variable{X:Cx}{AA:List (Addr × Obj)}{σ:List (Option V)}{H H':Hp}{s:Shared}{h':Heap}
theorem Cx.Ok.nofr(ok:X.Ok){b:Addr}{o:Obj}(e:X.base.get? b=some o):b∉X.fs:=λhb=>by
 have:=(ok.funs.mem hb).1
 rw[e]at this;cases this
theorem Inv.bs(I:Inv X AA σ H s):∀ b o,X.base.get? b=some o->s.heap.get? b=some o/\H b=none:=λb o e =>
 ⟨I.base.keep b o (I.ok.bs b o e).1 (I.ok.bs b o e).2 (I.ok.nofr e) (I.ok.noex b o e),I.base.free b o (I.ok.bs b o e).1 (I.ok.bs b o e).2 (I.ok.noex b o e)⟩
theorem Inv.bk(I:Inv X AA σ H s):∀ b o,X.base.get? b=some o->s.heap.get? b=some o:=λb o e=>(I.bs b o e).1
theorem Inv.mod(I:Inv X AA σ H s):Mod X.K X.mg X.base:=I.ok.mod
theorem Inv.kIn(I:Inv X AA σ H s):X.K.In s.heap:=I.ok.mod.kin.keeps I.bk
theorem Inv.lt(I:Inv X AA σ H s):X.env.locals<s.heap.objs.size:=let ⟨_,hn,_⟩:=I.loc;hn.lt
theorem Inv.sz(I:Inv X AA σ H s):X.s₀.heap.objs.size<=s.heap.objs.size:=Nat.le_trans I.ok.above (Nat.le_of_lt I.lt)
theorem Inv.nofs(I:Inv X AA σ H s){a:Addr}(h:s.heap.objs.size<=a):a∉X.fs:=λhb=>by
 obtain⟨_,o,ho,_⟩:=I.ok.funs.mem hb
 exact absurd (Nat.lt_of_lt_of_le (Heap.lt_size ho) (Nat.le_trans I.sz h)) (Nat.lt_irrefl _)
theorem Inv.cne(I:Inv X AA σ H s):∀ x c,X.env.cells.lookup x=some c->c≠X.env.locals:=λx c e z=>by
 obtain⟨v,o,ho,hd⟩:=I.cell x c e
 obtain⟨m,⟨o',es,ep,ho',hd',_⟩,_⟩:=I.loc
 rw[z,ho']at ho;cases ho;rw[hd']at hd;cases hd
theorem Inv.funs(I:Inv X AA σ H s):s.heap.FunFrames X.base X.outer:=by
 have all:∀ (l:List Env),(∀ b∈DW l,b∈X.fs)->X.s₀.heap.FunFrames X.base l->s.heap.FunFrames X.base l:=by
  intro l
  induction l with
  | nil=>intro _ _;trivial
  | cons env r ih =>
   intro hs hl
   obtain⟨hk,⟨L,o,hf,hn,ho,hd⟩,hr⟩:=hl
   have hL:L∈X.fs:=hs L (by unfold DW;rw[List.filterMap_cons,hf];exact List.mem_cons_self)
   obtain⟨sl,e⟩:=I.base.slot L o ho (I.ok.frf L hL) hL λz=>I.ok.exfs L z hL
   exact⟨hk,⟨L,_,hf,hn,e,hd⟩,ih (λb hb=>hs b (by unfold DW;rw[List.filterMap_cons,hf];exact List.mem_cons_of_mem _ hb)) hr⟩
 exact all X.outer (λ_ hb=>hb) I.ok.funs
theorem Inv.stack(I:Inv X AA σ H s):s.heap.FunFrames X.base X.stack:=by
 rcases I.ok.stk with e | ⟨e,hf⟩
 ·rw[e];exact I.funs
 ·rw[e]
  obtain⟨m,hn,_⟩:=I.loc
  refine .cons (by rw[I.ok.kind];decide) hf hn ?_ I.funs
  exact Heap.get?_none_of_le (Nat.le_trans I.ok.bsz I.ok.above)
theorem Inv.stkSub(I:Inv X AA σ H s):∀ b∈DW X.stack,b∈X.env.locals::X.fs:=λb hb=>by
 rcases I.ok.stk with e | ⟨e,hf⟩
 ·rw[e]at hb;exact List.mem_cons_of_mem _ hb
 ·rw[e]at hb
  unfold DW at hb
  rw[List.filterMap_cons,hf]at hb
  exact hb
theorem Inv.stkFree(I:Inv X AA σ H s):∀ b∈DW X.stack,H b=none:=λb hb=>by
 rcases List.mem_cons.mp (I.stkSub b hb)with e | hb
 ·rw[e];exact I.free
 ·obtain⟨_,o,ho,_⟩:=I.ok.funs.mem hb
  exact I.base.free b o ho (I.ok.frf b hb) λz=>I.ok.exfs b z hb
theorem Inv.step{g':Array GenState}{t':Nat}{d':Drawn}{ch:List Addr}(I:Inv X AA σ H s)
  (DP:∀ b∈ch,(b∈X.ex\/X.s₀.heap.objs.size<=b)/\b≠X.env.locals/\(∀ x c,X.env.cells.lookup x=some c->c≠b)/\∀ p∈X.pn++AA,p.1≠b)
  (keep:∀ b o,b≠X.env.locals->b∉X.fs->b∉ch->s.heap.get? b=some o->H b=none->h'.get? b=some o)
  (slot:∀ b o,b≠X.env.locals->b∈X.fs->b∉ch->s.heap.get? b=some o->H b=none->∃ sl,h'.get? b=some { o with slots:=sl }) (free:∀ b o,b∉ch->s.heap.get? b=some o->H b=none->H' b=none)
  (there:∀ b o,b∉ch->s.heap.get? b=some o->∃ o',h'.get? b=some o')
  (tups:∀ b xs,H b=some (.tup xs)->H' b=some (.tup xs)) (frzs:∀ b o u,H b=some (.frz o u)->H' b=some (.frz o u)) (tbls:∀ b ps,H b=some (.tbl ps)->∃ more,H' b=some (.tbl (ps++more)))
  (ns:∀ m,s.heap.Ns X.env.locals m->h'.Ns X.env.locals m) (hok:HOk X.prog X.w H' h') (hg:AllBare g') :
  Inv X AA σ H' { s with heap:=h',gens:=g',drawn:=d',toks:=t' }:=by
 have neL:∀ b o,X.s₀.heap.get? b=some o->b≠X.env.locals:=λb o e=>Nat.ne_of_lt (Nat.lt_of_lt_of_le (Heap.lt_size e) I.ok.above)
 have neC:∀ b o,X.s₀.heap.get? b=some o->b∉X.ex->b∉ch:=λb o e hx hb=>by
  rcases(DP b hb).1 with z | z
  ·exact hx z
  ·exact absurd (Nat.lt_of_lt_of_le (Heap.lt_size e) z) (Nat.lt_irrefl _)
 have cellK:∀ x c,X.env.cells.lookup x=some c->∀ v,s.heap.IsCell c v->h'.IsCell c v:=λx c e v ⟨o,ho,hd⟩=>by
  have nch:c∉ch:=λz=>(DP c z).2.2.1 x c e rfl
  by_cases hc:c∈X.fs
  ·obtain⟨sl,q⟩:=slot c o (I.cne x c e) hc nch ho (I.freeC x c e)
   exact⟨_,q,hd⟩
  ·exact⟨o,keep c o (I.cne x c e) hc nch ho (I.freeC x c e),hd⟩
 refine⟨I.ok,I.os,hg,⟨λb o e n hb hx=> ?_,λb o e n hb hx=> ?_,λb o e n hx=> ?_,λb o e hx=> ?_,λb xs e=>tups b xs (I.base.tups b xs e),λb o xs e=>frzs b o xs (I.base.frzs b o xs e),λb ps e=> ?_⟩,?_,λx c e=> ?_,?_,λx c e=> ?_,λp hp=> ?_,hok,I.len⟩
 ·exact keep b o (neL b o e) hb (neC b o e hx) (I.base.keep b o e n hb hx) (I.base.free b o e n hx)
 ·obtain⟨sl,e1⟩:=I.base.slot b o e n hb hx
  obtain⟨sl',e2⟩:=slot b _ (neL b o e) hb (neC b o e hx) e1 (I.base.free b o e n hx)
  exact⟨sl',e2⟩
 ·obtain⟨o',e1⟩:=I.base.there b o e hx
  exact free b o' (neC b o e hx) e1 (I.base.free b o e n hx)
 ·obtain⟨o',e1⟩:=I.base.there b o e hx
  exact there b o' (neC b o e hx) e1
 ·obtain⟨m1,e1⟩:=I.base.tbls b ps e
  obtain⟨m2,e2⟩:=tbls b _ e1
  exact⟨m1++m2,by rw[e2,Array.append_assoc]⟩
 ·obtain⟨m,hn,hl⟩:=I.loc
  refine⟨m,ns m hn,λi x v e1 e2 e3=> ?_⟩
  obtain⟨u,r,l⟩:=hl i x v e1 e2 e3
  refine⟨u,r,?_⟩
  rcases l with l | ⟨k,c,e,z⟩
  ·exact .inl l
  ·exact .inr ⟨k,c,e,cellK x c e _ z⟩
 ·obtain⟨v,z⟩:=I.cell x c e
  exact⟨v,cellK x c e v z⟩
 ·obtain⟨m,⟨o,_,_,ho,_⟩,_⟩:=I.loc
  exact free _ o (λz=>(DP _ z).2.1 rfl) ho I.free
 ·obtain⟨v,o,ho,hd⟩:=I.cell x c e
  exact free c o (λz=>(DP c z).2.2.1 x c e rfl) ho (I.freeC x c e)
 ·obtain⟨e,n,ne,nf,d⟩:=I.pin p hp
  have nch:p.1∉ch:=λz=>(DP p.1 z).2.2.2 p hp rfl
  exact⟨keep p.1 p.2 ne nf nch e n,free p.1 p.2 nch e n,ne,nf,d⟩
theorem Inv.un{t':Nat}(I:Inv X AA σ H s)(u:Un X.fs [] H H' s.heap h')(hok:HOk X.prog X.w H' h'):Inv X AA σ H' { s with heap:=h',toks:=t' }:=by
 obtain⟨m,⟨o,es,ep,ho,r⟩,_⟩:=id I.loc
 obtain⟨sl,hL⟩:=u.any ho I.free (by simp)
 exact I.step (g':=s.gens) (d':=s.drawn) (ch:=[]) (λ_ z=>nomatch z) (λb o _ hb _ e n=>u.keep b o e n hb (by simp)) (λb o _ hb _ e n=>u.slot b o e n hb (by simp)) (λb o _ e n=>u.free b o e n (by simp)) (λb o _ e=>u.there b o e (by simp)) u.tups u.frzs u.tbls (λm' hm=>by
  obtain⟨o',es',ep',ho',r'⟩:=hm
  rw[ho]at ho';cases ho'
  exact⟨_,es',ep',hL,r'⟩) hok I.bare
theorem Inv.call{g':Array GenState}{t':Nat}{d':Drawn}{ch:List Addr}(I:Inv X AA σ H s)(u:Un (DW X.stack) ch H H' s.heap h')(hok:HOk X.prog X.w H' h')(hg:AllBare g')
  (DP:∀ b∈ch,(b∈X.ex\/X.s₀.heap.objs.size<=b)/\b≠X.env.locals/\(∀ x c,X.env.cells.lookup x=some c->c≠b)/\∀ p∈X.pn++AA,p.1≠b) :
  Inv X AA σ H' { s with heap:=h',gens:=g',drawn:=d',toks:=t' }:=by
 obtain⟨m,⟨o,es,ep,ho,r⟩,_⟩:=id I.loc
 obtain⟨sl,hL⟩:=u.any ho I.free λz=>(DP _ z).2.1 rfl
 exact I.step (ch:=ch) DP (λb o hL hb hc e n=>u.keep b o e n (λz=>(List.mem_cons.mp (I.stkSub b z)).elim hL hb) hc) (λb o _ _ hc e n=>u.any e n hc) (λb o hc e n=>u.free b o e n hc) (λb o hc e=>u.there b o e hc) u.tups u.frzs u.tbls (λm' hm=>by
  obtain⟨o',es',ep',ho',r'⟩:=hm
  rw[ho]at ho';cases ho'
  exact⟨_,es',ep',hL,r'⟩) hok hg
theorem Inv.turned{t':Nat}{it:Addr}(I:Inv X AA σ H s)(k:∀ b o,b≠it->s.heap.get? b=some o->h'.get? b=some o)(hn:H it=none)(hL:it≠X.env.locals)
  (h1:it∈X.ex\/X.s₀.heap.objs.size<=it) (h2:∀ x c,X.env.cells.lookup x=some c->c≠it) (h3:∀ p∈X.pn++AA,p.1≠it):Inv X AA σ H { s with heap:=h',toks:=t' }:=by
 have nit:∀ b u,H b=some u->b≠it:=λb u e z=>by rw[z,hn]at e;cases e
 refine I.step (g':=s.gens) (d':=s.drawn) (ch:=[it]) (λb hb=> ?_) (λb o _ _ hc e _=>k b o (λz=>hc (by simp[z])) e) (λb o _ _ hc e _=>⟨o.slots,k b o (λz=>hc (by simp[z])) e⟩) (λ_ _ _ _ n=>n)
  (λb o hc e=>⟨o,k b o (λz=>hc (by simp[z])) e⟩) (λ_ _ e=>e) (λ_ _ _ e=>e) (λb ps e=>⟨#[],by rw[e];simp⟩) (λm hm=> ?_) (λb u e=> ?_) I.bare
 ·have e:b=it:=by simpa using hb
  subst e
  exact⟨h1,hL,h2,h3⟩
 ·obtain⟨o,es,ep,ho,r⟩:=hm
  exact⟨o,es,ep,k _ o (Ne.symm hL) ho,r⟩
 ·refine(I.hok b u e).stay (λc v hc q=>k c v ?_ q) (λ_ q=>q) λ_ _ q=>q
  rcases hc with z | z
  ·rw[z];exact nit b u e
  ·exact nit c _ z
theorem Inv.tok(I:Inv X AA σ H s)(t:Nat):Inv X AA σ H { s with toks:=t }:=I.un (h':=s.heap) (t':=t) Un.refl I.hok
theorem Inv.kept{t':Nat}(I:Inv X AA σ H s)(k:∀ b u,s.heap.get? b=some u->h'.get? b=some u):Inv X AA σ H { s with heap:=h',toks:=t' }:=I.un (Un.kept k) (I.hok.kept k)
theorem Inv.laid{a:Addr}{o:HO}{t':Nat}(I:Inv X AA σ H s)(k:∀ b u,s.heap.get? b=some u->h'.get? b=some u)(hp:s.heap.objs.size<=a)(new:ObjOk X.prog X.w (upd H a o) h' a o) :
  Inv X AA σ (upd H a o) { s with heap:=h',toks:=t' }:=I.un (Un.laid k hp (I.hok.fresh hp)) (I.hok.laid k hp new)
theorem Inv.write{x e:Addr}{o:HO}{t':Nat}(I:Inv X AA σ H s)(mu:M4 (H x))(he:e=x\/H e=some (.own x))(k:∀ b u,b≠e->s.heap.get? b=some u->h'.get? b=some u)(heo:∃ u,h'.get? e=some u)
  (new:ObjOk X.prog X.w (upd H x o) h' x o):Inv X AA σ (upd H x o) { s with heap:=h',toks:=t' }:=I.un (Un.write mu he k heo) (I.hok.write mu he k heo new)
theorem Inv.pins_of{pins':List (Addr × Obj)}(I:Inv X AA σ H s)(h:∀ p∈pins',s.heap.get? p.1=some p.2/\H p.1=none/\p.1≠X.env.locals/\p.1∉X.fs/\∀ v,p.2.data≠.cell v):Inv X pins' σ H s :=
 ⟨I.ok,I.os,I.bare,I.base,I.loc,I.cell,I.free,I.freeC,λp hp=>(List.mem_append.mp hp).elim (λz=>I.pin p (List.mem_append_left _ z)) (h p),I.hok,I.len⟩
theorem bJ{N:List Str}(hN:N.Nodup){i j:Nat}{x:Str}(a:N[i]? =some x)(b:N[j]? =some x):i=j:=by
 obtain⟨h1,e1⟩:=List.getElem?_eq_some_iff.mp a
 obtain⟨h2,e2⟩:=List.getElem?_eq_some_iff.mp b
 exact(List.getElem_inj hN).mp (e1.trans e2.symm)
theorem bK{M:Model}{A:Around}{E:Value->Shared->Prop}{i:Nat}{x:Str}{v:V}{u:Value}{Q:Unit->Shared->Prop}(I:Inv X AA σ H s)(hN:X.N.Nodup)(hi:X.N[i]? =some x)(hx:LJ X.env.scope x)(r:RelV v u)
  (h:∀ s',Inv X AA (σ.set i (some v)) H s'->(∃ a,Heap.SameBut a s.heap s'.heap/\(a=X.env.locals\/X.env.cells.lookup x=some a))->Q () s') (hf:X.fn x=true\/X.env.scope.names.lookup x=some .local:=by first | exact .inl rfl | exact .inr rfl | assumption):wpAny M A (storeName X.env x u) Q E s:=by
 obtain⟨m,hn,hl⟩:=id I.loc
 have M3:(X.env.scope.kind == .class || (X.env.scope.kind == .module && X.env.locals != X.env.globals))=false:=by rw[I.ok.kind];rfl
 have hiσ:i<σ.length:=by rw[I.len];exact(List.getElem?_eq_some_iff.mp hi).1
 have cne:=I.cne
 have tracked:∀ {a:Addr} {h':Heap},(∃ o,s.heap.get? a=some o/\H a=none)->Heap.SameBut a s.heap h'->HOk X.prog X.w H h':=λ{a h'} ha hs b ob e=>by
  obtain⟨_,_,hfree⟩:=ha
  refine(I.hok b ob e).stay (λc w' hc q=>(hs.2 c ?_).trans q) (λ_ q=>q) λ_ _ q=>q
  rintro rfl
  rcases hc with rfl | hc
  ·rw[hfree]at e;cases e
  ·rw[hfree]at hc;cases hc
 rcases hx with hk | hk
 ·refine wpAny_storeName_local hk hn (λh' hn' hs=> ?_) M3
  obtain⟨oL,_,_,hoL,_⟩:=id hn
  refine h _ ⟨I.ok,I.os,I.bare,⟨λb o e n hb hx=> ?_,λb o e n hb hx=> ?_,I.base.free,λb o e hx=> ?_,I.base.tups,I.base.frzs,I.base.tbls⟩,⟨_,hn',λj y v' e1 e2 e3=> ?_⟩,λy c e=> ?_,I.free,I.freeC,λp hp=> ?_,tracked ⟨oL,hoL,I.free⟩ hs,by simpa using I.len⟩ ⟨_,hs,.inl rfl⟩
  ·exact(hs.2 b (Nat.ne_of_lt (Nat.lt_of_lt_of_le (Heap.lt_size e) I.ok.above))).trans (I.base.keep b o e n hb hx)
  ·obtain⟨sl,e1⟩:=I.base.slot b o e n hb hx
   exact⟨sl,(hs.2 b (Nat.ne_of_lt (Nat.lt_of_lt_of_le (Heap.lt_size e) I.ok.above))).trans e1⟩
  ·obtain⟨o',e1⟩:=I.base.there b o e hx
   exact⟨o',(hs.2 b (Nat.ne_of_lt (Nat.lt_of_lt_of_le (Heap.lt_size e) I.ok.above))).trans e1⟩
  ·by_cases hj:j=i
   ·subst hj
    rw[hi]at e1;cases e1
    rw[List.getElem?_set_self hiσ]at e2
    cases e2
    exact⟨u,r,.inl ⟨hk,by simp⟩⟩
   ·rw[List.getElem?_set_ne (Ne.symm hj)]at e2
    obtain⟨u',r',q⟩:=hl j y v' e1 e2 e3
    refine⟨u',r',?_⟩
    rcases q with⟨k,e⟩ | ⟨k,c,e,z⟩
    ·refine .inl ⟨k,?_⟩
     have:y≠x:=λe=>hj (bJ hN e1 (e ▸ hi))
     simp[this,e]
    ·exact .inr ⟨k,c,e,z.sameBut hs (cne y c e)⟩
  ·obtain⟨w',z⟩:=I.cell y c e
   exact⟨w',z.sameBut hs (cne y c e)⟩
  ·obtain⟨e,n,ne,nf,d⟩:=I.pin p hp
   exact⟨(hs.2 p.1 ne).trans e,n,ne,nf,d⟩
 ·have hfn:X.fn x=true:=by
   rcases hf with z | z
   ·exact z
   ·rw[z]at hk;cases hk
  obtain⟨c,hc⟩:=I.ok.has x (.inl hk)
  obtain⟨w',z⟩:=I.cell x c hc
  refine wpAny_storeName_cell I.ok.kind hk hc z (λh' hc' hs=> ?_)
  obtain⟨oc,hoc,hocd⟩:=id z
  refine h { s with heap:=h' } ⟨I.ok,I.os,I.bare,⟨λb o e n hb hx=> ?_,λb o e n hb hx=> ?_,I.base.free,λb o e hx=> ?_,I.base.tups,I.base.frzs,I.base.tbls⟩,⟨m,hn.sameBut hs (Ne.symm (cne x c hc)),λj y v' e1 e2 e3=> ?_⟩,λy c' e=> ?_,I.free,I.freeC,λp hp=> ?_,tracked ⟨oc,hoc,I.freeC x c hc⟩ hs,by simpa using I.len⟩ ⟨c,hs,.inr hc⟩
  ·exact(hs.2 b (Nat.ne_of_lt (Nat.lt_of_lt_of_le (Heap.lt_size e) (I.ok.cab x c hfn hc)))).trans (I.base.keep b o e n hb hx)
  ·obtain⟨sl,e1⟩:=I.base.slot b o e n hb hx
   exact⟨sl,(hs.2 b (Nat.ne_of_lt (Nat.lt_of_lt_of_le (Heap.lt_size e) (I.ok.cab x c hfn hc)))).trans e1⟩
  ·obtain⟨o',e1⟩:=I.base.there b o e hx
   exact⟨o',(hs.2 b (Nat.ne_of_lt (Nat.lt_of_lt_of_le (Heap.lt_size e) (I.ok.cab x c hfn hc)))).trans e1⟩
  ·by_cases hj:j=i
   ·subst hj
    rw[hi]at e1;cases e1
    rw[List.getElem?_set_self hiσ]at e2
    cases e2
    exact⟨u,r,.inr ⟨.inl hk,c,hc,hc'⟩⟩
   ·rw[List.getElem?_set_ne (Ne.symm hj)]at e2
    obtain⟨u',r',q⟩:=hl j y v' e1 e2 e3
    refine⟨u',r',?_⟩
    rcases q with q | ⟨k,c',e,z'⟩
    ·exact .inl q
    ·refine .inr ⟨k,c',e,z'.sameBut hs ?_⟩
     rintro rfl
     exact hj (bJ hN e1 (I.ok.inj _ _ _ e hc ▸ hi))
  ·by_cases hcc:c'=c
   ·subst hcc;exact⟨_,hc'⟩
   ·obtain⟨w2,z2⟩:=I.cell y c' e
    exact⟨w2,z2.sameBut hs hcc⟩
  ·obtain⟨e,n,ne,nf,d⟩:=I.pin p hp
   refine⟨(hs.2 p.1 ?_).trans e,n,ne,nf,d⟩
   intro q
   rw[q,hoc]at e
   have q':oc=p.2:=Option.some.inj e
   exact d w' (by rw[<-q'];exact hocd)
theorem bL{M:Model}{A:Around}{E:Value->Shared->Prop}{i:Nat}{x:Str}{v:V}{u:Value}{Q:Unit->Shared->Prop}(I:Inv X AA σ H s)(hN:X.N.Nodup)(hi:X.N[i]? =some x)(hx:LJ X.env.scope x)(r:RelV v u)
  (h:∀ s',Inv X AA (σ.set i (some v)) H s'->Q () s') (hf:X.fn x=true\/X.env.scope.names.lookup x=some .local:=by first | exact .inl rfl | exact .inr rfl | assumption):wpAny M A (storeName X.env x u) Q E s :=
 bK I hN hi hx r (λs' I' _=>h s' I') hf
theorem Inv.call'{s':Shared}{ch:List Addr}(I:Inv X AA σ H s)(ho:s'.os=s.os)(u:Un (DW X.stack) ch H H' s.heap s'.heap)(hok:HOk X.prog X.w H' s'.heap)(hg:AllBare s'.gens)
  (DP:∀ b∈ch,(b∈X.ex\/X.s₀.heap.objs.size<=b)/\b≠X.env.locals/\(∀ x c,X.env.cells.lookup x=some c->c≠b)/\∀ p∈X.pn++AA,p.1≠b):Inv X AA σ H' s':=by
 obtain⟨h',g',d',t',o'⟩:=s'
 have e:o'=s.os:=ho
 subst e
 exact I.call (g':=g') (t':=t') (d':=d') u hok hg DP
end
abbrev XK:=Value->Option Addr->Hp->Prop
abbrev St:=List (Option V)
abbrev VK:=V->Hp->Prop
abbrev TE:=St->Hp->VK->Prop
abbrev TT:=St->Hp->(Bool->Hp->Prop)->Prop
abbrev TA:=St->Hp->(List V->Hp->Prop)->Prop
structure Ends where
 nx:St->Hp->Prop
 rt:VK
 bk:St->Hp->Prop:=λ_ _=>False
 ct:St->Hp->Prop:=λ_ _=>False
abbrev TS:=Ends->St->Hp->Prop
def EP(X:Cx)(AA:List (Addr × Obj))(σ:St)(Q:VK)(u:Value)(s':Shared):Prop:=∃ v H',Inv X AA σ H' s'/\RelV v u/\Q v H'
def TP(X:Cx)(AA:List (Addr × Obj))(σ:St)(Q:Bool->Hp->Prop)(b:Bool)(s':Shared):Prop:=∃ H',Inv X AA σ H' s'/\Q b H'
def AP(X:Cx)(AA:List (Addr × Obj))(σ:St)(Q:List V->Hp->Prop)(us:List Value)(s':Shared):Prop:=∃ vs H',Inv X AA σ H' s'/\Vals vs us/\Q vs H'
def SP(X:Cx)(AA:List (Addr × Obj))(D:Ends)(f:Flow)(s':Shared):Prop :=
 match f with
 | .next=>∃ σ' H',Inv X AA σ' H' s'/\D.nx σ' H'
 | .brk=>∃ σ' H',Inv X AA σ' H' s'/\D.bk σ' H'
 | .cont=>∃ σ' H',Inv X AA σ' H' s'/\D.ct σ' H'
 | .ret u=>∃ v σ' H',Inv X AA σ' H' s'/\RelV v u/\D.rt v H'
def PE(X:Cx)(e:Expr)(t:TE):Prop :=
 ∀ (AA:List (Addr × Obj)) (s:Shared) (σ:St) (H:Hp) (Q:VK),Inv X AA σ H s->t σ H Q->wpAny (model X.prog X.w) X.A (eval e X.env) (EP X AA σ Q) X.xe s
def PT(X:Cx)(e:Expr)(t:TT):Prop :=
 ∀ (AA:List (Addr × Obj)) (s:Shared) (σ:St) (H:Hp) (Q:Bool->Hp->Prop),Inv X AA σ H s->t σ H Q->wpAny (model X.prog X.w) X.A (isTrue e X.env (eval e X.env)) (TP X AA σ Q) X.xe s
def PW(X:Cx)(e:Expr)(t:TT):Prop :=
 ∀ (whole:Sem Value) (AA:List (Addr × Obj)) (s:Shared) (σ:St) (H:Hp) (Q:Bool->Hp->Prop),Inv X AA σ H s->t σ H Q->wpAny (model X.prog X.w) X.A (isTrue e X.env whole) (TP X AA σ Q) X.xe s
theorem PW.pt{X:Cx}{e:Expr}{t:TT}(h:PW X e t):PT X e t:=h _
def PA(X:Cx)(es:List Expr)(t:TA):Prop :=
 ∀ (pos:Pos) (AA:List (Addr × Obj)) (s:Shared) (σ:St) (H:Hp) (Q:List V->Hp->Prop),Inv X AA σ H s->t σ H Q->wpAny (model X.prog X.w) X.A (spliced (backTo pos (starEach es X.env))) (AP X AA σ Q) X.xe s
def PS(X:Cx)(st:Stmt)(t:TS):Prop :=
 ∀ (AA:List (Addr × Obj)) (s:Shared) (σ:St) (H:Hp) (D:Ends),Inv X AA σ H s->t D σ H->wpAny (model X.prog X.w) X.A (exec st X.env) (SP X AA D) X.xe s
def FN(X:Cx)(st:List Stmt)(t:TS):Prop :=
 ∀ (AA:List (Addr × Obj)) (s:Shared) (σ:St) (H:Hp) (D:Ends),Inv X AA σ H s->t D σ H->wpAny (model X.prog X.w) X.A (execs st X.env) (SP X AA D) X.xe s
theorem AR{α :Type}{t:Sem α}{Q Q': α ->Shared->Prop}{M:Model}{A:Around}{E:Value->Shared->Prop}{s:Shared}(h:wpAny M A t Q E s)(hQ:∀ a s,Q a s->Q' a s):wpAny M A t Q' E s:=wpAny_mono h hQ λ_ _ x=>x
end L2
namespace L2
section
variable{X:Cx}
def R5(i:Nat):TE:=λσ H Q=>∃ v,σ[i]? =some (some v)/\Q v H
def tC(v:V):TE:=λ_ H Q=>Q v H
theorem tP{i:Nat}{x:Str}{pos:Pos}(hN:X.N[i]? =some x)(hv:R4 X.env.scope x)(hd:(x ==("__debug__":Str))=false:=by decide)(IF:(x ==("__classdict__":Str))=false:=by decide):PE X (.Name x pos) (R5 i):=by
 intro AA s σ H Q I h
 obtain⟨v,e,h⟩:=h
 obtain⟨m,hn,hl⟩:=I.loc
 obtain⟨u,r,l⟩:=hl i x v hN e hv
 have fin:EP X AA σ Q u s:=⟨v,H,I,r,h⟩
 rcases l with⟨hk,hm⟩ | ⟨hk,c,hc,hcell⟩
 ·exact wpAny_Name (wpAny_loadName_local I.ok.kind hk hn hm fin) hd
 ·rcases hk with hk | hk
  ·exact wpAny_Name (wpAny_loadName_cell I.ok.kind hk hc hcell fin) hd
  ·exact wpAny_Name (wpAny_loadName_free I.ok.kind hk hc hcell fin IF) hd
theorem AS{i j pos}:PE X (.Constant (.int i) j pos) (tC (.int i)):=λ_ _ _ H _ I h=>wpAny_Constant_int ⟨.int i,H,I.tok _,⟨_,rfl⟩,h⟩
theorem G4{b j pos}:PE X (.Constant (.bool b) j pos) (tC (.bl b)):=λ_ _ _ H _ I h=>Constant_bool ⟨.bl b,H,I,rfl,h⟩
theorem EW{j pos}:PE X (.Constant .none j pos) (tC .non):=λ_ _ _ H _ I h=>Constant_none ⟨.non,H,I,rfl,h⟩
theorem DK{x j pos}:PE X (.Constant (.str x) j pos) (tC (.str x)):=λ_ _ _ H _ I h=>Calls.Constant_str ⟨.str x,H,I.tok _,⟨_,rfl⟩,h⟩
def Gl(X:Cx)(x:Str):Prop:=X.env.kindOf x=some .globalImplicit
theorem M5{E:Value->Shared->Prop}{AA:List (Addr × Obj)}{s:Shared}{σ:St}{H:Hp}{x:Str}{u:Value}{pos:Pos}{Q:Value->Shared->Prop}(I:Inv X AA σ H s)(hg:Gl X x)(hm:X.mg x=some u)(h:Q u s)
  (hd:(x ==("__debug__":Str))=false:=by decide):wpAny (model X.prog X.w) X.A (eval (.Name x pos) X.env) Q E s :=
 Calls.Name_function_global I.ok.kind hg (Calls.loadGlobal_global (by rw[I.ok.glob];exact I.mod.glob.keeps I.bk) hm h) hd
theorem ON{E:Value->Shared->Prop}{AA:List (Addr × Obj)}{s:Shared}{σ:St}{H:Hp}{x:Str}{u:Value}{pos:Pos}{Q:Value->Shared->Prop}(I:Inv X AA σ H s)(hg:Gl X x)(hm:X.mg x=none)(hv:bootBuiltins x=some u)(h:Q u s)
  (hn:x≠"__name__":=by decide) (hd:(x ==("__debug__":Str))=false:=by decide):wpAny (model X.prog X.w) X.A (eval (.Name x pos) X.env) Q E s:=by
 obtain⟨mb,h1,h2⟩:=I.mod.blt
 exact Calls.Name_function_global I.ok.kind hg (Calls.loadGlobal_builtin (by rw[I.ok.glob];exact I.mod.glob.keeps I.bk) hm (by rw[I.ok.blt];exact h1.keeps I.bk) ((h2 x hn).trans hv) h) hd
theorem tQ{x:Str}{v:V}{u:Value}{pos:Pos}(hg:Gl X x)(hm:X.mg x=some u)(r:RelV v u)(hd:(x ==("__debug__":Str))=false:=by decide):PE X (.Name x pos) (tC v) :=
 λ_ _ _ H _ I h=>M5 I hg hm ⟨v,H,I,r,h⟩ hd
variable{a b:Expr}{ta tb:TE}{pos:Pos}
def PC(X:Cx)(op:CmpOp)(a b:Expr)(t:TE):Prop :=
 ∀ (AA:List (Addr × Obj)) (s:Shared) (σ:St) (H:Hp) (Q:VK),Inv X AA σ H s->t σ H Q →
  wpAny (model X.prog X.w) X.A (eval a X.env) (λv s₁=>wpAny (model X.prog X.w) X.A (eval b X.env) (λu s₂=>wpAny (model X.prog X.w) X.A (compareOp op v u) (EP X AA σ Q) X.xe s₂) X.xe s₁) X.xe s
theorem tR(b:Expr){op:CmpOp}(h:op≠.In)(h2:op≠.NotIn):behindInMarks op b=false:=by
 have e1:(op == CmpOp.In)=false:=by cases op<;>first | rfl | exact absurd rfl h
 have e2:(op == CmpOp.NotIn)=false:=by cases op<;>first | rfl | exact absurd rfl h2
 cases b<;>simp[behindInMarks,e1,e2]
def tB(t:TE):TT:=λσ H Q=>t σ H λx H1=>∃ c,x=.bl c/\Q c H1
theorem KO{op:CmpOp}{t:TE}(h:PC X op a b t)(h1:behindInMarks op b=false:=by first | exact tR _ (by decide) (by decide) | rfl):PT X (.Compare a [op] [b] pos) (tB t):=by
 intro AA s σ H Q I hw
 refine wpAny_isTrue_Compare1 (AR (h AA s σ H _ I hw) λv s1 h1=>AR h1 λu s2 h2=>AR h2 λc s3 hzz=> ?_) h1
 obtain⟨x,H1,I1,r1,q1⟩:=hzz
 obtain⟨d,rfl,q⟩:=q1
 cases r1
 exact wpAny_truthy_bool ⟨H1,I1,q⟩
variable{tA tB':TT}{rest:List Expr}
def KP(t u:TT):TT:=λσ H Q=>t σ H λc H1=>if c=true then u σ H1 Q else Q false H1
def OO(t u:TT):TT:=λσ H Q=>t σ H λc H1=>if c=true then Q true H1 else u σ H1 Q
def GB(t:TT):TT:=λσ H Q=>t σ H λc H1=>Q (!c) H1
theorem OP(ha:PT X a tA):PW X (.BoolOp .And [a] pos) tA:=by
 intro wh AA s σ H Q I h
 refine isTrue_and (AR (ha AA s σ H Q I h) λc s1 e=> ?_)
 cases c with
 | true=>exact isTrue_and_nil e
 | false=>exact e
theorem bM(ha:PT X a tA):PW X (.BoolOp .Or [a] pos) tA:=by
 intro wh AA s σ H Q I h
 refine isTrue_or (AR (ha AA s σ H Q I h) λc s1 e=> ?_)
 cases c with
 | false=>exact isTrue_or_nil e
 | true=>exact e
theorem M6(ha:PT X a tA)(hb:PW X (.BoolOp .And (b::rest) pos) tB'):PW X (.BoolOp .And (a::b::rest) pos) (KP tA tB'):=by
 intro wh AA s σ H Q I h
 refine isTrue_and (AR (ha AA s σ H _ I h) λc s1 hzz=> ?_)
 obtain⟨H1,I1,q1⟩:=hzz
 cases c with
 | true=>exact hb wh AA s1 σ H1 Q I1 q1
 | false=>exact⟨H1,I1,q1⟩
theorem bN(ha:PT X a tA)(hb:PW X (.BoolOp .Or (b::rest) pos) tB'):PW X (.BoolOp .Or (a::b::rest) pos) (OO tA tB'):=by
 intro wh AA s σ H Q I h
 refine isTrue_or (AR (ha AA s σ H _ I h) λc s1 hzz=> ?_)
 obtain⟨H1,I1,q1⟩:=hzz
 cases c with
 | true=>exact⟨H1,I1,q1⟩
 | false=>exact hb wh AA s1 σ H1 Q I1 q1
theorem HQ(ha:PT X a tA):PT X (.UnaryOp .Not a pos) (GB tA):=by
 intro AA s σ H Q I h
 exact isTrue_not (ha AA s σ H (λc H1=>Q (!c) H1) I h)
def M7(ta tb:TE):TE:=λσ H Q=>ta σ H λx H1=>∃ c,x=.bl c/\if c=true then tb σ H1 Q else Q (.bl false) H1
theorem R6{op}{t:TE}(h:PE X a t):PE X (.BoolOp op [a] pos) t:=λAA s σ H Q I hw=>BoolOp_one (h AA s σ H Q I hw)
theorem R7(ha:PE X a ta)(hb:PE X (.BoolOp .And (b::rest) pos) tb):PE X (.BoolOp .And (a::b::rest) pos) (M7 ta tb):=by
 intro AA s σ H Q I h
 refine BoolOp_and (AR (ha AA s σ H _ I h) λv s1 hzz=> ?_)
 obtain⟨x,H1,I1,r1,q1⟩:=hzz
 obtain⟨c,rfl,q1⟩:=q1
 cases r1
 refine wpAny_truthy_bool ?_
 cases c with
 | true=>exact hb AA s1 σ H1 Q I1 q1
 | false=>exact⟨.bl false,H1,I1,rfl,q1⟩
end
end L2
namespace L2
def SqL(K:W.Frag)(H:Hp)(a:Addr)(xs:List V):Prop :=
 Rd H a (.lst xs) ∨
  ∃ (o:Obj) (its:Array Value) (n:Nat),K.lookup a=some o/\o.cls=.type "list"/\o.dict=none/\o.data=.seq its n/\its.size<=sizeLine/\Vals xs its.toList
def SqT(K:W.Frag)(H:Hp)(a:Addr)(xs:List V):Prop :=
 Rd H a (.tup xs) ∨
  ∃ (o:Obj) (its:Array Value) (n:Nat),K.lookup a=some o/\o.cls=.type "tuple"/\o.data=.seq its n/\its.size<=sizeLine/\Vals xs its.toList
def tS:Value->Option V
 | .none=>some .non
 | .bool b=>some (.bl b)
 | .int i _=>some (.int i)
 | .str x _=>some (.str x)
 | .bytes b _=>some (.byt b)
 | .float b _=>some (.flt b)
 | .ref a=>some (.ref a)
 | .type n=>some (.ty n)
 | _=>none
theorem RelV.abs{x:V}{u:Value}(r:RelV x u):tS u=some x:=by
 cases x with
 | non=>cases r;rfl
 | bl _=>cases r;rfl
 | int _=>obtain⟨t,rfl⟩:=r;rfl
 | str _=>obtain⟨t,rfl⟩:=r;rfl
 | byt _=>obtain⟨t,rfl⟩:=r;rfl
 | flt _=>obtain⟨t,rfl⟩:=r;rfl
 | ref _=>cases r;rfl
 | ty _=>cases r;rfl
theorem RelV.inj{x y:V}{u:Value}(r:RelV x u)(q:RelV y u):x=y:=Option.some.inj (r.abs.symm.trans q.abs)
theorem Vals.inj:∀ {xs ys:List V} {us:List Value},Vals xs us->Vals ys us->xs=ys
 | _,_,_,.nil,.nil=>rfl
 | _,_,_,.cons r t,.cons r' t'=>by rw[r.inj r',Vals.inj t t']
section
variable{X:Cx}{AA:List (Addr × Obj)}{σ:St}{H:Hp}{s:Shared}{a:Addr}{xs ys:List V}
theorem SqL.of{K:W.Frag}(h:H a=some (.lst xs)):SqL K H a xs:=.inl (.inl h)
theorem SqT.of{K:W.Frag}(h:H a=some (.tup xs)):SqT K H a xs:=.inl (.inl h)
theorem Inv.list(I:Inv X AA σ H s)(h:SqL X.K H a xs):∃ its:List Value,Vals xs its/\PlainL s.heap a its.toArray/\xs.length<=sizeLine:=by
 rcases h with h | ⟨o,its,n,hk,hc,hd,hs,hz,r⟩
 ·obtain⟨z,its,n,r,e⟩:=h.ok I.hok
  exact⟨its,r,⟨_,n,e,rfl,rfl,rfl⟩,z⟩
 ·refine⟨its.toList,r,⟨o,n,I.kIn a o hk,hc,hd,by simpa using hs⟩,?_⟩
  have e:=r.length
  simp only[Array.length_toList]at e
  omega
theorem Inv.tuple(I:Inv X AA σ H s)(h:SqT X.K H a xs):∃ its:List Value,Vals xs its/\IsTup s.heap a its.toArray/\xs.length<=sizeLine:=by
 rcases h with h | ⟨o,its,n,hk,hc,hs,hz,r⟩
 ·obtain⟨z,its,r,p⟩:=h.ok I.hok
  exact⟨its,r,p,z⟩
 ·refine⟨its.toList,r,⟨o,I.kIn a o hk,hc,n,by simpa using hs⟩,?_⟩
  have e:=r.length
  simp only[Array.length_toList]at e
  omega
theorem Inv.list_inj(I:Inv X AA σ H s)(h:SqL X.K H a xs)(h':SqL X.K H a ys):xs=ys:=by
 obtain⟨its,r,⟨o,n,e,_,_,d⟩,_⟩:=I.list h
 obtain⟨its',r',⟨o',n',e',_,_,d'⟩,_⟩:=I.list h'
 rw[e]at e';cases e'
 rw[d]at d'
 injection d' with d1 _
 have:its=its':=by simpa using congrArg Array.toList d1
 subst this
 exact r.inj r'
theorem Inv.tuple_inj(I:Inv X AA σ H s)(h:SqT X.K H a xs)(h':SqT X.K H a ys):xs=ys:=by
 obtain⟨its,r,⟨o,e,_,n,d⟩,_⟩:=I.tuple h
 obtain⟨its',r',⟨o',e',_,n',d'⟩,_⟩:=I.tuple h'
 rw[e]at e';cases e'
 rw[d]at d'
 injection d' with d1 _
 have:its=its':=by simpa using congrArg Array.toList d1
 subst this
 exact r.inj r'
end
section
variable{X:Cx}{AA:List (Addr × Obj)}{σ:St}{H:Hp}{s:Shared}{E:Value->Shared->Prop}
end
section
variable{X:Cx}{st:Stmt}{rest:List Stmt}{t u:TS}{e:Expr}{te:TE}{pos:Pos}
def CK:TS:=λD σ H=>D.nx σ H
def AL(t u:TS):TS:=λD σ H=>t { D with nx:=u D } σ H
theorem CP:FN X [] CK:=λ_ _ σ H _ I h=>wpAny_execs_nil ⟨σ,H,I,h⟩
theorem AN(h1:PS X st t)(h2:FN X rest u):FN X (st::rest) (AL t u):=by
 intro AA s σ H D I h
 refine wpAny_execs_cons (AR (h1 AA s σ H { D with nx:=u D } I h) λf s1 q=> ?_)
 cases f with
 | next =>
  obtain⟨σ',H',I',q⟩:=q
  exact h2 AA s1 σ' H' D I' q
 | ret v=>exact q
 | brk=>exact q
 | cont=>exact q
theorem AI(h1:PS X st t):FN X [st] t:=by
 intro AA s σ H D I h
 refine wpAny_execs_cons (AR (h1 AA s σ H D I h) λf s1 q=> ?_)
 cases f with
 | next=>exact wpAny_execs_nil q
 | ret v=>exact q
 | brk=>exact q
 | cont=>exact q
def R8:TS:=λD σ H=>D.bk σ H
theorem tT:PS X (.Break pos) R8:=λ_ _ σ H _ I h=>wpAny_Break ⟨σ,H,I,h⟩
theorem Inv.quiet{AA:List (Addr × Obj)}{σ:St}{H:Hp}{s:Shared}(I:Inv X AA σ H s):interactive X.env=false:=by simp[interactive,I.ok.kind]
def DH(te:TE):TS:=λD σ H=>te σ H λ_ H1=>D.nx σ H1
theorem DQ(he:PE X e te)(hs:swapsWith e none pos.line X.env=pure false:=by rfl):PS X (.Expr e pos) (DH te):=by
 intro AA s σ H D I h
 exact wpAny_Expr_any (AR (he AA s σ H _ I h) λv s1 ⟨x,H1,I1,r1,q1⟩=>⟨σ,H1,I1,q1⟩) I.quiet hs
def BB(te:TE):TS:=λD σ H=>te σ H D.rt
theorem BD(he:PE X e te):PS X (.Return (some e) pos) (BB te):=by
 intro AA s σ H D I h
 exact wpAny_Return_some (AR (he AA s σ H _ I h) λv s1 ⟨x,H1,I1,r1,q1⟩=>⟨x,σ,H1,I1,r1,q1⟩)
def BX(c:TT)(t u:TS):TS:=λD σ H=>c σ H λb H1=>if b=true then t D σ H1 else u D σ H1
theorem BY{c:Expr}{a b:List Stmt}{tc:TT}(hc:PT X c tc)(ha:FN X a t)(hb:FN X b u):PS X (.If c a b pos) (BX tc t u):=by
 intro AA s σ H D I h
 refine wpAny_If (AR (hc AA s σ H _ I h) λd s1 hzz=> ?_)
 obtain⟨H1,I1,q1⟩:=hzz
 cases d with
 | true=>exact ha AA s1 σ H1 D I1 q1
 | false=>exact hb AA s1 σ H1 D I1 q1
end
abbrev TG:=V->St->Hp->(St->Hp->Prop)->Prop
abbrev JL:=List V->St->Hp->(St->Hp->Prop)->Prop
def PG(X:Cx)(target:Expr)(t:TG):Prop :=
 ∀ (AA:List (Addr × Obj)) (s:Shared) (σ:St) (H:Hp) (v:V) (u:Value) (Q:St->Hp->Prop),Inv X AA σ H s->RelV v u->t v σ H Q →
  wpAny (model X.prog X.w) X.A (assign target X.env u) (λ_ s'=>∃ σ' H',Inv X AA σ' H' s'/\Q σ' H') X.xe s
def OQ(X:Cx)(ts:List Expr)(t:JL):Prop :=
 ∀ (AA:List (Addr × Obj)) (s:Shared) (σ:St) (H:Hp) (vs:List V) (us:List Value) (Q:St->Hp->Prop),Inv X AA σ H s->Vals vs us->t vs σ H Q →
  wpAny (model X.prog X.w) X.A (assignInOrder ((assignEach ts X.env).map (·.2)) us) (λ_ s'=>∃ σ' H',Inv X AA σ' H' s'/\Q σ' H') X.xe s
abbrev OR:=V->V->V->Hp->(Hp->Prop)->Prop
def R9(X:Cx)(t:OR):Prop :=
 ∀ (AA:List (Addr × Obj)) (s:Shared) (σ:St) (H:Hp) (o i v:V) (ov iv u:Value) (Q:Hp->Prop),Inv X AA σ H s->RelV o ov->RelV i iv->RelV v u->t o i v H Q →
  wpAny (model X.prog X.w) X.A (setItem ov iv u) (λ_ s'=>∃ H',Inv X AA σ H' s'/\Q H') X.xe s
abbrev bO:=V->V->Hp->VK->Prop
section
variable{X:Cx}{pos:Pos}
def AM(i:Nat):TG:=λv σ H Q=>Q (σ.set i (some v)) H
theorem tU{i:Nat}{x:Str}(hN:X.N.Nodup)(hi:X.N[i]? =some x)(hx:LJ X.env.scope x)(hf:X.fn x=true\/X.env.scope.names.lookup x=some .local:=by first | exact .inl rfl | exact .inr rfl | assumption):PG X (.Name x pos) (AM i):=by
 intro AA s σ H v u Q I r h
 exact wpAny_assign_Name (bL I hN hi hx r (λs' I'=>⟨_,H,I',h⟩) hf)
def OS:JL:=λvs σ H Q=>vs=[]/\Q σ H
def LK(t:TG)(u:JL):JL:=λvs σ H Q=>∃ v r,vs=v::r/\t v σ H λσ' H'=>u r σ' H' Q
theorem bP:OQ X [] OS:=by
 intro AA s σ H vs us Q I r h
 obtain⟨e,h⟩:=h
 subst e
 cases r
 exact assignInOrder_nil ⟨σ,H,I,h⟩
theorem OT{e:Expr}{es:List Expr}{t:TG}{u:JL}(h1:PG X e t)(h2:OQ X es u)
  (hs:(assignEach (e::es) X.env).map (·.2)=assign e X.env::(assignEach es X.env).map (·.2):=by rfl):OQ X (e::es) (LK t u):=by
 intro AA s σ H vs us Q I r h
 obtain⟨v,vr,e1,h⟩:=h
 subst e1
 cases r with
 | cons r rr =>
  rw[hs]
  refine assignInOrder_cons (AR (h1 AA s σ H _ _ _ I r h) λ_ s1 hzz=> ?_)
  obtain⟨σ1,H1,I1,q1⟩:=hzz
  exact h2 AA s1 σ1 H1 _ _ Q I1 rr q1
def OU(K:W.Frag)(n:Nat)(t:JL):TG:=λv σ H Q=>∃ a xs,v=.ref a/\SqT K H a xs/\xs.length=n/\t xs σ H Q
theorem bQ{es:List Expr}{k:Nat}{t:JL}{n:Nat}(hc:X.calm=true)(h:OQ X es t)
  (hn:(assignEach es X.env).length=n:=by rfl) (hst:(assignEach es X.env).findIdx? (·.1)=none:=by rfl):PG X (.Tuple es k pos) (OU X.K n t):=by
 intro AA s σ H v u Q I r hw
 obtain⟨a,xs,e1,hq,hl,hw⟩:=hw
 subst e1
 cases r
 obtain⟨its,rv,ht,hz⟩:=I.tuple hq
 refine assign_Tuple_tuple (I.ok.hd hc) ht (by simp[hn,<-hl,rv.length]) hst λh' hx=> ?_
 have I1:Inv X AA σ H { s with heap:=h' }:=I.kept (t':=s.toks) λb o e=>hx b o (Nat.ne_of_lt (Heap.lt_size e)) e
 exact h AA _ σ H xs _ Q I1 (by simpa using rv) hw
def OV(to ti:TE)(t:OR):TG:=λv σ H Q=>to σ H λo H1=>ti σ H1 λi H2=>t o i v H2 λH3=>Q σ H3
theorem bR{o i:Expr}{to ti:TE}{t:OR}(ho:PE X o to)(hi:PE X i ti)(hs:R9 X t)
  (ha:∀ v,assign (.Subscript o i pos) X.env v=(do
   let ov ← holding [v] (eval o X.env)
   let iv ← holding [v,ov] (eval i X.env)
   standAt pos
   holding [v,ov,iv] (setItem ov iv v)
   release [v,ov,iv] []):=by intro _;rfl):PG X (.Subscript o i pos) (OV to ti t):=by
 intro AA s σ H v u Q I r h
 rw[ha]
 refine wpAny_bind (wpAny_holding (AR (ho AA s σ H _ I h) λov s1 hzz=> ?_))
 obtain⟨x,H1,I1,r1,q1⟩:=hzz
 refine wpAny_bind (wpAny_holding (AR (hi AA s1 σ H1 _ I1 q1) λiv s2 hzz=> ?_))
 obtain⟨y,H2,I2,r2,q2⟩:=hzz
 refine wpAny_bind (wpAny_standAt (wpAny_bind (wpAny_holding (AR (hs AA s2 σ H2 x y v ov iv u _ I2 r1 r2 r q2) λ_ s3 hzz=> ?_))))
 obtain⟨H3,I3,q3⟩:=hzz
 exact wpAny_release ⟨σ,H3,I3,q3⟩
def A4(te:TE)(g:TG):TS:=λD σ H=>te σ H λx H1=>g x σ H1 D.nx
theorem bS{tg e:Expr}{te:TE}{g:TG}(he:PE X e te)(hg:PG X tg g)(hs:swapsWithSole [tg] e pos.line X.env=pure false:=by rfl)(hw:swappedStores [tg] e X.env=pure none:=by rfl)
  (h1:(assignEach [tg] X.env).map (·.2)=[assign tg X.env]:=by rfl):PS X (.Assign [tg] e pos) (A4 te g):=by
 intro AA s σ H D I h
 refine wpAny_Assign_stores (AR (he AA s σ H _ I h) λv s1 hzz=> ?_) hs hw
 obtain⟨x,H1,I1,r1,q1⟩:=hzz
 rw[h1]
 exact AR (hg AA s1 σ H1 x v _ I1 r1 q1) λ_ s2 q=>q
theorem M8{i:Nat}{x:Str}{e:Expr}{te:TE}{pos':Pos}(hN:X.N.Nodup)(hi:X.N[i]? =some x)(hx:LJ X.env.scope x)(he:PE X e te)(hs:swapsWith e (some (.Name x pos')) pos.line X.env=pure false:=by rfl)(hf:X.fn x=true\/X.env.scope.names.lookup x=some .local:=by first | exact .inl rfl | exact .inr rfl | assumption) :
  PS X (.Assign [.Name x pos'] e pos) (A4 te (AM i)):=by
 intro AA s σ H D I h
 refine wpAny_Assign_Name (AR (he AA s σ H _ I h) λv s1 hzz=> ?_) hs
 obtain⟨y,H1,I1,r1,q1⟩:=hzz
 exact bL I1 hN hi hx r1 (λs2 I2=>⟨_,H1,I2,q1⟩) hf
def tV(f:Int->Int->Int):bO:=λx y H Q=>∃ i j,x=.int i/\y=.int j/\Q (.int (f i j)) H
end
section
variable{X:Cx}{pos:Pos}
end
structure It where
 go:Nat->Hp->Prop
 yld:Nat->Hp->V->Hp->Prop
 stop:Nat->Hp->Prop
def FpOk(X:Cx)(AA:List (Addr × Obj))(H:Hp)(b:Addr):Prop :=
 H b=none/\b≠X.env.locals/\b∉X.fs/\(b∈X.ex\/X.s₀.heap.objs.size<=b)/\(∀ x c,X.env.cells.lookup x=some c->c≠b)/\∀ p∈X.pn++AA,p.1≠b
theorem Inv.fpOk{X:Cx}{AA:List (Addr × Obj)}{σ:St}{H H':Hp}{s:Shared}{b:Addr}(I:Inv X AA σ H s)(hb:s.heap.objs.size<=b)(hn:H' b=none):FpOk X AA H' b:=by
 refine⟨hn,Nat.ne_of_gt (Nat.lt_of_lt_of_le I.lt hb),I.nofs hb,.inr (Nat.le_trans I.sz hb),λx c e z=> ?_,λp hp z=> ?_⟩
 ·obtain⟨v,q⟩:=I.cell x c e
  exact absurd (Nat.lt_of_lt_of_le q.lt (by rw[z];exact hb)) (Nat.lt_irrefl _)
 ·exact absurd (Nat.lt_of_lt_of_le (Heap.lt_size (I.pin p hp).1) (by rw[z];exact hb)) (Nat.lt_irrefl _)
structure II(P:Program)(w:World)(K:W.Frag)(tg:Expr)(J:It)(fp:List Addr)(it:Addr)(tn:Nat->Heap->Prop):Prop where
 mem:it∈fp
 obj:∀ i h,tn i h->∀ b∈fp,∃ o,h.get? b=some o/\∀ v,o.data≠.cell v
 keep:∀ i h h',tn i h->(∀ b∈fp,∀ o,h.get? b=some o->h'.get? b=some o)->tn i h'
 item:∀ (X:Cx),X.prog=P->X.w=w->X.K=K->X.calm=true->∀ (i:Nat) (AA:List (Addr × Obj)) (s:Shared) (σ:St) (H:Hp) (E:Value->Shared->Prop),Inv X AA σ H s->(∀ b∈fp,FpOk X AA H b)->tn i s.heap->J.go i H →
  wpAny (model P w) X.A (pyNext (.ref it)) (λr s1=>∃ u,r=some u ∧
   wpAny (model P w) X.A (letOwnedTupleGo tg (.ref it) u) (λ_ s2=>∃ x H',Inv X AA σ H' s2/\RelV x u/\J.yld i H x H'/\tn (i+1) s2.heap/\∀ b∈fp,H' b=none) E s1) E s
 done:∀ (X:Cx),X.prog=P->X.w=w->X.K=K->X.calm=true->∀ (i:Nat) (AA:List (Addr × Obj)) (s:Shared) (σ:St) (H:Hp) (E:Value->Shared->Prop),Inv X AA σ H s->(∀ b∈fp,FpOk X AA H b)->tn i s.heap->J.stop i H →
  wpAny (model P w) X.A (pyNext (.ref it)) (λr s1=>r=none/\Inv X AA σ H s1) E s
 self:∀ (A:Around) (i:Nat) (s:Shared) (Q:Value->Shared->Prop) (E:Value->Shared->Prop),tn i s.heap->Q (.ref it) s->wpAny (model P w) A (pyIter (.ref it)) Q E s
abbrev TI:=St->Hp->(It->Hp->Prop)->Prop
def SB(X:Cx)(AA:List (Addr × Obj))(σ:St)(tg:Expr)(R:It->Hp->Prop)(itv:Value)(s2:Shared):Prop :=
 ∃ (it:Addr) (fp:List Addr) (tn:Nat->Heap->Prop) (J:It) (H':Hp),itv=.ref it/\Inv X AA σ H' s2/\II X.prog X.w X.K tg J fp it tn/\tn 0 s2.heap/\(∀ b∈fp,FpOk X AA H' b)/\R J H'
def PI(X:Cx)(tg iter:Expr)(wi:TI):Prop :=
 ∀ (AA:List (Addr × Obj)) (s:Shared) (σ:St) (H:Hp) (R:It->Hp->Prop),Inv X AA σ H s->wi σ H R →
  wpAny (model X.prog X.w) X.A (eval iter X.env) (λv s1=>wpAny (model X.prog X.w) X.A (pyIter v) (SB X AA σ tg R) X.xe s1) X.xe s
theorem LM{M:Model}{A:Around}{E:Value->Shared->Prop}{s:Shared}{tg:Expr}{it:Addr}{u:Value}{o:Obj}{n:String}{vs:Array Value}{Q:Unit->Shared->Prop}(ho:s.heap.get? it=some o)(hc:o.cls=.type n)(hd:o.data=.fields vs)
    (hn:["enumerate","zip","dict_itemiterator","dict_reverseitemiterator","odict_iterator","itertools.zip_longest","itertools.pairwise"].contains n=false) (hQ:Q () s):wpAny M A (letOwnedTupleGo tg (.ref it) u) Q E s:=by
  unfold letOwnedTupleGo
  cases tg<;>first
    | exact wpAny_pure hQ
    | (cases u<;>first
        | exact wpAny_pure hQ
        | (refine wpAny_bind (wpAny_load ho ?_)
           rw[hc,hd]
           show wpAny M A (if(["enumerate","zip","dict_itemiterator","dict_reverseitemiterator","odict_iterator","itertools.zip_longest","itertools.pairwise"].contains n && vs[0]? == some (rawInt _))=true then _ else _) Q E s
           rw[if_neg (by intro h;rw[hn,Bool.false_and]at h;cases h)]
           exact wpAny_pure hQ))
def IJ(K:W.Frag)(a:Addr):It :=
 ⟨λi H=>∃ xs x,SqL K H a xs/\xs[i]? =some x,λi H x H'=>H'=H/\∀ xs,SqL K H a xs->xs[i]? =some x,λi H=>∃ xs,SqL K H a xs/\xs.length<=i⟩
def IK(K:W.Frag)(a:Addr):It :=
 ⟨λi H=>∃ xs x,SqT K H a xs/\xs[i]? =some x,λi H x H'=>H'=H/\∀ xs,SqT K H a xs->xs[i]? =some x,λi H=>∃ xs,SqT K H a xs/\xs.length<=i⟩
def GD(lo:Int)(n:Nat):It:=⟨λi _=>i<n,λi H x H'=>H'=H/\x=.int (lo+i),λi _=>n<=i⟩
theorem tW{P:Program}{w:World}{K:W.Frag}{tg:Expr}(a it:Addr):II P w K tg (IJ K a) [it] it (λi h=>h.IsListIter it a i) where
 mem:=by simp
 obj:=λi h st b hb=>by
  have e:b=it:=by simpa using hb
  subst e
  obtain⟨o,e,c,d⟩:=st
  exact⟨o,e,λv z=>by rw[d]at z;cases z⟩
 keep:=λi h h' st k=>st.at λo e=>k it (by simp) o e
 item:=by
  intro X hP hw hK hc i AA s σ H E I hf st hg
  subst hP hw hK
  obtain⟨xs,x,hq,hx⟩:=hg
  obtain⟨its,rv,p,hz⟩:=I.list hq
  obtain⟨u,hu,ru⟩:=rv.get hx
  obtain⟨f0,f1,f2,f3,f4,f5⟩:=hf it (by simp)
  refine wpAny_pyNext_list_item st p.isList (x:=u) (by simpa using hu) λh' st' sb=> ?_
  have I1:Inv X AA σ H { s with heap:=h' }:=I.turned (t':=s.toks) (λb o hb e=>(sb.2 b hb).trans e) f0 f1 f3 f4 f5
  obtain⟨o,e,c,d⟩:=id st'
  exact⟨u,rfl,LM (s:={ s with heap:=h' }) e c d (by decide) ⟨x,H,I1,ru,⟨rfl,λys hy=>by rw[I.list_inj hy hq];exact hx⟩,st',λb hb=>(hf b hb).1⟩⟩
 done:=by
  intro X hP hw hK hc i AA s σ H E I hf st hg
  subst hP hw hK
  obtain⟨xs,hq,hx⟩:=hg
  obtain⟨its,rv,p,hz⟩:=I.list hq
  obtain⟨f0,f1,f2,f3,f4,f5⟩:=hf it (by simp)
  have hl:=rv.length
  exact wpAny_pyNext_list_end (I.ok.hd hc) st p.isList (by simp;omega) λh' eb=>⟨rfl,I.turned (t':=s.toks) (λb o hb e=>eb b o hb e) f0 f1 f3 f4 f5⟩
 self:=λ_ _ _ _ _ st h=>wpAny_pyIter_listiter st h
theorem tX{P:Program}{w:World}{K:W.Frag}{tg:Expr}(a it:Addr):II P w K tg (IK K a) [it] it (λi h=>h.IsTupleIter it a i) where
 mem:=by simp
 obj:=λi h st b hb=>by
  have e:b=it:=by simpa using hb
  subst e
  obtain⟨o,e,c,d⟩:=st
  exact⟨o,e,λv z=>by rw[d]at z;cases z⟩
 keep:=λi h h' st k=>st.at λo e=>k it (by simp) o e
 item:=by
  intro X hP hw hK hc i AA s σ H E I hf st hg
  subst hP hw hK
  obtain⟨xs,x,hq,hx⟩:=hg
  obtain⟨its,rv,p,hz⟩:=I.tuple hq
  obtain⟨u,hu,ru⟩:=rv.get hx
  obtain⟨f0,f1,f2,f3,f4,f5⟩:=hf it (by simp)
  refine wpAny_pyNext_tuple_item st (show s.heap.IsTuple a its.toArray from p) (x:=u) (by simpa using hu) λh' st' sb=> ?_
  have I1:Inv X AA σ H { s with heap:=h' }:=I.turned (t':=s.toks) (λb o hb e=>(sb.2 b hb).trans e) f0 f1 f3 f4 f5
  obtain⟨o,e,c,d⟩:=id st'
  exact⟨u,rfl,LM (s:={ s with heap:=h' }) e c d (by decide) ⟨x,H,I1,ru,⟨rfl,λys hy=>by rw[I.tuple_inj hy hq];exact hx⟩,st',λb hb=>(hf b hb).1⟩⟩
 done:=by
  intro X hP hw hK hc i AA s σ H E I hf st hg
  subst hP hw hK
  obtain⟨xs,hq,hx⟩:=hg
  obtain⟨its,rv,p,hz⟩:=I.tuple hq
  obtain⟨f0,f1,f2,f3,f4,f5⟩:=hf it (by simp)
  have hl:=rv.length
  exact wpAny_pyNext_tuple_end (I.ok.hd hc) st (show s.heap.IsTuple a its.toArray from p) (by simp;omega) λh' eb=>⟨rfl,I.turned (t':=s.toks) (λb o hb e=>eb b o hb e) f0 f1 f3 f4 f5⟩
 self:=λ_ _ _ _ _ st h=>wpAny_pyIter_tupleiter st h
theorem tY{P:Program}{w:World}{K:PySem.W.Frag}{tg:Expr}(it:Addr)(lo:Int)(n:Nat):II P w K tg (GD lo n) [it] it (λi h=>IsRangeIter h it (lo+(i:Nat) * 1) ((n:Int) - (i:Nat)) 1) where
 mem:=by simp
 obj:=λi h st b hb=>by
  have e:b=it:=by simpa using hb
  subst e
  exact⟨_,st,λv z=>by
   have z':Data.fields _=Data.cell v:=z
   cases z'⟩
 keep:=λi h h' st k=>k it (by simp) _ st
 item:=by
  intro X hP hw hK hc i AA s σ H E I hf st hg
  subst hP hw hK
  obtain⟨f0,f1,f2,f3,f4,f5⟩:=hf it (by simp)
  have W:=Walks.range (prog:=X.prog) (w:=X.w) (I.ok.hd hc) it lo 1 n
  refine W.item i s _ _ hg st λv h' tk hv st' kk=> ?_
  obtain⟨t,rfl⟩:=hv
  have I1:Inv X AA σ H { s with heap:=h',toks:=tk }:=I.turned (λb o hb e=>kk b o (by simpa using hb) e) f0 f1 f3 f4 f5
  refine⟨_,rfl,LM (s:={ s with heap:=h',toks:=tk }) (n:="range_iterator") st' rfl rfl (by decide) ⟨.int (lo+i),H,I1,⟨t,?_⟩,⟨rfl,rfl⟩,st',λb hb=>(hf b hb).1⟩⟩
  rw[Int.mul_one]
 done:=by
  intro X hP hw hK hc i AA s σ H E I hf st hg
  subst hP hw hK
  obtain⟨f0,f1,f2,f3,f4,f5⟩:=hf it (by simp)
  exact wpAny_pyNext_range_end (I.ok.hd hc) st (by have:n<=i:=hg;omega) λh' eb=>⟨rfl,I.turned (t':=s.toks) (λb o hb e=>eb b o hb e) f0 f1 f3 f4 f5⟩
 self:=λ_ _ _ _ _ st h=>wpAny_pyIter_rangeiter st h
end L2
namespace L2
section
variable{X:Cx}{tg:Expr}
theorem tZ{AA:List (Addr × Obj)}{σ:St}{H:Hp}{s:Shared}{R:It->Hp->Prop}{E:Value->Shared->Prop}{lo hi:Int}{t u v:Tok}{tk:Nat}(I:Inv X AA σ H s)(h1: -(2 ^ 62)<=lo)(h2:lo<2 ^ 62)(h3: -(2 ^ 62)<=hi)(h4:hi<2 ^ 62)
  (q:R (GD lo (hi - lo).toNat) H):wpAny (model X.prog X.w) X.A (pyIter (.ref s.heap.objs.size)) (SB X AA σ tg R) E { s with heap:=s.heap.push { cls:=.type "range",data:=.fields #[.int lo t,.int hi u,.int 1 v] },toks:=tk }:=by
 refine wpAny_pyIter_range (IsRange.new ..) (small_one h1 h2 h3 h4) ?_
 have I1:Inv X AA σ H { s with heap:=s.heap.push { cls:=.type "range",data:=.fields #[.int lo t,.int hi u,.int 1 v] },toks:=tk }:=I.kept λb o e=>Heap.get?_push_of_some _ e
 refine⟨(s.heap.push { cls:=.type "range",data:=.fields #[.int lo t,.int hi u,.int 1 v] }).objs.size,[(s.heap.push { cls:=.type "range",data:=.fields #[.int lo t,.int hi u,.int 1 v] }).objs.size],_,_,H,rfl,
  I1.kept (t':=tk) λb o e=>Heap.get?_push_of_some _ e,tY _ lo (hi - lo).toNat,?_,λb hb=> ?_,q⟩
 ·have e1:lo+((0:Nat):Int) * 1=lo:=by simp
  have e2:(((hi - lo).toNat:Nat):Int) - ((0:Nat):Int)=Builtin.Range.rangeSize lo hi 1:=by rw[rangeSize_one];split<;>omega
  show IsRangeIter _ _ (lo+((0:Nat):Int) * 1) ((((hi - lo).toNat:Nat):Int) - ((0:Nat):Int)) 1
  rw[e1,e2]
  exact Heap.get?_push_size _ rfl
 ·have e:b=(s.heap.push { cls:=.type "range",data:=.fields #[.int lo t,.int hi u,.int 1 v] }).objs.size:=by simpa using hb
  subst e
  exact I1.fpOk (Nat.le_refl _) (I1.hok.fresh (Nat.le_refl _))
def EK(ta:TA):TI:=λσ H R=>ta σ H λvs H1=>∃ j:Int,vs=[.int j]/\ -(2 ^ 62)<=j/\j<2 ^ 62/\R (GD 0 j.toNat) H1
theorem FC{a:Expr}{ta:TA}{p pos:Pos}(hg:Gl X "range")(hm:X.mg "range"=none)(ha:PA X [a] ta)(hs:starEach [a] X.env=[(false,eval a X.env)]:=by rfl):PI X tg (.Call (.Name "range" p) [a] [] pos) (EK ta):=by
 intro AA s σ H R I h
 refine Call_ (ON I hg hm boot_range (PyProof.Rows.callWith_type1 (AR (ha pos AA s σ H _ I h) λus s1 hzz=> ?_) hs rfl))
 obtain⟨vs,H1,I1,r1,q1⟩:=hzz
 obtain⟨j,e,q1,q2,q⟩:=q1
 subst e
 cases r1 with
 | cons r rr =>
  cases rr
  obtain⟨t,rfl⟩:=r
  exact call_range_1 (tZ I1 (by omega) (by omega) q1 q2 (by simpa using q))
def DT(wi:TI)(g:TG)(tb:TS):TS:=λD σ H=>wi σ H λJ H1=>∃ W:Nat->Nat->St->Hp->Prop,(∃ m,W 0 m σ H1)/\∀ i m σ H,W i m σ H →
 (J.stop i H/\D.nx σ H)\/(J.go i H/\∃ N:St->Hp->Prop,(∀ σ' H',N σ' H'->∃ m',m'<m/\W (i+1) m' σ' H')/\∀ x H',J.yld i H x H'->g x σ H' λσ2 H2=>tb { D with nx:=N,ct:=N,bk:=D.nx } σ2 H2)
def LN(fp:List Addr)(h:Heap):List (Addr × Obj):=fp.filterMap λb=>(h.get? b).map λo=>(b,o)
theorem LO{fp:List Addr}{h:Heap}{b:Addr}{o:Obj}(hb:b∈fp)(e:h.get? b=some o):(b,o)∈LN fp h:=List.mem_filterMap.mpr ⟨b,hb,by rw[e];rfl⟩
theorem t3{fp:List Addr}{h:Heap}{p:Addr × Obj}(hp:p∈LN fp h):p.1∈fp/\h.get? p.1=some p.2:=by
 obtain⟨b,hb,e⟩:=List.mem_filterMap.mp hp
 cases q:h.get? b with
 | none=>rw[q]at e;cases e
 | some o =>
  rw[q]at e
  have e':(b,o)=p:=Option.some.inj e
  subst e'
  exact⟨hb,q⟩
theorem Inv.pinned{AA:List (Addr × Obj)}{σ:St}{H:Hp}{s:Shared}{fp:List Addr}(I:Inv X AA σ H s)(hf:∀ b∈fp,FpOk X AA H b)(ho:∀ b∈fp,∃ o,s.heap.get? b=some o/\∀ v,o.data≠.cell v):Inv X (AA++LN fp s.heap) σ H s :=
 I.pins_of λp hp=>(List.mem_append.mp hp).elim (λz=>I.pin p (List.mem_append_right _ z)) λz=>by
  obtain⟨hb,e⟩:=t3 z
  obtain⟨f0,f1,f2,_⟩:=hf p.1 hb
  obtain⟨o,e',d⟩:=ho p.1 hb
  rw[e]at e';cases e'
  exact⟨e,f0,f1,f2,d⟩
theorem Inv.unpinned{AA pl:List (Addr × Obj)}{σ:St}{H:Hp}{s:Shared}(I:Inv X (AA++pl) σ H s):Inv X AA σ H s:=I.pins_of λp hp=>I.pin p (List.mem_append_right _ (List.mem_append_left _ hp))
theorem EL{iter:Expr}{body:List Stmt}{wi:TI}{g:TG}{tb:TS}{pos:Pos}(hp:PassesOwn (model X.prog X.w) X.A X.env X.xe)(hc:X.calm=true)(hi:PI X tg iter wi)(hg:PG X tg g)(hb:FN X body tb)
  (hs:∀ x,foldedSetIterable iter X.env x=pure x:=by intro _;rfl):PS X (.For tg iter body [] pos) (DT wi g tb):=by
 intro AA s σ H D I h
 refine wpAny_For (AR (hi AA s σ H _ I h) λv s1 h1=>AR h1 λitv s2 h2=> ?_) hs
 obtain⟨it,fp,tn,J,H2,e,I2,T,st2,f2,W,⟨m0,w0⟩,turn⟩:=h2
 subst e
 have stat:∀ {H':Hp},(∀ b∈fp,H' b=none)->∀ b∈fp,FpOk X AA H' b:=λhn b hb=>⟨hn b hb,(f2 b hb).2⟩
 refine codeAny_forLoop_any (λn s'=>∃ i σ' H',Inv X AA σ' H' s'/\tn i s'.heap/\(∀ b∈fp,H' b=none)/\W i n σ' H') ?_ m0 ⟨0,σ,H2,I2,st2,λb hb=>(f2 b hb).1,w0⟩
 rintro n s3 ⟨i,σ3,H3,I3,st3,fr3,w3⟩
 rcases turn i n σ3 H3 w3 with⟨stop,qn⟩ | ⟨go,N,hN,step⟩
 ·refine wpAny_passesOwn hp (AR (T.done X rfl rfl rfl hc i AA s3 σ3 H3 X.xe I3 (stat fr3) st3 stop) λr s4 ⟨hr,I4⟩=> ?_)
  subst hr
  exact wpAny_execs_nil ⟨σ3,H3,I4,qn⟩
 ·refine wpAny_passesOwn hp (AR (T.item X rfl rfl rfl hc i AA s3 σ3 H3 X.xe I3 (stat fr3) st3 go) λr s4 hzz=> ?_)
  obtain⟨u,hr,h4⟩:=hzz
  subst hr
  refine wpAny_passesOwn hp (AR h4 λ_ s5 hzz=> ?_)
  obtain⟨x,H5,I5,r5,y5,st5,fr5⟩:=hzz
  have I5':=I5.pinned (stat fr5) (T.obj _ _ st5)
  refine wpAny_passesOwn hp (AR (hg _ s5 σ3 H5 x u _ I5' r5 (step x H5 y5)) λ_ s6 hzz=> ?_)
  obtain⟨σ6,H6,I6,q6⟩:=hzz
  refine wpAny_passesOwn hp (AR (hb _ s6 σ6 H6 _ I6 q6) λf s7 q7=> ?_)
  have again:∀ {σ7:St} {H7:Hp},Inv X (AA++LN fp s5.heap) σ7 H7 s7->N σ7 H7->∃ m,m<n/\∃ i σ' H',Inv X AA σ' H' s7/\tn i s7.heap/\(∀ b∈fp,H' b=none)/\W i m σ' H':=λ{σ7 H7} I7 n7=>by
   obtain⟨m',hm,w7⟩:=hN σ7 H7 n7
   refine⟨m',hm,i+1,σ7,H7,I7.unpinned,T.keep _ _ _ st5 λb hb o e=>(I7.pin (b,o) (List.mem_append_right _ (List.mem_append_right _ (LO hb e)))).1,λb hb=> ?_,w7⟩
   obtain⟨o,e,d⟩:=T.obj _ _ st5 b hb
   exact(I7.pin (b,o) (List.mem_append_right _ (List.mem_append_right _ (LO hb e)))).2.1
  cases f with
  | next=>obtain⟨σ7,H7,I7,n7⟩:=q7;exact again I7 n7
  | cont=>obtain⟨σ7,H7,I7,n7⟩:=q7;exact again I7 n7
  | brk=>obtain⟨σ7,H7,I7,q7⟩:=q7;exact⟨σ7,H7,I7.unpinned,q7⟩
  | ret v=>obtain⟨x7,σ7,H7,I7,r7,q7⟩:=q7;exact⟨x7,σ7,H7,I7.unpinned,r7,q7⟩
end
theorem t4{K:PySem.W.Frag}{a:Addr}{xs:List V}{g:TG}{tb:TS}{D:Ends}{σ:St}{H:Hp}(Pv:Nat->St->Hp->Prop)(h0:Pv 0 σ H)(hl:∀ i σ H,i<=xs.length->Pv i σ H->SqL K H a xs)
  (hs:∀ i x σ H,xs[i]? =some x->Pv i σ H->g x σ H λσ2 H2=>tb { D with nx:=Pv (i+1),ct:=Pv (i+1),bk:=D.nx } σ2 H2) (hd:∀ σ H,Pv xs.length σ H->D.nx σ H) :
  ∃ W:Nat->Nat->St->Hp->Prop,(∃ m,W 0 m σ H)/\∀ i m σ H,W i m σ H →
   ((IJ K a).stop i H/\D.nx σ H)\/((IJ K a).go i H/\∃ N:St->Hp->Prop,(∀ σ' H',N σ' H'->∃ m',m'<m/\W (i+1) m' σ' H')/\∀ x H',(IJ K a).yld i H x H'->g x σ H' λσ2 H2=>tb { D with nx:=N,ct:=N,bk:=D.nx } σ2 H2):=by
 refine⟨λi m σ H=>m=xs.length - i/\i<=xs.length/\Pv i σ H,⟨xs.length,by simp,Nat.zero_le _,h0⟩,?_⟩
 rintro i m σ H ⟨rfl,hi,p⟩
 have q:=hl i σ H hi p
 by_cases BC:i<xs.length
 ·refine .inr ⟨⟨xs,xs[i],q,by simp[BC]⟩,Pv (i+1),λσ' H' p'=>⟨xs.length - (i+1),by omega,rfl,BC,p'⟩,λx H' y=> ?_⟩
  obtain⟨e,y⟩:=y
  subst e
  exact hs i x σ _ (y xs q) p
 ·have e:i=xs.length:=by omega
  subst e
  exact .inl ⟨⟨xs,q,Nat.le_refl _⟩,hd σ H p⟩
theorem t5{K:PySem.W.Frag}{a:Addr}{xs:List V}{g:TG}{tb:TS}{D:Ends}{σ:St}{H:Hp}(Pv:Nat->St->Hp->Prop)(h0:Pv 0 σ H)(hl:∀ i σ H,i<=xs.length->Pv i σ H->SqT K H a xs)
  (hs:∀ i x σ H,xs[i]? =some x->Pv i σ H->g x σ H λσ2 H2=>tb { D with nx:=Pv (i+1),ct:=Pv (i+1),bk:=D.nx } σ2 H2) (hd:∀ σ H,Pv xs.length σ H->D.nx σ H) :
  ∃ W:Nat->Nat->St->Hp->Prop,(∃ m,W 0 m σ H)/\∀ i m σ H,W i m σ H →
   ((IK K a).stop i H/\D.nx σ H)\/((IK K a).go i H/\∃ N:St->Hp->Prop,(∀ σ' H',N σ' H'->∃ m',m'<m/\W (i+1) m' σ' H')/\∀ x H',(IK K a).yld i H x H'->g x σ H' λσ2 H2=>tb { D with nx:=N,ct:=N,bk:=D.nx } σ2 H2):=by
 refine⟨λi m σ H=>m=xs.length - i/\i<=xs.length/\Pv i σ H,⟨xs.length,by simp,Nat.zero_le _,h0⟩,?_⟩
 rintro i m σ H ⟨rfl,hi,p⟩
 have q:=hl i σ H hi p
 by_cases BC:i<xs.length
 ·refine .inr ⟨⟨xs,xs[i],q,by simp[BC]⟩,Pv (i+1),λσ' H' p'=>⟨xs.length - (i+1),by omega,rfl,BC,p'⟩,λx H' y=> ?_⟩
  obtain⟨e,y⟩:=y
  subst e
  exact hs i x σ _ (y xs q) p
 ·have e:i=xs.length:=by omega
  subst e
  exact .inl ⟨⟨xs,q,Nat.le_refl _⟩,hd σ H p⟩
theorem t7{lo:Int}{n:Nat}{g:TG}{tb:TS}{D:Ends}{σ:St}{H:Hp}(Pv:Nat->St->Hp->Prop)(h0:Pv 0 σ H)
  (hs:∀ i σ H,i<n->Pv i σ H->g (.int (lo+i)) σ H λσ2 H2=>tb { D with nx:=Pv (i+1),ct:=Pv (i+1),bk:=D.nx } σ2 H2) (hd:∀ σ H,Pv n σ H->D.nx σ H) :
  ∃ W:Nat->Nat->St->Hp->Prop,(∃ m,W 0 m σ H)/\∀ i m σ H,W i m σ H →
   ((GD lo n).stop i H/\D.nx σ H)\/((GD lo n).go i H/\∃ N:St->Hp->Prop,(∀ σ' H',N σ' H'->∃ m',m'<m/\W (i+1) m' σ' H')/\∀ x H',(GD lo n).yld i H x H'->g x σ H' λσ2 H2=>tb { D with nx:=N,ct:=N,bk:=D.nx } σ2 H2):=by
 refine⟨λi m σ H=>m=n - i/\i<=n/\Pv i σ H,⟨n,by simp,Nat.zero_le _,h0⟩,?_⟩
 rintro i m σ H ⟨rfl,hi,p⟩
 by_cases BC:i<n
 ·refine .inr ⟨BC,Pv (i+1),λσ' H' p'=>⟨n - (i+1),by omega,rfl,BC,p'⟩,λx H' y=> ?_⟩
  obtain⟨e,y⟩:=y
  subst e y
  exact hs i σ _ BC p
 ·have e:i=n:=by omega
  subst e
  exact .inl ⟨Nat.le_refl _,hd σ H p⟩
end L2
namespace L2
abbrev R2:=V->V->Hp->VK->Prop
def B8(X:Cx)(f:Value->Value->Sem Value)(r:R2):Prop :=
 ∀ (AA:List (Addr × Obj)) (s:Shared) (σ:St) (H:Hp) (x y:V) (v u:Value) (Q:VK),Inv X AA σ H s->RelV x v->RelV y u->r x y H Q →
  wpAny (model X.prog X.w) X.A (f v u) (EP X AA σ Q) X.xe s
def SD(X:Cx)(f:Value->Sem Value)(r:V->Hp->VK->Prop):Prop :=
 ∀ (AA:List (Addr × Obj)) (s:Shared) (σ:St) (H:Hp) (x:V) (v:Value) (Q:VK),Inv X AA σ H s->RelV x v->r x H Q →
  wpAny (model X.prog X.w) X.A (f v) (EP X AA σ Q) X.xe s
def FD(X:Cx)(f:Value)(r:List V->Hp->VK->Prop):Prop :=
 ∀ (AA:List (Addr × Obj)) (s:Shared) (σ:St) (H:Hp) (xs:List V) (us:List Value) (Q:VK),Inv X AA σ H s->Vals xs us->r xs H Q →
  wpAny (model X.prog X.w) X.A (call f us) (EP X AA σ Q) X.xe s
def t8(X:Cx)(r:V->Hp->(Bool->Hp->Prop)->Prop):Prop :=
 ∀ (AA:List (Addr × Obj)) (s:Shared) (σ:St) (H:Hp) (x:V) (v:Value) (Q:Bool->Hp->Prop),Inv X AA σ H s->RelV x v->r x H Q →
  wpAny (model X.prog X.w) X.A (truthy v) (TP X AA σ Q) X.xe s
def AF(r:R2)(ta tb:TE):TE:=λσ H Q=>ta σ H λx H1=>tb σ H1 λy H2=>r x y H2 Q
def OW(r:V->Hp->VK->Prop)(ta:TE):TE:=λσ H Q=>ta σ H λx H1=>r x H1 Q
def rI(C:Int->Int->Prop)(g:Int->Int->V):R2:=λx y H Q=>∃ i j,x=.int i/\y=.int j/\C i j/\Q (g i j) H
def HR(g:Int->Int->V):R2:=λx y H Q=>∃ i j,x=.int i/\y=.int j/\Q (g i j) H
def rU(g:Int->V):V->Hp->VK->Prop:=λx H Q=>∃ i,x=.int i/\Q (g i) H
section
variable{X:Cx}{a b c:Expr}{ta tb tc:TE}{pos:Pos}
theorem SE(ha:PE X a ta)(hb:PE X b tb){AA:List (Addr × Obj)}{s:Shared}{σ:St}{H:Hp}{R:V->V->Hp->Prop}(I:Inv X AA σ H s)
  (h:ta σ H λx H1=>tb σ H1 λy H2=>R x y H2) {Q:Value->Shared->Prop} {f:Value->Value->Sem Value}
  (hf:∀ v u s2 x y H2,Inv X AA σ H2 s2->RelV x v->RelV y u->R x y H2->wpAny (model X.prog X.w) X.A (f v u) Q X.xe s2) :
  wpAny (model X.prog X.w) X.A (eval a X.env) (λv s₁=>wpAny (model X.prog X.w) X.A (eval b X.env) (λu s₂=>wpAny (model X.prog X.w) X.A (f v u) Q X.xe s₂) X.xe s₁) X.xe s:=by
 refine AR (ha AA s σ H _ I h) λv s1 hzz=> ?_
 obtain⟨x,H1,I1,r1,q1⟩:=hzz
 refine AR (hb AA s1 σ H1 _ I1 q1) λu s2 hzz=> ?_
 obtain⟨y,H2,I2,r2,q2⟩:=hzz
 exact hf v u s2 x y H2 I2 r1 r2 q2
theorem AV{op:Operator}{r:R2}(ho:B8 X (binaryOp op) r)(ha:PE X a ta)(hb:PE X b tb):PE X (.BinOp a op b pos) (AF r ta tb):=by
 intro AA s σ H Q I h
 exact wpAny_BinOp (SE ha hb I h λv u s2 x y H2 I2 rx ry q=>ho AA s2 σ H2 x y v u Q I2 rx ry q)
theorem bT{op:UnaryOp}{r:V->Hp->VK->Prop}(ho:SD X (unaryOp op) r)(ha:PE X a ta):PE X (.UnaryOp op a pos) (OW r ta):=by
 intro AA s σ H Q I h
 exact UnaryOp_ (AR (ha AA s σ H _ I h) λv s1 ⟨x,H1,I1,r1,q1⟩=>ho AA s1 σ H1 x v Q I1 r1 q1)
theorem SF{f:Value->Value->Sem Value}{C:Int->Int->Prop}{g:Int->Int->Int}
  (rule:∀ (i j:Int) (t u:Tok) (s:Shared) (Q:Value->Shared->Prop) (E:Value->Shared->Prop),C i j->Q (.int (g i j) s.toks) { s with toks:=s.toks+1 }->wpAny (model X.prog X.w) X.A (f (.int i t) (.int j u)) Q E s) :
  B8 X f (rI C λi j=>.int (g i j)):=by
 intro AA s σ H x y v u Q I rx ry h
 obtain⟨i,j,rfl,rfl,hc,q⟩:=h
 obtain⟨t,rfl⟩:=rx
 obtain⟨t',rfl⟩:=ry
 exact rule i j t t' s _ _ hc ⟨.int (g i j),H,I.tok _,⟨_,rfl⟩,q⟩
theorem bU{f:Value->Value->Sem Value}{g:Int->Int->Int}
  (rule:∀ (i j:Int) (t u:Tok) (s:Shared) (Q:Value->Shared->Prop) (E:Value->Shared->Prop),Q (.int (g i j) s.toks) { s with toks:=s.toks+1 }->wpAny (model X.prog X.w) X.A (f (.int i t) (.int j u)) Q E s) :
  B8 X f (HR λi j=>.int (g i j)):=by
 intro AA s σ H x y v u Q I rx ry h
 obtain⟨i,j,rfl,rfl,q⟩:=h
 obtain⟨t,rfl⟩:=rx
 obtain⟨t',rfl⟩:=ry
 exact rule i j t t' s _ _ ⟨.int (g i j),H,I.tok _,⟨_,rfl⟩,q⟩
theorem SG{f:Value->Value->Sem Value}{g:Int->Int->Bool}
  (rule:∀ (i j:Int) (t u:Tok) (s:Shared) (Q:Value->Shared->Prop) (E:Value->Shared->Prop),Q (.bool (g i j)) s->wpAny (model X.prog X.w) X.A (f (.int i t) (.int j u)) Q E s) :
  B8 X f (HR λi j=>.bl (g i j)):=by
 intro AA s σ H x y v u Q I rx ry h
 obtain⟨i,j,rfl,rfl,q⟩:=h
 obtain⟨t,rfl⟩:=rx
 obtain⟨t',rfl⟩:=ry
 exact rule i j t t' s _ _ ⟨.bl (g i j),H,I,rfl,q⟩
def bV(i j:Int):Prop:=0<j/\j<1073741824
def uA(i j:Int):Prop:=0<=j/\j<=1000000/\i.natAbs<2 ^ 64
def CMul(i j:Int):Prop:=(-(2 ^ 64)<i/\i<2 ^ 64)\/(-(2 ^ 64)<j/\j<2 ^ 64)
theorem CMul.ok{i j:Int}(h:CMul i j):IntMulOk i j:=by
 rcases h with⟨h1,h2⟩ | ⟨h1,h2⟩
 ·exact .of_left (intBits_le_64 h1 h2)
 ·exact .of_right (intBits_le_64 h1 h2)
theorem uB:B8 X (binaryOp .Add) (HR λi j=>.int (i+j)):=bU λ_ _ _ _ _ _ _ q=>add_int q
theorem SH:B8 X (binaryOp .Sub) (HR λi j=>.int (i - j)):=bU λ_ _ _ _ _ _ _ q=>sub_int q
theorem uC:B8 X (binaryOp .Mult) (rI CMul λi j=>.int (i * j)):=SF λ_ _ _ _ _ _ _ hc q=>mul_int q hc.ok
theorem DL:B8 X (binaryOp .FloorDiv) (rI bV λi j=>.int (i / j)):=SF λi j _ _ _ _ _ hc q=>by
 have h1:(0:Int)<j:=hc.1
 have h2:j<1073741824:=hc.2
 exact floordiv_int (by omega) (by rw[Int.fdiv_eq_ediv_of_nonneg i (by omega)];exact q) (.inl (PyProof.noPylong_small (by omega)))
theorem C2:B8 X (binaryOp .Mod) (rI (λ_ j=>0<j) λi j=>.int (i % j)):=SF λi j _ _ _ _ _ hc q=>by
 have h1:(0:Int)<j:=hc
 exact mod_int' (by omega) (by rw[Int.fmod_eq_emod_of_nonneg i (by omega)];exact q)
theorem uD{f:Value->Sem Value}{g:Int->Int}
  (rule:∀ (i:Int) (t:Tok) (s:Shared) (Q:Value->Shared->Prop) (E:Value->Shared->Prop),Q (.int (g i) s.toks) { s with toks:=s.toks+1 }->wpAny (model X.prog X.w) X.A (f (.int i t)) Q E s) :
  SD X f (rU λi=>.int (g i)):=by
 intro AA s σ H x v Q I rx h
 obtain⟨i,rfl,q⟩:=h
 obtain⟨t,rfl⟩:=rx
 exact rule i t s _ _ ⟨.int (g i),H,I.tok _,⟨_,rfl⟩,q⟩
theorem bW:SD X (unaryOp .USub) (rU λi=>.int (-i)):=uD λ_ _ _ _ _ q=>neg_int q
end
def GE:V->V->Bool
 | .non,.non=>true | .non,.int _=>true | .int _,.non=>true | .non,.bl _=>true | .bl _,.non=>true | .non,.str _=>true | .str _,.non=>true
 | .int _,.int _=>true | .bl _,.bl _=>true | .str _,.str _=>true | .byt _,.byt _=>true
 | .int _,.str _=>true | .str _,.int _=>true | .bl _,.str _=>true | .str _,.bl _=>true
 | _,_=>false
def uE:R2:=λx y H Q=>GE x y=true/\Q (.bl (decide (x=y))) H
def uF:R2:=λx y H Q=>GE x y=true/\Q (.bl (!decide (x=y))) H
theorem bX{i j:Int}:decide (V.int i=V.int j)=(i == j):=by
 rw[Bool.eq_iff_iff]
 simp
theorem bY{i j:Bool}:decide (V.bl i=V.bl j)=(i == j):=by
 rw[Bool.eq_iff_iff]
 simp
theorem bZ{i j:Str}:decide (V.str i=V.str j)=(i == j):=by
 rw[Bool.eq_iff_iff]
 simp
theorem cA{i j:Array UInt8}:decide (V.byt i=V.byt j)=(i.toList == j.toList):=by
 rw[Bool.eq_iff_iff]
 cases i
 cases j
 simp
section
variable{X:Cx}{a b c:Expr}{ta tb tc:TE}{pos:Pos}
theorem CQ{AA:List (Addr × Obj)}{σ:St}{H:Hp}{s:Shared}{Q:VK}{k k':Bool}(I:Inv X AA σ H s)(q:Q (.bl k) H)(e:k=k'):EP X AA σ Q (.bool k') s:=by
 subst e
 exact⟨.bl k,H,I,rfl,q⟩
theorem uG:B8 X (compareOp .Eq) uE:=by
 intro AA s σ H x y v u Q I rx ry h
 obtain⟨hs,q⟩:=h
 cases x with
 | non =>
  cases rx
  cases y with
  | non=>cases ry;exact PySem.EqNone.eq_none_none (CQ I q (by simp))
  | bl j=>cases ry;exact PySem.EqNone.eq_none_bool (CQ I q (by simp))
  | int j=>obtain⟨t',rfl⟩:=ry;exact PySem.EqNone.eq_none_int (CQ I q (by simp))
  | str j=>obtain⟨t',rfl⟩:=ry;exact PySem.EqNone.eq_none_str (CQ I q (by simp))
  | _=>exact absurd (show false=true from hs) Bool.false_ne_true
 | bl i =>
  cases rx
  cases y with
  | non=>cases ry;exact PySem.EqNone.eq_bool_none (CQ I q (by simp))
  | bl j=>cases ry;exact eq_bool (CQ I q bY)
  | str j=>obtain⟨t',rfl⟩:=ry;exact PySem.EqMixed.eq_bool_str (CQ I q (by simp))
  | _=>exact absurd (show false=true from hs) Bool.false_ne_true
 | int i =>
  obtain⟨t,rfl⟩:=rx
  cases y with
  | non=>cases ry;exact PySem.EqNone.eq_int_none (CQ I q (by simp))
  | int j=>obtain⟨t',rfl⟩:=ry;exact eq_int (CQ I q bX)
  | str j=>obtain⟨t',rfl⟩:=ry;exact PySem.EqMixed.eq_int_str (CQ I q (by simp))
  | _=>exact absurd (show false=true from hs) Bool.false_ne_true
 | str i =>
  obtain⟨t,rfl⟩:=rx
  cases y with
  | non=>cases ry;exact PySem.EqNone.eq_str_none (CQ I q (by simp))
  | bl j=>cases ry;exact PySem.EqMixed.eq_str_bool (CQ I q (by simp))
  | int j=>obtain⟨t',rfl⟩:=ry;exact PySem.EqMixed.eq_str_int (CQ I q (by simp))
  | str j=>obtain⟨t',rfl⟩:=ry;exact eq_str (CQ I q bZ)
  | _=>exact absurd (show false=true from hs) Bool.false_ne_true
 | byt i =>
  obtain⟨t,rfl⟩:=rx
  cases y with
  | byt j=>obtain⟨t',rfl⟩:=ry;exact W.eq_bytes (CQ I q cA)
  | _=>exact absurd (show false=true from hs) Bool.false_ne_true
 | _=>cases y<;>exact absurd (show false=true from hs) Bool.false_ne_true
theorem uH:B8 X (compareOp .NotEq) uF:=by
 intro AA s σ H x y v u Q I rx ry h
 obtain⟨hs,q⟩:=h
 cases x with
 | non =>
  cases rx
  cases y with
  | non=>cases ry;exact PySem.EqNone.ne_none_none (CQ I q (by simp))
  | bl j=>cases ry;exact PySem.EqNone.ne_none_bool (CQ I q (by simp))
  | int j=>obtain⟨t',rfl⟩:=ry;exact PySem.EqNone.ne_none_int (CQ I q (by simp))
  | str j=>obtain⟨t',rfl⟩:=ry;exact PySem.EqNone.ne_none_str (CQ I q (by simp))
  | _=>exact absurd (show false=true from hs) Bool.false_ne_true
 | bl i =>
  cases rx
  cases y with
  | non=>cases ry;exact PySem.EqNone.ne_bool_none (CQ I q (by simp))
  | bl j=>cases ry;exact ne_bool (CQ I q (congrArg not bY))
  | str j=>obtain⟨t',rfl⟩:=ry;exact PySem.EqMixed.ne_bool_str (CQ I q (by simp))
  | _=>exact absurd (show false=true from hs) Bool.false_ne_true
 | int i =>
  obtain⟨t,rfl⟩:=rx
  cases y with
  | non=>cases ry;exact PySem.EqNone.ne_int_none (CQ I q (by simp))
  | int j=>obtain⟨t',rfl⟩:=ry;exact ne_int (CQ I q (congrArg not bX))
  | str j=>obtain⟨t',rfl⟩:=ry;exact PySem.EqMixed.ne_int_str (CQ I q (by simp))
  | _=>exact absurd (show false=true from hs) Bool.false_ne_true
 | str i =>
  obtain⟨t,rfl⟩:=rx
  cases y with
  | non=>cases ry;exact PySem.EqNone.ne_str_none (CQ I q (by simp))
  | bl j=>cases ry;exact PySem.EqMixed.ne_str_bool (CQ I q (by simp))
  | int j=>obtain⟨t',rfl⟩:=ry;exact PySem.EqMixed.ne_str_int (CQ I q (by simp))
  | str j=>obtain⟨t',rfl⟩:=ry;exact ne_str (CQ I q (congrArg not bZ))
  | _=>exact absurd (show false=true from hs) Bool.false_ne_true
 | byt i =>
  obtain⟨t,rfl⟩:=rx
  cases y with
  | byt j=>obtain⟨t',rfl⟩:=ry;exact W.ne_bytes (CQ I q (congrArg not cA))
  | _=>exact absurd (show false=true from hs) Bool.false_ne_true
 | _=>cases y<;>exact absurd (show false=true from hs) Bool.false_ne_true
theorem uI:B8 X (compareOp .Lt) (HR λi j=>.bl (decide (i<j))):=SG λ_ _ _ _ _ _ _ q=>lt_int q
theorem uJ:B8 X (compareOp .LtE) (HR λi j=>.bl (decide (i<=j))):=SG λ_ _ _ _ _ _ _ q=>le_int q
theorem uK:B8 X (compareOp .Gt) (HR λi j=>.bl (decide (j<i))):=SG λ_ _ _ _ _ _ _ q=>gt_int q
theorem M9:B8 X (compareOp .Is) (λx y H Q=>y=.non/\Q (.bl (decide (x=.non))) H):=by
 intro AA s σ H x y v u Q I rx ry h
 obtain⟨rfl,q⟩:=h
 cases ry
 refine is_none_gen (CQ I q ?_)
 cases x<;>first
  | (cases rx;rfl)
  | (obtain⟨t,rfl⟩:=rx;rfl)
theorem OX:B8 X (compareOp .IsNot) (λx y H Q=>y=.non/\Q (.bl (!decide (x=.non))) H):=by
 intro AA s σ H x y v u Q I rx ry h
 obtain⟨rfl,q⟩:=h
 cases ry
 refine isnot_none_gen (CQ I q ?_)
 cases x<;>first
  | (cases rx;rfl)
  | (obtain⟨t,rfl⟩:=rx;rfl)
theorem C3(b:Expr){op:CmpOp}(h:op≠.In:=by decide)(h2:op≠.NotIn:=by decide):behindInMarks op b=false:=by
 have e1:(op == CmpOp.In)=false:=by cases op<;>first | rfl | exact absurd rfl h
 have e2:(op == CmpOp.NotIn)=false:=by cases op<;>first | rfl | exact absurd rfl h2
 cases b<;>simp[behindInMarks,e1,e2]
theorem uL{op:CmpOp}{r:R2}(ho:B8 X (compareOp op) r)(ha:PE X a ta)(hb:PE X b tb)(hm:behindInMarks op b=false):PE X (.Compare a [op] [b] pos) (AF r ta tb):=by
 intro AA s σ H Q I h
 exact wpAny_Compare1 (SE ha hb I h λv u s2 x y H2 I2 rx ry q=>ho AA s2 σ H2 x y v u Q I2 rx ry q) hm
def B1(t:TE):TT:=λσ H Q=>t σ H λx H'=>∃ k,x=.bl k/\Q k H'
theorem CS{op:CmpOp}{r:R2}(ho:B8 X (compareOp op) r)(ha:PE X a ta)(hb:PE X b tb)(hm:behindInMarks op b=false):PT X (.Compare a [op] [b] pos) (B1 (AF r ta tb)):=by
 intro AA s σ H Q I h
 refine wpAny_isTrue_Compare1 (AR (ha AA s σ H _ I h) λv s1 ⟨x,H1,I1,r1,q1⟩=>AR (hb AA s1 σ H1 _ I1 q1) λu s2 ⟨y,H2,I2,r2,q2⟩ =>
  AR (ho AA s2 σ H2 x y v u _ I2 r1 r2 q2) λc s3 ⟨z,H3,I3,r3,k,e,q3⟩=> ?_) hm
 subst e
 cases r3
 exact wpAny_truthy_bool ⟨H3,I3,q3⟩
def GG(r r':R2)(ta tb tc:TE):TE:=λσ H Q=>ta σ H λx H1=>tb σ H1 λy H2=>r x y H2 λz H3=>∃ k,z=.bl k ∧
 (if k=true then tc σ H3 λw' H4=>r' y w' H4 Q else Q (.bl false) H3)
theorem OY{op op':CmpOp}{r r':R2}(ho:B8 X (compareOp op) r)(ho':B8 X (compareOp op') r')(ha:PE X a ta)(hb:PE X b tb)(hc:PE X c tc)
  (hm:lastMarks [op,op'] [b,c]=false:=by with_unfolding_all rfl):PE X (.Compare a [op,op'] [b,c] pos) (GG r r' ta tb tc):=by
 intro AA s σ H Q I h
 refine Compare_chain (AR (ha AA s σ H _ I h) λv s1 ⟨x,H1,I1,r1,q1⟩=>chain_link (AR (hb AA s1 σ H1 _ I1 q1) λu s2 ⟨y,H2,I2,r2,q2⟩ =>
  AR (ho AA s2 σ H2 x y v u _ I2 r1 r2 q2) λd s3 ⟨z,H3,I3,r3,k,e,q3⟩=> ?_)) hm
 subst e
 cases r3
 refine wpAny_truthy_bool ?_
 cases k with
 | false=>exact ite_ff ⟨.bl false,H3,I3,rfl,q3⟩
 | true=>exact ite_tt (chain_last (AR (hc AA s3 σ H3 _ I3 q3) λw' s4 ⟨z',H4,I4,r4,q4⟩=>ho' AA s4 σ H4 y z' u w' Q I4 r2 r4 q4))
theorem NA{op op':CmpOp}{r r':R2}(ho:B8 X (compareOp op) r)(ho':B8 X (compareOp op') r')(ha:PE X a ta)(hb:PE X b tb)(hc:PE X c tc)
  (hm:lastMarks [op,op'] [b,c]=false:=by with_unfolding_all rfl):PT X (.Compare a [op,op'] [b,c] pos) (B1 (GG r r' ta tb tc)):=by
 intro AA s σ H Q I h
 refine isTrue_chain (AR (ha AA s σ H _ I h) λv s1 ⟨x,H1,I1,r1,q1⟩=>test_link (AR (hb AA s1 σ H1 _ I1 q1) λu s2 ⟨y,H2,I2,r2,q2⟩ =>
  AR (ho AA s2 σ H2 x y v u _ I2 r1 r2 q2) λd s3 ⟨z,H3,I3,r3,k,e,q3⟩=> ?_)) hm
 subst e
 cases r3
 refine wpAny_truthy_bool ?_
 cases k with
 | false =>
  obtain⟨k',e',q'⟩:=q3
  cases e'
  exact ite_ff ⟨H3,I3,q'⟩
 | true =>
  refine ite_tt (test_last (AR (hc AA s3 σ H3 _ I3 q3) λw' s4 ⟨z',H4,I4,r4,q4⟩=>AR (ho' AA s4 σ H4 y z' u w' _ I4 r2 r4 q4) λd' s5 hzz=> ?_))
  obtain⟨z2,H5,I5,r5,k2,e2,q5⟩:=hzz
  subst e2
  cases r5
  exact wpAny_truthy_bool ⟨H5,I5,q5⟩
def LP(K:W.Frag)(x:V)(H:Hp)(k:Bool):Prop :=
 match x with
 | .non=>k=false
 | .bl b=>k=b
 | .int i=>k=(i != 0)
 | .str y=>y.length<=sizeLine/\k=((y.length:Int) != 0)
 | .byt y=>y.size<=sizeLine/\k=((y.size:Int) != 0)
 | .ref p=>(∃ xs,SqL K H p xs/\k= !xs.isEmpty)\/(∃ xs,SqT K H p xs/\k= !xs.isEmpty)\/∃ kvs,H p=some (.dK kvs)/\k= !kvs.isEmpty
 | _=>False
theorem uM{κ :Type}{kvs:List (κ × V)}{vs:List (κ × Value)}(r:KV kvs vs):(!vs.isEmpty)= !kvs.isEmpty:=by
 cases r<;>rfl
theorem cB{xs:List V}{its:List Value}(r:Vals xs its):(!its.toArray.isEmpty)= !xs.isEmpty:=by
 cases r<;>simp
theorem LQ:(sizeLine:Nat)<2 ^ 63:=by rw[sizeLine_eq];decide
theorem uN:t8 X (λx H Q=>∃ k,LP X.K x H k/\Q k H):=by
 intro AA s σ H x v Q I rx h
 obtain⟨k,e,q⟩:=h
 have hl:=LQ
 have hs:sizeLine=16777216:=sizeLine_eq
 cases x with
 | non =>
  cases rx
  have e':k=false:=e
  subst e'
  exact truthy_none ⟨H,I,q⟩
 | bl b =>
  cases rx
  have e':k=b:=e
  subst e'
  exact wpAny_truthy_bool ⟨H,I,q⟩
 | int i =>
  obtain⟨t,rfl⟩:=rx
  have e':k=(i != 0):=e
  subst e'
  exact PySem.P.truthy_int ⟨H,I,q⟩
 | str y =>
  obtain⟨t,rfl⟩:=rx
  obtain⟨hy,e'⟩:y.length<=sizeLine/\k=((y.length:Int) != 0):=e
  subst e'
  exact PySem.P.truthy_str (by omega) ⟨H,I.tok _,q⟩
 | byt y =>
  obtain⟨t,rfl⟩:=rx
  obtain⟨hy,e'⟩:y.size<=sizeLine/\k=((y.size:Int) != 0):=e
  subst e'
  exact W.truthy_bytes (by omega) ⟨H,I.tok _,q⟩
 | ref p =>
  cases rx
  have e':(∃ xs,SqL X.K H p xs/\k= !xs.isEmpty)\/(∃ xs,SqT X.K H p xs/\k= !xs.isEmpty)\/∃ kvs,H p=some (.dK kvs)/\k= !kvs.isEmpty:=e
  rcases e' with⟨xs,hx,e'⟩ | ⟨xs,hx,e'⟩ | ⟨kvs,hx,e'⟩
  ·subst e'
   obtain⟨its,r,pl,hz⟩:=I.list hx
   have BV:=r.length
   exact wpAny_truthy_list pl.isList (by simp only[List.size_toArray];omega) ⟨H,I.tok _,by rw[cB r];exact q⟩
  ·subst e'
   obtain⟨its,r,pl,hz⟩:=I.tuple hx
   have BV:=r.length
   exact truthy_tuple pl (by simp only[List.size_toArray];omega) ⟨H,I.tok _,by rw[cB r];exact q⟩
  ·subst e'
   obtain⟨hz,hS,vs,r,m⟩:kvs.length<=sizeLine/\(p == sysModules)=false/\∃ vs,KV kvs vs/\s.heap.DictOf (DS X.prog X.w) p vs:=I.hok p _ hx
   have BV:kvs.length=vs.length:=Paired.length r
   exact wpAny_truthy_dict hS m (by omega) ⟨H,I.tok _,by rw[uM r];exact q⟩
 | _=>exact(show False from e).elim
theorem NB(ha:PE X a ta)(he:∀ whole,isTrue a X.env whole=(do let v ← whole;standAt a.pos;holding [v] (truthy v))) :
  PT X a (λσ H Q=>ta σ H λx H'=>∃ k,LP X.K x H' k/\Q k H'):=by
 intro AA s σ H Q I h
 exact isTrue_plain (AR (ha AA s σ H _ I h) λv s1 ⟨x,H1,I1,r1,q1⟩=>uN AA s1 σ H1 x v Q I1 r1 q1) (he _)
theorem uO:B8 X (binaryOp .Add) (λx y H Q=>∃ i j,x=.str i/\y=.str j/\i.length+j.length<=sizeLine/\Q (.str (i++j)) H):=by
 intro AA s σ H x y v u Q I rx ry h
 obtain⟨i,j,rfl,rfl,hz,q⟩:=h
 obtain⟨t,rfl⟩:=rx
 obtain⟨t',rfl⟩:=ry
 exact add_str (λt' tk=>⟨.str (i++j),H,I.tok _,⟨_,rfl⟩,q⟩) hz
theorem HS{x:V}{us:List Value}(r:Vals [x] us):∃ u,us=[u]/\RelV x u:=by
 cases r with
 | cons r1 r2=>cases r2;exact⟨_,rfl,r1⟩
theorem uP:FD X (.builtin "ord") (λxs H Q=>∃ x,xs=[.str x]/\x.length=1/\Q (.int (x.cps.getD 0 0:Nat)) H):=by
 intro AA s σ H xs us Q I r h
 obtain⟨x,rfl,hz,q⟩:=h
 obtain⟨u,rfl,t,rfl⟩:=HS r
 exact ord_of_one hz ⟨.int _,H,I.tok _,⟨_,rfl⟩,q⟩
def SI(K:W.Frag)(x:V)(H:Hp)(n:Nat):Prop :=
 match x with
 | .str y=>y.length<=sizeLine/\n=y.length
 | .byt y=>y.size<=sizeLine/\n=y.size
 | .ref p=>(∃ xs,SqL K H p xs/\n=xs.length)\/∃ xs,SqT K H p xs/\n=xs.length
 | _=>False
theorem uQ:FD X (.builtin "len") (λxs H Q=>∃ x n,xs=[x]/\SI X.K x H n/\Q (.int n) H):=by
 intro AA s σ H xs us Q I r h
 obtain⟨x,n,rfl,e,q⟩:=h
 obtain⟨u,rfl,rx⟩:=HS r
 have hl:=LQ
 have hs:sizeLine=16777216:=sizeLine_eq
 cases x with
 | str y =>
  obtain⟨t,rfl⟩:=rx
  obtain⟨hy,e'⟩:y.length<=sizeLine/\n=y.length:=e
  subst e'
  exact len_str (by omega) ⟨.int _,H,I.tok _,⟨_,rfl⟩,q⟩
 | byt y =>
  obtain⟨t,rfl⟩:=rx
  obtain⟨hy,e'⟩:y.size<=sizeLine/\n=y.size:=e
  subst e'
  exact W.len_bytes (by omega) ⟨.int _,H,I.tok _,⟨_,rfl⟩,q⟩
 | ref p =>
  cases rx
  have e':(∃ xs,SqL X.K H p xs/\n=xs.length)\/∃ xs,SqT X.K H p xs/\n=xs.length:=e
  rcases e' with⟨xs,hx,e'⟩ | ⟨xs,hx,e'⟩
  ·subst e'
   obtain⟨its,r',pl,hz⟩:=I.list hx
   have BV:=r'.length
   exact Calls.call_len_list pl.isList (by simp only[List.size_toArray];omega) ⟨.int xs.length,H,I.tok _,⟨_,by simp only[List.size_toArray];rw[BV]⟩,q⟩
  ·subst e'
   obtain⟨its,r',pl,hz⟩:=I.tuple hx
   have BV:=r'.length
   exact len_tuple pl (by simp only[List.size_toArray];omega) ⟨.int xs.length,H,I.tok _,⟨_,by simp only[List.size_toArray];rw[BV]⟩,q⟩
 | _=>exact(show False from e).elim
end
end L2
namespace L2
structure ObjM(h:Heap)(x dx C:Addr)(mA:Str->Option Value):Prop where
 obj:h.get? x=some (W.instObj C dx)
 ns:h.Ns1 dx mA
 ne:dx≠x
theorem uR{h:Heap}{dx:Addr}{mA:Str->Option Value}(n:h.Ns1 dx mA):∃ od,h.get? dx=some od/\∀ name,W.lookIn name od=some (mA name):=by
 obtain⟨o,es,ep,ho,hd,hk,_,hm⟩:=n
 refine⟨o,ho,λname=> ?_⟩
 have e:=hm name
 unfold nsFind findBy at e
 rw[<-Array.find?_toList]at e
 unfold W.lookIn
 rw[hd]
 dsimp only
 split
 ·rename_i y q
  rw[q]at e
  exact congrArg some e
 ·rename_i q
  rw[q]at e
  have a:es.toList.any (·.refKey)=false:=by
   rw[List.any_eq_false]
   intro y hy
   obtain⟨z,t,hkey⟩:=hk y (Array.mem_toList_iff.mp hy)
   simp[DictEntry.refKey,hkey]
  have a':¬ es.toList.any (·.refKey)=true:=by rw[a];exact Bool.false_ne_true
  rw[if_neg a']
  exact congrArg some e
theorem ObjM.look{h:Heap}{x dx C:Addr}{mA:Str->Option Value}(I:ObjM h x dx C mA):∃ od,W.InstAt h x (W.instObj C dx) C (some od)/\∀ name,W.lookIn name od=some (mA name) :=
 let ⟨od,ho,hl⟩:=uR I.ns
 ⟨od,⟨I.obj,rfl,rfl,ho⟩,hl⟩
section
variable{prog:Program}{w:World}{A:Around}{E:Value->Shared->Prop}{s:Shared}{K:W.Frag}{x dx C f:Addr}{mA:Str->Option Value}{name:Str}{v:Value}
theorem uS{expr:Bool}{Q:Value->Shared->Prop}(X:K.In s.heap)(I:ObjM s.heap x dx C mA)(hg:W.plainGet K C name=true)(hh:W.hasDictIn K C=true)
  (ha:W.findIn K (.ref C) name=some none) (hv:mA name=some v) (hv':W.handedIn v=true) (h:Q v { s with toks:=s.toks+1 }) :
  wpAny (model prog w) A (getAttr (.ref x) name expr) Q E s:=by
 obtain⟨od,J,hl⟩:=I.look
 exact W.get_value X J (W.plainGet_of hg).1 (W.findObj_own hh ha rfl (by rw[hl,hv])) hv' h
theorem uT{pl:Sem Bool}{Q:Value × List Value->Shared->Prop}(X:K.In s.heap)(I:ObjM s.heap x dx C mA)(hg:W.plainGet K C name=true)
  (hf:W.findIn K (.ref C) name=some (some (.ref f))) (ht:W.isFn K (.ref f)=true) (hv:mA name=none) (h:Q (.ref f,[.ref x]) s) :
  wpAny (model prog w) A (getMethod (.ref x) name pl) Q E s:=by
 obtain⟨od,J,hl⟩:=I.look
 exact W.method_fn X J (W.plainGet_of hg).1 (W.plainGet_of hg).2 hf (beq_iff_eq.mp ht) (by show(W.lookIn name od).map (·.isSome)=some false;rw[hl,hv];rfl) h
theorem uU{ns:List Str}{Q:Unit->Shared->Prop}(X:K.In s.heap)(I:ObjM s.heap x dx C mA)
  (hs:W.findIn K (.ref C) "__setattr__"=some (some (.builtin "object.__setattr__"))) (hp:W.plainOver K C=true) (ht:W.takerIn K C name=some none) (hh:W.hasDictIn K C=true)
  (hw:PySem.Within mA ns) (hsz:ns.length<=sizeLine)
  (h:∀ h',ObjM h' x dx C (λy=>if y=name then some v else mA y)->Heap.SameBut dx s.heap h'->Q () { s with heap:=h',toks:=s.toks+2 }) :
  wpAny (model prog w) A (setAttr (.ref x) name v) Q E s:=by
 obtain⟨od,J,hl⟩:=I.look
 refine W.set_plain X J hs (W.osa_open (s:={ s with toks:=s.toks+1 }) (r:=none) X J hp ht λb=> ?_)
 obtain⟨cd,hc,hd'⟩:=W.any_some hh
 have hx:s.heap.get? x=some ⟨.ref C,some dx,.plain,#[]⟩:=I.obj
 refine wpAny_bind (wpAny_pure (wpAny_bind (wpAny_bind (wpAny_loadPart hx (wpAny_bind (W.Looks.here (s:={ s with toks:=s.toks+1 }) (W.looks_clsIn X hc) ?_))))))
 rw[hd']
 refine wpAny_pure (a:=some dx) (wpAny_bind (wpAny_pure (wpAny_bind ?_)))
 refine wpAny_nsSet1 (s:={ s with toks:=s.toks+1 }) I.ns λh' hn2 hs2=> ?_
 obtain⟨oD,esD,epD,hoD,hdD,hcD⟩:=hn2.count (PySem.Within.cons name v hw)
 refine wpAny_bind (wpAny_lookBehind hoD (by rw[hdD];exact pastItsLine_dict (Nat.le_trans hcD (by rw[List.length_cons];omega))) ?_)
 exact wpAny_pure (h _ ⟨(hs2.2 _ (Ne.symm I.ne)).trans I.obj,hn2,I.ne⟩ hs2)
theorem uV{R:Result->Shared->Prop}{vs:List Value}{kw:List (Str × Value)}(X:K.In s.heap)(hm:W.makesIn K C=true)
  (hi:W.findIn K (.ref C) "__init__"=some (some (.ref f))) (hf:W.typeIn K (.ref f)=some (.type "function"))
  (h:codeAny (model prog w) (A.under (.builtin "type.__call__" ⟨.ref C::vs,kw⟩)) (.call (.ref f) ⟨.ref (s.heap.objs.size+1)::vs,kw⟩) (W.InitBack (s.heap.objs.size+1) R)
   { s with heap:=(s.heap.push W.emptyDict).push (W.instObj C s.heap.objs.size) }) :
  codeAny (model prog w) A (.call (.ref C) ⟨vs,kw⟩) R s:=by
 obtain⟨hh,g,d,t,os⟩:=s
 exact W.make_core (W.makes_of X hm) (W.looks_findIn X hi) (λself=>W.bind_fn X self hf) (.inl rfl) h
end
def A7(f:Str)(v:V):List (Str × V)->List (Str × V)
 | []=>[(f,v)]
 | (g,x)::r=>if g=f then(g,v)::r else(g,x)::A7 f v r
theorem cC(f g:Str)(v:V):∀ fs:List (Str × V),(A7 f v fs).lookup g=if g=f then some v else fs.lookup g
 | []=>by
  show List.lookup g [(f,v)]=_
  by_cases h:g=f
  ·have hb:(g == f)=true:=beq_iff_eq.mpr h
   simp only[List.lookup,hb,if_pos h]
  ·have hb:(g == f)=false:=beq_eq_false_iff_ne.mpr h
   simp only[List.lookup,hb,if_neg h]
 | (k,x)::r=>by
  have ih:=cC f g v r
  rw[show A7 f v ((k,x)::r)=(if k=f then(k,v)::r else(k,x)::A7 f v r)from rfl]
  by_cases hk:k=f
  ·rw[if_pos hk]
   by_cases h:g=k
   ·have hb:(g == k)=true:=beq_iff_eq.mpr h
    simp only[List.lookup,hb,if_pos (h.trans hk)]
   ·have hb:(g == k)=false:=beq_eq_false_iff_ne.mpr h
    simp only[List.lookup,hb,if_neg (λe:g=f=>h (e.trans hk.symm))]
  ·rw[if_neg hk]
   by_cases h:g=k
   ·have hb:(g == k)=true:=beq_iff_eq.mpr h
    simp only[List.lookup,hb,if_neg (λe:g=f=>hk (h.symm.trans e))]
   ·have hb:(g == k)=false:=beq_eq_false_iff_ne.mpr h
    simp only[List.lookup,hb]
    exact ih
theorem SJ(f:Str)(v:V):∀ fs:List (Str × V),f∈(A7 f v fs).map (·.1)/\∀ g,g∈fs.map (·.1)->g∈(A7 f v fs).map (·.1)
 | []=>⟨by simp[A7],λg h=>by simp at h⟩
 | (k,x)::r=>by
  obtain⟨i1,i2⟩:=SJ f v r
  rw[show A7 f v ((k,x)::r)=(if k=f then(k,v)::r else(k,x)::A7 f v r)from rfl]
  by_cases hk:k=f
  ·rw[if_pos hk]
   subst hk
   exact⟨by simp,λg h=>by simpa using h⟩
  ·rw[if_neg hk]
   refine⟨?_,λg h=> ?_⟩
   ·rw[List.map_cons]
    exact List.mem_cons_of_mem _ i1
   ·rw[List.map_cons]at h ⊢
    rcases List.mem_cons.mp h with e | e
    ·exact List.mem_cons.mpr (.inl e)
    ·exact List.mem_cons_of_mem _ (i2 g e)
theorem NC(f:Str)(v:V):∀ fs:List (Str × V),(A7 f v fs).length<=fs.length+1
 | []=>by simp[A7]
 | (k,x)::r=>by
  have ih:=NC f v r
  rw[show A7 f v ((k,x)::r)=(if k=f then(k,v)::r else(k,x)::A7 f v r)from rfl]
  by_cases hk:k=f
  ·rw[if_pos hk,List.length_cons,List.length_cons];omega
  ·rw[if_neg hk,List.length_cons,List.length_cons];omega
theorem RelO.some_of{v:V}{o:Option Value}(r:RelO (some v) o):∃ u,o=some u/\RelV v u:=by
 cases o with
 | none=>exact(show False from r).elim
 | some u=>exact⟨u,rfl,r⟩
theorem RelO.none_of{o:Option Value}(r:RelO none o):o=none:=by
 cases o with
 | none=>rfl
 | some u=>exact(show False from r).elim
theorem uW{v:V}{u:Value}(r:RelV v u):W.handedIn u=true:=by
 cases v with
 | non=>cases (show u=Value.none from r);rfl
 | bl b=>cases (show u=Value.bool b from r);rfl
 | int i=>obtain⟨t,e⟩:=(show ∃ t,u=Value.int i t from r);cases e;rfl
 | str x=>obtain⟨t,e⟩:=(show ∃ t,u=Value.str x t from r);cases e;rfl
 | byt b=>obtain⟨t,e⟩:=(show ∃ t,u=Value.bytes b t from r);cases e;rfl
 | flt b=>obtain⟨t,e⟩:=(show ∃ t,u=Value.float b t from r);cases e;rfl
 | ref a=>cases (show u=Value.ref a from r);rfl
 | ty n=>cases (show u=Value.type n from r);rfl
section
variable{P:Program}{w:World}{H H':Hp}{h h':Heap}{a C dx:Addr}{fs fs':List (Str × V)}
theorem SK(hok:HOk P w H h)(e:H a=some (.ins C dx fs)):∃ mA,ObjM h a dx C mA/\(∀ f,RelO (fs.lookup f) (mA f))/\PySem.Within mA (fs.map (·.1))/\fs.length<=1000/\H dx=some (.own a):=by
 obtain⟨d,z,ne,ob,mA,n,r,q⟩:=(show ObjOk P w H h a (.ins C dx fs)from hok a _ e)
 exact⟨mA,⟨ob,n,ne⟩,r,q,z,d⟩
end
structure Cls(K:W.Frag)(C:Addr):Prop where
 pg:W.plainGet K C Str.empty=true
 hd:W.hasDictIn K C=true
 po:W.plainOver K C=true
 sa:W.findIn K (.ref C) "__setattr__"=some (some (.builtin "object.__setattr__"))
theorem Cls.get{K:W.Frag}{C:Addr}(c:Cls K C)(f:Str):W.plainGet K C f=true:=c.pg
def NoAttr(K:W.Frag)(C:Addr)(f:Str):Prop:=W.findIn K (.ref C) f=some none
theorem NoAttr.taker{K:W.Frag}{C:Addr}{f:Str}(n:NoAttr K C f):W.takerIn K C f=some none:=by
 unfold W.takerIn
 rw[show W.findIn K (.ref C) f=some none from n]
 rfl
structure Con(K:W.Frag)(C:Addr)(f:Str)(v:V)(u:Value):Prop where
 at_:W.findIn K (.ref C) f=some (some u)
 rel:RelV v u
 get:W.specialIn K u "__get__"=some none
 cp:W.copiedNames.contains f=false
structure OZ(K:W.Frag)(C:Addr)(m:Str)(f:Addr):Prop where
 at_:W.findIn K (.ref C) m=some (some (.ref f))
 fn:W.isFn K (.ref f)=true
 kp:W.keepIn K (.ref f)=true
section
variable{X:Cx}{AA:List (Addr × Obj)}{σ:St}{H:Hp}{s:Shared}{a C dx:Addr}{fs:List (Str × V)}{f:Str}{v:V}{A:Around}{E:Value->Shared->Prop}
theorem cD{b:Bool}{Q:Value->Shared->Prop}(I:Inv X AA σ H s)(e:H a=some (.ins C dx fs))(c:Cls X.K C)(n:NoAttr X.K C f)(l:fs.lookup f=some v)
  (h:∀ u s',Inv X AA σ H s'->RelV v u->Q u s'):wpAny (model X.prog X.w) A (getAttr (.ref a) f b) Q E s:=by
 obtain⟨mA,O,r,_,_,_⟩:=SK I.hok e
 obtain⟨u,hu,ru⟩:=RelO.some_of (v:=v) (o:=mA f) (by rw[<-l];exact r f)
 exact uS I.kIn O (c.get f) c.hd n hu (uW ru) (h u _ (I.tok _) ru)
theorem cE{m:Str}{g:Addr}{pl:Sem Bool}{Q:Value × List Value->Shared->Prop}(I:Inv X AA σ H s)(e:H a=some (.ins C dx fs))(c:Cls X.K C)(k:OZ X.K C m g)(l:fs.lookup m=none)
  (h:Q (.ref g,[.ref a]) s):wpAny (model X.prog X.w) A (getMethod (.ref a) m pl) Q E s:=by
 obtain⟨mA,O,r,_,_,_⟩:=SK I.hok e
 have hn:mA m=none:=RelO.none_of (by rw[<-l];exact r m)
 exact uT I.kIn O (c.get m) k.at_ k.fn hn h
theorem cF{y:V}{u:Value}{Q:Unit->Shared->Prop}(I:Inv X AA σ H s)(e:H a=some (.ins C dx fs))(c:Cls X.K C)(n:NoAttr X.K C f)(hl:fs.length<1000)(ry:RelV y u)
  (h:∀ s',Inv X AA σ (upd H a (.ins C dx (A7 f y fs))) s'->Q () s'):wpAny (model X.prog X.w) A (setAttr (.ref a) f u) Q E s:=by
 obtain⟨mA,O,r,wi,_,ho⟩:=SK I.hok e
 have hz:(fs.map (·.1)).length<=sizeLine:=by rw[List.length_map,sizeLine_eq];omega
 refine uU I.kIn O c.sa c.po n.taker c.hd wi hz λh' O' sb=>h _ ?_
 have hd:∃ o,h'.get? dx=some o:=let ⟨o,_,_,e',_⟩:=O'.ns;⟨o,e'⟩
 refine I.write (x:=a) (e:=dx) (by rw[e];exact True.intro) (.inr ho) (λb q hb z=>(sb.2 b hb).trans z) hd ?_
 refine⟨by rw[AG O.ne];exact ho,?_,O.ne,O'.obj,_,O'.ns,λg=> ?_,λg hg=> ?_⟩
 ·have:=NC f y fs;omega
 ·show RelO ((A7 f y fs).lookup g) (if g=f then some u else mA g)
  rw[cC]
  by_cases q:g=f
  ·rw[if_pos q,if_pos q];exact ry
  ·rw[if_neg q,if_neg q];exact r g
 ·by_cases q:g=f
  ·rw[q];exact(SJ f y fs).1
  ·refine(SJ f y fs).2 g (wi g λz=>hg ?_)
   show(if g=f then some u else mA g)=none
   rw[if_neg q];exact z
theorem Inv.made(I:Inv X AA σ H s):Inv X AA σ (upd (upd H s.heap.objs.size (.own (s.heap.objs.size+1))) (s.heap.objs.size+1) (.ins C s.heap.objs.size []))
  { s with heap:=(s.heap.push W.emptyDict).push (W.instObj C s.heap.objs.size) }:=by
 have e1:(s.heap.push W.emptyDict).get? s.heap.objs.size=some W.emptyDict:=Heap.get?_push_size s.heap rfl
 have e2:((s.heap.push W.emptyDict).push (W.instObj C s.heap.objs.size)).get? (s.heap.objs.size+1)=some (W.instObj C s.heap.objs.size):=by
  have:=Heap.get?_push_size (s.heap.push W.emptyDict) (o:=W.instObj C s.heap.objs.size) rfl
  rwa [Heap.size_push]at this
 have e3:(s.heap.push W.emptyDict).Ns s.heap.objs.size (λ_=>none):=⟨W.emptyDict,#[],_,e1,rfl,(λe he=>absurd he (by simp)),λ_=>rfl⟩
 have I1:=I.laid (a:=s.heap.objs.size) (o:=.own (s.heap.objs.size+1)) (h':=s.heap.push W.emptyDict) (t':=s.toks) (λb u q=>Heap.get?_push_of_some _ q) (Nat.le_refl _) ⟨_,e1⟩
 refine I1.laid (a:=s.heap.objs.size+1) (o:=.ins C s.heap.objs.size []) (t':=s.toks) (λb u q=>Heap.get?_push_of_some _ q) (Nat.le_of_eq (Heap.size_push _ _)) ?_
 have ne:s.heap.objs.size≠s.heap.objs.size+1:=Nat.ne_of_lt (Nat.lt_succ_self _)
 refine⟨by rw[AG ne,AE],Nat.zero_le _,ne,e2,λ_=>none,(Heap.Ns1.of_empty e3).at λo q=>Heap.get?_push_of_some _ q,λ_=>True.intro,λy hy=>absurd rfl hy⟩
theorem uX{prog:Program}{w:World}{env:Env}{e:Expr}{f:Str}{pos:Pos}{s:Shared}{Q:Value->Shared->Prop}(hb:attributeBase e f env (eval e env)=eval e env)
  (h:wpAny (model prog w) A (eval e env) (λo s₁=>wpAny (model prog w) A (getAttr o f true) Q E s₁) E s):wpAny (model prog w) A (eval (.Attribute e f pos) env) Q E s :=
 Attribute_any_ h (by rw[arm_eval_Attribute,hb])
end
def AY(K:W.Frag)(ta:TE)(f:Str):TE:=λσ H Q=>ta σ H λx H1=>∃ a C dx fs v,x=.ref a/\H1 a=some (.ins C dx fs)/\Cls K C/\NoAttr K C f/\fs.lookup f=some v/\Q v H1
def D6(K:W.Frag)(ta tv:TE)(f:Str):TS:=λD σ H=>tv σ H λy H1=>ta σ H1 λx H2=>∃ a C dx fs,x=.ref a/\H2 a=some (.ins C dx fs)/\Cls K C/\NoAttr K C f/\fs.length<1000 ∧
 D.nx σ (upd H2 a (.ins C dx (A7 f y fs)))
def cG(X:Cx)(op:Operator)(rd:V->V->Hp->VK->Prop):Prop :=
 ∀ (AA:List (Addr × Obj)) (s:Shared) (σ:St) (H:Hp) (x y:V) (u v:Value) (Q:VK),Inv X AA σ H s->RelV x u->RelV y v->rd x y H Q->wpAny (model X.prog X.w) X.A (inplaceOp op u v) (EP X AA σ Q) X.xe s
def SL(K:W.Frag)(ta tv:TE)(rd:V->V->Hp->VK->Prop)(f:Str):TS:=λD σ H=>ta σ H λx H1=>∃ a C dx fs v,x=.ref a/\H1 a=some (.ins C dx fs)/\Cls K C/\NoAttr K C f/\fs.lookup f=some v ∧
 tv σ H1 λy H2=>rd v y H2 λz H3=>∃ dx' fs',H3 a=some (.ins C dx' fs')/\fs'.length<1000/\D.nx σ (upd H3 a (.ins C dx' (A7 f z fs')))
section
variable{X:Cx}{o e value:Expr}{f:Str}{pos pos' tpos:Pos}{ta tv:TE}
theorem AZ(he:PE X e ta)(hb:attributeBase e f X.env (eval e X.env)=eval e X.env):PE X (.Attribute e f pos) (AY X.K ta f):=by
 intro AA s σ H Q I h
 refine uX hb (AR (he AA s σ H _ I h) λu s1 hzz=> ?_)
 obtain⟨x,H1,I1,rx,a,C,dx,fs,v,ex,ea,c,n,l,q⟩:=hzz
 subst ex
 obtain rfl:u=Value.ref a:=rx
 exact cD I1 ea c n l λu' s2 I2 ru=>⟨v,H1,I2,ru,q⟩
theorem EM(ha:PE X o ta)(hv:PE X value tv)(hs:swapsWith value (some (.Attribute o f pos')) pos.line X.env=pure false):PS X (.Assign [.Attribute o f pos'] value pos) (D6 X.K ta tv f):=by
 intro AA s σ H D I h
 refine plainObj_wpAny_Assign_Attribute (AR (hv AA s σ H _ I h) λu s1 ⟨y,H1,I1,ry,q⟩=>AR (ha AA s1 σ H1 _ I1 q) λov s2 hzz=> ?_) hs
 obtain⟨x,H2,I2,rx,a,C,dx,fs,ex,ea,c,n,l,q2⟩:=hzz
 subst ex
 obtain rfl:ov=Value.ref a:=rx
 exact cF I2 ea c n l ry λs3 I3=>⟨σ,_,I3,q2⟩
theorem uY{op:Operator}{rd:V->V->Hp->VK->Prop}(ha:PE X o ta)(hv:PE X value tv)(hop:cG X op rd):PS X (.AugAssign (.Attribute o f tpos) op value pos) (SL X.K ta tv rd f):=by
 intro AA s σ H D I h
 refine wpAny_AugAssign_AttributeAny (AR (ha AA s σ H _ I h) λov s1 hzz=> ?_)
 obtain⟨x,H1,I1,rx,a,C,dx,fs,v,ex,ea,c,n,l,q⟩:=hzz
 subst ex
 obtain rfl:ov=Value.ref a:=rx
 refine cD I1 ea c n l λu s2 I2 ru=>AR (hv AA s2 σ H1 _ I2 q) λw3 s3 ⟨y,H2,I3,ry,q3⟩=>AR (hop AA s3 σ H2 v y u w3 _ I3 ru ry q3) λw4 s4 hzz=> ?_
 obtain⟨z,H3,I4,rz,dx',fs',ea',l',q4⟩:=hzz
 exact cF I4 ea' c n l' rz λs5 I5=>⟨σ,_,I5,q4⟩
def O0:V->V->Hp->VK->Prop:=λx y H Q=>∃ i j,x=.int i/\y=.int j/\Q (.int (i+j)) H
theorem uZ:cG X .Add O0:=by
 rintro AA s σ H x y u v Q I rx ry ⟨i,j,rfl,rfl,q⟩
 obtain⟨t,rfl⟩:=(show ∃ t,u=Value.int i t from rx)
 obtain⟨t',rfl⟩:=(show ∃ t',v=Value.int j t' from ry)
 exact PyProof.Rows.iadd_int ⟨.int (i+j),H,I.tok _,⟨_,rfl⟩,q⟩
end
section
variable{X:Cx}{AA:List (Addr × Obj)}{σ:St}{H:Hp}{s:Shared}{A:Around}{E:Value->Shared->Prop}{Q:Value->Shared->Prop}{c:Value}{b:Bool}
inductive G5(K:W.Frag)(H:Hp):V->Value->Prop where
 | non:G5 K H .non (.type "NoneType")
 | bl (x:Bool):G5 K H (.bl x) (.type "bool")
 | int (i:Int):G5 K H (.int i) (.type "int")
 | str (x:Str):G5 K H (.str x) (.type "str")
 | flt (x:UInt64):G5 K H (.flt x) (.type "float")
 | lst {a:Addr} {xs:List V} (e:H a=some (.lst xs)):G5 K H (.ref a) (.type "list")
 | frz {a:Addr} {o:Obj} {xs:List V} (e:H a=some (.frz o (.lst xs))):G5 K H (.ref a) (.type "list")
 | tup {a:Addr} {xs:List V} (e:H a=some (.tup xs)):G5 K H (.ref a) (.type "tuple")
 | dK {a:Addr} {kvs:List (AH × V)} (e:H a=some (.dK kvs)):G5 K H (.ref a) (.type "dict")
 | dT {a:Addr} {kvs:List (List AH × V)} (e:H a=some (.dT kvs)):G5 K H (.ref a) (.type "dict")
 | ins {a C dx:Addr} {fs:List (Str × V)} (e:H a=some (.ins C dx fs)) (cl:Cls K C) (ha:W.findIn K (.ref C) "__class__"=some (some (.builtin "object.__class__")))
   (hn:W.specialIn K (.builtin "object.__class__") "__get__"=some (some (.builtin "getset_descriptor.__get__"))) (htk:W.takesIn K (.builtin "object.__class__")=some true)
   (hm:W.mroIn K C (.type "object")=some true):G5 K H (.ref a) (.ref C)
end
end L2
namespace L2
structure Room(k:Nat)(A:Around):Prop where
 hd:A.handled=none
 dp:A.depth+3 * k+5<recursionLimit
 un:A.units+16 * k+200<cLine
theorem Room.mono{j k:Nat}{A:Around}(r:Room k A)(h:j<=k):Room j A:=⟨r.hd,by have:=r.dp;omega,by have:=r.un;omega⟩
theorem Room.deeper{k:Nat}{A:Around}(r:Room (k+1) A)(env:Env):Room k (A.deeper env) :=
 ⟨r.hd,by have:=r.dp;show A.depth+1+3 * k+5<_;omega,by have:=r.un;show A.units+3+16 * k+200<_;omega⟩
theorem u3{A:Around}{C:Addr}{us:List Value}{kw:List (Str × Value)}:(A.under (.builtin "type.__call__" ⟨.ref C::us,kw⟩)).depth=A.depth+1:=by
 first | rfl | simp[Around.under,Code.weight,Code.isCreation,Code.isGuard,Code.isCaller,Code.frames,Code.isFrame,guardIds]
theorem u4{A:Around}{C:Addr}{us:List Value}{kw:List (Str × Value)}:(A.under (.builtin "type.__call__" ⟨.ref C::us,kw⟩)).units=A.units+1:=by
 first | rfl | simp[Around.under,Code.cUnits,Code.frames,Code.isFrame]
theorem Room.make{k:Nat}{A:Around}(r:Room (k+1) A)(C:Addr)(us:List Value)(kw:List (Str × Value)):Room k (A.under (.builtin "type.__call__" ⟨.ref C::us,kw⟩)) :=
 ⟨r.hd,by have:=r.dp;rw[u3];omega,by have:=r.un;rw[u4];omega⟩
theorem Room.depth{k:Nat}{A:Around}(r:Room k A):A.depth<recursionLimit:=by have:=r.dp;omega
theorem Room.units{k:Nat}{A:Around}(r:Room k A):A.units+64<cLine:=by have:=r.un;omega
def BK:TA:=λ_ H Q=>Q [] H
def DR(ta:TE)(tr:TA):TA:=λσ H Q=>ta σ H λx H1=>tr σ H1 λxs H2=>Q (x::xs) H2
section
variable{X:Cx}{e:Expr}{es:List Expr}{te:TE}{t:TA}{pos:Pos}
theorem E4:PA X [] BK:=λ_ _ _ _ H Q I h=>Calls.spliced_nil ⟨[],H,I,.nil,h⟩
theorem JM(ha:PE X e te)(hr:PA X es t)(hs:starEach (e::es) X.env=(false,eval e X.env)::starEach es X.env:=by rfl):PA X (e::es) (DR te t):=by
 intro pos AA s σ H Q I h
 rw[hs]
 show wpAny _ _ (spliced ((false,eval e X.env)::backTo pos (starEach es X.env))) _ _ s
 refine Calls.spliced_cons (AR (ha AA s σ H _ I h) λu s1 hzz=> ?_)
 obtain⟨x,H1,I1,r1,q1⟩:=hzz
 exact AR (hr pos AA s1 σ H1 _ I1 q1) λus s2 ⟨xs,H2,I2,r2,q2⟩=>⟨x::xs,H2,I2,.cons r1 r2,q2⟩
def EN(t:TA):TE:=λσ H Q=>t σ H λxs H1=>xs.length<=sizeLine/\∀ p,H1 p=none->Q (.ref p) (upd H1 p (.tup xs))
def B9(t:TA):TE:=λσ H Q=>t σ H λxs H1=>xs.length<=sizeLine/\∀ p,H1 p=none->Q (.ref p) (upd H1 p (.lst xs))
theorem E5{x1}(h:PA X es t):PE X (.Tuple es x1 pos) (EN t):=by
 intro AA s σ H Q I hq
 refine wpAny_Tuple_spliced (AR (h pos AA s σ H _ I hq) λus s1 ⟨xs,H1,I1,r,z,q⟩=>⟨by rw[<-r.length];exact z,?_⟩)
 have hf:H1 s1.heap.objs.size=none:=I1.hok.fresh (Nat.le_refl _)
 refine⟨.ref s1.heap.objs.size,upd H1 s1.heap.objs.size (.tup xs),I1.laid (t':=s1.toks) (λb u e=>Heap.get?_push_of_some _ e) (Nat.le_refl _) ?_,rfl,q _ hf⟩
 exact⟨z,us,r,⟨_,Heap.get?_push_size _ rfl,rfl,_,rfl⟩⟩
theorem CC(h:PA X es t):PE X (.List es pos) (B9 t):=by
 intro AA s σ H Q I hq
 refine wpAny_List_spliced (AR (h pos AA s σ H _ I hq) λus s1 ⟨xs,H1,I1,r,z,q⟩=>⟨by rw[<-r.length];exact z,?_⟩)
 have hf:H1 s1.heap.objs.size=none:=I1.hok.fresh (Nat.le_refl _)
 refine⟨.ref s1.heap.objs.size,upd H1 s1.heap.objs.size (.lst xs),I1.laid (t':=s1.toks) (λb u e=>Heap.get?_push_of_some _ e) (Nat.le_refl _) ?_,rfl,q _ hf⟩
 exact⟨z,us,0,r,Heap.get?_push_size _ rfl⟩
end
abbrev Sp:=List V->Hp->VK->XK->Prop
abbrev GH:=List Env->Hp->Shared->XK->Value->Shared->Prop
structure Env0(P:Program)(w:World)(K:W.Frag)(mg:Str->Option Value)(base:Heap)(A:Around)(outer:List Env)(s:Shared)(H:Hp):Prop where
 frames:A.frames=some outer
 mod:Mod K mg base
 bs:∀ b o,base.get? b=some o->s.heap.get? b=some o/\H b=none
 bsz:base.objs.size<=s.heap.objs.size
 funs:s.heap.FunFrames base outer
 frf:∀ b∈DW outer,H b=none
 hok:HOk P w H s.heap
 bare:AllBare s.gens
def CE(outer:List Env)(P:Program)(w:World)(H:Hp)(s:Shared)(Q:VK)(u:Value)(s':Shared):Prop :=
 ∃ v H',s'.os=s.os/\AllBare s'.gens/\Un (DW outer) [] H H' s.heap s'.heap/\HOk P w H' s'.heap/\RelV v u/\Q v H'
def CR(CX:GH)(outer:List Env)(P:Program)(w:World)(H:Hp)(s:Shared)(Q:VK)(E:XK)(r:Result)(s':Shared):Prop :=
 match r with
 | .ok (.ret u)=>CE outer P w H s Q u s'
 | .ok _=>False
 | .error e=>CX outer H s E e s'
structure FnOk(P:Program)(w:World)(K:W.Frag)(mg:Str->Option Value)(base:Heap)(CX:GH)(k:Nat)(f:Addr)(fd:FuncData)(ps:List Str)(sp:Sp):Prop where
 len:∀ vs H Q E,sp vs H Q E->vs.length=ps.length
 run:∀ (A:Around) (outer:List Env) (s:Shared) (H:Hp) (args:Args) (us:List Value) (vs:List V) (Q:VK) (E:XK),Room k A->Env0 P w K mg base A outer s H->BindsTo s fd args (ps.zip us)->Vals vs us->sp vs H Q E →
  codeAny (model P w) A (.call (.ref f) args) (CR CX outer P w H s Q E) s
theorem FnOk.imp{P:Program}{w:World}{K:W.Frag}{mg:Str->Option Value}{base:Heap}{CX:GH}{k:Nat}{f:Addr}{fd:FuncData}{ps:List Str}{sp sp':Sp}(F:FnOk P w K mg base CX k f fd ps sp)
  (h:∀ vs H Q E,sp' vs H Q E->sp vs H Q E):FnOk P w K mg base CX k f fd ps sp' :=
 ⟨λvs H Q E q=>F.len vs H Q E (h _ _ _ _ q),λA outer s H args us vs Q E hr he hb hv hs=>F.run A outer s H args us vs Q E hr he hb hv (h _ _ _ _ hs)⟩
theorem Env0.make{P:Program}{w:World}{K:W.Frag}{mg:Str->Option Value}{base:Heap}{A:Around}{outer:List Env}{s:Shared}{H:Hp}(e:Env0 P w K mg base A outer s H)(C:Addr)(us:List Value)(kw:List (Str × Value)) :
  Env0 P w K mg base (A.under (.builtin "type.__call__" ⟨.ref C::us,kw⟩)) outer s H:=⟨by first | exact e.frames | (simpa [Around.under,Code.envs,Code.isFrame,pushEnvs]using e.frames),e.mod,e.bs,e.bsz,e.funs,e.frf,e.hok,e.bare⟩
section
variable{X:Cx}{AA:List (Addr × Obj)}{σ:St}{H:Hp}{s s':Shared}
theorem Inv.env0(I:Inv X AA σ H s):Env0 X.prog X.w X.K X.mg X.base X.A X.stack s H :=
 ⟨I.ok.frames,I.ok.mod,I.bs,Nat.le_trans I.ok.bsz I.sz,I.stack,I.stkFree,I.hok,I.bare⟩
theorem Inv.after{Q:VK}{u:Value}(I:Inv X AA σ H s)(h:CE X.stack X.prog X.w H s Q u s'):EP X AA σ Q u s':=by
 obtain⟨v,H',os,bare,un,hok,r,q⟩:=h
 obtain⟨hh,g,d,t,os'⟩:=s'
 obtain rfl:os'=s.os:=os
 exact⟨v,H',I.call (h':=hh) (g':=g) (d':=d) (t':=t) (ch:=[]) un hok bare (λb z=>absurd z (by simp)),r,q⟩
end
def DD(sp:Sp)(DC:List V)(E:St->XK)(t:TA):TE:=λσ H Q=>t σ H λvs H1=>sp (vs++DC) H1 Q (E σ)
def AO(C:Addr)(m:Str)(sp:Sp)(DC:List V)(E:St->XK)(ta:TE)(t:TA):TE:=λσ H Q=>ta σ H λx H1=>∃ a dx fs,x=.ref a/\H1 a=some (.ins C dx fs)/\fs.lookup m=none ∧
 t σ H1 λvs H2=>sp (x::(vs++DC)) H2 Q (E σ)
def JN(C:Addr)(sp:Sp)(DC:List V)(E:St->XK)(t:TA):TE:=λσ H Q=>t σ H λvs H1=>∀ x dx,H1 x=none->H1 dx=none->dx≠x →
 sp (.ref x::(vs++DC)) (upd (upd H1 dx (.own x)) x (.ins C dx [])) (λv H2=>v=.non/\Q (.ref x) H2) (E σ)
def Binds(K:W.Frag)(fd:FuncData)(ps:List Str)(ds:List Value):Prop :=
 ∀ (s:Shared) (us:List Value),K.In s.heap->(us++ds).length=ps.length->BindsTo s fd ⟨us,[]⟩ (ps.zip (us++ds))
theorem Binds.all{K:W.Frag}{fd:FuncData}{ps:List Str}(h:∀ us:List Value,us.length=ps.length->bindArgs fd ⟨us,[]⟩=pure (ps.zip us)):Binds K fd ps []:=λs us _ hl=>by
 rw[List.append_nil]at hl ⊢
 exact .of_eq (h us hl)
def GI(CX:GH)(X:Cx)(E:St->XK):Prop:=∀ (AA:List (Addr × Obj)) (σ:St) (H:Hp) (s:Shared) (e:Value) (s':Shared),Inv X AA σ H s->CX X.stack H s (E σ) e s'->X.xe e s'
section
variable{X:Cx}{CX:GH}{k:Nat}{f C:Addr}{fd:FuncData}{ps:List Str}{sp:Sp}{DC:List V}{ds:List Value}{E:St->XK}{x m:Str}{p pos CF:Pos}{e o:Expr}{es:List Expr}{ta:TE}{t:TA}
theorem SN{AA:List (Addr × Obj)}{σ:St}{H:Hp}{s:Shared}{Q:VK}{us:List Value}{vs:List V}(F:FnOk X.prog X.w X.K X.mg X.base CX k f fd ps sp)(hr:Room k X.A)(hb:Binds X.K fd ps ds)(hd:Vals DC ds)(hx:GI CX X E)
  (I:Inv X AA σ H s) (r:Vals vs us) (h:sp (vs++DC) H Q (E σ)):wpAny (model X.prog X.w) X.A (call (.ref f) us) (EP X AA σ Q) X.xe s:=by
 have r2:Vals (vs++DC) (us++ds):=r.append hd
 have hl:(us++ds).length=ps.length:=by rw[<-r2.length];exact F.len _ _ _ _ h
 refine wpAny_call (codeAny_mono (F.run X.A X.stack s H ⟨us,[]⟩ (us++ds) (vs++DC) Q (E σ) hr I.env0 (hb s us I.kIn hl) r2 h) λr s' hq=> ?_)
 cases r with
 | error e=>exact hx AA σ H s e s' I hq
 | ok fl =>
  cases fl with
  | ret u=>exact I.after hq
  | next=>exact False.elim hq
  | brk=>exact False.elim hq
  | cont=>exact False.elim hq
theorem u5(F:FnOk X.prog X.w X.K X.mg X.base CX k f fd ps sp)(hr:Room k X.A)(hg:Gl X x)(hm:X.mg x=some (.ref f))(hk:W.keepIn X.K (.ref f)=true)(hb:Binds X.K fd ps ds)(hd:Vals DC ds)(hx:GI CX X E)
  (ha:PA X (e::es) t) (hdb:(x ==("__debug__":Str))=false:=by decide) (he:starEach (e::es) X.env=(false,eval e X.env)::starEach es X.env:=by rfl) (CJ:(backTo pos (starEach es X.env)).any (·.1)=false:=by rfl) :
  PE X (.Call (.Name x p) (e::es) [] pos) (DD sp DC E t):=by
 intro AA s σ H Q I h
 refine wpAny_Call_Name_kw (M5 I hg hm ?_ hdb)
 refine W.callWith_K (h₀:=X.base) I.ok.mod.kin hk (AR (ha pos AA s σ H _ I h) λus s1 ⟨vs,H1,I1,r,q⟩=>⟨I1.kIn,?_⟩) he CJ
 exact SN F hr hb hd hx I1 r q
theorem u6{pl:Sem Bool}(he:PE X o ta)(c:Cls X.K C)(hm:OZ X.K C m f)(F:FnOk X.prog X.w X.K X.mg X.base CX k f fd ps sp)(hr:Room k X.A)(hb:Binds X.K fd ps ds)(hd:Vals DC ds)(hx:GI CX X E)(ha:PA X (e::es) t)
  (hst:starEach (e::es) X.env=(false,eval e X.env)::starEach es X.env:=by rfl) (CJ:(backTo pos (starEach es X.env)).any (·.1)=false:=by rfl)
  (ht:eval (.Call (.Attribute o m CF) (e::es) [] pos) X.env=(do
   let ov ← eval o X.env
   standAt CF.atName
   let (f,first) ← holding [ov] (getMethod ov m pl)
   callWith pos f first (backTo pos (starEach (e::es) X.env)) (backToKw pos (keywordEach [] X.env))):=by rfl) :
  PE X (.Call (.Attribute o m CF) (e::es) [] pos) (AO C m sp DC E ta t):=by
 intro AA s σ H Q I h
 refine W.methodCall_KW (pl:=pl) (AR (he AA s σ H _ I h) λu s1 hzz=> ?_) ht
 obtain⟨x,H1,I1,rx,a,dx,fs,ex,ea,l,q⟩:=hzz
 subst ex
 obtain rfl:u=Value.ref a:=rx
 refine cE I1 ea c hm l ?_
 refine W.callWith_K (first:=[.ref a]) (h₀:=X.base) I.ok.mod.kin hm.kp (AR (ha pos AA s1 σ H1 _ I1 q) λus s2 ⟨vs,H2,I2,r,q2⟩=>⟨I2.kIn,?_⟩) hst CJ
 exact SN (us:=.ref a::us) (vs:=.ref a::vs) F hr hb hd hx I2 (.cons rfl r) q2
theorem u7{pl:Sem Bool}(he:PE X o ta)(c:Cls X.K C)(hm:OZ X.K C m f)(F:FnOk X.prog X.w X.K X.mg X.base CX k f fd ps sp)(hr:Room k X.A)(hb:Binds X.K fd ps ds)(hd:Vals DC ds)(hx:GI CX X E)
  (ht:eval (.Call (.Attribute o m CF) [] [] pos) X.env=(do
   let ov ← eval o X.env
   standAt CF.atName
   let (f,first) ← holding [ov] (getMethod ov m pl)
   callWith pos f first (backTo pos (starEach [] X.env)) (backToKw pos (keywordEach [] X.env))):=by rfl) :
  PE X (.Call (.Attribute o m CF) [] [] pos) (AO C m sp DC E ta BK):=by
 intro AA s σ H Q I h
 refine W.methodCall_KW (pl:=pl) (AR (he AA s σ H _ I h) λu s1 hzz=> ?_) ht
 obtain⟨x,H1,I1,rx,a,dx,fs,ex,ea,l,q⟩:=hzz
 subst ex
 obtain rfl:u=Value.ref a:=rx
 refine cE I1 ea c hm l ?_
 exact W.callWith_K0 (first:=[.ref a]) I1.kIn hm.kp (SN (us:=[.ref a]) (vs:=[.ref a]) F hr hb hd hx I1 (.cons rfl .nil) q)
structure Mk(K:W.Frag)(C f:Addr):Prop where
 makes:W.makesIn K C=true
 init:W.findIn K (.ref C) "__init__"=some (some (.ref f))
 fn:W.isFn K (.ref f)=true
 kp:W.keepIn K (.ref C)=true
theorem u8{AA:List (Addr × Obj)}{σ:St}{H:Hp}{s:Shared}{Q:VK}{us:List Value}{vs:List V}(M:Mk X.K C f)(F:FnOk X.prog X.w X.K X.mg X.base CX k f fd ps sp)(hr:Room (k+1) X.A)(hb:Binds X.K fd ps ds)(hd:Vals DC ds)
  (hx:GI CX X E) (I:Inv X AA σ H s) (r:Vals vs us)
  (h:∀ x dx,H x=none->H dx=none->dx≠x->sp (.ref x::(vs++DC)) (upd (upd H dx (.own x)) x (.ins C dx [])) (λv H2=>v=.non/\Q (.ref x) H2) (E σ)) :
  wpAny (model X.prog X.w) X.A (call (.ref C) us) (EP X AA σ Q) X.xe s:=by
 have hq:=h (s.heap.objs.size+1) s.heap.objs.size (I.hok.fresh (Nat.le_succ _)) (I.hok.fresh (Nat.le_refl _)) (Nat.ne_of_lt (Nat.lt_succ_self _))
 have I2:=Inv.made (C:=C) I
 have r2:Vals (V.ref (s.heap.objs.size+1)::(vs++DC)) (Value.ref (s.heap.objs.size+1)::(us++ds)):=.cons rfl (r.append hd)
 have hl:(Value.ref (s.heap.objs.size+1)::us++ds).length=ps.length:=by
  have e:=r2.length
  rw[F.len _ _ _ _ hq]at e
  exact e.symm
 refine wpAny_call (uV (f:=f) I.kIn M.makes M.init (beq_iff_eq.mp M.fn) (codeAny_mono (F.run _ X.stack _ _ ⟨Value.ref (s.heap.objs.size+1)::us,[]⟩ (Value.ref (s.heap.objs.size+1)::(us++ds)) _ _ (E σ) (hr.make C us [])
  (I2.env0.make C us []) (hb _ (Value.ref (s.heap.objs.size+1)::us) I2.kIn hl) r2 hq) λr s' hq'=> ?_))
 cases r with
 | error e=>exact hx AA σ _ _ e s' I2 hq'
 | ok fl =>
  cases fl with
  | ret u =>
   obtain⟨v,H',I3,rv,ev,q3⟩:=I2.after hq'
   subst ev
   exact⟨rv,⟨V.ref (s.heap.objs.size+1),H',I3,rfl,q3⟩⟩
  | next=>exact False.elim hq'
  | brk=>exact False.elim hq'
  | cont=>exact False.elim hq'
theorem u9(M:Mk X.K C f)(F:FnOk X.prog X.w X.K X.mg X.base CX k f fd ps sp)(hr:Room (k+1) X.A)(hg:Gl X x)(hm:X.mg x=some (.ref C))(hb:Binds X.K fd ps ds)(hd:Vals DC ds)(hx:GI CX X E)
  (ha:PA X (e::es) t) (hdb:(x ==("__debug__":Str))=false:=by decide) (he:starEach (e::es) X.env=(false,eval e X.env)::starEach es X.env:=by rfl) (CJ:(backTo pos (starEach es X.env)).any (·.1)=false:=by rfl) :
  PE X (.Call (.Name x p) (e::es) [] pos) (JN C sp DC E t):=by
 intro AA s σ H Q I h
 refine wpAny_Call_Name_kw (M5 I hg hm ?_ hdb)
 refine W.callWith_K (h₀:=X.base) I.ok.mod.kin M.kp (AR (ha pos AA s σ H _ I h) λus s1 ⟨vs,H1,I1,r,q⟩=>⟨I1.kIn,?_⟩) he CJ
 exact u8 M F hr hb hd hx I1 r q
end
section
variable{X:Cx}{CX:GH}{k:Nat}{f C:Addr}{fd:FuncData}{ps ks:List Str}{sp:Sp}{E:St->XK}{x m:Str}{p pos CF kpos:Pos}{e o:Expr}{es:List Expr}{kws:List Keyword}{te ta:TE}{t tk:TA}{nm:Option Str}
structure zg4(K:W.Frag)(fd:FuncData)(ps ks:List Str)(g:List Value->List Value->List Value)(gV:List V->List V->List V):Prop where
 to:∀ (s:Shared) (us ws:List Value),K.In s.heap->(g us ws).length=ps.length->BindsTo s fd ⟨us,ks.zip ws⟩ (ps.zip (g us ws))
 rel:∀ {vs:List V} {us:List Value} {zs:List V} {ws:List Value},Vals vs us->Vals zs ws->Vals (gV vs zs) (g us ws)
variable{g:List Value->List Value->List Value}{gV:List V->List V->List V}
end
structure FnScope(N P:List Str)(sc:Scope):Prop where
 kind:sc.kind=.function
 co:sc.isCoroutine=false
 gen:sc.isGenerator=false
 nd:N.Nodup
 pre:N.take P.length=P
 par:∀ x∈P,sc.names.lookup x=some .local\/sc.names.lookup x=some .cell
 nofree:∀ y∈sc.names,y.2≠.free
theorem cH{kindOf:Str->Option NameKind}{x:Str}:∀ {binds:List (Str × Value)} {m:Str->Option Value},(∀ v,(x,v)∉binds)->bindL kindOf binds m x=m x
 | [],_,_=>rfl
 | (n,v)::r,m,h=>by
  unfold bindL
  rw[cH λw hw=>h w (List.mem_cons_of_mem _ hw)]
  split
  ·have:x≠n:=by rintro rfl;exact h v List.mem_cons_self
   simp[this]
  ·rfl
theorem cI{kindOf:Str->Option NameKind}{x:Str}:∀ {binds:List (Str × Value)} {m:Str->Option Value},(∀ v,(x,v)∉binds)->bindC kindOf binds m x=m x
 | [],_,_=>rfl
 | (n,v)::r,m,h=>by
  unfold bindC
  rw[cI λw hw=>h w (List.mem_cons_of_mem _ hw)]
  split
  ·rfl
  ·have:x≠n:=by rintro rfl;exact h v List.mem_cons_self
   simp[this]
theorem cJ{kindOf:Str->Option NameKind}{x:Str}{v:Value}:∀ {P:List Str} {vs:List Value} {i:Nat} {m:Str->Option Value},P.Nodup->P[i]? =some x->vs[i]? =some v->kindOf x=some .local →
  bindL kindOf (P.zip vs) m x=some v
 | [],_,_,_,_,h,_,_=>by simp at h
 | _::_,[],_,_,_,_,h,_=>by simp at h
 | p::P,w::vs,0,m,nd,h1,h2,hk=>by
  simp at h1 h2;subst h1;subst h2
  show bindL kindOf ((p,w)::P.zip vs) m p=_
  unfold bindL
  rw[cH λv hv=>(List.nodup_cons.mp nd).1 (List.of_mem_zip hv).1,if_pos hk]
  simp
 | p::P,w::vs,i+1,m,nd,h1,h2,hk=>by
  show bindL kindOf ((p,w)::P.zip vs) m x=_
  unfold bindL
  exact cJ (i:=i) (List.nodup_cons.mp nd).2 (by simpa using h1) (by simpa using h2) hk
theorem cK{kindOf:Str->Option NameKind}{x:Str}{v:Value}:∀ {P:List Str} {vs:List Value} {i:Nat} {m:Str->Option Value},P.Nodup->P[i]? =some x->vs[i]? =some v->kindOf x≠some .local →
  bindC kindOf (P.zip vs) m x=some v
 | [],_,_,_,_,h,_,_=>by simp at h
 | _::_,[],_,_,_,_,h,_=>by simp at h
 | p::P,w::vs,0,m,nd,h1,h2,hk=>by
  simp at h1 h2;subst h1;subst h2
  show bindC kindOf ((p,w)::P.zip vs) m p=_
  unfold bindC
  rw[cI λv hv=>(List.nodup_cons.mp nd).1 (List.of_mem_zip hv).1,if_neg hk]
  simp
 | p::P,w::vs,i+1,m,nd,h1,h2,hk=>by
  show bindC kindOf ((p,w)::P.zip vs) m x=_
  unfold bindC
  exact cK (i:=i) (List.nodup_cons.mp nd).2 (by simpa using h1) (by simpa using h2) hk
def start(N:List Str)(vs:List V):St:=vs.map some++List.replicate (N.length - vs.length) none
def G6(CX:GH)(P:Program)(w:World)(K:W.Frag)(mg:Str->Option Value)(base:Heap)(N:List Str)(qual:Str)(scope:Scope)(f:Addr)(cd:Value)(A:Around)(outer:List Env)(s:Shared)(H:Hp)(E:XK):Cx where
 prog:=P
 w:=w
 K:=K
 mg:=mg
 base:=base
 A:=A.deeper (envOfC qual scope s.heap.objs.size f cd)
 N:=N
 s₀:=s
 H₀:=H
 env:=envOfC qual scope s.heap.objs.size f cd
 outer:=outer
 stack:=envOfC qual scope s.heap.objs.size f cd::outer
 ex:=[]
 calm:=true
 fn:=λ_=>true
 pn:=[]
 xe:=λe s'=>wpAny (model P w) (A.deeper (envOfC qual scope s.heap.objs.size f cd)) (leaving (envOfC qual scope s.heap.objs.size f cd) e) (λ_ s''=>CX outer H s E e s'') (λe' s''=>CX outer H s E e' s'') s'
theorem cM{sc:Scope}{n:Nat}{x:Str}(h:sc.names.lookup x=some .cell):∃ c,(cellsFrom n sc.names []).lookup x=some c:=by
 have q:=W.cellsFrom_some sc.names n [] (.inl h)
 exact Option.isSome_iff_exists.mp q
theorem vA{CX:GH}{P:Program}{w:World}{K:W.Frag}{mg:Str->Option Value}{base:Heap}{N ps:List Str}{qual:Str}{scope:Scope}{f:Addr}{cd:Value}{A:Around}{outer:List Env}{s s1:Shared}{H:Hp}{E:XK}{us:List Value}{vs:List V}
  (S:FnScope N ps scope) (hd:A.handled=none) (e0:Env0 P w K mg base A outer s H) (hl:vs.length=ps.length) (r:Vals vs us)
  (x:InCallC s s.heap.objs.size (bindL (envOfC qual scope s.heap.objs.size f cd).kindOf (ps.zip us) λ_=>none) (cellsFrom (s.heap.objs.size+1) scope.names []) (bindC (envOfC qual scope s.heap.objs.size f cd).kindOf (ps.zip us) λ_=>none) s1) :
  Inv (G6 CX P w K mg base N qual scope f cd A outer s H E) [] (start N vs) H s1:=by
 have CJ:ps.length<=N.length:=by have:=congrArg List.length S.pre;rw[List.length_take]at this;omega
 obtain⟨h1,tk,rfl,hk⟩:=x.done
 have noA:∀ b:Addr,b∉(G6 CX P w K mg base N qual scope f cd A outer s H E).ex:=λb z=>absurd (show b∈([]:List Addr)from z) (by simp)
 refine⟨⟨e0.mod,S.kind,rfl,rfl,Nat.le_refl _,λy z c h1 h2=> ?_,λy hy=> ?_,λy c _ h=> ?_,λ_=>hd,Around.frames_deeper e0.frames,.inr ⟨rfl,rfl⟩,λb z=>absurd z (noA b),e0.bs,e0.bsz,λb _ _=>noA b,λb z=>absurd z (noA b),e0.funs,e0.frf⟩,
  rfl,e0.bare,Un.kept hk,⟨_,x.toInCall.ns,λi y v h1 h2 h3=> ?_⟩,λy c h=>⟨_,x.cell y c h⟩,e0.hok.fresh (Nat.le_refl _),λy c h=> ?_,λp hp=>absurd (show p∈([]:List (Addr × Obj))from hp) (by simp),e0.hok.kept hk,?_⟩
 ·exact name_of_addr x.apart (PySem.mem_of_lookup h1) (PySem.mem_of_lookup h2)
 ·have hy:scope.names.lookup y=some .cell\/scope.names.lookup y=some .free:=hy
  rcases hy with hy | hy
  ·exact cM hy
  ·exact absurd rfl (S.nofree _ (PySem.mem_of_lookup hy))
 ·exact Nat.le_of_lt (x.above y c (PySem.mem_of_lookup h))
 ·have hi:i<vs.length:=by
   unfold start at h2
   by_cases hi:i<vs.length
   ·exact hi
   ·rw[List.getElem?_append_right (by simpa using hi)]at h2
    rw[List.getElem?_replicate]at h2
    split at h2<;>cases h2
  have ha:vs[i]? =some v:=by
   unfold start at h2
   rw[List.getElem?_append_left (by simpa using hi),List.getElem?_map]at h2
   cases e:vs[i]? with
   | none=>rw[e]at h2;cases h2
   | some a=>rw[e]at h2;cases h2;rfl
  obtain⟨u,hu,rv⟩:=r.get ha
  have hp:ps[i]? =some y:=by
   rw[<-S.pre,List.getElem?_take_of_lt (by omega)];exact h1
  have ndP:ps.Nodup:=by rw[<-S.pre];exact S.nd.sublist (List.take_sublist _ _)
  refine⟨u,rv,?_⟩
  rcases S.par y (List.mem_of_getElem? hp)with k | k
  ·exact .inl ⟨k,cJ ndP hp hu k⟩
  ·obtain⟨c,e⟩:=cM (n:=s.heap.objs.size+1) k
   refine .inr ⟨.inl k,c,e,?_⟩
   have q:=x.cell y c e
   rw[cK ndP hp hu (by show scope.names.lookup y≠_;rw[k];decide)]at q
   exact q
 ·exact e0.hok.fresh (Nat.le_of_lt (x.above y c (PySem.mem_of_lookup h)))
 ·unfold start
  show _=N.length
  rw[List.length_append,List.length_map,List.length_replicate]
  omega
theorem vB{CX:GH}{P:Program}{w:World}{K:W.Frag}{mg:Str->Option Value}{base:Heap}{k:Nat}{f:Addr}{name qual:Str}{params:Arguments}{body:List Stmt}{scope:Scope}{dV kV doc pm BT ct oc:Value}{an od:Option Addr}
  {osl:Array (Option Value)} {N ps:List Str} {sp:Sp} (lk:K.lookup f=some ⟨oc,od,.func (W.fnOf name qual params body scope dV kV doc pm an BT ct),osl⟩) (IF:W.codeIn K BT qual=true) (S:FnScope N ps scope)
  (len:∀ vs H Q E,sp vs H Q E->vs.length=ps.length)
  (bC:∀ (A:Around) (outer:List Env) (s:Shared) (H:Hp) (vs:List V) (Q:VK) (E:XK),Room k (A.deeper (envOfC qual scope s.heap.objs.size f BT))->sp vs H Q E →
   ∃ t,FN (G6 CX P w K mg base N qual scope f BT A outer s H E) body t/\t { nx:=λ_ H'=>Q .non H',rt:=Q } (start N vs) H) :
  FnOk P w K mg base CX (k+1) f (W.fnOf name qual params body scope dV kV doc pm an BT ct) ps sp:=by
 refine⟨len,λA outer s H args us vs Q E hr e0 hb r hsp=> ?_⟩
 have hl:=len _ _ _ _ hsp
 have KX:K.In s.heap:=e0.mod.kin.keeps λb o e=>(e0.bs b o e).1
 have lim:s.heap.NoLimit:=e0.mod.nolimit.keeps λb o e=>(e0.bs b o e).1
 have hkind:∀ y∈ps.zip us,scope.names.lookup y.1=some .local\/(scope.names.lookup y.1=some .cell/\((cellsFrom (s.heap.objs.size+1) scope.names []).lookup y.1).isSome=true):=λ⟨n,v⟩ hy=>by
  rcases S.par n (List.of_mem_zip hy).1 with q | q
  ·exact .inl q
  ·exact .inr ⟨q,W.cellsFrom_some _ _ _ (.inl q)⟩
 refine codeAny_call_function hr.depth (KX _ _ lk) rfl S.co S.gen rfl (W.codeRec_of KX IF) (hb _ _ _ _ ?_)
 refine wpAny_newFunctionEnv_cells S.kind hkind λenv he s1 x=> ?_
 subst he
 refine⟨lim.keeps x.toInCall.keep,codeAny_func ?_⟩
 obtain⟨t,ht,hq⟩:=bC A outer s H vs Q E (hr.deeper _) hsp
 have I:Inv (G6 CX P w K mg base N qual scope f BT A outer s H E) [] (start N vs) H s1:=vA S hr.hd e0 hl r x
 refine wpAny_mono (ht [] s1 (start N vs) H _ I hq) (λfl s' hs=> ?_) λe s' hs=>hs
 have fin:∀ {σ':St} {H':Hp} {v:V} {u:Value},Inv (G6 CX P w K mg base N qual scope f BT A outer s H E) [] σ' H' s'->RelV v u->Q v H'->CE outer P w H s Q u s' :=
  λ{σ' H' v u} J rv q=>⟨v,H',J.os,J.bare,J.base,J.hok,rv,q⟩
 cases fl with
 | ret u =>
  obtain⟨v,σ',H',J,rv,q⟩:=hs
  exact fin J rv q
 | next =>
  obtain⟨σ',H',J,q⟩:=hs
  exact fin (v:=V.non) (u:=Value.none) J rfl q
 | brk =>
  obtain⟨_,_,_,q⟩:=hs
  exact False.elim q
 | cont =>
  obtain⟨_,_,_,q⟩:=hs
  exact False.elim q
end L2
namespace L2
section
variable{X:Cx}{x:Str}{p pos:Pos}{e:Expr}{es:List Expr}{t:TA}{id T:String}{r:List V->Hp->VK->Prop}
def C7(r:List V->Hp->VK->Prop)(t:TA):TE:=λσ H Q=>t σ H λvs H1=>r vs H1 Q
theorem EO(hc:FD X (.builtin id) r)(hg:Gl X x)(hm:X.mg x=none)(hv:bootBuiltins x=some (.builtin id))(ha:PA X (e::es) t)(hn:x≠"__name__":=by decide)(hdb:(x ==("__debug__":Str))=false:=by decide)
  (he:starEach (e::es) X.env=(false,eval e X.env)::starEach es X.env:=by rfl) (CJ:(backTo pos (starEach es X.env)).any (·.1)=false:=by rfl):PE X (.Call (.Name x p) (e::es) [] pos) (C7 r t):=by
 intro AA s σ H Q I h
 refine wpAny_Call_Name_kw (ON I hg hm hv ?_ hn hdb)
 exact PyProof.Rows.callWith_builtin1 (AR (ha pos AA s σ H _ I h) λus s1 ⟨vs,H1,I1,r1,q1⟩=>hc AA s1 σ H1 vs us Q I1 r1 q1) he CJ
theorem IL(hc:FD X (.type T) r)(hg:Gl X x)(hm:X.mg x=none)(hv:bootBuiltins x=some (.type T))(ha:PA X (e::es) t)(hn:x≠"__name__":=by decide)(hdb:(x ==("__debug__":Str))=false:=by decide)
  (he:starEach (e::es) X.env=(false,eval e X.env)::starEach es X.env:=by rfl) (CJ:(backTo pos (starEach es X.env)).any (·.1)=false:=by rfl):PE X (.Call (.Name x p) (e::es) [] pos) (C7 r t):=by
 intro AA s σ H Q I h
 refine wpAny_Call_Name_kw (ON I hg hm hv ?_ hn hdb)
 exact PyProof.Rows.callWith_type1 (AR (ha pos AA s σ H _ I h) λus s1 ⟨vs,H1,I1,r1,q1⟩=>hc AA s1 σ H1 vs us Q I1 r1 q1) he CJ
end
end L2
namespace HT
open PySem PyProof.Rows
section
open PySem.SeqAt
open PySem.AutoSeq1 (wpAny_loadPart')
open PySem.MeetsSeq PySem.MeetsSeq2 PySem.MeetsSeq3
end
section
variable{prog:Program}{w:World}{A:Around}{E:Value->Shared->Prop}{s:Shared}
theorem cat_tup{t b:Addr}{vs ws:List Value}{Q:Value->Shared->Prop}(ht:IsTup s.heap t vs.toArray)(hb:IsTup s.heap b ws.toArray)(hv:vs≠[])
  (h1:ws=[]->Q (.ref t) s) (h2:ws≠[]->Q (.ref s.heap.objs.size) { s with heap:=s.heap.push { cls:=.type "tuple",data:=.seq (vs++ws).toArray } })
  (hsz:vs.length+ws.length<=sizeLine):wpAny (model prog w) A (binaryOp .Add (.ref t) (.ref b)) Q E s:=by
 obtain⟨⟨cls,dd,data,sl⟩,ho,hc,n,hd⟩:=id ht
 obtain⟨⟨cls2,dd2,data2,sl2⟩,ho2,hc2,n2,hd2⟩:=id hb
 simp only at hc hd hc2 hd2
 subst hc hd hc2 hd2
 have e:vs.toArray++ws.toArray=(vs++ws).toArray:=by simp
 by_cases hw:ws=[]
 ·exact concat_meets ⟨_,ho,rfl⟩ ⟨_,ho2,rfl⟩ noFill_tuple_add seq_tuple_add PySem.F.slot_tuple_add PySem.F.entry_tuple_add (PySem.F.args_tuple_add_2 _ _)
   (tuple_addW1 t b vs.toArray ws.toArray n n2 dd dd2 sl sl2 (by simpa using hv) (by simp[hw])) ⟨ho,ho2,h1 hw⟩
 ·refine concat_meets ⟨_,ho,rfl⟩ ⟨_,ho2,rfl⟩ noFill_tuple_add seq_tuple_add PySem.F.slot_tuple_add PySem.F.entry_tuple_add (PySem.F.args_tuple_add_2 _ _)
   (tuple_addW2 t b vs.toArray ws.toArray n n2 dd dd2 sl sl2 (by simpa using hv) (by simpa using hw) (by rw[List.size_toArray,List.size_toArray];exact hsz)) ⟨ho,ho2,?_⟩
  rw[e]
  exact h2 hw
def sIx(n d:Nat):Option Int->Nat
 | none=>d
 | some v=>if v<0 then(v+(n:Int)).toNat else min v.toNat n
theorem sIx_none(n d:Nat):sIx n d none=d:=rfl
theorem vC(n d:Nat)(hd:d<=n)(o:Option Int):sIx n d o<=n:=by
 cases o with
 | none=>exact hd
 | some v =>
  show(if v<0 then(v+(n:Int)).toNat else min v.toNat n)<=n
  by_cases hv:v<0
  ·rw[if_pos hv];omega
  ·rw[if_neg hv];exact Nat.min_le_right _ _
theorem cN(v:Int)(n d:Nat):(if v<0 then max (v+(n:Int)) 0 else min v (n:Int))=((sIx n d (some v):Nat):Int):=by
 show(if v<0 then max (v+(n:Int)) 0 else min v (n:Int))=(((if v<0 then(v+(n:Int)).toNat else min v.toNat n):Nat):Int)
 by_cases hv:v<0
 ·simp only[if_pos hv];omega
 ·simp only[if_neg hv];omega
theorem vD(lo hi:Option Int)(n:Nat):Builtin.Slice.sliceAdjust lo hi 1 (n:Int)=(((sIx n 0 lo:Nat):Int),((sIx n n hi:Nat):Int)):=by
 have h1:¬ ((1:Int)<0):=by omega
 unfold Builtin.Slice.sliceAdjust
 simp only[h1,if_false]
 refine Prod.ext ?_ ?_
 ·cases lo with
  | none=>rfl
  | some v=>exact cN v n 0
 ·cases hi with
  | none=>rfl
  | some v=>exact cN v n n
theorem vE(i j:Nat):Builtin.Slice.slicePlaces (i:Int) (j:Int) 1=j - i:=by
 unfold Builtin.Slice.slicePlaces
 have h1:(1:Int) > 0:=by omega
 simp only[h1,if_true,Int.ediv_one]
 split<;>omega
theorem cO{v:Value}{o:Option Int}{Q:Option Int->Shared->Prop}(p:IsPart v o)(h:Q o s):wpAny (model prog w) A (Builtin.Slice.slicePartIndex v) Q E s:=by
 cases p with
 | none=>exact slicePart_none h
 | int i t=>exact slicePart_int h
theorem vF{sl:Addr}{vl vu:Value}{lo hi:Option Int}{n:Nat}{Q:Int × Int × Nat->Shared->Prop}(hs:s.heap.IsSliceOf sl vl vu .none)(pl:IsPart vl lo)(pu:IsPart vu hi)
  (h:Q (((sIx n 0 lo:Nat):Int),1,sIx n n hi - sIx n 0 lo) s):wpAny (model prog w) A (Builtin.Slice.sliceApplied (.ref sl) (pure (n:Int))) Q E s:=by
 obtain⟨os,hos,hcs,hds⟩:=id hs
 unfold Builtin.Slice.sliceApplied Builtin.Slice.sliceFields
 refine wpAny_bind (wpAny_bind (wpAny_field hos hds (x:=vl) rfl (wpAny_bind (wpAny_field hos hds (x:=vu) rfl (wpAny_bind (wpAny_field hos hds (x:=.none) rfl (wpAny_pure ?_)))))))
 refine wpAny_bind (slicePart_none ?_)
 show wpAny _ _ (if((1:Int) == 0)=true then _ else _) _ _ s
 rw[if_neg (by decide)]
 refine wpAny_bind (cO pl (wpAny_bind (cO pu (wpAny_bind (wpAny_pure ?_)))))
 show wpAny _ _ (match Builtin.Slice.sliceAdjust lo hi 1 (n:Int)with | (lo,hi)=>pure (lo,(1:Int),Builtin.Slice.slicePlaces lo hi 1)) _ _ s
 rw[vD lo hi n]
 show wpAny _ _ (pure (((sIx n 0 lo:Nat):Int),(1:Int),Builtin.Slice.slicePlaces ((sIx n 0 lo:Nat):Int) ((sIx n n hi:Nat):Int) 1)) _ _ s
 rw[vE]
 exact wpAny_pure h
theorem vG(xs:Array Value)(i k:Nat):((List.range k).filterMap λ(m:Nat)=>xs[((i:Int)+(m:Int) * 1).toNat]?).toArray=((xs.toList.drop i).take k).toArray:=by
 have e:(λ(m:Nat)=>xs[((i:Int)+(m:Int) * 1).toNat]?)=λm=>xs[i+m]? :=by
  funext m
  have:((i:Int)+(m:Int) * 1).toNat=i+m:=by omega
  rw[this]
 rw[e]
 have:=pick_run xs i k
 rw[List.filterMap_map]at this
 have e2:((λx=>xs[x]?) ∘ λx=>i+x)=λm=>xs[i+m]? :=rfl
 rw[e2]at this
 rw[this]
theorem getItem_tuple_cut{t sl:Addr}{BI:Array Value}{vl vu:Value}{lo hi:Option Int}{Q:Value->Shared->Prop}(ht:IsTup s.heap t BI)(hs:s.heap.IsSliceOf sl vl vu .none)(pl:IsPart vl lo)(pu:IsPart vu hi)
  (hw:¬ (sIx BI.size 0 lo=0/\sIx BI.size BI.size hi=BI.size))
  (h:Q (.ref s.heap.objs.size) { s with heap:=s.heap.push { cls:=.type "tuple",data:=.seq ((BI.toList.drop (sIx BI.size 0 lo)).take (sIx BI.size BI.size hi - sIx BI.size 0 lo)).toArray } })
  (hsz:BI.size<=sizeLine):wpAny (model prog w) A (getItem (.ref t) (.ref sl)) Q E s:=by
 have htake:sizeOk (.seq ((BI.toList.drop (sIx BI.size 0 lo)).take (sIx BI.size BI.size hi - sIx BI.size 0 lo)).toArray):=by
  show((BI.toList.drop (sIx BI.size 0 lo)).take (sIx BI.size BI.size hi - sIx BI.size 0 lo)).toArray.size<=sizeLine
  rw[List.size_toArray,List.length_take,List.length_drop,Array.length_toList]
  omega
 have hj:sIx BI.size BI.size hi<=BI.size:=vC _ _ (Nat.le_refl _) hi
 obtain⟨os,hos,hcs,hds⟩:=id hs
 have hTs:s.TypeIs (.ref sl) "slice":=⟨os,hos,hcs⟩
 unfold getItem
 try with_reducible refine wpAny_holding ?_
 first | refine wpAny_bind (wpAny_pure ?_) | skip
 refine wpAny_bind (wpAny_sequenceKey ht.typeIs (by decide) ?_)
 refine wpAny_bind (wpAny_callSpecial?_slot (name:=Str.ofString "__getitem__") ht.typeIs PyProof.Rows.slot_tuple_getitem
  (wpAny_call_entry PyProof.Rows.slot_tuple_getitem ht.typeIs entry_tuple_getitem ?_ (args_tuple_getitem _ _)))
 show wpAny _ _ (Builtin.Tuple.tupleItemsOf (.ref t) >>= _) _ _ s
 refine wpAny_bind (tupleItemsOf_ ht ?_)
 refine wpAny_bind (wpAny_typeOf hTs ?_)
 rw[if_pos (by decide)]
 refine wpAny_bind (vF hs pl pu ?_)
 have hno:¬ ((((sIx BI.size 0 lo:Nat):Int) == 0 && (1:Int) == 1 && (sIx BI.size BI.size hi - sIx BI.size 0 lo) == BI.size)=true):=by
  intro q
  rw[Bool.and_eq_true,Bool.and_eq_true]at q
  have q1:((sIx BI.size 0 lo:Nat):Int)=0:=eq_of_beq q.1.1
  have q2:sIx BI.size BI.size hi - sIx BI.size 0 lo=BI.size:=eq_of_beq q.2
  exact hw ⟨by omega,by omega⟩
 show wpAny _ _ (if(((sIx BI.size 0 lo:Nat):Int) == 0 && (1:Int) == 1 && (sIx BI.size BI.size hi - sIx BI.size 0 lo) == BI.size)=true then _ else _) _ _ s
 rw[if_neg hno,vG]
 first
  | exact wpAny_bind (m:=Builtin.Tuple.tupleExact _) (wpAny_newObj_type (wpAny_pure ⟨_,rfl,wpAny_pure h⟩) htake)
  | exact wpAny_bind (m:=Builtin.Tuple.tupleExact _) (wpAny_newObj_type (wpAny_bind (wpAny_pure (wpAny_pure ⟨_,rfl,wpAny_pure h⟩))) htake)
  | exact wpAny_bind (wpAny_bind (m:=Builtin.Tuple.tupleExact _) (wpAny_newObj_type (wpAny_pure (wpAny_pure ⟨_,rfl,wpAny_pure h⟩)) htake))
  | exact wpAny_bind (wpAny_bind (m:=Builtin.Tuple.tupleExact _) (wpAny_newObj_type (wpAny_pure ⟨_,rfl,wpAny_pure h⟩) htake))
end
end HT
namespace L2
abbrev TO:=St->Hp->(Option Int->Hp->Prop)->Prop
def PO(X:Cx)(e:Option Expr)(t:TO):Prop :=
 ∀ (AA:List (Addr × Obj)) (s:Shared) (σ:St) (H:Hp) (Q:Option Int->Hp->Prop),Inv X AA σ H s->t σ H Q →
  wpAny (model X.prog X.w) X.A (evalPart e X.env) (λu s'=>∃ o H',Inv X AA σ H' s'/\IsPart u o/\Q o H') X.xe s
def LR:TO:=λ_ H Q=>Q none H
def JO(t:TE):TO:=λσ H Q=>t σ H λx H1=>∃ i,x=.int i/\Q (some i) H1
section
variable{X:Cx}{e:Expr}{te:TE}{lo hi:Option Expr}{tl th:TO}{pos p2:Pos}
theorem O1:PO X none LR:=by
 intro AA s σ H Q I h
 rw[evalPart_none]
 exact wpAny_pure ⟨none,H,I,.none,h⟩
theorem LS(h:PE X e te):PO X (some e) (JO te):=by
 intro AA s σ H Q I hw
 rw[evalPart_some]
 refine AR (h AA s σ H _ I hw) λu s1 hzz=> ?_
 obtain⟨x,H1,I1,r1,q1⟩:=hzz
 obtain⟨i,rfl,q⟩:=q1
 obtain⟨t,rfl⟩:=r1
 exact⟨some i,H1,I1,.int i t,q⟩
def SlR(X:Cx)(r:V->Option Int->Option Int->Hp->VK->Prop):Prop :=
 ∀ (AA:List (Addr × Obj)) (s:Shared) (σ:St) (H:Hp) (x:V) (v vl vu:Value) (lo hi:Option Int) (sl:Addr) (Q:VK),Inv X AA σ H s->RelV x v->s.heap.IsSliceOf sl vl vu .none->IsPart vl lo->IsPart vu hi->r x lo hi H Q →
  ∃ T id,typeLookup (.type T) "__getitem__"=pure (some (.builtin id))/\s.TypeIs v T/\wpAny (model X.prog X.w) X.A (getItem v (.ref sl)) (EP X AA σ Q) X.xe s
theorem SlR.or{r r':V->Option Int->Option Int->Hp->VK->Prop}(h:SlR X r)(h':SlR X r'):SlR X (λx lo hi H Q=>r x lo hi H Q\/r' x lo hi H Q):=by
 intro AA s σ H x v vl vu lo hi sl Q I rx hs pl pu q
 rcases q with q | q
 ·exact h AA s σ H x v vl vu lo hi sl Q I rx hs pl pu q
 ·exact h' AA s σ H x v vl vu lo hi sl Q I rx hs pl pu q
def KQ(r:V->Option Int->Option Int->Hp->VK->Prop)(te:TE)(tl th:TO):TE:=λσ H Q=>te σ H λx H1=>tl σ H1 λl H2=>th σ H2 λu H3=>r x l u H3 Q
theorem ND{r:V->Option Int->Option Int->Hp->VK->Prop}(hr:SlR X r)(he:PE X e te)(hl:PO X lo tl)(hu:PO X hi th):PE X (.Subscript e (.Slice lo hi none p2) pos) (KQ r te tl th):=by
 intro AA s σ H Q I h
 refine Subscript_ (AR (he AA s σ H _ I h) λv s1 hzz=> ?_)
 obtain⟨x,H1,I1,r1,q1⟩:=hzz
 refine wpAny_Slice (AR (hl AA s1 σ H1 _ I1 q1) λvl s2 ⟨l,H2,I2,pl,q2⟩=>AR (hu AA s2 σ H2 _ I2 q2) λvu s3 hzz=> ?_)
 obtain⟨u,H3,I3,pu,q3⟩:=hzz
 rw[evalPart_none]
 refine wpAny_pure ?_
 have I4:Inv X AA σ H3 { s3 with heap:=s3.heap.push { cls:=.type "slice",data:=.fields #[vl,vu,.none] } }:=I3.kept (t':=s3.toks) λb ob q=>Heap.get?_push_of_some _ q
 obtain⟨T,id,hT,ht,hg⟩:=hr AA { s3 with heap:=s3.heap.push { cls:=.type "slice",data:=.fields #[vl,vu,.none] } } σ H3 x v vl vu l u s3.heap.objs.size Q I4 r1 (Heap.IsSliceOf.new ..) pl pu q3
 show wpAny (model X.prog X.w) X.A (subscriptTail e (.Slice lo hi none p2) v (.ref s3.heap.objs.size)) (EP X AA σ Q) X.xe { s3 with heap:=s3.heap.push { cls:=.type "slice",data:=.fields #[vl,vu,.none] } }
 exact tail_any (ops:=[.ref s3.heap.objs.size,v]) ht hT hg (by with_unfolding_all rfl)
def EX(xs:List V)(lo hi:Option Int):List V:=(xs.drop (HT.sIx xs.length 0 lo)).take (HT.sIx xs.length xs.length hi - HT.sIx xs.length 0 lo)
theorem cP(xs:List V)(lo hi:Option Int):(EX xs lo hi).length<=xs.length:=by
 unfold EX
 rw[List.length_take,List.length_drop]
 omega
def cQ(K:W.Frag):V->Option Int->Option Int->Hp->VK->Prop:=λx lo hi H Q=>∃ a xs,x=.ref a/\SqT K H a xs ∧
 ¬ (HT.sIx xs.length 0 lo=0/\HT.sIx xs.length xs.length hi=xs.length)/\∀ p,H p=none->Q (.ref p) (upd H p (.tup (EX xs lo hi)))
theorem vH:SlR X (cQ X.K):=by
 intro AA s σ H x v vl vu lo hi sl Q I rx hs pl pu h
 obtain⟨a,xs,rfl,hx,hw,q⟩:=h
 cases rx
 obtain⟨its,r,ht,hz⟩:=I.tuple hx
 have BV:its.toArray.size=xs.length:=by rw[List.size_toArray];exact r.length.symm
 refine⟨"tuple",_,PyProof.Rows.slot_tuple_getitem.lookup,ht.typeIs,?_⟩
 refine HT.getItem_tuple_cut ht hs pl pu (by rw[BV];exact hw) ?_ (by rw[BV];exact hz)
 rw[BV]
 refine⟨.ref s.heap.objs.size,_,I.laid (t':=s.toks) (o:=.tup (EX xs lo hi)) (λb ob q=>Heap.get?_push_of_some _ q) (Nat.le_refl _) ?_,rfl,q _ (I.hok.fresh (Nat.le_refl _))⟩
 exact⟨Nat.le_trans (cP xs lo hi) hz,_,(r.drop (HT.sIx xs.length 0 lo)).take (HT.sIx xs.length xs.length hi - HT.sIx xs.length 0 lo),IsTup.new _ _⟩
def SO(K:W.Frag):R2:=λx y H Q=>∃ a b xs ys,x=.ref a/\y=.ref b/\SqT K H a xs/\SqT K H b ys/\xs≠[]/\xs.length+ys.length<=sizeLine ∧
 (ys=[]->Q (.ref a) H)/\(ys≠[]->∀ p,H p=none->Q (.ref p) (upd H p (.tup (xs++ys))))
theorem Vals.nil_iff{xs:List V}{us:List Value}(r:Vals xs us):us=[]↔xs=[]:=by
 cases r with
 | nil=>simp
 | cons _ _=>simp
theorem vI:B8 X (binaryOp .Add) (SO X.K):=by
 intro AA s σ H x y v u Q I rx ry h
 obtain⟨a,b,xs,ys,rfl,rfl,ha,hb,hx,hz,q1,q2⟩:=h
 cases rx
 cases ry
 obtain⟨its,r1,p1,_⟩:=I.tuple ha
 obtain⟨OK,r2,p2,_⟩:=I.tuple hb
 refine HT.cat_tup p1 p2 (λz=>hx (r1.nil_iff.mp z)) (λz=>⟨.ref a,H,I,rfl,q1 (r2.nil_iff.mp z)⟩) (λz=> ?_) (by rw[<-r1.length,<-r2.length];exact hz)
 refine⟨.ref s.heap.objs.size,_,I.laid (t':=s.toks) (o:=.tup (xs++ys)) (λb ob q=>Heap.get?_push_of_some _ q) (Nat.le_refl _) ?_,rfl,q2 (λw=>z (r2.nil_iff.mpr w)) _ (I.hok.fresh (Nat.le_refl _))⟩
 exact⟨by rw[List.length_append];exact hz,_,r1.append r2,IsTup.new _ _⟩
end
end L2
namespace L2
def IM(n:Nat)(i:Int):Option Nat:=if 0<=i then(if i<n then some i.toNat else none)else if -(n:Int)<=i then some (i+n).toNat else none
def KR{α :Type}(xs:List α)(i:Int):Option α :=(IM xs.length i).bind λj=>xs[j]?
theorem cR{n:Nat}{i:Int}{j:Nat}(h:IM n i=some j):seqIndex? i n=some j/\j<n/\ -(n:Int)<=i/\i<n:=by
 unfold IM at h
 by_cases h0:0<=i
 ·rw[if_pos h0]at h
  by_cases h1:i<n
  ·rw[if_pos h1]at h
   have e:i.toNat=j:=Option.some.inj h
   exact⟨by rw[seqIndex_of h0 h1,e],by omega,by omega,h1⟩
  ·rw[if_neg h1]at h;cases h
 ·rw[if_neg h0]at h
  by_cases h1: -(n:Int)<=i
  ·rw[if_pos h1]at h
   have e:(i+n).toNat=j:=Option.some.inj h
   exact⟨by rw[seqIndex_neg (by omega) h1,e],by omega,h1,by omega⟩
  ·rw[if_neg h1]at h;cases h
theorem SQ{α :Type}{xs:List α}{i:Int}{v: α}(h:KR xs i=some v):∃ j,seqIndex? i xs.length=some j/\xs[j]? =some v/\j<xs.length/\ -(xs.length:Int)<=i/\i<xs.length:=by
 unfold KR at h
 cases e:IM xs.length i with
 | none=>rw[e]at h;cases h
 | some j =>
  rw[e]at h
  obtain⟨h1,h2,h3,h4⟩:=cR e
  exact⟨j,h1,h,h2,h3,h4⟩
theorem O2{α :Type}{xs:List α}{j:Nat}{v: α}(h:xs[j]? =some v):KR xs (j:Int)=some v:=by
 have hj:j<xs.length:=(List.getElem?_eq_some_iff.mp h).1
 have e:IM xs.length (j:Int)=some j:=by
  unfold IM
  rw[if_pos (by omega),if_pos (by omega)];simp
 unfold KR;rw[e];exact h
def vJ(b:Expr):Prop:=∀ o i,subscripted b false o i=operate [o,i] (getItem o i)
def IxR(X:Cx)(r:R2):Prop :=
 ∀ (value slice:Expr) (AA:List (Addr × Obj)) (s:Shared) (σ:St) (H:Hp) (x y:V) (v u:Value) (Q:VK),Inv X AA σ H s->RelV x v->RelV y u->r x y H Q →
  subscripted slice false v u=operate [v,u] (getItem v u)->wpAny (model X.prog X.w) X.A (subscriptTail value slice v u) (EP X AA σ Q) X.xe s
def O3(X:Cx)(id:String)(r:V->List V->Hp->VK->Prop):Prop :=
 ∀ (AA:List (Addr × Obj)) (s:Shared) (σ:St) (H:Hp) (x:V) (xs:List V) (v:Value) (us:List Value) (Q:VK),Inv X AA σ H s->RelV x v->Vals xs us->r x xs H Q →
  wpAny (model X.prog X.w) X.A (call (.builtin id) (v::us)) (EP X AA σ Q) X.xe s
section
variable{X:Cx}{a b:Expr}{ta tb:TE}{pos:Pos}
theorem IxR.or{r r':R2}(h:IxR X r)(h':IxR X r'):IxR X (λx y H Q=>r x y H Q\/r' x y H Q):=by
 intro value slice AA s σ H x y v u Q I rx ry q hs
 rcases q with q | q
 ·exact h value slice AA s σ H x y v u Q I rx ry q hs
 ·exact h' value slice AA s σ H x y v u Q I rx ry q hs
theorem CG{r:R2}(hr:IxR X r)(ha:PE X a ta)(hb:PE X b tb)(hs:vJ b):PE X (.Subscript a b pos) (AF r ta tb):=by
 intro AA s σ H Q I h
 exact Subscript_ (SE ha hb I h λv u s2 x y H2 I2 rx ry q=>hr a b AA s2 σ H2 x y v u Q I2 rx ry q (hs _ _))
def cS(K:W.Frag):R2:=λx y H Q=>∃ p xs i v,x=.ref p/\y=.int i/\SqL K H p xs/\KR xs i=some v/\Q v H
def cT(K:W.Frag):R2:=λx y H Q=>∃ p xs i v,x=.ref p/\y=.int i/\SqT K H p xs/\KR xs i=some v/\Q v H
def cU:R2:=λx y H Q=>∃ z i c,x=.str z/\y=.int i/\z.length<=sizeLine/\KR z.cps.toList i=some c/\Q (.str ⟨#[c]⟩) H
theorem vK:IxR X (cS X.K):=by
 intro value slice AA s σ H x y v u Q I rx ry h hs
 obtain⟨p,xs,i,z,rfl,rfl,hq,he,q⟩:=h
 cases rx
 obtain⟨t,rfl⟩:=ry
 obtain⟨its,r,pl,hz⟩:=I.list hq
 obtain⟨j,h1,h2,h3,h4,h5⟩:=SQ he
 obtain⟨w,ew,rw'⟩:=r.get h2
 have hl:=r.length
 have hn:=LQ
 have fin:EP X AA σ Q w s:=⟨z,H,I,rw',q⟩
 by_cases h0:0<=i
 ·have hj:i.toNat=j:=by
   rw[seqIndex_of h0 h5]at h1
   exact Option.some.inj h1
  exact item_listR pl.isList h0 (by omega) (by rw[hj];simpa using ew) fin hs
 ·have hj:(i+(its.toArray.size:Int)).toNat=j:=by
   rw[seqIndex_neg (by omega) h4]at h1
   rw[List.size_toArray,<-hl]
   exact Option.some.inj h1
  exact subscriptTail_builtinR (x:=w) pl.isList.typeIs slot_list_getitem.lookup
   (wpAny_getItem_list_neg (Q:=λr s'=>r=w/\EP X AA σ Q r s') pl.isList (by omega) (by rw[List.size_toArray]<;>omega) (by omega) (by rw[hj];simpa using ew) ⟨rfl,fin⟩) hs
theorem vL:IxR X (cT X.K):=by
 intro value slice AA s σ H x y v u Q I rx ry h hs
 obtain⟨p,xs,i,z,rfl,rfl,hq,he,q⟩:=h
 cases rx
 obtain⟨t,rfl⟩:=ry
 obtain⟨its,r,pl,hz⟩:=I.tuple hq
 obtain⟨j,h1,h2,h3,h4,h5⟩:=SQ he
 obtain⟨w,ew,rw'⟩:=r.get h2
 have hl:=r.length
 have hn:=LQ
 have fin:EP X AA σ Q w s:=⟨z,H,I,rw',q⟩
 exact subscriptTail_builtinR (x:=w) pl.typeIs slot_tuple_getitem.lookup
  (getItem_tuple (j:=j) (Q:=λr s'=>r=w/\EP X AA σ Q r s') pl (by omega) (by omega) (by rw[List.size_toArray,<-hl];exact h1) (by simpa using ew) ⟨rfl,fin⟩) hs
theorem vM:IxR X cU:=by
 intro value slice AA s σ H x y v u Q I rx ry h hs
 obtain⟨z,i,c,rfl,rfl,hz,he,q⟩:=h
 obtain⟨t,rfl⟩:=rx
 obtain⟨t',rfl⟩:=ry
 obtain⟨j,h1,h2,h3,h4,h5⟩:=SQ he
 have hl:z.cps.toList.length=z.length:=by simp[Str.length]
 rw[hl]at h1 h4 h5
 have hn:=LQ
 exact tail_any (typeIs_str s z t) slot_str_getitem.lookup (getItem_str (c:=c) (by
  have e1:decide (i< -(2 ^ 63:Int))=false:=decide_eq_false (by omega)
  have e2:decide (i ≥ 2 ^ 63)=false:=decide_eq_false (by omega)
  rw[e1,e2,Bool.or_false]) (by rw[h1];simpa using h2) ⟨.str ⟨#[c]⟩,H,I.tok _,⟨_,rfl⟩,q⟩) hs
def cV(K:W.Frag):R2:=λx y H Q=>cS K x y H Q\/cT K x y H Q\/cU x y H Q
theorem vN:IxR X (cV X.K):=vK.or (vL.or vM)
theorem vO(its:List Value)(n j:Nat)(u:Value):Obj.mapSeq (·.setIfInBounds j u) { cls:=.type "list",data:=.seq its.toArray n }={ cls:=.type "list",data:=.seq (its.set j u).toArray n }:=by
 simp[Obj.mapSeq]
theorem Inv.lst{AA:List (Addr × Obj)}{σ:St}{H:Hp}{s:Shared}{p:Addr}{xs:List V}(I:Inv X AA σ H s)(h:H p=some (.lst xs)) :
  ∃ (its:List Value) (n:Nat),Vals xs its/\s.heap.get? p=some { cls:=.type "list",data:=.seq its.toArray n }/\xs.length<=sizeLine:=by
 obtain⟨z,its,n,r,e⟩:=I.hok p _ h
 exact⟨its,n,r,e,z⟩
theorem Inv.lstUpd{AA:List (Addr × Obj)}{σ:St}{H:Hp}{s:Shared}{p:Addr}{xs ys:List V}{its its':List Value}{n n':Nat}{f:Obj->Obj}(I:Inv X AA σ H s)(h:H p=some (.lst xs))
  (ho:s.heap.get? p=some { cls:=.type "list",data:=.seq its.toArray n }) (hf:f { cls:=.type "list",data:=.seq its.toArray n }={ cls:=.type "list",data:=.seq its'.toArray n' }) (r:Vals ys its') (hz:ys.length<=sizeLine) (t:Nat) :
  Inv X AA σ (upd H p (.lst ys)) { s with heap:=s.heap.update p f,toks:=t }:=by
 have e:(s.heap.update p f).get? p=some { cls:=.type "list",data:=.seq its'.toArray n' }:=by
  rw[Heap.get?_update_self f ho (by rw[hf]<;>rfl),hf]
 refine I.write (x:=p) (e:=p) (by rw[h];trivial) (.inl rfl) (λb u hb q=>(Heap.get?_update_other _ _ (Ne.symm hb)).trans q) ⟨_,e⟩ ?_
 exact⟨hz,its',n',r,e⟩
def cW:V->V->V->Hp->(Hp->Prop)->Prop:=λo i v H Q=>∃ p xs k j,o=.ref p/\i=.int k/\H p=some (.lst xs)/\IM xs.length k=some j/\Q (upd H p (.lst (xs.set j v)))
theorem vP:R9 X cW:=by
 intro AA s σ H o i v ov iv u Q I ro ri rv h
 obtain⟨p,xs,k,j,rfl,rfl,hp,hj,q⟩:=h
 cases ro
 obtain⟨t,rfl⟩:=ri
 obtain⟨its,n,r,ho,hz⟩:=I.lst hp
 obtain⟨h1,h2,h3,h4⟩:=cR hj
 have hl:=r.length
 have hn:=LQ
 have I':Inv X AA σ (upd H p (.lst (xs.set j v))) { s with heap:=s.heap.update p (Obj.mapSeq (·.setIfInBounds j u)) } :=
  I.lstUpd hp ho (vO its n j u) (r.set rv j) (by rw[List.length_set];exact hz) s.toks
 by_cases h0:0<=k
 ·have hk:k.toNat=j:=by
   rw[seqIndex_of h0 h4]at h1
   exact Option.some.inj h1
  exact W.ki_setAt ho h0 (by omega) (by rw[List.size_toArray,<-hl];exact h4) (by rw[hk];exact⟨_,I',q⟩)
 ·have hk:(k+(its.toArray.size:Int)).toNat=j:=by
   rw[seqIndex_neg (by omega) h3]at h1
   rw[List.size_toArray,<-hl]
   exact Option.some.inj h1
  exact W.ki_setBack ho (by omega) (by rw[List.size_toArray,<-hl];exact h3) (by omega) (by rw[hk];exact⟨_,I',q⟩)
theorem vQ(lo hi:Option Int)(n:Nat):(sliceBounds lo hi none n).1=((HT.sIx n 0 lo:Nat):Int)/\(sliceBounds lo hi none n).2.1=((HT.sIx n n hi:Nat):Int)/\(sliceBounds lo hi none n).2.2=1:=by
 refine⟨?_,?_,rfl⟩
 ·cases lo with
  | none=>simp[sliceBounds,HT.sIx]
  | some i =>
   simp only[sliceBounds,HT.sIx,Option.getD_none,show(1:Int) > 0 by decide,if_true]
   by_cases h:i<0
   ·simp only[h,if_true]<;>omega
   ·simp only[h,if_false]<;>omega
 ·cases hi with
  | none=>simp[sliceBounds,HT.sIx]
  | some i =>
   simp only[sliceBounds,HT.sIx,Option.getD_none,show(1:Int) > 0 by decide,if_true]
   by_cases h:i<0
   ·simp only[h,if_true]<;>omega
   ·simp only[h,if_false]<;>omega
theorem vR(its:List Value)(lo hi:Option Int):slicePick its.toArray lo hi none=((its.drop (HT.sIx its.length 0 lo)).take (HT.sIx its.length its.length hi - HT.sIx its.length 0 lo)).toArray:=by
 obtain⟨h1,h2,h3⟩:=vQ lo hi its.toArray.size
 unfold slicePick
 rw[h1,h2,h3]
 simp only[sliceRange_one,pick_run,List.size_toArray]<;>rfl
def cX(K:W.Frag):V->Option Int->Option Int->Hp->VK->Prop:=λx lo hi H Q=>∃ a xs,x=.ref a/\SqL K H a xs/\∀ p,H p=none->Q (.ref p) (upd H p (.lst (EX xs lo hi)))
theorem vS:SlR X (cX X.K):=by
 intro AA s σ H x v vl vu lo hi sl Q I rx hs pl pu h
 obtain⟨a,xs,rfl,hx,q⟩:=h
 cases rx
 obtain⟨its,r,ht,hz⟩:=I.list hx
 have BV:=r.length
 refine⟨"list",_,slot_list_getitem.lookup,ht.isList.typeIs,?_⟩
 refine wpAny_getItem_list_slice ht.isList hs pl pu .none (by simp) ?_ (by rw[List.size_toArray]<;>omega)
 rw[vR,<-BV]
 refine⟨.ref s.heap.objs.size,_,I.laid (t':=s.toks) (o:=.lst (EX xs lo hi)) (λb ob q=>Heap.get?_push_of_some _ q) (Nat.le_refl _) ?_,rfl,q _ (I.hok.fresh (Nat.le_refl _))⟩
 exact⟨Nat.le_trans (cP xs lo hi) hz,_,0,(r.drop (HT.sIx xs.length 0 lo)).take (HT.sIx xs.length xs.length hi - HT.sIx xs.length 0 lo),Heap.get?_push_size _ rfl⟩
def GJ:V->Bool
 | .non=>true
 | .bl _=>true
 | .int _=>true
 | .str _=>true
 | _=>false
def FY:V->V->Bool
 | .non,.non=>true
 | .bl a,.bl b=>a == b
 | .bl a,.int b=>(if a then 1 else 0) == b
 | .int a,.bl b=>a ==(if b then 1 else 0)
 | .int a,.int b=>a == b
 | .str a,.str b=>a == b
 | _,_=>false
theorem vT{A:Around}{s:Shared}{y x:V}{u v:Value}(ry:RelV y u)(rx:RelV x v)(fy:GJ y=true)(fx:GJ x=true):SeqAt.EqAt A s u v (FY y x):=by
 cases y with
 | non =>
  cases ry
  cases x with
  | non=>cases rx;exact SeqAt.EqAt.same _
  | bl b=>cases rx;exact SeqAt.EqAt.none_bool b
  | int b=>obtain⟨t,rfl⟩:=rx;exact SeqAt.EqAt.none_int b t
  | str b=>obtain⟨t,rfl⟩:=rx;exact SeqAt.EqAt.none_str b t
  | _=>exact absurd (show false=true from fx) Bool.false_ne_true
 | bl a =>
  cases ry
  cases x with
  | non=>cases rx;exact SeqAt.EqAt.bool_none a
  | bl b=>cases rx;exact SeqAt.EqAt.bool_bool a b
  | int b=>obtain⟨t,rfl⟩:=rx;exact SeqAt.EqAt.bool_int a b t
  | str b=>obtain⟨t,rfl⟩:=rx;exact SeqAt.EqAt.bool_str a b t
  | _=>exact absurd (show false=true from fx) Bool.false_ne_true
 | int a =>
  obtain⟨t',rfl⟩:=ry
  cases x with
  | non=>cases rx;exact SeqAt.EqAt.int_none a t'
  | bl b=>cases rx;exact SeqAt.EqAt.int_bool a t' b
  | int b=>obtain⟨t,rfl⟩:=rx;exact SeqAt.EqAt.int_int a t' b t
  | str b=>obtain⟨t,rfl⟩:=rx;exact SeqAt.EqAt.int_str a t' b t
  | _=>exact absurd (show false=true from fx) Bool.false_ne_true
 | str a =>
  obtain⟨t',rfl⟩:=ry
  cases x with
  | non=>cases rx;exact SeqAt.EqAt.str_none a t'
  | bl b=>cases rx;exact SeqAt.EqAt.str_bool a t' b
  | int b=>obtain⟨t,rfl⟩:=rx;exact SeqAt.EqAt.str_int a t' b t
  | str b=>obtain⟨t,rfl⟩:=rx;exact SeqAt.EqAt.str_str a t' b t
  | _=>exact absurd (show false=true from fx) Bool.false_ne_true
 | _=>exact absurd (show false=true from fy) Bool.false_ne_true
def IN(x:V)(u:Value):Bool:=match u with
 | .none=>FY .non x
 | .bool b=>FY (.bl b) x
 | .int i _=>FY (.int i) x
 | .str z _=>FY (.str z) x
 | _=>false
theorem cY{x y:V}{u:Value}(r:RelV y u)(f:GJ y=true):IN x u=FY y x:=by
 cases y with
 | non=>cases r;rfl
 | bl b=>cases r;rfl
 | int i=>obtain⟨t,rfl⟩:=r;rfl
 | str z=>obtain⟨t,rfl⟩:=r;rfl
 | _=>exact absurd (show false=true from f) Bool.false_ne_true
theorem SR{x:V}:∀ {xs:List V} {us:List Value},Vals xs us->xs.all GJ=true->us.any (IN x)=xs.any λy=>FY y x
 | _,_,.nil,_=>rfl
 | y::xs,u::us,.cons r t,f=>by
  rw[List.all_cons,Bool.and_eq_true]at f
  rw[List.any_cons,List.any_cons,cY r f.1,SR t f.2]
theorem SS{A:Around}{s:Shared}{x:V}{v:Value}(rx:RelV x v)(fx:GJ x=true):∀ {xs:List V} {us:List Value},Vals xs us->xs.all GJ=true->∀ u∈us,SeqAt.EqAt A s u v (IN x u)
 | _,_,.nil,_=>λu hu=>by cases hu
 | y::xs,u::us,.cons r t,f=>λu' hu=>by
  rw[List.all_cons,Bool.and_eq_true]at f
  rcases List.mem_cons.mp hu with rfl | hu
  ·rw[cY r f.1];exact vT r rx f.1 fx
  ·exact SS rx fx t f.2 u' hu
def IP(x:V)(xs:List V):Bool:=xs.any λy=>FY y x
def cZ(K:W.Frag)(neg:Bool):R2:=λx y H Q=>∃ p xs,y=.ref p/\(SqL K H p xs\/SqT K H p xs)/\GJ x=true/\xs.all GJ=true/\Q (.bl (if neg then !IP x xs else IP x xs)) H
theorem vU:B8 X (compareOp .In) (cZ X.K false):=by
 intro AA s σ H x y v u Q I rx ry h
 obtain⟨p,xs,rfl,hq,fx,fs,q⟩:=h
 cases ry
 rcases hq with hq | hq
 ·obtain⟨its,r,pl,hz⟩:=I.list hq
  refine SeqAt.in_listAt (IN x) pl.isList (λw hw=>SS rx fx r fs w (by simpa using hw)) ⟨.bl _,H,I,rfl,?_⟩
  rw[show its.toArray.any (IN x)=its.any (IN x) by simp,SR r fs]
  exact q
 ·obtain⟨its,r,pl,hz⟩:=I.tuple hq
  refine SeqAt.in_tupleAt (IN x) pl (λw hw=>SS rx fx r fs w (by simpa using hw)) ⟨.bl _,H,I,rfl,?_⟩
  rw[show its.toArray.any (IN x)=its.any (IN x) by simp,SR r fs]
  exact q
theorem vV:FD X (.type "list") (λxs H Q=>∃ p ys,xs=[.ref p]/\(SqL X.K H p ys\/SqT X.K H p ys)/\∀ l,H l=none->Q (.ref l) (upd H l (.lst ys))):=by
 intro AA s σ H xs us Q I r h
 obtain⟨p,ys,rfl,hq,q⟩:=h
 obtain⟨u,rfl,rx⟩:=HS r
 cases rx
 have fin:∀ (its:List Value),Vals ys its->ys.length<=sizeLine->∀ (h':Heap) (c':Nat),(∀ b o',s.heap.get? b=some o'->h'.get? b=some o') →
   h'.get? s.heap.objs.size=some { cls:=.type "list",dict:=none,data:=.seq its.toArray c',slots:= #[] }->EP X AA σ Q (.ref s.heap.objs.size) { s with heap:=h' }:=λits r' hz h' c' kp e =>
  ⟨.ref s.heap.objs.size,_,I.laid (t':=s.toks) kp (Nat.le_refl _) (show ObjOk X.prog X.w _ h' _ (.lst ys)from⟨hz,its,c',r',e⟩),rfl,q _ (I.hok.fresh (Nat.le_refl _))⟩
 rcases hq with hq | hq
 ·obtain⟨its,r',pl,hz⟩:=I.list hq
  have BV:=r'.length
  obtain⟨o,ho,hc,n,hd⟩:=pl.isList
  exact call_list_seq p (.inl rfl) ho hc hd (λh' c' kp e=>fin its r' hz h' c' kp e) (by simp only[List.size_toArray]<;>omega)
 ·obtain⟨its,r',pl,hz⟩:=I.tuple hq
  have BV:=r'.length
  obtain⟨o,ho,hc,n,hd⟩:=pl
  exact call_list_seq p (.inr rfl) ho hc hd (λh' c' kp e=>fin its r' hz h' c' kp e) (by simp only[List.size_toArray]<;>omega)
theorem vW:FD X (.type "tuple") (λxs H Q=>∃ p ys,xs=[.ref p]/\((SqL X.K H p ys/\∀ l,H l=none->Q (.ref l) (upd H l (.tup ys)))\/(SqT X.K H p ys/\Q (.ref p) H))):=by
 intro AA s σ H xs us Q I r h
 obtain⟨p,ys,rfl,h⟩:=h
 obtain⟨u,rfl,rx⟩:=HS r
 cases rx
 rcases h with⟨hq,q⟩ | ⟨hq,q⟩
 ·obtain⟨its,r',pl,hz⟩:=I.list hq
  have BV:=r'.length
  refine call_tuple_list pl.isList (λh' kp=> ?_) (by simp only[List.size_toArray]<;>omega)
  have I1:Inv X AA σ H { s with heap:=h' }:=I.kept (t':=s.toks) kp
  have I2:Inv X AA σ (upd H h'.objs.size (.tup ys)) { s with heap:=h'.push { cls:=.type "tuple",data:=.seq its.toArray } } :=
   I1.laid (t':=s.toks) (λb o e=>Heap.get?_push_of_some _ e) (Nat.le_refl _) (show ObjOk X.prog X.w _ _ _ (.tup ys)from⟨hz,its,r',IsTup.new _ _⟩)
  exact⟨.ref h'.objs.size,_,I2,rfl,q _ (I1.hok.fresh (Nat.le_refl _))⟩
 ·obtain⟨its,r',pl,hz⟩:=I.tuple hq
  exact call_tuple_same pl ⟨.ref p,H,I,rfl,q⟩
def NE(K:W.Frag)(T:String)(x:V)(H:Hp):Prop:=match x with
 | .str _=>T="str"
 | .int _=>T="int"
 | .ref p=>(T="list"/\∃ xs,SqL K H p xs)\/(T="tuple"/\∃ o,K.lookup p=some o/\o.cls=.type "tuple"/\o.dict=none) ∨
   (T="dict"/\((∃ kvs,H p=some (.dK kvs))\/∃ kvs,H p=some (.dT kvs)))\/(T="set"/\∃ S n,H p=some (.set S n))
 | _=>False
theorem c5{AA:List (Addr × Obj)}{σ:St}{H:Hp}{s:Shared}{T:String}{x:V}{v:Value}(I:Inv X AA σ H s)(r:RelV x v)(ty:NE X.K T x H) :
  s.TypeIs v T/\∀ a,v=.ref a->∃ ob,s.heap.get? a=some ob/\ob.dict=none:=by
 cases x with
 | str z =>
  obtain⟨t,rfl⟩:=r
  cases (show T="str" from ty)
  exact⟨typeIs_str s z t,λ_ e=>nomatch e⟩
 | int i =>
  obtain⟨t,rfl⟩:=r
  cases (show T="int" from ty)
  exact⟨typeIs_int s i t,λ_ e=>nomatch e⟩
 | ref p =>
  cases r
  rcases ty with⟨rfl,xs,hq⟩ | ⟨rfl,o,hk,hc,hd⟩ | ⟨rfl,hk⟩ | ⟨rfl,S,n,hk⟩
  ·obtain⟨its,_,pl,_⟩:=I.list hq
   refine⟨pl.isList.typeIs,λa e=> ?_⟩
   cases e
   obtain⟨o,n,e,c,hd,_⟩:=pl
   exact⟨o,e,hd⟩
  ·refine⟨⟨o,I.kIn p o hk,hc⟩,λa e=> ?_⟩
   cases e
   exact⟨o,I.kIn _ o hk,hd⟩
  ·have z:∃ o,s.heap.get? p=some o/\o.ExactDict:=by
    rcases hk with⟨kvs,hk⟩ | ⟨kvs,hk⟩
    ·obtain⟨_,_,_,_,o,_,_,e,ex,_⟩:=I.hok p _ hk
     exact⟨o,e,ex⟩
    ·obtain⟨_,_,_,_,o,_,_,e,ex,_⟩:=I.hok p _ hk
     exact⟨o,e,ex⟩
   obtain⟨o,e,ex⟩:=z
   refine⟨⟨o,e,ex.1⟩,λa e2=> ?_⟩
   cases e2
   exact⟨o,e,ex.2.1⟩
  ·obtain⟨o,_,_,_,e,ex,_⟩:=I.hok p _ hk
   refine⟨⟨o,e,ex.1⟩,λa e2=> ?_⟩
   cases e2
   exact⟨o,e,ex.2.1⟩
 | _=>exact False.elim ty
def ST(K:W.Frag)(T:String)(r:V->List V->Hp->VK->Prop)(to:TE):TE:=λσ H Q=>to σ H λx H1=>NE K T x H1/\r x [] H1 Q
def HU(K:W.Frag)(T:String)(r:V->List V->Hp->VK->Prop)(to:TE)(t:TA):TE:=λσ H Q=>to σ H λx H1=>NE K T x H1/\t σ H1 λxs H2=>r x xs H2 Q
variable{o e:Expr}{es:List Expr}{to:TE}{t:TA}{name:Str}{CF CW:Pos}{T id:String}{r:V->List V->Hp->VK->Prop}
theorem vX(pa:PlainAttrs T)(slot:Slot T name id)(hty:typeOf (.builtin id)=pure (.type "method_descriptor"))(hm:O3 X id r)(ho:PE X o to)
  (hbase:attributeBase o name X.env (eval o X.env)=eval o X.env:=by rfl) (hline:(CF.endLine == CW.line)=true:=by rfl):PE X (.Call (.Attribute o name CF) [] [] CW) (ST X.K T r to):=by
 intro AA s σ H Q I h
 refine wpAny_Call_method0_late hbase hline (AR (ho AA s σ H _ I h) λv s1 hzz=> ?_)
 obtain⟨x,H1,I1,r1,ty,q1⟩:=hzz
 obtain⟨h1,h2⟩:=c5 I1 r1 ty
 exact⟨T,id,pa,slot,hty,h1,h2,Calls.callWith_builtin rfl (PySem.evalArgs_none (hm AA s1 σ H1 x [] v [] Q I1 r1 .nil q1))⟩
theorem JP(pa:PlainAttrs T)(slot:Slot T name id)(hty:typeOf (.builtin id)=pure (.type "method_descriptor"))(hm:O3 X id r)(ho:PE X o to)(ha:PA X (e::es) t)
  (hbase:attributeBase o name X.env (eval o X.env)=eval o X.env:=by rfl)
  (hfew:((backTo CW (starEach (e::es) X.env)).all (λx=> !x.1) && (backToKw CW (keywordEach [] X.env)).all (λx=>x.1.isSome)
   && decide ((e::es).length+([]:List Keyword).length+(if([]:List Keyword).isEmpty then 0 else 1)<30))=true:=by rfl)
  (hline:(CF.endLine == CW.line)=true:=by rfl) (hs:starEach (e::es) X.env=(false,eval e X.env)::starEach es X.env:=by rfl) (hplain:(backTo CW (starEach es X.env)).any (·.1)=false:=by rfl) :
  PE X (.Call (.Attribute o name CF) (e::es) [] CW) (HU X.K T r to t):=by
 intro AA s σ H Q I h
 refine wpAny_Call_method_late hbase hfew hline rfl (AR (ho AA s σ H _ I h) λv s1 hzz=> ?_)
 obtain⟨x,H1,I1,r1,ty,q1⟩:=hzz
 obtain⟨h1,h2⟩:=c5 I1 r1 ty
 refine⟨T,id,pa,slot,hty,h1,h2,?_⟩
 have hA:=ha CW AA s1 σ H1 _ I1 q1
 rw[hs]at hA ⊢
 refine Calls.callWith_builtin (by show(false || (backTo CW (starEach es X.env)).any (·.1))=false;rw[hplain]<;>rfl) (Calls.evalArgs_plain ?_)
 exact AR hA λus s2 ⟨vs,H2,I2,r2,q2⟩=>hm AA s2 σ H2 x vs v us Q I2 r1 r2 q2
end
end L2
namespace L2
def c7(X:Cx)(id:String)(r:V->List V->Hp->VK->Prop):Prop :=
 ∀ (AA:List (Addr × Obj)) (s:Shared) (σ:St) (H:Hp) (x:V) (xs:List V) (v:Value) (us:List Value) (Q:VK),Inv X AA σ H s->RelV x v->Vals xs us->r x xs H Q →
  wpAny (model X.prog X.w) X.A (call (.builtin id) (v::us)) (EP X AA σ Q) X.xe s
theorem Vals.one:∀ {x:V} {us:List Value},Vals [x] us->∃ u,us=[u]/\RelV x u
 | _,_,.cons r .nil=>⟨_,rfl,r⟩
theorem Vals.zero:∀ {us:List Value},Vals [] us->us=[]
 | _,.nil=>rfl
theorem Vals.eraseIdx:∀ {xs:List V} {us:List Value} (i:Nat),Vals xs us->Vals (xs.eraseIdx i) (us.eraseIdx i)
 | _,_,_,.nil=>.nil
 | _,_,0,.cons _ t=>t
 | _,_,i+1,.cons r t=>.cons r (Vals.eraseIdx i t)
theorem Vals.rep{xs:List V}{us:List Value}(h:Vals xs us):∀ k:Nat,Vals (List.replicate k xs).flatten (List.replicate k us).flatten
 | 0=>.nil
 | k+1=>by
  rw[List.replicate_succ,List.replicate_succ,List.flatten_cons,List.flatten_cons]
  exact Vals.append h (Vals.rep h k)
theorem O4(its:List Value):∀ (k:Nat) (B0:List Value),
  List.foldl (λx1 x2=>x1++x2) B0.toArray (List.replicate k its.toArray)=(B0++(List.replicate k its).flatten).toArray
 | 0,B0=>by simp
 | k+1,B0=>by
  have e:B0.toArray++its.toArray=(B0++its).toArray:=by simp
  have e2:(B0++its)++(List.replicate k its).flatten=B0++(List.replicate (k+1) its).flatten:=by
   rw[List.replicate_succ,List.flatten_cons,List.append_assoc]
  rw[<-e2,<-O4 its k (B0++its),<-e,List.replicate_succ,List.foldl_cons]
section
variable{X:Cx}{AA:List (Addr × Obj)}{σ:St}{H:Hp}{s:Shared}{l b:Addr}{xs ys zs:List V}
theorem Inv.lset{its its':List Value}{n:Nat}{f:Array Value->Array Value}{t':Nat}(I:Inv X AA σ H s)(hH:H l=some (.lst xs))
  (e:s.heap.get? l=some { cls:=.type "list",data:=.seq its.toArray n }) (hf:f its.toArray=its'.toArray) (hv:Vals ys its') (hz:ys.length<=sizeLine) :
  Inv X AA σ (upd H l (.lst ys)) { s with heap:=s.heap.update l (Obj.mapSeq f),toks:=t' }:=by
 have q:=PySem.IsL.update e f
 rw[hf]at q
 refine I.write (x:=l) (e:=l) (by rw[hH];exact trivial) (.inl rfl) (λb' u hb hu=>(Heap.get?_update_other s.heap (Obj.mapSeq f) (Ne.symm hb)).trans hu) ⟨_,q⟩ ?_
 exact⟨hz,its',_,hv,q⟩
theorem Inv.lnew{its:List Value}{t':Nat}(I:Inv X AA σ H s)(hv:Vals ys its)(hz:ys.length<=sizeLine) :
  Inv X AA σ (upd H s.heap.objs.size (.lst ys)) { s with heap:=s.heap.push { cls:=.type "list",data:=.seq its.toArray },toks:=t' } :=
 I.laid (λ_ _ q=>Heap.get?_push_of_some _ q) (Nat.le_refl _) ⟨hz,its,0,hv,Heap.get?_push_size _ rfl⟩
theorem Inv.fresh(I:Inv X AA σ H s):H s.heap.objs.size=none:=I.hok.fresh (Nat.le_refl _)
theorem Inv.lstM(I:Inv X AA σ H s)(hH:H l=some (.lst xs)):xs.length<=sizeLine/\∃ (its:List Value) (n:Nat),Vals xs its/\xs.length=its.length/\s.heap.get? l=some { cls:=.type "list",data:=.seq its.toArray n }:=by
 obtain⟨z,its,n,r,e⟩:=I.hok l _ hH
 exact⟨z,its,n,r,r.length,e⟩
theorem vY{n:Nat}(h:n<=sizeLine):Builtin.List.listTooLong n=false:=by
 unfold Builtin.List.listTooLong
 exact decide_eq_false (by omega)
end
section
variable{X:Cx}
def c8:V->List V->Hp->VK->Prop:=λx vs H Q=>∃ l xs y,x=.ref l/\vs=[y]/\H l=some (.lst xs)/\xs.length<sizeLine/\Q .non (upd H l (.lst (xs++[y])))
theorem LT:c7 X "list.append" c8:=by
 intro AA s σ H x vs v us Q I rx rv h
 obtain⟨l,xs,y,rfl,rfl,hH,hz,q⟩:=h
 cases rx
 obtain⟨u,rfl,ru⟩:=rv.one
 obtain⟨z,its,n,r,hl,e⟩:=I.lstM hH
 refine call_meets F.slot_list_append ⟨_,e,rfl⟩ F.entry_list_append (F.args_list_append_2 _ _) (PySem.list_append l its.toArray n u (by rw[List.size_toArray];omega)) ⟨e,?_⟩
 refine⟨.non,_,I.lset (its':=its++[u]) hH e (by simp) (r.append (.cons ru .nil)) ?_,rfl,q⟩
 rw[List.length_append,List.length_singleton]
 omega
def c9:V->List V->Hp->VK->Prop:=λx vs H Q=>∃ l xs,x=.ref l/\vs=[]/\H l=some (.lst xs)/\Q .non (upd H l (.lst []))
theorem vZ:c7 X "list.clear" c9:=by
 intro AA s σ H x vs v us Q I rx rv h
 obtain⟨l,xs,rfl,rfl,hH,q⟩:=h
 cases rx
 have hus:=rv.zero
 subst hus
 obtain⟨z,its,n,r,hl,e⟩:=I.lstM hH
 refine call_meets F.slot_list_clear ⟨_,e,rfl⟩ F.entry_list_clear (F.args_list_clear_1 _) (AutoSeq1.list_clear_list_0 l its.toArray n (by rw[List.size_toArray];omega)) ⟨e,?_⟩
 exact⟨.non,_,I.lset (its':=[]) (ys:=[]) hH e rfl .nil (Nat.zero_le _),rfl,q⟩
def SU:R2:=λx y H Q=>∃ l b xs zs,x=.ref l/\y=.ref b/\H l=some (.lst xs)/\H b=some (.lst zs)/\xs.length+zs.length<=sizeLine/\∀ p,H p=none->Q (.ref p) (upd H p (.lst (xs++zs)))
theorem v3:B8 X (binaryOp .Add) SU:=by
 intro AA s σ H x y v u Q I rx ry h
 obtain⟨l,b,xs,zs,rfl,rfl,hH,hB,hz,q⟩:=h
 cases rx
 cases ry
 obtain⟨z,its,n,r,hl,e⟩:=I.lstM hH
 obtain⟨z2,OK,n2,r2,IE,e2⟩:=I.lstM hB
 refine PySem.P.add_list e e2 ?_ (by rw[List.size_toArray,List.size_toArray];omega)
 have ea:its.toArray++OK.toArray=(its++OK).toArray:=by simp
 rw[ea]
 exact⟨.ref _,_,I.lnew (t':=s.toks) (r.append r2) (by rw[List.length_append];omega),rfl,q _ I.fresh⟩
def SV:R2:=λx y H Q=>∃ l k xs,x=.ref l/\y=.int k/\H l=some (.lst xs)/\ -(2 ^ 63)<=k/\k<2 ^ 63/\xs.length * k.toNat<=sizeLine ∧
 ∀ p,H p=none->Q (.ref p) (upd H p (.lst (List.replicate k.toNat xs).flatten))
theorem dA{α :Type}(xs:List α)(k:Nat):(List.replicate k xs).flatten.length=k * xs.length:=by
 induction k with
 | zero=>simp
 | succ k ih=>rw[List.replicate_succ,List.flatten_cons,List.length_append,ih,Nat.succ_mul,Nat.add_comm]
theorem v4:B8 X (binaryOp .Mult) SV:=by
 intro AA s σ H x y v u Q I rx ry h
 obtain⟨l,k,xs,rfl,rfl,hH,h1,h2,hz,q⟩:=h
 cases rx
 obtain⟨t,rfl⟩:=ry
 obtain⟨z,its,n,r,hl,e⟩:=I.lstM hH
 have BV:its.toArray.size * k.toNat<=sizeLine:=by rw[List.size_toArray,<-hl];exact hz
 have hcap:¬ its.toArray.size * k.toNat >(2 ^ 63 - 1) / 8:=by
  have:(sizeLine:Nat)<=(2 ^ 63 - 1) / 8:=by decide
  omega
 have hfit:¬ (!Builtin.List.listFitsIndex k)=true:=by
  rw[fitsIndex_both h1 h2]
  exact Bool.false_ne_true
 have hlong:¬ Builtin.List.listTooLong (its.toArray.size * k.toNat)=true:=by
  rw[vY BV]
  exact Bool.false_ne_true
 have hnew:List.foldl (λx1 x2=>x1++x2) #[] (List.replicate (if its.toArray.isEmpty=true then 0 else k.toNat) its.toArray)=(List.replicate k.toNat its).flatten.toArray:=by
  have f0:∀ m:Nat,List.foldl (λx1 x2=>x1++x2) #[] (List.replicate m its.toArray)=(List.replicate m its).flatten.toArray:=λm=>by
   have:=O4 its m []
   rw[List.nil_append]at this
   exact this
  rw[f0]
  cases its with
  | nil=>simp
  | cons a r'=>rw[if_neg (by simp)]
 refine wpAny_binaryOp_repeat_ref (T:="list") (U:="int") (by decide) ⟨_,e,rfl⟩ (λs'=>typeIs_int s' k t) noFill_list_mul F.fills_int_mul F.slot_int_rmul repeat_list F.slot_int_index.lookup
  (call_meets F.slot_int_rmul (typeIs_int s k t) F.entry_int_rmul (F.args_int_rmul_2 _ _) (int___rmul___int_list k t l its.toArray n)
   ⟨e,rfl,⟨_,e,rfl⟩,call_meets F.slot_list_mul ⟨_,e,rfl⟩ F.entry_list_mul (F.args_list_mul_2 _ _) (AutoListH.list___mul___list_int_3 l its.toArray n k t hfit hcap hlong) ⟨e,?_⟩⟩)
 rw[hnew]
 exact⟨.ref _,_,I.lnew (t':=s.toks) (r.rep k.toNat) (by rw[dA,Nat.mul_comm];exact hz),rfl,q _ I.fresh⟩
end
section
variable{prog:Program}{w:World}{A:Around}{E:Value->Shared->Prop}{s:Shared}
set_option maxRecDepth 100000 in
end
section
variable{X:Cx}
end
end L2
namespace L2
section
variable{κ :Type}[DecidableEq κ]
def BJ(kvs:List (κ × V))(k: κ):Option V:=(kvs.find? λkv=>decide (kv.1=k)).map (·.2)
def CB(kvs:List (κ × V))(k: κ)(v:V):List (κ × V) :=
 if(kvs.any λkv=>decide (kv.1=k))=true then kvs.map (λkv=>if kv.1=k then(kv.1,v)else kv)else kvs++[(k,v)]
def E6(kvs:List (κ × V))(k: κ):List (κ × V):=kvs.filter λkv=>decide (kv.1≠k)
theorem FO{p: κ × V}{r:List (κ × V)}{k: κ}(e:p.1=k):BJ (p::r) k=some p.2:=by simp[BJ,List.find?_cons,e]
theorem FE{p: κ × V}{r:List (κ × V)}{k: κ}(e:¬ p.1=k):BJ (p::r) k=BJ r k:=by simp[BJ,List.find?_cons,e]
theorem IQ(k: κ):∀ kvs:List (κ × V),(kvs.any λkv=>decide (kv.1=k))=(BJ kvs k).isSome
 | []=>rfl
 | p::r=>by
  rw[List.any_cons]
  by_cases e:p.1=k
  ·simp only[FO e,decide_eq_true e,Bool.true_or,Option.isSome_some]
  ·rw[FE e,decide_eq_false e,Bool.false_or];exact IQ k r
theorem dB(k j: κ)(y:V):∀ kvs:List (κ × V),BJ (kvs.map λkv=>if kv.1=k then(kv.1,y)else kv) j=(BJ kvs j).map λx=>if j=k then y else x
 | []=>rfl
 | p::r=>by
  have ih:=dB k j y r
  rw[List.map_cons]
  by_cases h:p.1=k
  ·rw[if_pos h]
   by_cases e:p.1=j
   ·rw[FO (p:=(p.1,y)) e,FO e,Option.map_some,if_pos (e.symm.trans h)]
   ·rw[FE (p:=(p.1,y)) e,FE e,ih]
  ·rw[if_neg h]
   by_cases e:p.1=j
   ·rw[FO (p:=p) e,FO e,Option.map_some,if_neg (λz=>h (e.trans z))]
   ·rw[FE (p:=p) e,FE e,ih]
theorem dC(k j: κ)(y:V):∀ kvs:List (κ × V),BJ kvs k=none->BJ (kvs++[(k,y)]) j=if j=k then some y else BJ kvs j
 | [],_=>by
  by_cases e:k=j
  ·rw[if_pos e.symm];exact FO (p:=(k,y)) e
  ·rw[if_neg (λz=>e z.symm)];exact FE (p:=(k,y)) e
 | p::r,hn=>by
  rw[List.cons_append]
  have hk:¬ p.1=k:=λz=>by rw[FO z]at hn;cases hn
  rw[FE hk]at hn
  have ih:=dC k j y r hn
  by_cases e:p.1=j
  ·rw[FO e,FO e,if_neg (λz=>hk (e.trans z))]
  ·rw[FE e,FE e,ih]
theorem JQ(kvs:List (κ × V))(k j: κ)(y:V):BJ (CB kvs k y) j=if j=k then some y else BJ kvs j:=by
 unfold CB
 by_cases a:(kvs.any λkv=>decide (kv.1=k))=true
 ·rw[if_pos a,dB]
  rw[IQ]at a
  by_cases e:j=k
  ·obtain⟨x,hx⟩:=Option.isSome_iff_exists.mp a
   rw[if_pos e,e,hx,Option.map_some,if_pos rfl]
  ·rw[if_neg e]
   cases BJ kvs j with
   | none=>rfl
   | some x=>rw[Option.map_some,if_neg e]
 ·rw[if_neg a]
  refine dC k j y kvs ?_
  rw[IQ]at a
  cases q:BJ kvs k with
  | none=>rfl
  | some x=>rw[q]at a;exact(a rfl).elim
theorem LU(kvs:List (κ × V))(k: κ)(v:V):(CB kvs k v).length<=kvs.length+1:=by
 unfold CB
 split
 ·rw[List.length_map];omega
 ·rw[List.length_append,List.length_cons,List.length_nil];omega
theorem SW{kvs:List (κ × V)}{k: κ}(v:V)(h:BJ kvs k=none):CB kvs k v=kvs++[(k,v)]:=by
 unfold CB
 rw[IQ,h]
 exact if_neg (by decide)
theorem RelO.isSome_eq{o:Option V}{u:Option Value}(r:RelO o u):o.isSome=u.isSome:=by
 cases o with
 | none=>cases u with
  | none=>rfl
  | some _=>exact(show False from r).elim
 | some _=>cases u with
  | none=>exact(show False from r).elim
  | some _=>rfl
theorem RelO.getD{o:Option V}{u:Option Value}{d:V}{d':Value}(r:RelO o u)(rd:RelV d d'):RelV (o.getD d) (u.getD d'):=by
 cases o with
 | none=>cases u with
  | none=>exact rd
  | some _=>exact(show False from r).elim
 | some _=>cases u with
  | none=>exact(show False from r).elim
  | some _=>exact r
theorem KV.val{kvs:List (κ × V)}{vs:List (κ × Value)}(r:KV kvs vs)(k: κ):RelO (BJ kvs k) (valueAt vs k):=by
 unfold KV at r
 induction r with
 | nil=>exact True.intro
 | @cons p q ps qs h t ih =>
  obtain⟨h1,h2⟩:=h
  by_cases e:p.1=k
  ·have e':q.1=k:=h1.symm.trans e
   have b:valueAt (q::qs) k=some q.2:=by simp[valueAt,List.find?_cons,e']
   rw[FO e,b];exact h2
  ·have e':¬ q.1=k:=λz=>e (h1.trans z)
   have b:valueAt (q::qs) k=valueAt qs k:=by simp[valueAt,List.find?_cons,e']
   rw[FE e,b];exact ih
theorem KV.any{kvs:List (κ × V)}{vs:List (κ × Value)}(r:KV kvs vs)(k: κ):(kvs.any λkv=>decide (kv.1=k))=vs.any λkv=>decide (kv.1=k):=by
 unfold KV at r
 induction r with
 | nil=>rfl
 | cons h t ih=>rw[List.any_cons,List.any_cons,ih,h.1]
theorem KV.repl{kvs:List (κ × V)}{vs:List (κ × Value)}(r:KV kvs vs)(k: κ){y:V}{u:Value}(ry:RelV y u) :
  KV (kvs.map λkv=>if kv.1=k then(kv.1,y)else kv) (vs.map λkv=>if kv.1=k then(kv.1,u)else kv):=by
 unfold KV at r ⊢
 induction r with
 | nil=>exact .nil
 | @cons p q ps qs h t ih =>
  rw[List.map_cons,List.map_cons]
  refine .cons ?_ ih
  obtain⟨h1,h2⟩:=h
  by_cases e:p.1=k
  ·rw[if_pos e,if_pos (h1.symm.trans e)];exact⟨h1,ry⟩
  ·rw[if_neg e,if_neg (λz=>e (h1.trans z))];exact⟨h1,h2⟩
theorem KV.put{kvs:List (κ × V)}{vs:List (κ × Value)}(r:KV kvs vs)(k: κ){y:V}{u:Value}(ry:RelV y u):KV (CB kvs k y) (stored vs k u):=by
 unfold CB stored
 rw[r.any k]
 by_cases e:(vs.any λkv=>decide (kv.1=k))=true
 ·rw[if_pos e,if_pos e];exact r.repl k ry
 ·rw[if_neg e,if_neg e];exact Paired.snoc r ⟨rfl,ry⟩
theorem KV.drop{kvs:List (κ × V)}{vs:List (κ × Value)}(r:KV kvs vs)(k: κ):KV (E6 kvs k) (without vs k):=by
 unfold KV at r ⊢
 unfold E6 without
 induction r with
 | nil=>exact .nil
 | @cons p q ps qs h t ih =>
  obtain⟨h1,h2⟩:=h
  rw[List.filter_cons,List.filter_cons]
  by_cases e:p.1=k
  ·have a:¬ decide (p.1≠k)=true:=by simp[e]
   have b:¬ decide (q.1≠k)=true:=by simp[h1.symm.trans e]
   rw[if_neg a,if_neg b];exact ih
  ·have e':¬ q.1=k:=λz=>e (h1.trans z)
   have a:decide (p.1≠k)=true:=by simp[e]
   have b:decide (q.1≠k)=true:=by simp[e']
   rw[if_pos a,if_pos b];exact .cons ⟨h1,h2⟩ ih
theorem KV.length{kvs:List (κ × V)}{vs:List (κ × Value)}(r:KV kvs vs):kvs.length=vs.length:=Paired.length r
theorem v5(kvs:List (κ × V))(k: κ):(E6 kvs k).length<=kvs.length:=List.length_filter_le _ _
end
theorem JR{P:Program}{w:World}{k:AH}{u:Value}(r:RelV (kV k) u):(DS P w).is k u=true:=by
 cases k with
 | inl i=>obtain⟨t,e⟩:=(show ∃ t,u=Value.int i t from r);subst e;exact tI P w i t
 | inr x=>obtain⟨t,e⟩:=(show ∃ t,u=Value.str x t from r);subst e;exact tJ P w x t
theorem dD{P:Program}{w:World}:∀ {ks:List AH} {us:List Value},Vals (ks.map kV) us->ItemsAre (DS P w) ks us
 | [],_,r=>by rw[List.map_nil]at r;cases r;exact .nil
 | k::ks,_,r=>by
  rw[List.map_cons]at r
  cases r with
  | cons h t=>exact .cons (JR h) (dD t)
abbrev KT(H:Hp):List (List AH × V)->List (List AH × Addr × Value)->Prop:=Paired λp q=>p.1=q.1/\H q.2.1=some (.tup (p.1.map kV))/\RelV p.2 q.2.2
theorem KT.val{H:Hp}{kvs:List (List AH × V)}{xs:List (List AH × Addr × Value)}(r:KT H kvs xs)(k:List AH):RelO (BJ kvs k) ((atKey xs k).map (·.2)):=by
 induction r with
 | nil=>exact True.intro
 | @cons p q ps qs h t ih =>
  obtain⟨h1,_,h2⟩:=h
  by_cases e:p.1=k
  ·have e':q.1=k:=h1.symm.trans e
   have b:atKey (q::qs) k=some q.2:=by simp[atKey,List.find?_cons,e']
   rw[FO e,b];exact h2
  ·have e':¬ q.1=k:=λz=>e (h1.trans z)
   have b:atKey (q::qs) k=atKey qs k:=by simp[atKey,List.find?_cons,e']
   rw[FE e,b];exact ih
theorem KT.repl{H:Hp}{kvs:List (List AH × V)}{xs:List (List AH × Addr × Value)}(r:KT H kvs xs)(k:List AH){y:V}{u:Value}(ry:RelV y u) :
  KT H (kvs.map λkv=>if kv.1=k then(kv.1,y)else kv) (xs.map (putAt k u)):=by
 induction r with
 | nil=>exact .nil
 | @cons p q ps qs h t ih =>
  rw[List.map_cons,List.map_cons]
  refine .cons ?_ ih
  obtain⟨h1,h2,h3⟩:=h
  unfold putAt
  by_cases e:p.1=k
  ·rw[if_pos e,if_pos (h1.symm.trans e)];exact⟨h1,h2,ry⟩
  ·rw[if_neg e,if_neg (λz=>e (h1.trans z))];exact⟨h1,h2,h3⟩
theorem KT.put{H:Hp}{kvs:List (List AH × V)}{xs:List (List AH × Addr × Value)}(r:KT H kvs xs)(k:List AH){b:Addr}{y:V}{u:Value}(hb:H b=some (.tup (k.map kV)))(ry:RelV y u) :
  KT H (CB kvs k y) (storedH xs k b u):=by
 have e:(kvs.any λkv=>decide (kv.1=k))=(atKey xs k).isSome:=by
  rw[IQ,(r.val k).isSome_eq,Option.isSome_map]
 unfold CB storedH
 rw[e]
 by_cases q:(atKey xs k).isSome=true
 ·rw[if_pos q,if_pos q];exact r.repl k ry
 ·rw[if_neg q,if_neg q];exact Paired.snoc r ⟨rfl,hb,ry⟩
theorem KT.keeps{H H':Hp}{kvs:List (List AH × V)}{xs:List (List AH × Addr × Value)}(r:KT H kvs xs)(ht:∀ b ys,H b=some (.tup ys)->H' b=some (.tup ys)):KT H' kvs xs :=
 Paired.mapP r λ_ _ z=>⟨z.1,ht _ _ z.2.1,z.2.2⟩
section
variable{P:Program}{w:World}{H:Hp}{h:Heap}{a:Addr}
theorem dE{u:HO}(ok:HOk P w H h)(e:Rd H a u):ObjOk P w H h a u:=e.ok ok
theorem IR{kvs:List (AH × V)}(ok:HOk P w H h)(e:Rd H a (.dK kvs)):kvs.length<=sizeLine/\(a == sysModules)=false/\∃ vs,KV kvs vs/\h.DictOf (DS P w) a vs :=
 show ObjOk P w H h a (.dK kvs)from dE ok e
theorem dF{kvs:List (AH × V)}(ok:HOk P w H h)(e:H a=some (.dK kvs)):kvs.length<=sizeLine/\(a == sysModules)=false/\∃ vs,KV kvs vs/\h.DictOf (DS P w) a vs:=IR ok (.inl e)
theorem KS{ks:List AH}(ok:HOk P w H h)(e:H a=some (.tup (ks.map kV))):(tupleKind (DS P w)).is h ks a:=by
 obtain⟨_,its,r,o,h1,h2,n,h3⟩:=(show ObjOk P w H h a (.tup (ks.map kV))from ok a _ e)
 exact⟨o,its.toArray,n,h1,h2,h3,by simpa using dD r⟩
theorem JS{kvs:List (List AH × V)}(ok:HOk P w H h)(e:Rd H a (.dT kvs)):kvs.length<=sizeLine/\(a == sysModules)=false ∧
  ∃ xs,KT H kvs xs/\h.DictOfH (tupleKind (DS P w)) a xs:=by
 obtain⟨z,y,xs,r,o,es,ep,h1,h2,h3,h4,h5⟩:=(show ObjOk P w H h a (.dT kvs)from dE ok e)
 refine⟨z,y,xs,r,o,es,ep,h1,h2,h3,h4,λx hx=> ?_,h5⟩
 have all:∀ {l:List (List AH × V)} {m:List (List AH × Addr × Value)},KT H l m->∀ x∈m,(tupleKind (DS P w)).is h x.1 x.2.1:=by
  intro l m q
  induction q with
  | nil=>intro x hx;exact nomatch hx
  | @cons p q ps qs hq t ih =>
   intro x hx
   rcases List.mem_cons.mp hx with e | hx
   ·subst e
    exact KS ok (by rw[<-hq.1];exact hq.2.1)
   ·exact ih x hx
 exact all r x hx
theorem v6{kvs:List (List AH × V)}(ok:HOk P w H h)(e:H a=some (.dT kvs)):kvs.length<=sizeLine/\(a == sysModules)=false ∧
  ∃ xs,KT H kvs xs/\h.DictOfH (tupleKind (DS P w)) a xs:=JS ok (.inl e)
end
def DGet(H:Hp)(a:Addr)(y:V)(r:Option V):Prop :=
 (∃ kvs k,Rd H a (.dK kvs)/\y=kV k/\r=BJ kvs k)\/∃ kvs k b,Rd H a (.dT kvs)/\y=.ref b/\H b=some (.tup (k.map kV))/\r=BJ kvs k
def DPut(H:Hp)(a:Addr)(y v:V)(H':Hp):Prop :=
 (∃ kvs k,H a=some (.dK kvs)/\y=kV k/\kvs.length<sizeLine/\H'=upd H a (.dK (CB kvs k v))) ∨
 ∃ kvs k b,H a=some (.dT kvs)/\y=.ref b/\H b=some (.tup (k.map kV))/\kvs.length<sizeLine/\H'=upd H a (.dT (CB kvs k v))
theorem DGet.k{H:Hp}{a:Addr}{kvs:List (AH × V)}{k:AH}(e:H a=some (.dK kvs)):DGet H a (kV k) (BJ kvs k):=.inl ⟨kvs,k,.inl e,rfl,rfl⟩
theorem DGet.t{H:Hp}{a b:Addr}{kvs:List (List AH × V)}{k:List AH}(e:H a=some (.dT kvs))(eb:H b=some (.tup (k.map kV))):DGet H a (.ref b) (BJ kvs k):=.inr ⟨kvs,k,b,.inl e,rfl,eb,rfl⟩
theorem DPut.k{H:Hp}{a:Addr}{kvs:List (AH × V)}{k:AH}{v:V}(e:H a=some (.dK kvs))(hl:kvs.length<sizeLine):DPut H a (kV k) v (upd H a (.dK (CB kvs k v))):=.inl ⟨kvs,k,e,rfl,hl,rfl⟩
theorem DPut.t{H:Hp}{a b:Addr}{kvs:List (List AH × V)}{k:List AH}{v:V}(e:H a=some (.dT kvs))(eb:H b=some (.tup (k.map kV)))(hl:kvs.length<sizeLine) :
  DPut H a (.ref b) v (upd H a (.dT (CB kvs k v))):=.inr ⟨kvs,k,b,e,rfl,eb,hl,rfl⟩
section
variable{X:Cx}{AA:List (Addr × Obj)}{σ:St}{H:Hp}{s:Shared}{a:Addr}{y v:V}{u r:Value}{o:Option V}{A:Around}{E:Value->Shared->Prop}
theorem Inv.big(I:Inv X AA σ H s):sysModules<s.heap.objs.size:=by
 have h:mainGlobals<s.heap.objs.size:=(I.mod.glob.keeps I.bk).lt
 exact Nat.lt_trans (by decide) h
theorem v7{Q:Value->Shared->Prop}(hu:A.units+1<cLine)(I:Inv X AA σ H s)(g:DGet H a y (some v))(ry:RelV y u)(h:∀ w' s',Inv X AA σ H s'->RelV v w'->Q w' s') :
  wpAny (model X.prog X.w) A (getItem (.ref a) u) Q E s:=by
 rcases g with⟨kvs,k,e,ey,l⟩ | ⟨kvs,k,b,e,ey,eb,l⟩
 ·subst ey
  obtain⟨z,hd,vs,rel,dd⟩:=IR I.hok e
  obtain⟨w',hw,rw'⟩:=RelO.some_of (v:=v) (o:=valueAt vs k) (by rw[l];exact rel.val k)
  exact wpAny_getItem_of (JR ry) dd.mapOf hw (h w' _ (I.tok _) rw')
 ·subst ey
  cases (show u=Value.ref b from ry)
  obtain⟨z,hd,xs,rel,dd⟩:=JS I.hok e
  obtain⟨w',hw,rw'⟩:=RelO.some_of (v:=v) (o:=(atKey xs k).map (·.2)) (by rw[l];exact rel.val k)
  obtain⟨p,hp,HP⟩:=Option.map_eq_some_iff.mp hw
  refine wpAny_getItem_heap (tupleKind_room_in1 hu) (KS I.hok eb) dd hp ?_
  rw[HP]
  exact h w' _ (I.tok _) rw'
theorem v8{Q:Value->Shared->Prop}(hu:A.units+1<cLine)(I:Inv X AA σ H s)(g:DGet H a y o)(ry:RelV y u)(h:∀ s',Inv X AA σ H s'->Q (.bool o.isSome) s') :
  wpAny (model X.prog X.w) A (compareOp .In u (.ref a)) Q E s:=by
 rcases g with⟨kvs,k,e,ey,l⟩ | ⟨kvs,k,b,e,ey,eb,l⟩
 ·subst ey
  obtain⟨z,hd,vs,rel,dd⟩:=IR I.hok e
  refine wpAny_in_of (JR ry) hd dd.mapOf ?_
  rw[<-(rel.val k).isSome_eq,<-l]
  exact h _ (I.tok _)
 ·subst ey
  cases (show u=Value.ref b from ry)
  obtain⟨z,hd,xs,rel,dd⟩:=JS I.hok e
  refine wpAny_in_heap (tupleKind_room_in1 hu) (KS I.hok eb) hd dd ?_
  have q:=(rel.val k).isSome_eq
  rw[Option.isSome_map]at q
  rw[<-q,<-l]
  exact h _ (I.tok _)
theorem v9{Q:Value->Shared->Prop}(hu:A.units+1<cLine)(I:Inv X AA σ H s)(g:DGet H a y o)(ry:RelV y u)(h:∀ s',Inv X AA σ H s'->Q (.bool (!o.isSome)) s') :
  wpAny (model X.prog X.w) A (compareOp .NotIn u (.ref a)) Q E s:=by
 rcases g with⟨kvs,k,e,ey,l⟩ | ⟨kvs,k,b,e,ey,eb,l⟩
 ·subst ey
  obtain⟨z,hd,vs,rel,dd⟩:=IR I.hok e
  refine wpAny_notIn_of (JR ry) hd dd.mapOf ?_
  rw[<-(rel.val k).isSome_eq,<-l]
  exact h _ (I.tok _)
 ·subst ey
  cases (show u=Value.ref b from ry)
  obtain⟨z,hd,xs,rel,dd⟩:=JS I.hok e
  refine wpAny_notIn_heap (tupleKind_room_in1 hu) (KS I.hok eb) hd dd ?_
  have q:=(rel.val k).isSome_eq
  rw[Option.isSome_map]at q
  rw[<-q,<-l]
  exact h _ (I.tok _)
theorem SY{h':Heap}{t':Nat}{ob:HO}(I:Inv X AA σ H s)(mu:M4 (H a))(hs:Heap.SameBut a s.heap h')(he:∃ q,h'.get? a=some q)(new:ObjOk X.prog X.w (upd H a ob) h' a ob) :
  Inv X AA σ (upd H a ob) { s with heap:=h',toks:=t' } :=
 I.write (x:=a) (e:=a) mu (.inl rfl) (λb q hb z=>(hs.2 b hb).trans z) he new
theorem SZ{P:Program}{w:World}{H':Hp}{h':Heap}{kvs:List (AH × V)}{vs:List (AH × Value)}(z:kvs.length<=sizeLine)(hd:(a == sysModules)=false)(rel:KV kvs vs)(dd:h'.DictOf (DS P w) a vs) :
  ObjOk P w H' h' a (.dK kvs):=⟨z,hd,vs,rel,dd⟩
theorem wA{H':Hp}{Q:Unit->Shared->Prop}(hu:A.units+1<cLine)(I:Inv X AA σ H s)(g:DPut H a y v H')(ry:RelV y u)(rv:RelV v r)(h:∀ s',Inv X AA σ H' s'->Q () s') :
  wpAny (model X.prog X.w) A (setItem (.ref a) u r) Q E s:=by
 rcases g with⟨kvs,k,e,ey,l,eH⟩ | ⟨kvs,k,b,e,ey,eb,l,eH⟩
 ·subst ey eH
  obtain⟨z,hd,vs,rel,dd⟩:=dF I.hok e
  have hz:vs.length<=sizeLine:=by rw[<-rel.length];exact z
  have hl:(CB kvs k v).length<=sizeLine:=by have:=LU kvs k v;omega
  refine wpAny_setItem_pairs (hsz:=hz) (JR ry) dd λh' dd' hs=>h _ ?_
  have he:∃ q,h'.get? a=some q:=let ⟨q,_,_,hq,_⟩:=dd';⟨q,hq⟩
  exact SY I (by rw[e];exact True.intro) hs he (SZ hl hd (rel.put k rv) dd')
 ·subst ey eH
  cases (show u=Value.ref b from ry)
  obtain⟨z,hd,xs,rel,dd⟩:=v6 I.hok e
  have hz:xs.length<=sizeLine:=by rw[<-Paired.length rel];exact z
  have hl:(CB kvs k v).length<=sizeLine:=by have:=LU kvs k v;omega
  refine wpAny_setItem_heap (hsz:=hz) (tupleKind_room_in1 hu) (KS I.hok eb) dd λh' dd' hs=>h _ ?_
  obtain⟨q,es,ep,hq,h2,h3,h4,_,h5⟩:=dd'
  refine SY I (by rw[e];exact True.intro) hs ⟨q,hq⟩ ⟨hl,hd,_,(rel.put k eb rv).keeps λc ys ec=> ?_,q,es,ep,hq,h2,h3,h4,h5⟩
  rw[AG (BF ec e (λz=>nomatch z))]
  exact ec
end
section
variable{X:Cx}{AA:List (Addr × Obj)}{σ:St}{H:Hp}{s:Shared}{a:Addr}{kvs:List (AH × V)}{k:AH}{u:Value}{A:Around}{E:Value->Shared->Prop}
theorem wB{v:V}{more:List Value}{Q:Value->Shared->Prop}(I:Inv X AA σ H s)(e:H a=some (.dK kvs))(ry:RelV (kV k) u)(l:BJ kvs k=some v)(hm:more=[]\/∃ x,more=[x])
  (h:∀ w' s',Inv X AA σ (upd H a (.dK (E6 kvs k))) s'->RelV v w'->Q w' s'):wpAny (model X.prog X.w) A (call (.builtin "dict.pop") (.ref a::u::more)) Q E s:=by
 obtain⟨z,hd,vs,rel,dd⟩:=dF I.hok e
 obtain⟨w',hw,rw'⟩:=RelO.some_of (v:=v) (o:=valueAt vs k) (by rw[<-l];exact rel.val k)
 have hp:(keyPart u).isSome=true:=by
  cases k with
  | inl i=>obtain⟨t,q⟩:=(show ∃ t,u=Value.int i t from ry);subst q;rfl
  | inr x=>obtain⟨t,q⟩:=(show ∃ t,u=Value.str x t from ry);subst q;rfl
 have ha:argsOk "dict.pop" ⟨.ref a::u::more,[]⟩:=by
  rcases hm with q | ⟨x,q⟩
  ·subst q;exact PySem.F.args_dict_pop_2 _ _
  ·subst q;exact PySem.F.args_dict_pop_3 _ _ _
 refine call_meetsIn PySem.F.slot_dict_pop dd.typeIs PySem.F.entry_dict_pop ha (meets_dict_pop_there (DS X.prog X.w) a (JR ry) more hm hp)
  ⟨vs,w',dd,by rw[<-rel.length];exact z,hw,λh' dd' hs=>h w' _ ?_ rw'⟩
 have he:∃ q,h'.get? a=some q:=let ⟨q,_,_,hq,_⟩:=dd';⟨q,hq⟩
 exact SY I (by rw[e];exact True.intro) hs he (SZ (Nat.le_trans (v5 kvs k) z) hd (rel.drop k) dd')
end
def dG(i:Expr):Prop:=∀ ov iv,subscripted i false ov iv=operate [ov,iv] (getItem ov iv)
theorem wC{prog:Program}{w:World}{A:Around}{E:Value->Shared->Prop}{s:Shared}{env:Env}{value slice:Expr}{pos:Pos}{T id:String}{Q:Value->Shared->Prop}
  (hl:typeLookup (.type T) "__getitem__"=pure (some (.builtin id))) (hs:dG slice)
  (h:wpAny (model prog w) A (eval value env) (λo s₁=>wpAny (model prog w) A (eval slice env) (λi s₂=>s₂.TypeIs o T/\wpAny (model prog w) A (getItem o i) Q E s₂) E s₁) E s) :
  wpAny (model prog w) A (eval (.Subscript value slice pos) env) Q E s:=by
 refine Subscript_ (wpAny_mono h (λo s₁ h₁=>wpAny_mono h₁ (λi s₂ h₂=> ?_) λ_ _ x=>x) λ_ _ x=>x)
 obtain⟨hT,h₂⟩:=h₂
 unfold subscriptTail
 refine wpAny_bind ?_
 rw[getitemInPython_of_ne hT.not_modules]
 refine wpAny_bind (wpAny_specialOf hT hl ?_)
 have fin:wpAny (model prog w) A (subscripted slice false o i) (λr s₃=>wpAny (model prog w) A (letTemporaryGo value o r >>= λ_=>pure r) Q E s₃) E s₂:=by
  rw[hs o i]
  exact wpAny_operating (wpAny_mono h₂ (λr s₃ h₃=>wpAny_bind (wpAny_letTemporaryGo (wpAny_pure h₃))) λ_ _ x=>x)
 first
  | exact wpAny_pure (wpAny_bind fin)
  | exact wpAny_bind (wpAny_pure (wpAny_bind fin))
  | exact wpAny_bind fin
theorem wD{X:Cx}{AA:List (Addr × Obj)}{σ:St}{H:Hp}{s:Shared}{a:Addr}{y:V}{o:Option V}(I:Inv X AA σ H s)(g:DGet H a y o):s.TypeIs (.ref a) "dict":=by
 rcases g with⟨kvs,k,e,_,_⟩ | ⟨kvs,k,b,e,_,_,_⟩
 ·obtain⟨_,_,vs,_,dd⟩:=IR I.hok e
  exact dd.typeIs
 ·obtain⟨_,_,xs,_,dd⟩:=JS I.hok e
  exact dd.typeIs
def IS(td ty:TE):TE:=λσ H Q=>td σ H λx H1=>ty σ H1 λy H2=>∃ a v,x=.ref a/\DGet H2 a y (some v)/\Q v H2
def O5(ty td:TE):TE:=λσ H Q=>ty σ H λy H1=>td σ H1 λx H2=>∃ a o,x=.ref a/\DGet H2 a y o/\Q (.bl o.isSome) H2
def KU(ty td:TE):TE:=λσ H Q=>ty σ H λy H1=>td σ H1 λx H2=>∃ a o,x=.ref a/\DGet H2 a y o/\Q (.bl (!o.isSome)) H2
def IT(td ty tv:TE):TS:=λD σ H=>tv σ H λv H1=>td σ H1 λx H2=>ty σ H2 λy H3=>∃ a H4,x=.ref a/\DPut H3 a y v H4/\D.nx σ H4
section
variable{X:Cx}{o i e value:Expr}{pos pos' tpos:Pos}{td ty tv:TE}
theorem KW(hu:X.A.units+1<cLine)(ho:PE X o td)(hi:PE X i ty)(hs:dG i):PE X (.Subscript o i pos) (IS td ty):=by
 intro AA s σ H Q I h
 refine wC PySem.F.slot_dict_getitem.lookup hs (AR (ho AA s σ H _ I h) λu s1 ⟨x,H1,I1,rx,q1⟩=>AR (hi AA s1 σ H1 _ I1 q1) λiv s2 hzz=> ?_)
 obtain⟨y,H2,I2,ry,a,v,ex,g,q2⟩:=hzz
 subst ex
 obtain rfl:u=Value.ref a:=rx
 exact⟨wD I2 g,v7 hu I2 g ry λw' s3 I3 rw'=>⟨v,H2,I3,rw',q2⟩⟩
theorem dH(hu:X.A.units+1<cLine)(hi:PE X i ty)(ho:PE X o td):PC X .In i o (O5 ty td):=by
 intro AA s σ H Q I h
 refine AR (hi AA s σ H _ I h) λiv s1 ⟨y,H1,I1,ry,q1⟩=>AR (ho AA s1 σ H1 _ I1 q1) λu s2 hzz=> ?_
 obtain⟨x,H2,I2,rx,a,ov,ex,g,q2⟩:=hzz
 subst ex
 obtain rfl:u=Value.ref a:=rx
 exact v8 hu I2 g ry λs3 I3=>⟨.bl ov.isSome,H2,I3,rfl,q2⟩
theorem NF(hu:X.A.units+1<cLine)(hi:PE X i ty)(ho:PE X o td):PC X .NotIn i o (KU ty td):=by
 intro AA s σ H Q I h
 refine AR (hi AA s σ H _ I h) λiv s1 ⟨y,H1,I1,ry,q1⟩=>AR (ho AA s1 σ H1 _ I1 q1) λu s2 hzz=> ?_
 obtain⟨x,H2,I2,rx,a,ov,ex,g,q2⟩:=hzz
 subst ex
 obtain rfl:u=Value.ref a:=rx
 exact v9 hu I2 g ry λs3 I3=>⟨.bl (!ov.isSome),H2,I3,rfl,q2⟩
theorem KY(hu:X.A.units+1<cLine)(ho:PE X o td)(hi:PE X i ty)(hv:PE X value tv)(hs:swapsWith value (some (.Subscript o i pos')) pos.line X.env=pure false) :
  PS X (.Assign [.Subscript o i pos'] value pos) (IT td ty tv):=by
 intro AA s σ H D I h
 refine wpAny_Assign_Subscript (AR (hv AA s σ H _ I h) λr s1 ⟨v,H1,I1,rv,q1⟩=>AR (ho AA s1 σ H1 _ I1 q1) λu s2 ⟨x,H2,I2,rx,q2⟩=>AR (hi AA s2 σ H2 _ I2 q2) λiv s3 hzz=> ?_) hs
 obtain⟨y,H3,I3,ry,a,H4,ex,g,q3⟩:=hzz
 subst ex
 obtain rfl:u=Value.ref a:=rx
 exact wA hu I3 g ry rv λs4 I4=>⟨σ,H4,I4,q3⟩
end
theorem wE{P:Program}{w:World}{H:Hp}(h:Heap)(hb:sysModules<h.objs.size):ObjOk P w H (h.push { cls:=.type "dict",data:=.dict #[] }) h.objs.size (.dK []) :=
 ⟨Nat.zero_le _,beq_eq_false_iff_ne.mpr (Ne.symm (Nat.ne_of_lt hb)),[],.nil,Heap.DictOf.new h⟩
theorem wF{P:Program}{w:World}{H:Hp}(h:Heap)(hb:sysModules<h.objs.size):ObjOk P w H (h.push { cls:=.type "dict",data:=.dict #[] }) h.objs.size (.dT []) :=
 ⟨Nat.zero_le _,beq_eq_false_iff_ne.mpr (Ne.symm (Nat.ne_of_lt hb)),[],.nil,_,#[],0,Heap.get?_push_size _ rfl,⟨rfl,rfl,rfl⟩,rfl,rfl,List.nodup_nil⟩
def KZ:TE:=λ_ H Q=>∀ p,H p=none->Q (.ref p) (upd H p (.dK []))
def O6:TE:=λ_ H Q=>∀ p,H p=none->Q (.ref p) (upd H p (.dT []))
section
variable{X:Cx}{pos:Pos}
theorem NG:PE X (.Dict [] [] pos) KZ:=λAA s σ H Q I h =>
 wpAny_Dict_empty ⟨.ref s.heap.objs.size,_,I.laid (a:=s.heap.objs.size) (o:=.dK []) (t':=s.toks) (λ_ _ q=>Heap.get?_push_of_some _ q) (Nat.le_refl _) (wE s.heap I.big),rfl,h _ (I.hok.fresh (Nat.le_refl _))⟩
theorem dJ:PE X (.Dict [] [] pos) O6:=λAA s σ H Q I h =>
 wpAny_Dict_empty ⟨.ref s.heap.objs.size,_,I.laid (a:=s.heap.objs.size) (o:=.dT []) (t':=s.toks) (λ_ _ q=>Heap.get?_push_of_some _ q) (Nat.le_refl _) (wF s.heap I.big),rfl,h _ (I.hok.fresh (Nat.le_refl _))⟩
end
structure M1(X:Cx)(o:Expr)(m:Str)(CF:Pos)(e:Expr)(CW:Pos):Prop where
 base:attributeBase o m X.env (eval o X.env)=eval o X.env
 few:((backTo CW (starEach [e] X.env)).all (λx=> !x.1) && (backToKw CW (keywordEach [] X.env)).all (λx=>x.1.isSome)
  && decide (([e]:List Expr).length+([]:List Keyword).length+(if([]:List Keyword).isEmpty then 0 else 1)<30))=true
 line:(CF.endLine == CW.line)=true
 trees:backTo CW (starEach [e] X.env)=[(false,eval e X.env)]
structure M2(X:Cx)(o:Expr)(m:Str)(CF:Pos)(e f:Expr)(CW:Pos):Prop where
 base:attributeBase o m X.env (eval o X.env)=eval o X.env
 few:((backTo CW (starEach [e,f] X.env)).all (λx=> !x.1) && (backToKw CW (keywordEach [] X.env)).all (λx=>x.1.isSome)
  && decide (([e,f]:List Expr).length+([]:List Keyword).length+(if([]:List Keyword).isEmpty then 0 else 1)<30))=true
 line:(CF.endLine == CW.line)=true
 trees:backTo CW (starEach [e,f] X.env)=[(false,eval e X.env),(false,eval f X.env)]
def LV(H:Hp)(a:Addr):Prop:=(∃ kvs,Rd H a (.dK kvs))\/∃ kvs,Rd H a (.dT kvs)
theorem S0{X:Cx}{AA:List (Addr × Obj)}{σ:St}{H:Hp}{s:Shared}{a:Addr}(I:Inv X AA σ H s)(d:LV H a) :
  s.TypeIs (.ref a) "dict"/\(∀ b,Value.ref a=.ref b->∃ ob,s.heap.get? b=some ob/\ob.dict=none)/\(a == sysModules)=false:=by
 rcases d with⟨kvs,e⟩ | ⟨kvs,e⟩
 ·obtain⟨_,hd,vs,_,dd⟩:=IR I.hok e
  refine⟨dd.typeIs,λb q=> ?_,hd⟩
  cases q
  obtain⟨ob,_,_,h1,h2,_⟩:=dd
  exact⟨ob,h1,h2.2.1⟩
 ·obtain⟨_,hd,xs,_,dd⟩:=JS I.hok e
  refine⟨dd.typeIs,λb q=> ?_,hd⟩
  cases q
  obtain⟨ob,_,_,h1,h2,_⟩:=dd
  exact⟨ob,h1,h2.2.1⟩
section
variable{X:Cx}{AA:List (Addr × Obj)}{σ:St}{H:Hp}{s:Shared}{a:Addr}{y d:V}{u r:Value}{o:Option V}{A:Around}{E:Value->Shared->Prop}
theorem wG{Q:Value->Shared->Prop}(hu:A.units+1<cLine)(I:Inv X AA σ H s)(g:DGet H a y o)(ry:RelV y u)(h:∀ w' s',Inv X AA σ H s'->RelV (o.getD .non) w'->Q w' s') :
  wpAny (model X.prog X.w) A (call (.builtin "dict.get") [.ref a,u]) Q E s:=by
 rcases g with⟨kvs,k,e,ey,l⟩ | ⟨kvs,k,b,e,ey,eb,l⟩
 ·subst ey
  obtain⟨z,hd,vs,rel,dd⟩:=IR I.hok e
  refine call_meetsIn PySem.F.slot_dict_get dd.typeIs PySem.F.entry_dict_get (PySem.F.args_dict_get_2 _ _) (meets_dict_get (DS X.prog X.w) a (JR ry) hd) ⟨_,dd.mapOf,h _ _ (I.tok _) ?_⟩
  rw[l]
  exact(rel.val k).getD rfl
 ·subst ey
  cases (show u=Value.ref b from ry)
  obtain⟨z,hd,xs,rel,dd⟩:=JS I.hok e
  refine call_meetsIn PySem.F.slot_dict_get dd.typeIs PySem.F.entry_dict_get (PySem.F.args_dict_get_2 _ _) (meetsH_dict_get (tupleKind (DS X.prog X.w)) a b hd) ⟨tupleKind_room_in1 hu,k,xs,KS I.hok eb,dd,h _ _ (I.tok _) ?_⟩
  rw[l]
  exact(rel.val k).getD rfl
theorem wH{Q:Value->Shared->Prop}(hu:A.units+1<cLine)(I:Inv X AA σ H s)(g:DGet H a y o)(ry:RelV y u)(rd:RelV d r)(h:∀ w' s',Inv X AA σ H s'->RelV (o.getD d) w'->Q w' s') :
  wpAny (model X.prog X.w) A (call (.builtin "dict.get") [.ref a,u,r]) Q E s:=by
 rcases g with⟨kvs,k,e,ey,l⟩ | ⟨kvs,k,b,e,ey,eb,l⟩
 ·subst ey
  obtain⟨z,hd,vs,rel,dd⟩:=IR I.hok e
  refine call_meetsIn PySem.F.slot_dict_get dd.typeIs PySem.F.entry_dict_get (PySem.F.args_dict_get_3 _ _ _) (meets_dict_get_default (DS X.prog X.w) a (JR ry) hd r) ⟨_,dd.mapOf,h _ _ (I.tok _) ?_⟩
  rw[l]
  exact(rel.val k).getD rd
 ·subst ey
  cases (show u=Value.ref b from ry)
  obtain⟨z,hd,xs,rel,dd⟩:=JS I.hok e
  refine call_meetsIn PySem.F.slot_dict_get dd.typeIs PySem.F.entry_dict_get (PySem.F.args_dict_get_3 _ _ _) (meetsH_dict_get_default (tupleKind (DS X.prog X.w)) a b hd r) ⟨tupleKind_room_in1 hu,k,xs,KS I.hok eb,dd,h _ _ (I.tok _) ?_⟩
  rw[l]
  exact(rel.val k).getD rd
end
def S4(td ty:TE):TE:=λσ H Q=>td σ H λx H1=>∃ a,x=.ref a/\LV H1 a/\ty σ H1 λy H2=>∃ o,DGet H2 a y o/\Q (o.getD .non) H2
def S5(td ty tx:TE):TE:=λσ H Q=>td σ H λx H1=>∃ a,x=.ref a/\LV H1 a/\ty σ H1 λy H2=>tx σ H2 λz H3=>∃ o,DGet H3 a y o/\Q (o.getD z) H3
def S6(td ty:TE):TE:=λσ H Q=>td σ H λx H1=>∃ a,x=.ref a/\LV H1 a/\ty σ H1 λy H2=>∃ kvs k v,H2 a=some (.dK kvs)/\y=kV k/\BJ kvs k=some v/\Q v (upd H2 a (.dK (E6 kvs k)))
section
variable{X:Cx}{o e f:Expr}{CF CW:Pos}{td ty tx:TE}
theorem wI(hu:X.A.units+1<cLine)(ho:PE X o td)(he:PE X e ty)(m:M1 X o "get" CF e CW):PE X (.Call (.Attribute o "get" CF) [e] [] CW) (S4 td ty):=by
 intro AA s σ H Q I h
 refine wpAny_Call_method m.base m.few m.line PySem.F.plainAttrs_dict PySem.F.slot_dict_get PySem.F.type_dict_get (AR (ho AA s σ H _ I h) λu s1 hzz=> ?_)
 obtain⟨x,H1,I1,rx,a,ex,d,q1⟩:=hzz
 subst ex
 obtain rfl:u=Value.ref a:=rx
 obtain⟨t1,t2,_⟩:=S0 I1 d
 refine⟨t1,t2,?_⟩
 rw[m.trees]
 refine Calls.callWith_builtin rfl (Calls.evalArgs_plain (Calls.spliced_cons (AR (he AA s1 σ H1 _ I1 q1) λiv s2 ⟨y,H2,I2,ry,ov,g,q2⟩=>Calls.spliced_nil ?_)))
 exact wG hu I2 g ry λw' s3 I3 rw'=>⟨_,H2,I3,rw',q2⟩
theorem wJ(hu:X.A.units+1<cLine)(ho:PE X o td)(he:PE X e ty)(hf:PE X f tx)(m:M2 X o "get" CF e f CW):PE X (.Call (.Attribute o "get" CF) [e,f] [] CW) (S5 td ty tx):=by
 intro AA s σ H Q I h
 refine wpAny_Call_method m.base m.few m.line PySem.F.plainAttrs_dict PySem.F.slot_dict_get PySem.F.type_dict_get (AR (ho AA s σ H _ I h) λu s1 hzz=> ?_)
 obtain⟨x,H1,I1,rx,a,ex,d,q1⟩:=hzz
 subst ex
 obtain rfl:u=Value.ref a:=rx
 obtain⟨t1,t2,_⟩:=S0 I1 d
 refine⟨t1,t2,?_⟩
 rw[m.trees]
 refine Calls.callWith_builtin rfl (Calls.evalArgs_plain (Calls.spliced_cons (AR (he AA s1 σ H1 _ I1 q1) λiv s2 ⟨y,H2,I2,ry,q2⟩ =>
  Calls.spliced_cons (AR (hf AA s2 σ H2 _ I2 q2) λfv s3 ⟨z,H3,I3,rz,ov,g,q3⟩=>Calls.spliced_nil ?_))))
 exact wH hu I3 g ry rz λw' s4 I4 rw'=>⟨_,H3,I4,rw',q3⟩
theorem wK(ho:PE X o td)(he:PE X e ty)(m:M1 X o "pop" CF e CW):PE X (.Call (.Attribute o "pop" CF) [e] [] CW) (S6 td ty):=by
 intro AA s σ H Q I h
 refine wpAny_Call_method m.base m.few m.line PySem.F.plainAttrs_dict PySem.F.slot_dict_pop PySem.F.type_dict_pop (AR (ho AA s σ H _ I h) λu s1 hzz=> ?_)
 obtain⟨x,H1,I1,rx,a,ex,d,q1⟩:=hzz
 subst ex
 obtain rfl:u=Value.ref a:=rx
 obtain⟨t1,t2,_⟩:=S0 I1 d
 refine⟨t1,t2,?_⟩
 rw[m.trees]
 refine Calls.callWith_builtin rfl (Calls.evalArgs_plain (Calls.spliced_cons (AR (he AA s1 σ H1 _ I1 q1) λiv s2 ⟨y,H2,I2,ry,kvs,k,v,ea,ey,l,q2⟩=>Calls.spliced_nil ?_)))
 subst ey
 exact wB I2 ea ry l (.inl rfl) λw' s3 I3 rw'=>⟨v,_,I3,rw',q2⟩
end
section
variable{X:Cx}{AA:List (Addr × Obj)}{σ:St}{H:Hp}{s:Shared}{a:Addr}{kvs:List (AH × V)}{A:Around}{E:Value->Shared->Prop}
theorem wL{Q:Value->Shared->Prop}(I:Inv X AA σ H s)(e:Rd H a (.dK kvs))(h:∀ p s',H p=none->Inv X AA σ (upd H p (.dK kvs)) s'->Q (.ref p) s'):wpAny (model X.prog X.w) A (call (.type "dict") [.ref a]) Q E s:=by
 obtain⟨z,hd,vs,rel,dd⟩:=IR I.hok e
 refine kt_call_dict hd dd (by rw[<-rel.length];exact z) λh' dd' hs=> ?_
 refine h _ _ (I.hok.fresh (Nat.le_refl _)) (I.laid (a:=s.heap.objs.size) (o:=.dK kvs) (t':=s.toks) (λb q hq=> ?_) (Nat.le_refl _) (SZ z (beq_eq_false_iff_ne.mpr (Ne.symm (Nat.ne_of_lt I.big))) rel dd'))
 exact(hs.2 b (Nat.ne_of_lt (Heap.lt_size hq))).trans (Heap.get?_push_of_some _ hq)
end
section
variable{X:Cx}{AA:List (Addr × Obj)}{σ:St}{H:Hp}{s:Shared}{a:Addr}{y:V}{u:Value}{A:Around}{E:Value->Shared->Prop}
end
end L2
namespace Att
open PySem PySem.W PySem.Calls PyProof.Rows
theorem wM{P:Params}{h:Heap}:∀ (ns:List Int) (vs:List Value),WellAll P h vs (ns.map WData.int)->IntsAre vs ns:=by
 intro ns
 induction ns with
 | nil =>
  intro vs w
  rw[List.map_nil]at w
  cases w
  exact .nil
 | cons n ns ih =>
  intro vs w
  rw[List.map_cons]at w
  cases w with
  | cons a b =>
   cases a
   exact .cons _ _ (ih _ b)
theorem wN{l:OpenLaw}{n:Nat}(hn:l.most=some n){P:Params}{h:Heap}{args:List WData}{vals:List Value}
  (hpre:l.row.toRowW.claim.pre args=true) (hwl:WellAll P h vals args) :
  ∃ a vs ns,vals=[Value.ref a]/\args=[WData.list (ns.map WData.int)]/\h.get? a=some { cls:=.type "list",data:=.seq vs.toArray }/\IntsAre vs ns/\ns.length<=n:=by
 have hsh:WShape.hasAll [] args [.list .int]=true:=(pre_splitW hpre).1
 have hc:l.pre.holds [] { args:=args }=true:=(pre_splitW hpre).2
 obtain⟨d,r,rfl,h1,h2⟩:=hasAllW_cons hsh
 obtain rfl:=hasAllW_nil h2
 obtain⟨xs,rfl,h3⟩:=hasW_list h1
 obtain⟨ns,rfl⟩:=items_int h3
 have BV:ns.length<=n:=by
  unfold OpenLaw.pre at hc
  have h4:(WTm.not (.lt (.lit (.int (n:Int))) (.len (.arg 0)))).holds [] { args:=[.list (ns.map .int)] }=true:=by
   have h4:=(holds_andW hc).1
   rw[hn]at h4
   exact h4
  have h5:=condW_of h4 (w_not (w_lt w_lit (w_len_list (w_arg rfl))))
  rw[List.length_map]at h5
  refine Nat.le_of_not_lt λq=> ?_
  have q':(n:Int)<((ns.length:Nat):Int):=by omega
  first
   | (rw[decide_eq_true q']at h5;exact absurd h5 (by decide))
   | (simp at h5;omega)
 cases hwl with
 | cons w1 w2 =>
  cases w2
  cases w1 with
  | list ho hall=>exact⟨_,_,ns,rfl,rfl,ho,wM ns _ hall,BV⟩
theorem wO(l:OpenLaw)(args:List WData):l.row.toRowW.claim.post args (.bool true) args=true :=
 postW_of (r:=l.row.toRowW) (X:=(true == true))
  (show WShape.has [] (.bool true) .bool=true by first | rfl | decide | simp[WShape.has,WShape.arms,WShape.armsAll])
  (show(WTm.eq .res (.lit (.bool true))).value [] { args:=args,res:=some (.bool true),after:=args }=some (.bool (true == true))from w_eq_bool (w_res rfl) w_lit) rfl
theorem attach_call{l:OpenLaw}{n:Nat}{q:Program}{loose:List Str}{XP:(Str->Option Value)->Heap->Prop}{YP:World->Heap->Prop}{d:DefRec}
  (hn:l.most=some n) (hdf:d.params.defaults=[])
  (call:∀ (w:World) (s₀ s₁:Shared) (mg mb:Str->Option Value) (fa:Addr) (o:Obj) (pm cd doc:Value) (a:Addr) (vs:List Value) (ns:List Int),
   Ground q loose [] XP w s₀ mg mb s₁.heap->YP w s₁.heap →
   s₁.heap.get? fa=some o->o.data=.func (docDef d.name d.params d.body d.scope pm cd doc)->s₁.heap.CodeRec cd d.name->mg d.name=some (.ref fa) →
   s₁.heap.get? a=some { cls:=.type "list",data:=.seq vs.toArray }->IntsAre vs ns->ns.length<=n->s₁.gens= #[] →
   codeAny (model l.prog w) callerA (.call (.ref fa) ⟨[.ref a],[]⟩) (λr s'=>r=.ok (.ret (.bool true))/\OldK s₁.heap s'.heap/\s'.os=s₁.os/\AllBare s'.gens) s₁) :
  WalkO q loose XP YP l.row.toRowW d [] (λf vs=>PySem.call f vs):=by
 intro w s₀ s₁ mg mb G Y fa o pm cd doc dV kV ho hd IF hD hmg hg args vals as hpre hlay hrd hwl hlo
 obtain rfl:dV=.none:=Dflts.none hD hdf
 obtain rfl:kV=.none:=Dflts.noKw hD
 obtain⟨a,vs,ns,rfl,rfl,hobj,hints,BV⟩:=wN hn hpre hwl
 refine enter_call (codeAny_mono (call w s₀ s₁ mg mb fa o pm cd doc a vs ns G Y ho (fd_plain hd) IF hmg hobj hints BV hg) λr s' hq=> ?_)
 obtain⟨rfl,h2,h3,h4⟩:=hq
 exact⟨.inl ⟨.bool true,.bool true,[],rfl,λ_=>rfl,.bool true,wO l _,λ_=>⟨List.Pairwise.nil,λ_ hm=>(nomatch hm)⟩⟩,h2,h3,h4⟩
section
variable{prog:Program}{w:World}{A:Around}{E:Value->Shared->Prop}{s:Shared}{K:Frag}
end
end Att
namespace L2
theorem S7:∀ {vs:List Value} {ns:List Int},IntsAre vs ns->Vals (ns.map V.int) vs
 | _,_,.nil=>.nil
 | _,_,.cons n t h=>.cons ⟨t,rfl⟩ (S7 h)
def S8(H:Hp):Prop:=∀ b,H b=none\/∃ o xs,H b=some (.frz o (.lst xs))
theorem wP {P:Program} {w:World} {K:W.Frag} {mg mb:Str->Option Value} {CX:GH} {k:Nat} {fa a:Addr} {fd:FuncData} {x:Str} {sp:Sp} {s₁:Shared} {vs:List Value} {ns:List Int}
    (KX:K.In s₁.heap) (hns:s₁.heap.Ns mainGlobals mg) (hb:s₁.heap.Ns builtinsNs mb) (hbb:∀ x:Str,x≠"__name__"->mb x=bootBuiltins x) (hlim:s₁.heap.NoLimit) (hg:s₁.gens= #[])
    (ha:s₁.heap.get? a=some { cls:=.type "list",data:=.seq vs.toArray }) (hi:IntsAre vs ns) (hl:ns.length<=sizeLine) (hr:Room k callerA)
    (F:∀ base:Heap,K.In base->base.Ns mainGlobals mg->FnOk P w K mg base CX k fa fd [x] sp) (hbind:∀ (s:Shared) (u:Value),BindsTo s fd ⟨[u],[]⟩ [(x,u)])
    (hsp:∀ H:Hp,S8 H->SqL K H a (ns.map V.int)->sp [.ref a] H (λv _=>v=.bl true) λ_ _ _=>False)
    (hCX:∀ H e s',CX [] H s₁ (λ_ _ _=>False) e s'->False) :
    codeAny (model P w) callerA (.call (.ref fa) ⟨[.ref a],[]⟩) (λr s'=>r=.ok (.ret (.bool true))/\OldK s₁.heap s'.heap/\s'.os=s₁.os/\AllBare s'.gens) s₁:=by
  have rv:=S7 hi
  have lenV:=hi.length
  have core:∀ H:Hp,S8 H->SqL K H a (ns.map V.int)->HOk P w H s₁.heap->(∀ b,H b≠none->b=a)->(H a≠none->K.lookup a=none) →
      codeAny (model P w) callerA (.call (.ref fa) ⟨[.ref a],[]⟩) (λr s'=>r=.ok (.ret (.bool true))/\OldK s₁.heap s'.heap/\s'.os=s₁.os/\AllBare s'.gens) s₁:=by
    intro H hO hS hok hA hK
    have base_of:∀ {b:Addr} {o:Obj},s₁.heap.get? b=some o->H b=none->(IH s₁.heap H).get? b=some o:=λe n=>tL e n
    have noA:∀ {b:Addr} {o:Obj} {es:Array DictEntry} {ep:Nat},s₁.heap.get? b=some o->o.data=.dict es ep->H b=none:=λ{b o es ep} e d=>by
      cases q:H b with
      | none=>rfl
      | some u =>
        have e':b=a:=hA b (by rw[q];simp)
        subst e'
        rw[ha]at e;cases e
        have d':Data.seq vs.toArray _=Data.dict es ep:=d
        cases d'
    have nsK:∀ {b:Addr} {m:Str->Option Value},s₁.heap.Ns b m->(IH s₁.heap H).Ns b m:=λ{b m} ⟨o,es,ep,e,d,r⟩=>⟨o,es,ep,base_of e (noA e d),d,r⟩
    have hKb:K.In (IH s₁.heap H):=λb o e=>base_of (KX b o e) (by
      cases q:H b with
      | none=>rfl
      | some u =>
        have e':b=a:=hA b (by rw[q];simp)
        subst e'
        rw[hK (by rw[q];simp)]at e;cases e)
    have hM:Mod K mg (IH s₁.heap H):=⟨hKb,nsK hns,⟨mb,nsK hb,hbb⟩,let ⟨mc,h1,h2⟩:=hlim;⟨mc,nsK h1,h2⟩⟩
    have e0:Env0 P w K mg (IH s₁.heap H) callerA [] s₁ H:=⟨rfl,hM,λb o e=>tM e,Nat.le_of_eq (tK _ _),trivial,λb hb=>absurd (show b∈([]:List Addr)from hb) (by simp),hok,.of_eq hg⟩
    refine codeAny_mono ((F _ hKb (nsK hns)).run callerA [] s₁ H ⟨[.ref a],[]⟩ [.ref a] [.ref a] _ _ hr e0 (hbind s₁ (.ref a)) (.cons rfl .nil) (hsp H hO hS)) λr s' h=> ?_
    cases r with
    | error e=>exact(hCX H e s' h).elim
    | ok fl =>
      cases fl with
      | next=>exact False.elim h
      | brk=>exact False.elim h
      | cont=>exact False.elim h
      | ret u =>
        obtain⟨v,H',os,bare,un,hok',r',q⟩:=h
        have q':v=.bl true:=q
        subst q'
        obtain rfl:u=Value.bool true:=r'
        refine⟨rfl,OldK.of_keep λb o e=> ?_,os,bare⟩
        cases q:H b with
        | none=>exact un.keep b o e q (by intro z;exact absurd (show b∈([]:List Addr)from z) (by simp)) (by simp)
        | some u =>
          rcases hO b with z | ⟨ob,xs,z⟩
          ·rw[q]at z;cases z
          · have z2:=un.frzs b ob _ z
            obtain⟨e1,_⟩:=hok b _ z
            obtain⟨e2,_⟩:=hok' b _ z2
            rw[e]at e1;cases e1
            exact e2
  cases hk:K.lookup a with
  | some o =>
    have e:=KX a o hk
    rw[ha]at e
    cases e
    refine core (λ_=>none) (λ_=>.inl rfl) (.inr ⟨_,vs.toArray,_,hk,rfl,rfl,rfl,by rw[List.size_toArray,lenV];exact hl,by simpa using rv⟩) (λb u z=>by have z':(none:Option HO)=some u:=z;cases z') (λb z=>absurd rfl z) λz=>absurd rfl z
  | none =>
    refine core (λb=>if b=a then some (.frz { cls:=.type "list",data:=.seq vs.toArray } (.lst (ns.map V.int)))else none) (λb=> ?_) (.inl (.inr ⟨{ cls:=.type "list",data:=.seq vs.toArray },if_pos rfl⟩)) (λb u z=> ?_) (λb z=> ?_) λ_=>hk
    · by_cases hb:b=a
      ·exact .inr ⟨_,_,if_pos hb⟩
      ·exact .inl (if_neg hb)
    · by_cases hb:b=a
      · have z':=(if_pos hb).symm.trans z
        cases z'
        subst hb
        exact⟨ha,by rw[List.length_map];exact hl,vs,_,rv,ha⟩
      · have z':=(if_neg hb).symm.trans z
        cases z'
    · by_cases hb:b=a
      ·exact hb
      ·exact absurd (if_neg hb) z
end L2
namespace L2
theorem walk_of{l:W.OpenLaw}{n k:Nat}{q:Program}{loose:List Str}{XP:(Str->Option Value)->Heap->Prop}{YP:World->Heap->Prop}{d:DefRec}{K:Params->W.Frag}{CX:World->GH}{sp:World->Sp}{x:Str}
  (hn:l.most=some n) (hn2:n<=sizeLine) (hdf:d.params.defaults=[]) (hr:Room k callerA)
  (hY:∀ (w:World) (h:Heap),YP w h->(K w.params).In h)
  (F:∀ (w:World) (mg:Str->Option Value) (fa:Addr) (h:Heap),(K w.params).In h->h.Ns mainGlobals mg->mg d.name=some (.ref fa) →
   ∃ fd:FuncData,(∀ (s:Shared) (u:Value),BindsTo s fd ⟨[u],[]⟩ [(x,u)]) ∧
    ∀ base:Heap,(K w.params).In base->base.Ns mainGlobals mg->FnOk l.prog w (K w.params) mg base (CX w) k fa fd [x] (sp w))
  (hsp:∀ (w:World) (H:Hp) (a:Addr) (ns:List Int),ns.length<=n->S8 H->SqL (K w.params) H a (ns.map V.int)->sp w [.ref a] H (λv _=>v=.bl true) λ_ _ _=>False)
  (hCX:∀ (w:World) (H:Hp) (s:Shared) (e:Value) (s':Shared),CX w [] H s (λ_ _ _=>False) e s'->False) :
  W.WalkO q loose XP YP l.row.toRowW d [] (λf vs=>PySem.call f vs):=by
 refine Att.attach_call hn hdf λw s₀ s₁ mg mb fa o pm cd doc a vs ns G Y ho hd IF hmg hobj hints BV hg=> ?_
 have KX:=hY w _ Y
 obtain⟨fd,hb,hF⟩:=F w mg fa _ KX G.T.g hmg
 exact wP KX G.T.g G.T.b G.T.builtins G.T.nolimit hg hobj hints (Nat.le_trans BV hn2) hr hF hb (λH hO hS=>hsp w H a ns BV hO hS) λH e s'=>hCX w H s₁ e s'
end L2
namespace L2
def BQ(s:Stmt)(j:Nat):Stmt:=match s with
 | .ClassDef _ _ _ body _ _ _ _ _ _ _=>body.getD j (.Pass ⟨0,0,0,0⟩)
 | _=>.Pass ⟨0,0,0,0⟩
def IU(s:Stmt):Arguments:=match s with
 | .FunctionDef _ a _ _ _ _ _ _ _ _=>a
 | _=>{ posonlyargs:=[],args:=[],vararg:=none,kwonlyargs:=[],kw_defaults:=[],kwarg:=none,defaults:=[] }
def GK(s:Stmt):List Stmt:=match s with
 | .FunctionDef _ _ b _ _ _ _ _ _ _=>b
 | _=>[]
def A0(s:Stmt):Scope:=match s with
 | .FunctionDef _ _ _ _ _ _ sc _ _ _=>sc
 | _=>{ kind:=.function,names:=[],isGenerator:=false,isCoroutine:=false }
abbrev E0:XK:=λ_ _ _=>False
structure Fun(K:W.Frag)(x qual:Str)(st:Stmt)(f:Addr)(fd:FuncData):Prop where
 ex:∃ (oc:Value) (od:Option Addr) (kV doc pm:Value) (an:Option Addr) (BT ct:Value) (osl:Array (Option Value)),
  fd=W.fnOf x qual (IU st) (GK st) (A0 st) .none kV doc pm an BT ct/\K.lookup f=some ⟨oc,od,.func fd,osl⟩/\W.codeIn K BT qual=true
 kp:W.keepIn K (.ref f)=true
section
variable{P:Program}{w:World}{K:W.Frag}{mg:Str->Option Value}{base:Heap}
theorem Fun.binds{x qual:Str}{st:Stmt}{f:Addr}{fd:FuncData}{ps:List Str}(F:Fun K x qual st f fd)
  (h:∀ (kV doc pm:Value) (an:Option Addr) (BT ct:Value) (us:List Value),us.length=ps.length->bindArgs (W.fnOf x qual (IU st) (GK st) (A0 st) .none kV doc pm an BT ct) ⟨us,[]⟩=pure (ps.zip us)):Binds K fd ps []:=by
 obtain⟨oc,od,kV,doc,pm,an,BT,ct,osl,rfl,lk,IF⟩:=F.ex
 exact .all (h kV doc pm an BT ct)
theorem dM{x qual:Str}{st:Stmt}{f:Addr}{oc:Value}{od an:Option Addr}{osl:Array (Option Value)}{kV doc pm BT ct:Value}(l:K.lookup f=some ⟨oc,od,.func (W.fnOf x qual (IU st) (GK st) (A0 st) .none kV doc pm an BT ct),osl⟩)
  (c:W.codeIn K BT qual=true) (k:W.keepIn K (.ref f)=true):Fun K x qual st f (W.fnOf x qual (IU st) (GK st) (A0 st) .none kV doc pm an BT ct):=⟨⟨oc,od,kV,doc,pm,an,BT,ct,osl,rfl,l,c⟩,k⟩
end
theorem DU{A:Around}{k:Nat}(hr:Room k A):A.units+1<cLine:=Nat.lt_of_le_of_lt (Nat.add_le_add_left (by decide:1<=64) _) hr.units
section
variable{X:Cx}
end
def Same(H H':Hp):Prop:=∀ b o,H b=some o->H' b=some o
theorem Same.refl(H:Hp):Same H H:=λ_ _ h=>h
theorem Same.trans{H H1 H2:Hp}(a:Same H H1)(b:Same H1 H2):Same H H2:=λc o h=>b c o (a c o h)
theorem Same.free{H H':Hp}(e:Same H H'){l:Addr}(h:H' l=Option.none):H l=Option.none:=by
 cases q:H l with
 | none=>rfl
 | some o =>
  rw[e l o q]at h
  cases h
theorem Same.seq{K:W.Frag}{H H':Hp}{a:Addr}{xs:List V}(e:Same H H')(h:SqL K H a xs):SqL K H' a xs:=by
 rcases h with(h | ⟨o,h⟩) | h
 ·exact .inl (.inl (e _ _ h))
 ·exact .inl (.inr ⟨o,e _ _ h⟩)
 ·exact .inr h
section
variable{κ :Type}[DecidableEq κ]
theorem S9{kvs:List (κ × V)}{k: κ}(h:BJ kvs k=none):¬ k∈kvs.map (·.1):=by
 intro m
 obtain⟨p,hp,e⟩:=List.mem_map.mp m
 have q:(kvs.any λkv=>decide (kv.1=k))=true:=List.any_eq_true.mpr ⟨p,hp,decide_eq_true e⟩
 rw[IQ,h]at q
 exact absurd q (by simp)
theorem wQ{kvs:List (κ × V)}{k: κ}{v:V}(h:BJ kvs k=some v):k∈kvs.map (·.1):=by
 have q:(kvs.any λkv=>decide (kv.1=k))=true:=by
  rw[IQ,h]
  all_goals rfl
 obtain⟨p,hp,e⟩:=List.any_eq_true.mp q
 exact List.mem_map.mpr ⟨p,hp,of_decide_eq_true e⟩
theorem dN:∀ {l:List κ} {k: κ},l.Nodup->¬ k∈l->(l++[k]).Nodup
 | [],k,_,_=>by simp
 | a::r,k,h,hk=>by
  obtain⟨h1,h2⟩:=List.nodup_cons.mp h
  show(a::(r++[k])).Nodup
  refine List.nodup_cons.mpr ⟨λm=> ?_,dN h2 λm=>hk (List.mem_cons.mpr (Or.inr m))⟩
  rcases List.mem_append.mp m with q | q
  ·exact h1 q
  ·exact hk (List.mem_cons.mpr (Or.inl (List.mem_singleton.mp q).symm))
theorem wR{kvs:List (κ × V)}{k: κ}(v:V)(hn:(kvs.map (·.1)).Nodup)(h:BJ kvs k=none):((CB kvs k v).map (·.1)).Nodup:=by
 rw[SW v h,List.map_append]
 exact dN hn (S9 h)
theorem dO{p: κ × V}{r:List (κ × V)}{k: κ}(e:p.1=k):E6 (p::r) k=E6 r k:=by
 unfold E6
 rw[List.filter_cons,if_neg (by simp[e])]
theorem dP{p: κ × V}{r:List (κ × V)}{k: κ}(e:¬ p.1=k):E6 (p::r) k=p::E6 r k:=by
 unfold E6
 rw[List.filter_cons,if_pos (by simp[e])]
theorem dQ{kvs:List (κ × V)}{k: κ}{p: κ × V}(h:p∈E6 kvs k):p∈kvs:=(List.mem_filter.mp h).1
theorem TC:∀ {kvs:List (κ × V)} {k: κ},(kvs.map (·.1)).Nodup->((E6 kvs k).map (·.1)).Nodup
 | [],_,_=>List.nodup_nil
 | p::r,k,h=>by
  have h:(p.1::r.map (·.1)).Nodup:=h
  obtain⟨h1,h2⟩:=List.nodup_cons.mp h
  by_cases e:p.1=k
  ·rw[dO e]
   exact TC h2
  ·rw[dP e]
   show(p.1::(E6 r k).map (·.1)).Nodup
   refine List.nodup_cons.mpr ⟨λm=>h1 ?_,TC h2⟩
   obtain⟨q,hq,eq⟩:=List.mem_map.mp m
   exact List.mem_map.mpr ⟨q,dQ hq,eq⟩
end
end L2
namespace L2
theorem TF{env:Env}:∀ (names:List (Str × NameKind)) (cs:List (Str × Addr)),
  (∀ x∈names,x.2=.free->∃ c,env.cells.lookup x.1=some c)->(∀ x c,cs.lookup x=some c->env.cells.lookup x=some c) →
  ∃ cl,(forIn names cs λx r=>(if(x.2 == NameKind.free)=true then do let a ← cellOf env x.1;pure (ForInStep.yield ((x.1,a)::r))else pure (ForInStep.yield r):Sem (ForInStep (List (Str × Addr)))))=pure cl ∧
   (∀ x c,cl.lookup x=some c->env.cells.lookup x=some c)/\(∀ x,(cs.lookup x).isSome=true->(cl.lookup x).isSome=true) ∧
   ∀ x∈names,x.2=.free->(cl.lookup x.1).isSome=true
 | [],cs,_,h=>⟨cs,rfl,h,λ_ z=>z,λ_ z=>nomatch z⟩
 | (n,k)::r,cs,hf,h=>by
  by_cases hk:k=.free
  ·subst hk
   obtain⟨c,hc⟩:=hf (n,.free) List.mem_cons_self rfl
   obtain⟨cl,e,h1,h2,h3⟩:=TF r ((n,c)::cs) (λx hx=>hf x (List.mem_cons_of_mem _ hx)) (λx c' hx=>by
    by_cases hxn:x=n
    ·subst hxn;simp only[List.lookup_cons,beq_self_eq_true]at hx;cases hx;exact hc
    ·have:(x == n)=false:=beq_eq_false_iff_ne.mpr hxn
     simp only[List.lookup_cons,this]at hx;exact h x c' hx)
   refine⟨cl,?_,h1,λx hx=>h2 x ?_,λx hx hxf=> ?_⟩
   ·rw[List.forIn_cons]
    show((if(NameKind.free == NameKind.free)=true then _ else _) >>= _)=_
    rw[if_pos (show(NameKind.free == NameKind.free)=true from rfl)]
    unfold cellOf
    show(((match env.cells.lookup n with | some a=>pure a | none=>_) >>= _) >>= _)=_
    rw[hc]
    exact e
   ·by_cases hxn:x=n
    ·subst hxn;simp
    ·have:(x == n)=false:=beq_eq_false_iff_ne.mpr hxn
     simp only[List.lookup_cons,this];exact hx
   ·rcases List.mem_cons.mp hx with rfl | hx
    ·exact h2 n (by simp)
    ·exact h3 x hx hxf
  ·obtain⟨cl,e,h1,h2,h3⟩:=TF r cs (λx hx=>hf x (List.mem_cons_of_mem _ hx)) h
   refine⟨cl,?_,h1,h2,λx hx hxf=> ?_⟩
   ·rw[List.forIn_cons]
    have hb:(k == NameKind.free)=false:=by simpa using hk
    show((if(k == NameKind.free)=true then _ else _) >>= _)=_
    rw[if_neg (by simp[hb])]
    exact e
   ·rcases List.mem_cons.mp hx with rfl | hx
    ·exact absurd hxf hk
    ·exact h3 x hx hxf
theorem dR{env:Env}{scope:Scope}(hf:∀ x∈scope.names,x.2=.free->∃ c,env.cells.lookup x.1=some c) :
  ∃ cl,closureFor scope env=pure cl/\(∀ x c,cl.lookup x=some c->env.cells.lookup x=some c)/\∀ x∈scope.names,x.2=.free->(cl.lookup x.1).isSome=true:=by
 obtain⟨cl,e,h1,_,h3⟩:=TF (env:=env) scope.names [] hf (λx c h=>by simp at h)
 refine⟨cl,?_,h1,h3⟩
 unfold closureFor
 show(forIn scope.names ([]:List (Str × Addr)) _ >>= _)=_
 have:(forIn scope.names ([]:List (Str × Addr)) λx r=>(if(x.2 == NameKind.free)=true then do let a ← cellOf env x.1;pure (ForInStep.yield ((x.1,a)::r))else pure (ForInStep.yield r):Sem (ForInStep (List (Str × Addr))))) >>=(λr=>(pure r:Sem _))=(pure cl:Sem _):=by rw[e];rfl
 exact this
theorem dU{env:Env}:∀ {names:List (Str × NameKind)} {x:Str},names.lookup x=some .free →
  (names.map λ(n,k)=>if(k == NameKind.free && env.scope.kind == .function && env.kindOf n == some .cell)then(n,NameKind.cell)else(n,k)).lookup x=some .cell ∨
  (names.map λ(n,k)=>if(k == NameKind.free && env.scope.kind == .function && env.kindOf n == some .cell)then(n,NameKind.cell)else(n,k)).lookup x=some .free
 | [],_,h=>by simp at h
 | (n,k)::r,x,h=>by
  by_cases hx:x=n
  ·subst hx
   simp only[List.lookup_cons,beq_self_eq_true]at h
   cases h
   show List.lookup x ((if _ then(x,NameKind.cell)else(x,NameKind.free))::_)=_\/List.lookup x ((if _ then(x,NameKind.cell)else(x,NameKind.free))::_)=_
   split
   ·exact .inl (by simp)
   ·exact .inr (by simp)
  ·have hb:(x == n)=false:=beq_eq_false_iff_ne.mpr hx
   simp only[List.lookup_cons,hb]at h
   have ih:=dU (env:=env) h
   show List.lookup x ((if _ then(n,NameKind.cell)else(n,k))::_)=_\/List.lookup x ((if _ then(n,NameKind.cell)else(n,k))::_)=_
   split<;>(simp only[List.lookup_cons,hb];exact ih)
theorem dW{env:Env}:∀ {names:List (Str × NameKind)} {x:Str},
  ((names.map λ(n,k)=>if(k == NameKind.free && env.scope.kind == .function && env.kindOf n == some .cell)then(n,NameKind.cell)else(n,k)).lookup x=some .cell ∨
  (names.map λ(n,k)=>if(k == NameKind.free && env.scope.kind == .function && env.kindOf n == some .cell)then(n,NameKind.cell)else(n,k)).lookup x=some .free)->(x,NameKind.free)∈names\/(x,NameKind.cell)∈names
 | [],_,h=>by simp at h
 | (n,k)::r,x,h=>by
  by_cases hx:x=n
  ·subst hx
   have h:List.lookup x ((if(k == NameKind.free && env.scope.kind == .function && env.kindOf x == some .cell)=true then(x,NameKind.cell)else(x,k))::_)=some .cell\/List.lookup x ((if(k == NameKind.free && env.scope.kind == .function && env.kindOf x == some .cell)=true then(x,NameKind.cell)else(x,k))::_)=some .free:=h
   split at h
   ·rename_i hc
    rw[Bool.and_eq_true,Bool.and_eq_true]at hc
    have:k=.free:=by simpa using hc.1.1
    subst this
    exact .inl List.mem_cons_self
   ·simp only[List.lookup_cons,beq_self_eq_true]at h
    rcases h with h | h
    ·cases h;exact .inr List.mem_cons_self
    ·cases h;exact .inl List.mem_cons_self
  ·have hb:(x == n)=false:=beq_eq_false_iff_ne.mpr hx
   have h:List.lookup x ((if(k == NameKind.free && env.scope.kind == .function && env.kindOf n == some .cell)=true then(n,NameKind.cell)else(n,k))::_)=some .cell\/List.lookup x ((if(k == NameKind.free && env.scope.kind == .function && env.kindOf n == some .cell)=true then(n,NameKind.cell)else(n,k))::_)=some .free:=h
   have h':=h
   split at h'
   all_goals
    simp only[List.lookup_cons,hb]at h'
    exact(dW h').imp (List.mem_cons_of_mem _) (List.mem_cons_of_mem _)
theorem E7{a b:Addr}{n:Nat}(h:a<n)(h2:n<=b):a≠b:=Nat.ne_of_lt (Nat.lt_of_lt_of_le h h2)
def Cx.block(X:Cx)(AA:List (Addr × Obj))(s:Shared)(H:Hp)(Nc:List Str)(scope:Scope)(cl:List (Str × Addr))(C:Addr)(fp:List Addr):Cx where
 prog:=X.prog
 w:=X.w
 K:=X.K
 mg:=X.mg
 base:=X.base
 A:=X.A
 N:=Nc
 s₀:=s
 H₀:=H
 env:=compEnvC scope cl C X.env
 outer:=X.stack
 stack:=X.stack
 ex:=fp
 fn:=λ_=>false
 calm:=X.calm
 pn:=X.pn++AA
 xe:=λ_ _=>False
structure LW(X:Cx)(scope:Scope)(tn cn:List Str)(cap:List Nat):Prop where
 kind:scope.kind=.function
 nocell:∀ y∈scope.names,y.2≠.cell
 names:∀ y∈scope.names,y.2=.local->scope.names.lookup y.1=some .local
 free:∀ y∈scope.names,y.2=.free->X.env.kindOf y.1=some .cell\/X.env.kindOf y.1=some .free
 drawn:∀ x∈cn,scope.names.lookup x=some .free
 caps:cap.map (λi=>X.N[i]?)=cn.map some
def JT(k:Nat)(cap:List Nat)(σ:St):St:=List.replicate k none++cap.map λi=>(σ[i]?).join
theorem HOk.track{P:Program}{w:World}{H:Hp}{h:Heap}{a:Addr}{o:HO}(x:HOk P w H h)(hn:H a=none)(new:ObjOk P w (upd H a o) h a o):HOk P w (upd H a o) h:=λb u e=>by
 by_cases hb:b=a
 ·subst hb;rw[AE]at e;cases e;exact new
 ·rw[AG hb]at e
  refine(x b u e).stay (λ_ _ _ q=>q) (λc q=> ?_) λc xs q=> ?_
  ·rw[AG (BN q hn)];exact q
  ·rw[AG (BN q hn)];exact q
section
variable{X:Cx}{AA:List (Addr × Obj)}{σ:St}{H:Hp}{s:Shared}
theorem Inv.pinlt(I:Inv X AA σ H s){p:Addr × Obj}(hp:p∈X.pn++AA):p.1<s.heap.objs.size:=Heap.lt_size (I.pin p hp).1
theorem Inv.stkne(I:Inv X AA σ H s){b:Addr}(h1:b≠X.env.locals)(h2:b∉X.fs):b∉DW X.stack:=λz=>(List.mem_cons.mp (I.stkSub b z)).elim h1 h2
theorem Inv.stklt(I:Inv X AA σ H s){b:Addr}(h:b∈DW X.stack):b<s.heap.objs.size:=by
 obtain⟨_,o,ho,_⟩:=I.stack.mem h
 exact Heap.lt_size ho
theorem Inv.block{scope:Scope}{tn cn:List Str}{cap:List Nat}{cl:List (Str × Addr)}{C:Addr}{fp:List Addr}{pins':List (Addr × Obj)}{s1:Shared}(I:Inv X AA σ H s)(S:LW X scope tn cn cap)
  (BH:∀ x c,cl.lookup x=some c->X.env.cells.lookup x=some c) (KN:∀ x∈scope.names,x.2=.free->(cl.lookup x.1).isSome=true)
  (hf:∀ b∈fp,FpOk X AA H b) (hfl:∀ b∈fp,b<s.heap.objs.size) (hC:s.heap.objs.size<=C) (k:∀ b o,s.heap.get? b=some o->s1.heap.get? b=some o)
  (hos:s1.os=s.os) (hg:s1.gens=s.gens) (hns:∃ m,s1.heap.Ns C m)
  (hp:∀ p∈pins',s1.heap.get? p.1=some p.2/\H p.1=none/\p.1≠C/\p.1∉DW X.stack/\∀ v,p.2.data≠.cell v) :
  Inv (X.block AA s H (tn++cn) scope cl C fp) pins' (JT tn.length cap σ) H s1:=by
 have ok:(X.block AA s H (tn++cn) scope cl C fp).Ok:=by
  refine⟨I.ok.mod,S.kind,I.ok.glob,I.ok.blt,hC,λx y c h1 h2=>I.ok.inj x y c (BH x c h1) (BH y c h2),λx hx=> ?_,λx c z _=>(by cases z),I.ok.hd,I.ok.frames,.inl rfl,λb hb=>⟨?_,λx c e=>(hf b hb).2.2.2.2.1 x c (BH x c e)⟩,I.bs,Nat.le_trans I.ok.bsz I.sz,λb o e hb=> ?_,λb hb=>I.stkne (hf b hb).2.1 (hf b hb).2.2.1,I.stack,I.stkFree⟩
  ·rcases dW (env:=X.env) hx with z | z
   ·exact Option.isSome_iff_exists.mp (KN _ z rfl)
   ·exact absurd rfl (S.nocell _ z)
  ·exact Nat.ne_of_lt (Nat.lt_of_lt_of_le (hfl b hb) hC)
  ·rcases(hf b hb).2.2.2.1 with z | z
   ·exact I.ok.noex b o e z
   ·have h1:b<X.base.objs.size:=Heap.lt_size e
    exact absurd (Nat.lt_of_lt_of_le h1 (Nat.le_trans I.ok.bsz z)) (Nat.lt_irrefl _)
 refine⟨ok,hos,by rw[hg];exact I.bare,Un.kept k,?_,λx c e=> ?_,I.hok.fresh hC,λx c e=>I.freeC x c (BH x c e),λp hp'=> ?_,I.hok.kept k,?_⟩
 ·obtain⟨m,hm⟩:=hns
  refine⟨m,hm,λi x v h1 h2 h3=> ?_⟩
  have hi:tn.length<=i:=by
   rcases Nat.lt_or_ge i tn.length with z | z
   ·unfold JT at h2
    rw[List.getElem?_append_left (by simpa using z),List.getElem?_replicate]at h2
    split at h2<;>cases h2
   ·exact z
  unfold JT at h2
  rw[List.getElem?_append_right (by simpa using hi),List.length_replicate,List.getElem?_map]at h2
  have h1':cn[i - tn.length]? =some x:=by
   have:(tn++cn)[i]? =some x:=h1
   rwa [List.getElem?_append_right hi]at this
  cases hq:cap[i - tn.length]? with
  | none=>rw[hq]at h2;cases h2
  | some j =>
   rw[hq]at h2
   have hj:X.N[j]? =some x:=by
    have:=congrArg (λl=>l[i - tn.length]?) S.caps
    simp only[List.getElem?_map,hq,h1',Option.map_some]at this
    exact Option.some.inj this
   have hv:σ[j]? =some (some v):=by
    cases hs:σ[j]? with
    | none=>simp[hs]at h2
    | some y=>simp only[Option.map_some,hs,Option.join_some]at h2;cases h2;rfl
   have hxf:(x,NameKind.free)∈scope.names:=PySem.mem_of_lookup (S.drawn x (List.mem_of_getElem? h1'))
   have hk:=S.free _ hxf rfl
   obtain⟨m0,_,hl0⟩:=I.loc
   obtain⟨u,r,q⟩:=hl0 j x v hj hv (hk.elim (λz=>.inr (.inl z)) λz=>.inr (.inr z))
   refine⟨u,r,.inr ⟨dU (S.drawn x (List.mem_of_getElem? h1')),?_⟩⟩
   rcases q with⟨kl,_⟩ | ⟨_,c,hc,z⟩
   ·have kl':X.env.kindOf x=some .local:=kl
    rcases hk with hk | hk<;>(rw[kl']at hk;cases hk)
   ·obtain⟨c',hc'⟩:=Option.isSome_iff_exists.mp (KN _ hxf rfl)
    have:=BH _ _ hc'
    rw[hc]at this
    cases this
    exact⟨c,hc',z.keeps k⟩
 ·obtain⟨v,z⟩:=I.cell x c (BH x c e)
  exact⟨v,z.keeps k⟩
 ·rcases List.mem_append.mp hp' with z | z
  ·obtain⟨e,n,ne,nf,d⟩:=I.pin p z
   exact⟨k _ _ e,n,Nat.ne_of_lt (Nat.lt_of_lt_of_le (Heap.lt_size e) hC),I.stkne ne nf,d⟩
  ·exact hp p z
 ·unfold JT
  show _=(tn++cn).length
  have:=congrArg List.length S.caps
  simp only[List.length_map]at this
  simp[this]
end
def DV:TT:=λ_ H Q=>Q true H
def NH(X:Cx)(FB:List Expr)(t:TT):Prop :=
 ∀ (AA:List (Addr × Obj)) (s:Shared) (σ:St) (H:Hp) (Q:Bool->Hp->Prop),Inv X AA σ H s->t σ H Q →
  wpAny (model X.prog X.w) X.A (forIn FB true λc r=>if r=true then do let ok ← isTrue c X.env (eval c X.env);pure (ForInStep.yield ok)else pure (ForInStep.yield r)) (TP X AA σ Q) X.xe s
theorem G7{X:Cx}:NH X [] DV:=λAA s σ H Q I h=>wpAny_tests_nil ⟨H,I,h⟩
theorem wS{X:Cx}{c:Expr}{t:TT}(h:PT X c t):NH X [c] t:=λAA s σ H Q I q=>wpAny_tests_one (h AA s σ H Q I q)
theorem wT {prog:Program} {w:World} {A:Around} {R:Result->Shared->Prop} {s:Shared} {FX target iter:Expr} {FB:List Expr} {scope:Scope} {pos:Pos} {it B0:Value} {env:Env} (Jn:Nat->Shared->Prop)
    (turn:∀ n s,Jn n s->wpAny (model prog w) A (pyNext it) (λr s₁=>match r with
      | none=>R (.ok .next) s₁
      | some v=>wpAny (model prog w) A (letOwnedTupleGo target it v) (λ_ s₂=>wpAny (model prog w) A (assign target env v) (λ_ s₃ =>
          wpAny (model prog w) A (forIn FB true λc r=>if r=true then do let ok ← isTrue c env (eval c env);pure (ForInStep.yield ok)else pure (ForInStep.yield r)) (λok s₄ =>
            if ok=true then wpAny (model prog w) A (eval FX env) (λx s₅ =>
              wpAny (model prog w) A (call (.builtin "list.append") [B0,x]) (λ_ s₆=>∃ m,m<n/\Jn m s₆) (λ_ _=>False) s₅) (λ_ _=>False) s₄
            else ∃ m,m<n/\Jn m s₄) (λ_ _=>False) s₃) (λ_ _=>False) s₂) (λ_ _=>False) s₁) (λ_ _=>False) s)
    (n:Nat) (h:Jn n s):codeAny (model prog w) A (.compLoop (.ListComp FX [⟨target,iter,FB,0⟩] scope pos) 0 it B0 env) R s:=by
  refine codeAny_loop rfl Jn (λn' s' hJ=> ?_) n h
  show wpAny _ A ((compTurn (.ListComp FX [⟨target,iter,FB,0⟩] scope pos) 0 it B0 env).onRaise (λx'=>do noteFrame x' env;theTreesLotGoes x')) _ _ s'
  refine wpAny_noted (wpAny_noRaise ?_)
  rw[compTurn_list]
  refine wpAny_bind (wpAny_standAt (wpAny_bind (AR (turn n' s' hJ) λr s₁ h₁=> ?_)))
  cases r with
  | none=>exact wpAny_pure h₁
  | some v =>
    refine wpAny_bind (AR h₁ λ_ s₂ h₂=> ?_)
    refine wpAny_bind (AR h₂ λ_ s₃ h₃=>wpAny_bind (AR h₃ λok s₄ h₄=> ?_))
    cases ok with
    | false=>exact wpAny_pure ⟨rfl,h₄⟩
    | true=>exact wpAny_bind (wpAny_bind (AR h₄ λx' s₅ h₅=>wpAny_bind (AR h₅ λ_ s₆ h₆=>wpAny_pure (wpAny_pure ⟨rfl,h₆⟩))))
def EY(wi:TI)(g:TG)(tt:TT)(te:TE)(k:Nat)(cap:List Nat):TE:=λσ H Q=>wi σ H λJ H1 =>
 ∃ W:Nat->Nat->St->List V->Hp->Prop,(∃ m,W 0 m (JT k cap σ) [] H1)/\∀ i m σ' ys H,W i m σ' ys H →
  (J.stop i H/\∀ p,H p=none->Q (.ref p) (upd H p (.lst ys))) ∨
  (J.go i H/\ys.length<sizeLine/\∀ x H',J.yld i H x H'->g x σ' H' λσ2 H2=>tt σ2 H2 λb H3 =>
   if b=true then ∃ N:VK,(∀ y H4,N y H4->∃ m',m'<m/\W (i+1) m' σ2 (ys++[y]) H4)/\te σ2 H3 N else ∃ m',m'<m/\W (i+1) m' σ2 ys H3)
structure CompDone(X:Cx)(fp:List Addr)(H:Hp)(s:Shared)(Q:VK)(B0:Value)(C:Addr)(r:Result)(s':Shared):Prop where
 ok:r=.ok .next
 ex:∃ (D:Addr) (ys:List V) (its:List Value) (n:Nat) (H':Hp),B0=.ref D/\Vals ys its/\ys.length<=sizeLine/\s'.heap.get? D=some { cls:=.type "list",data:=.seq its.toArray n }/\s.heap.objs.size<=D/\D≠C/\H' D=none/\H' C=none ∧
  (∃ m,s'.heap.Ns C m)/\Un (DW X.stack) fp H H' s.heap s'.heap/\HOk X.prog X.w H' s'.heap/\∀ p,H' p=none->Q (.ref p) (upd H' p (.lst ys))
 ge:s.heap.objs.size<=C
 os:s'.os=s.os
 bare:AllBare s'.gens
section
variable{X:Cx}{AA:List (Addr × Obj)}{σ:St}{H:Hp}{s:Shared}
theorem dX {tg iter FX:Expr} {FB:List Expr} {scope:Scope} {pos:Pos} {g:TG} {tt:TT} {te:TE} {tn cn:List Str} {cap:List Nat} {cl:List (Str × Addr)} {it:Addr} {fp:List Addr} {tn':Nat->Heap->Prop} {J:It} {Q:VK} {E:Value->Shared->Prop}
    (I:Inv X AA σ H s) (S:LW X scope tn cn cap) (hc:X.calm=true)
    (BH:∀ x c,cl.lookup x=some c->X.env.cells.lookup x=some c) (KN:∀ x∈scope.names,x.2=.free->(cl.lookup x.1).isSome=true)
    (T:II X.prog X.w X.K tg J fp it tn') (st:tn' 0 s.heap) (hf:∀ b∈fp,FpOk X AA H b)
    (hg:∀ C,PG (X.block AA s H (tn++cn) scope cl C fp) tg g) (ht:∀ C,NH (X.block AA s H (tn++cn) scope cl C fp) FB tt) (he:∀ C,PE (X.block AA s H (tn++cn) scope cl C fp) FX te)
    (W:Nat->Nat->St->List V->Hp->Prop) {m0:Nat} (w0:W 0 m0 (JT tn.length cap σ) [] H)
    (step:∀ i m σ' ys H,W i m σ' ys H →
      (J.stop i H/\∀ p,H p=none->Q (.ref p) (upd H p (.lst ys))) ∨
      (J.go i H/\ys.length<sizeLine/\∀ x H',J.yld i H x H'->g x σ' H' λσ2 H2=>tt σ2 H2 λb H3 =>
        if b=true then ∃ N:VK,(∀ y H4,N y H4->∃ m',m'<m/\W (i+1) m' σ2 (ys++[y]) H4)/\te σ2 H3 N else ∃ m',m'<m/\W (i+1) m' σ2 ys H3)) :
    wpAny (model X.prog X.w) X.A (newList []) (λB0 s₃=>wpAny (model X.prog X.w) X.A (newFunctionEnv scope X.env.globals cl [] X.env.qual none .none (some X.env)) (λcenv s₄ =>
      codeAny (model X.prog X.w) X.A (.compStart (.ListComp FX [⟨tg,iter,FB,0⟩] scope pos) 0 (.ref it) B0 { cenv with scope:=relabel scope X.env }) (CompDone X fp H s Q B0 cenv.locals) s₄) E s₃) E s:=by
  refine wpAny_newObj_type (wpAny_newFunctionEnv S.nocell (by intro y hy;simp at hy) (λh₁ hns₁ hsb₁=> ?_) S.kind)
  dsimp only at hns₁ hsb₁ ⊢
  generalize hH2:s.heap.push { cls:=.type "list",dict:=none,data:=.seq ([]:List Value).toArray }=H2 at hns₁ hsb₁ ⊢
  have hCs:H2.objs.size=s.heap.objs.size+1:=by rw[<-hH2,Heap.size_push]
  generalize hCe:H2.objs.size=C at hns₁ hsb₁ ⊢
  have hC:C=s.heap.objs.size+1:=hCe.symm.trans hCs
  generalize hD:s.heap.objs.size=D at *
  have hDC:D≠C:=by rw[hC];exact Nat.ne_of_lt (Nat.lt_succ_self _)
  have old:∀ b o,s.heap.get? b=some o->h₁.get? b=some o:=λb o e=>by
    have hb:b<D:=by rw[<-hD];exact Heap.lt_size e
    have hbC:b≠C:=E7 hb (by rw[hC];exact Nat.le_succ _)
    exact hsb₁.extBut b o hbC (Heap.get?_push_of_some _ (hH2 ▸ Heap.get?_push_of_some _ e))
  have hDo:h₁.get? D=some { cls:=.type "list",data:=.seq ([]:List Value).toArray }:=by
    refine hsb₁.extBut _ _ hDC (Heap.get?_push_of_some _ ?_)
    rw[<-hH2,<-hD]
    exact Heap.get?_push_size _ rfl
  have hfl:∀ b∈fp,b<s.heap.objs.size:=λb hb=>by
    obtain⟨o,e,_⟩:=T.obj 0 _ st b hb
    exact Heap.lt_size e
  have hDn:H D=none:=by rw[<-hD];exact I.hok.fresh (Nat.le_refl _)
  have hDs:D∉DW X.stack:=λz=>E7 (I.stklt z) (Nat.le_of_eq hD) rfl
  have I0:Inv (X.block AA s H (tn++cn) scope cl C fp) [(D,{ cls:=.type "list",data:=.seq ([]:List Value).toArray 0 })] (JT tn.length cap σ) H { s with heap:=h₁,toks:=s.toks+([]:List (Str × Value)).length } :=
    I.block S BH KN hf hfl (by omega) old rfl rfl ⟨_,hns₁⟩ λp hp=>by
      rw[List.mem_singleton]at hp
      subst hp
      exact⟨hDo,hDn,hDC,hDs,λv z=>nomatch z⟩
  have fpok:∀ {H':Hp} {o:Obj},(∀ b∈fp,H' b=none)->∀ b∈fp,FpOk (X.block AA s H (tn++cn) scope cl C fp) [(D,o)] H' b:=λ{H' o} hn b hb=>by
    obtain⟨_,f1,f2,f3,f4,f5⟩:=hf b hb
    have hbl:=hfl b hb
    refine⟨hn b hb,?_,I.stkne f1 f2,.inl hb,λx c e=>f4 x c (BH x c e),λp hp=> ?_⟩
    ·exact E7 hbl (by rw[hD,hC];exact Nat.le_succ _)
    · rcases List.mem_append.mp hp with z | z
      ·exact f5 p z
      ·rw[List.mem_singleton]at z;subst z;exact Ne.symm (E7 hbl (Nat.le_of_eq hD))
  have st1:tn' 0 h₁:=T.keep _ _ _ st λb _ o e=>old b o e
  have loop:∀ s₃:Shared,s₃={ s with heap:=h₁,toks:=s.toks+([]:List (Str × Value)).length } →
      codeAny (model X.prog X.w) X.A (.compLoop (.ListComp FX [⟨tg,iter,FB,0⟩] scope pos) 0 (.ref it) (.ref D) (compEnvC scope cl C X.env)) (CompDone X fp H s Q (.ref D) C) s₃:=by
    rintro s₃ rfl
    refine wT (λn s'=>∃ i σ' ys its nn H',Inv (X.block AA s H (tn++cn) scope cl C fp) [(D,{ cls:=.type "list",data:=.seq (its:List Value).toArray nn })] σ' H' s'/\tn' i s'.heap/\(∀ b∈fp,H' b=none)/\Vals ys its/\ys.length<=sizeLine/\W i n σ' ys H') ?_ m0
      ⟨0,_,[],[],0,H,I0,st1,λb hb=>(hf b hb).1,.nil,Nat.zero_le _,w0⟩
    rintro n s4 ⟨i,σ4,ys,its,nn,H4,I4,st4,fr4,r4,l4,w4⟩
    rcases step i n σ4 ys H4 w4 with⟨stop,qn⟩ | ⟨go,BC,next⟩
    · refine AR (T.done (X.block AA s H (tn++cn) scope cl C fp) rfl rfl rfl hc i _ s4 σ4 H4 _ I4 (fpok fr4) st4 stop) λr s5 ⟨hr,I5⟩=> ?_
      subst hr
      have hp:=I5.pin (D,_) (List.mem_append_right _ List.mem_cons_self)
      obtain⟨m5,hm5,_⟩:=I5.loc
      exact⟨rfl,⟨D,ys,its,nn,H4,rfl,r4,l4,hp.1,by omega,hDC,hp.2.1,I5.free,⟨m5,hm5⟩,I5.base,I5.hok,qn⟩,by omega,I5.os,I5.bare⟩
    · refine AR (T.item (X.block AA s H (tn++cn) scope cl C fp) rfl rfl rfl hc i _ s4 σ4 H4 _ I4 (fpok fr4) st4 go) λr s5 hzz=> ?_
      obtain⟨u,hr,h5⟩:=hzz
      subst hr
      refine AR h5 λ_ s6 hzz=> ?_
      obtain⟨x,H6,I6,r6,y6,st6,fr6⟩:=hzz
      have I6':=I6.pinned (fpok fr6) (T.obj _ _ st6)
      refine AR (hg C _ s6 σ4 H6 x u _ I6' r6 (next x H6 y6)) λ_ s7 hzz=> ?_
      obtain⟨σ7,H7,I7,q7⟩:=hzz
      refine AR (ht C _ s7 σ7 H7 _ I7 q7) λok s8 hzz=> ?_
      obtain⟨H8,I8,q8⟩:=hzz
      have keepst:∀ {σ9:St} {H9:Hp} {s9:Shared},Inv (X.block AA s H (tn++cn) scope cl C fp) ([(D,{ cls:=.type "list",data:=.seq its.toArray nn })]++LN fp s6.heap) σ9 H9 s9->(∀ b∈fp,∀ o,s6.heap.get? b=some o->s9.heap.get? b=some o)/\∀ b∈fp,H9 b=none:=λ{σ9 H9 s9} I9=>by
        refine⟨λb hb o e=>(I9.pin (b,o) (List.mem_append_right _ (List.mem_append_right _ (LO hb e)))).1,λb hb=> ?_⟩
        obtain⟨o,e,_⟩:=T.obj _ _ st6 b hb
        exact(I9.pin (b,o) (List.mem_append_right _ (List.mem_append_right _ (LO hb e)))).2.1
      cases ok with
      | false =>
        obtain⟨m',hm',w'⟩:=q8
        obtain⟨k1,k2⟩:=keepst I8
        exact⟨m',hm',i+1,σ7,ys,its,nn,H8,I8.unpinned,T.keep _ _ _ st6 k1,k2,r4,l4,w'⟩
      | true =>
        obtain⟨Nw,hN,q8⟩:=q8
        refine AR (he C _ s8 σ7 H8 Nw I8 q8) λv s9 hzz=> ?_
        obtain⟨y,H9,I9,r9,n9⟩:=hzz
        obtain⟨m',hm',w'⟩:=hN y H9 n9
        obtain⟨k1,k2⟩:=keepst I9
        have hp:=I9.pin (D,_) (List.mem_append_right _ (List.mem_append_left _ List.mem_cons_self))
        have e:=hp.1
        have BV:=r4.length
        refine call_meets F.slot_list_append ⟨_,e,rfl⟩ F.entry_list_append (F.args_list_append_2 _ _) (PySem.list_append D its.toArray nn v (by rw[List.size_toArray];omega)) ⟨e,?_⟩
        have q:=PySem.IsL.update e (λxs=>xs.push v)
        have Ia:Inv (X.block AA s H (tn++cn) scope cl C fp) [] σ7 H9 s9:=I9.pins_of λp hp=>nomatch hp
        have Ib:=Ia.turned (h':=s9.heap.update D (Obj.mapSeq (·.push v))) (t':=s9.toks) (it:=D) (λb o hb eb=>(Heap.get?_update_other _ _ (Ne.symm hb)).trans eb) hp.2.1 hDC (.inr (by show s.heap.objs.size<=D;omega))
          (λx c ec z=>by
            obtain⟨vv,zc⟩:=I.cell x c (BH x c ec)
            exact E7 zc.lt (Nat.le_of_eq hD) z)
          (λp hp'=>by
            rw[List.append_nil]at hp'
            exact E7 (I.pinlt hp') (Nat.le_of_eq hD))
        have q':(s9.heap.update D (Obj.mapSeq (·.push v))).get? D=some { cls:=.type "list",data:=.seq (its++[v]).toArray (nn+1) }:=by
          rw[if_neg (by simp)]at q
          rw[<-List.push_toArray]
          exact q
        refine⟨m',hm',i+1,σ7,ys++[y],its++[v],nn+1,H9,Ib.pins_of (λp hp'=> ?_),T.keep _ _ _ st6 λb hb o eb=> ?_,k2,r4.append (.cons r9 .nil),?_,w'⟩
        · rw[List.mem_singleton]at hp'
          subst hp'
          exact⟨q',hp.2.1,hDC,hDs,λv' z=>nomatch z⟩
        · have hbl:=hfl b hb
          exact(Heap.get?_update_other _ _ (Ne.symm (E7 hbl (Nat.le_of_eq hD)))).trans (k1 b hb o eb)
        · rw[List.length_append,List.length_singleton]
          omega
  exact codeAny_compStart_list (loop _ rfl) (T.self _ 0 _ _ _ st1 (loop _ rfl))
theorem CompDone.inv{Q:VK}{B0:Value}{C:Addr}{r:Result}{s':Shared}{fp:List Addr}(I:Inv X AA σ H s)(hf:∀ b∈fp,FpOk X AA H b)(h:CompDone X fp H s Q B0 C r s') :
  ∃ D H',B0=.ref D/\Inv X AA σ H' s'/\Q (.ref D) H'/\H' C=none/\∃ m,s'.heap.Ns C m:=by
 obtain⟨_,⟨D,ys,its,n,H',rfl,r4,l4,e,hD,hDC,hDn,hCn,hm,u,ok,q⟩,hC,os,bare⟩:=h
 have lt:∀ b o,s.heap.get? b=some o->b≠D:=λb o eb=>E7 (Heap.lt_size eb) hD
 have ltH:∀ b o,H b=some o->b≠D:=λb o eb=>E7 (I.hok.lt eb) hD
 refine⟨D,upd H' D (.lst ys),rfl,I.call' (ch:=fp) os ⟨u.keep,u.slot,λb o eb n' hx=> ?_,u.there,λb xs eb=> ?_,λb o x eb=> ?_,λb ps eb=> ?_⟩ (ok.track hDn ⟨l4,its,n,r4,e⟩) bare (λb hb=> ?_),q D hDn,?_,hm⟩
 ·rw[AG (lt b o eb)];exact u.free b o eb n' hx
 ·rw[AG (ltH b _ eb)];exact u.tups b xs eb
 ·rw[AG (ltH b _ eb)];exact u.frzs b o x eb
 ·rw[AG (ltH b _ eb)];exact u.tbls b ps eb
 ·obtain⟨_,f1,f2,f3,f4,f5⟩:=hf b hb
  exact⟨f3,f1,f4,f5⟩
 ·rw[AG (Ne.symm hDC)];exact hCn
theorem Inv.letgo{C:Addr}{h':Heap}{s1:Shared}{σ1:St}{H1:Hp}(I:Inv X AA σ H s)(hC:s.heap.objs.size<=C)(I1:Inv X AA σ1 H1 s1)(hn:H1 C=none)(hs:Heap.SameBut C s1.heap h'):Inv X AA σ1 H1 { s1 with heap:=h' }:=by
 refine I1.turned (t':=s1.toks) (it:=C) (λb o hb e=>(hs.2 b hb).trans e) hn (λz=> ?_) (.inr ?_) (λx c e z=> ?_) λp hp z=> ?_
 ·exact E7 I.lt hC z.symm
 ·exact Nat.le_trans I.sz hC
 ·obtain⟨v,zc⟩:=I.cell x c e
  exact E7 zc.lt hC z
 ·exact E7 (I.pinlt hp) hC z
variable{tg iter FX:Expr}{FB:List Expr}{scope:Scope}{pos:Pos}{wi:TI}{g:TG}{tt:TT}{te:TE}{tn cn:List Str}{cap:List Nat}
theorem IV(S:LW X scope tn cn cap)(hc:X.calm=true)(hi:PI X tg iter wi)
  (hg:∀ AA s H cl C fp,PG (X.block AA s H (tn++cn) scope cl C fp) tg g) (ht:∀ AA s H cl C fp,NH (X.block AA s H (tn++cn) scope cl C fp) FB tt) (he:∀ AA s H cl C fp,PE (X.block AA s H (tn++cn) scope cl C fp) FX te)
  (hs:∀ x,foldedSetIterable iter X.env x=pure x:=by intro _;rfl):PE X (.ListComp FX [⟨tg,iter,FB,0⟩] scope pos) (EY wi g tt te tn.length cap):=by
 intro AA s σ H Q I h
 obtain⟨cl,ecl,BH,KN⟩:=dR (env:=X.env) (scope:=scope) λx hx hxf=>I.ok.has x.1 (S.free x hx hxf)
 rw[eval_ListComp]
 refine wpAny_comprehension_free (use:=none) rfl hs ecl S.kind S.names (AR (hi AA s σ H _ I h) λv s1 h1=>AR h1 λitv s2 h2=> ?_)
 obtain⟨it,fp,tn',J,H2,e,I2,T,st2,f2,W,⟨m0,w0⟩,turn⟩:=h2
 subst e
 refine AR (dX I2 S hc BH KN T st2 f2 (λC=>hg _ _ _ _ C _) (λC=>ht _ _ _ _ C _) (λC=>he _ _ _ _ C _) W w0 turn) λB0 s3 h3=>AR h3 λcenv s4 h4=>codeAny_mono h4 λr s5 h5=> ?_
 have hr:=h5.ok
 subst hr
 obtain⟨D,H',rfl,I5,q5,hCn,m,hm⟩:=h5.inv I2 f2
 exact⟨m,hm,λh' hs'=>⟨.ref D,H',I2.letgo h5.ge I5 hCn hs',rfl,q5⟩⟩
theorem TJ{i:Nat}{x:Str}{px spos:Pos}(S:LW X scope tn cn cap)(hc:X.calm=true)(hN:X.N.Nodup)(hi':X.N[i]? =some x)(hx:X.env.scope.names.lookup x=some .local)(hi:PI X tg iter wi)
  (hg:∀ AA s H cl C fp,PG (X.block AA s H (tn++cn) scope cl C fp) tg g) (ht:∀ AA s H cl C fp,NH (X.block AA s H (tn++cn) scope cl C fp) FB tt) (he:∀ AA s H cl C fp,PE (X.block AA s H (tn++cn) scope cl C fp) FX te)
  (hsw:swapsWith (.ListComp FX [⟨tg,iter,FB,0⟩] scope pos) (some (.Name x px)) spos.line X.env=pure true:=by rfl)
  (hs:∀ x,foldedSetIterable iter X.env x=pure x:=by intro _;rfl):PS X (.Assign [.Name x px] (.ListComp FX [⟨tg,iter,FB,0⟩] scope pos) spos) (A4 (EY wi g tt te tn.length cap) (AM i)):=by
 intro AA s σ H D I h
 obtain⟨cl,ecl,BH,KN⟩:=dR (env:=X.env) (scope:=scope) λx hx hxf=>I.ok.has x.1 (S.free x hx hxf)
 rw[exec_Assign_Name_used _ _ _ _ hsw]
 refine wpAny_bind (wpAny_standAt (wpAny_bind ?_))
 unfold evalThenUse
 refine wpAny_bind ?_
 refine wpAny_comprehension_free (use:=some (assign (.Name x px) X.env)) rfl hs ecl S.kind S.names (AR (hi AA s σ H _ I h) λv s1 h1=>AR h1 λitv s2 h2=> ?_)
 obtain⟨it,fp,tn',J,H2,e,I2,T,st2,f2,W,⟨m0,w0⟩,turn⟩:=h2
 subst e
 refine AR (dX (Q:=λx' H1=>AM i x' σ H1 D.nx) I2 S hc BH KN T st2 f2 (λC=>hg _ _ _ _ C _) (λC=>ht _ _ _ _ C _) (λC=>he _ _ _ _ C _) W w0 turn) λB0 s3 h3=>AR h3 λcenv s4 h4=>codeAny_mono h4 λr s5 h5=> ?_
 have hr:=h5.ok
 subst hr
 obtain⟨Da,H',rfl,I5,q5,hCn,m,hm⟩:=h5.inv I2 f2
 show wpAny _ _ (assign (.Name x px) X.env (.ref Da)) _ _ s5
 refine wpAny_assign_Name (bK I5 hN hi' (.inl hx) (show RelV (.ref Da) (.ref Da)from rfl) (λs6 I6 hzz=> ?_) (.inr hx))
 obtain⟨a,hsb,ha⟩:=hzz
 refine⟨m,hm.sameBut hsb ?_,λh' hs'=> ?_⟩
 ·rcases ha with z | z
  ·exact Ne.symm (z ▸ E7 I2.lt h5.ge)
  ·obtain⟨vv,zc⟩:=I2.cell x a z
   exact Ne.symm (E7 zc.lt h5.ge)
 ·exact wpAny_pure (wpAny_pure ⟨σ.set i (some (.ref Da)),H',I2.letgo h5.ge I6 hCn hs',q5⟩)
end
end L2
namespace L2
theorem ObjOk.there{P:Program}{w:World}{H:Hp}{h:Heap}{a:Addr}{o:HO}(x:ObjOk P w H h a o):∃ ob,h.get? a=some ob:=by
 cases o with
 | lst xs=>obtain⟨_,_,_,_,e⟩:=x;exact⟨_,e⟩
 | tup xs=>obtain⟨_,_,_,ob,e,_⟩:=x;exact⟨_,e⟩
 | dK kvs=>obtain⟨_,_,_,_,ob,_,_,e,_⟩:=x;exact⟨_,e⟩
 | dT kvs=>obtain⟨_,_,_,_,ob,_,_,e,_⟩:=x;exact⟨_,e⟩
 | set S n=>obtain⟨ob,_,_,_,e,_⟩:=x;exact⟨_,e⟩
 | ins C dx fs=>obtain⟨_,_,_,e,_⟩:=x;exact⟨_,e⟩
 | own y=>exact x
 | xd fs=>obtain⟨_,⟨ob,_,_,e,_⟩,_⟩:=x;exact⟨_,e⟩
 | rng lo hi=>obtain⟨_,_,_,e⟩:=x;exact⟨_,e⟩
 | frz ob u=>obtain⟨e,_⟩:=x;exact⟨_,e⟩
 | tbl ps=>exact⟨_,show h.get? a=some _ from x⟩
 | met f y=>exact⟨_,show h.get? a=some _ from x⟩
 | ext φ =>exact x.2.1
theorem HOk.nh{P:Program}{w:World}{H:Hp}{h:Heap}{a:Addr}(x:HOk P w H h)(e:h.get? a=none):H a=none:=by
 cases q:H a with
 | none=>rfl
 | some o =>
  obtain⟨ob,e'⟩:=(x a o q).there
  rw[e]at e';cases e'
section
variable{X:Cx}{AA:List (Addr × Obj)}{σ:St}{H H':Hp}{s:Shared}{h':Heap}
theorem Inv.stepN{g':Array GenState}{t':Nat}{d':Drawn}{ch:List Addr}(I:Inv X AA σ H s)
  (DP:∀ b∈ch,(b∈X.ex\/X.s₀.heap.get? b=none)/\b≠X.env.locals/\(∀ x c,X.env.cells.lookup x=some c->c≠b)/\∀ p∈X.pn++AA,p.1≠b)
  (keep:∀ b o,b≠X.env.locals->b∉X.fs->b∉ch->s.heap.get? b=some o->H b=none->h'.get? b=some o)
  (slot:∀ b o,b≠X.env.locals->b∈X.fs->b∉ch->s.heap.get? b=some o->H b=none->∃ sl,h'.get? b=some { o with slots:=sl }) (free:∀ b o,b∉ch->s.heap.get? b=some o->H b=none->H' b=none)
  (there:∀ b o,b∉ch->s.heap.get? b=some o->∃ o',h'.get? b=some o')
  (tups:∀ b xs,H b=some (.tup xs)->H' b=some (.tup xs)) (frzs:∀ b o u,H b=some (.frz o u)->H' b=some (.frz o u)) (tbls:∀ b ps,H b=some (.tbl ps)->∃ more,H' b=some (.tbl (ps++more)))
  (ns:∀ m,s.heap.Ns X.env.locals m->h'.Ns X.env.locals m) (hok:HOk X.prog X.w H' h') (hg:AllBare g') :
  Inv X AA σ H' { s with heap:=h',gens:=g',drawn:=d',toks:=t' }:=by
 have neL:∀ b o,X.s₀.heap.get? b=some o->b≠X.env.locals:=λb o e=>Nat.ne_of_lt (Nat.lt_of_lt_of_le (Heap.lt_size e) I.ok.above)
 have neC:∀ b o,X.s₀.heap.get? b=some o->b∉X.ex->b∉ch:=λb o e hx hb=>by
  rcases(DP b hb).1 with z | z
  ·exact hx z
  ·rw[e]at z;cases z
 have cellK:∀ x c,X.env.cells.lookup x=some c->∀ v,s.heap.IsCell c v->h'.IsCell c v:=λx c e v ⟨o,ho,hd⟩=>by
  have nch:c∉ch:=λz=>(DP c z).2.2.1 x c e rfl
  by_cases hc:c∈X.fs
  ·obtain⟨sl,q⟩:=slot c o (I.cne x c e) hc nch ho (I.freeC x c e)
   exact⟨_,q,hd⟩
  ·exact⟨o,keep c o (I.cne x c e) hc nch ho (I.freeC x c e),hd⟩
 refine⟨I.ok,I.os,hg,⟨λb o e n hb hx=> ?_,λb o e n hb hx=> ?_,λb o e n hx=> ?_,λb o e hx=> ?_,λb xs e=>tups b xs (I.base.tups b xs e),λb o xs e=>frzs b o xs (I.base.frzs b o xs e),λb ps e=> ?_⟩,?_,λx c e=> ?_,?_,λx c e=> ?_,λp hp=> ?_,hok,I.len⟩
 ·exact keep b o (neL b o e) hb (neC b o e hx) (I.base.keep b o e n hb hx) (I.base.free b o e n hx)
 ·obtain⟨sl,e1⟩:=I.base.slot b o e n hb hx
  obtain⟨sl',e2⟩:=slot b _ (neL b o e) hb (neC b o e hx) e1 (I.base.free b o e n hx)
  exact⟨sl',e2⟩
 ·obtain⟨o',e1⟩:=I.base.there b o e hx
  exact free b o' (neC b o e hx) e1 (I.base.free b o e n hx)
 ·obtain⟨o',e1⟩:=I.base.there b o e hx
  exact there b o' (neC b o e hx) e1
 ·obtain⟨m1,e1⟩:=I.base.tbls b ps e
  obtain⟨m2,e2⟩:=tbls b _ e1
  exact⟨m1++m2,by rw[e2,Array.append_assoc]⟩
 ·obtain⟨m,hn,hl⟩:=I.loc
  refine⟨m,ns m hn,λi x v e1 e2 e3=> ?_⟩
  obtain⟨u,r,l⟩:=hl i x v e1 e2 e3
  refine⟨u,r,?_⟩
  rcases l with l | ⟨k,c,e,z⟩
  ·exact .inl l
  ·exact .inr ⟨k,c,e,cellK x c e _ z⟩
 ·obtain⟨v,z⟩:=I.cell x c e
  exact⟨v,cellK x c e v z⟩
 ·obtain⟨m,⟨o,_,_,ho,_⟩,_⟩:=I.loc
  exact free _ o (λz=>(DP _ z).2.1 rfl) ho I.free
 ·obtain⟨v,o,ho,hd⟩:=I.cell x c e
  exact free c o (λz=>(DP c z).2.2.1 x c e rfl) ho (I.freeC x c e)
 ·obtain⟨e,n,ne,nf,d⟩:=I.pin p hp
  have nch:p.1∉ch:=λz=>(DP p.1 z).2.2.2 p hp rfl
  exact⟨keep p.1 p.2 ne nf nch e n,free p.1 p.2 nch e n,ne,nf,d⟩
end
structure Fly(bad:Addr->Prop)(H:Hp)(h:Heap)(e:Addr)(cls:Value):Prop where
 nb:¬ bad e
 free:H e=none
 ex:∃ (oe:Obj) (vs:Array Value),h.get? e=some oe/\oe.cls=cls/\oe.dict=none/\oe.data=.fields vs/\(vs[1]? =some .none ∨
  ∃ (T:Addr) (oT:Obj) (ts:Array Value),vs[1]? =some (.ref T)/\¬ bad T/\H T=none/\T≠e/\h.get? T=some oT/\oT.data=.fields ts/\ts[3]? =some .none)
theorem Fly.mono{bad bad':Addr->Prop}{H:Hp}{h:Heap}{e:Addr}{cls:Value}(F:Fly bad H h e cls)(k:∀ a,bad' a->bad a):Fly bad' H h e cls:=by
 obtain⟨nb,fr,oe,vs,h1,h2,h3,h4,h5⟩:=F
 refine⟨λz=>nb (k _ z),fr,oe,vs,h1,h2,h3,h4,?_⟩
 rcases h5 with z | ⟨T,oT,ts,a,b,c⟩
 ·exact .inl z
 ·exact .inr ⟨T,oT,ts,a,λz=>b (k _ z),c⟩
section
variable{M:Model}{A:Around}{E:Value->Shared->Prop}{s:Shared}
theorem dY{base:Heap}{env:Env}{outer:List Env}{L e:Addr}{oe:Obj}{vs:Array Value}{hd:Value}{nx:Bool}{Q:Unit->Shared->Prop}
  (KM:A.frames=some (env::outer)) (hl:s.heap.FunFrames base (env::outer)) (hf:env.frame=some L) (he:s.heap.get? e=some oe) (hdt:oe.data=.fields vs) (hsz:1<vs.size)
  (h:∀ h' T oT ts,(∀ b o,s.heap.get? b=some o->b≠e->b∉DW (env::outer)->h'.get? b=some o)->(∀ b o,s.heap.get? b=some o->b≠e->∃ sl,h'.get? b=some { o with slots:=sl }) →
   h'.get? e=some (oe.mapFields (·.setIfInBounds 1 (.ref T)))->s.heap.objs.size<=T->h'.get? T=some oT->oT.data=.fields ts->ts[3]? =some (rawInt L)->Q () { s with heap:=h' }) :
  wpAny M A (do let a ← frameOf env;let pl ← entryPlaceOf L nx;let b ← EntryCells.newEntry hd a .none (rawInt L) .none pl;setField (.ref e) 1 b) Q E s:=by
 have hne:e∉(env::outer).filterMap (·.frame):=λz=>by
  obtain⟨_,o,ho,hn⟩:=hl.mem z
  rw[he]at ho;cases ho
  exact hn vs hdt
 refine wpAny_bind (wpAny_frameOf_fun KM hl hf λh1 hs1=> ?_)
 refine wpAny_bind (wpAny_entryPlaceOf λpl CJ=> ?_)
 unfold EntryCells.newEntry newFields
 refine wpAny_bind (wpAny_newObj_type ?_ (CJ.sizeOk5 _ _ _ _ _))
 have he1:h1.get? e=some oe:=(hs1.2.1 e hne).trans he
 refine wpAny_setField (Heap.get?_push_of_some _ he1) hdt hsz ?_
 have hTe:h1.objs.size≠e:=Nat.ne_of_gt (Heap.lt_size he1)
 have hd3:=Obj.data_mapFields hdt (·.setIfInBounds 1 (Value.ref h1.objs.size))
 have keep:∀ b o,b≠e->h1.get? b=some o->((h1.push { cls:=.type "traceback",dict:=none,data:=.fields ([hd,.ref L,.none,rawInt L,.none]++(if pl.isEmpty then List.replicate 6 Value.none else pl)).toArray }).update e (Obj.mapFields (·.setIfInBounds 1 (Value.ref h1.objs.size)))).get? b=some o:=λb o hb e1=>by
  rw[Heap.get?_update_other _ _ (Ne.symm hb)]
  exact Heap.get?_push_of_some _ e1
 refine h _ h1.objs.size _ _ (λb o e1 hb hnf=>keep b o hb ((hs1.2.1 b hnf).trans e1)) (λb o e1 hb=> ?_) (Heap.get?_update_self _ (Heap.get?_push_of_some _ he1) (Obj.isFreed_of_fields hd3)) (by rw[hs1.1];exact Nat.le_refl _)
  ((Heap.get?_update_other _ _ (Ne.symm hTe)).trans (Heap.get?_push_size _ rfl)) rfl ?_
 ·obtain⟨sl,e2⟩:=hs1.2.2 b o e1
  exact⟨sl,keep b _ hb e2⟩
 ·first | (simp;done) | (rcases CJ with rfl | ⟨_,_,_,_,_,_,_,rfl⟩<;>simp)
structure TK(fr:List Addr)(bad:Addr->Prop)(H:Hp)(e:Addr)(cls:Value)(h h':Heap):Prop where
 ch:∃ ch:List Addr,(∀ b∈ch,¬ bad b/\H b=none/\∃ o vs,h.get? b=some o/\o.data=.fields vs)/\(∀ b o,h.get? b=some o->b∉ch->b∉fr->h'.get? b=some o) ∧
  (∀ b o,h.get? b=some o->b∉ch->∃ sl,h'.get? b=some { o with slots:=sl })
 fly:Fly bad H h' e cls
theorem dZ{A2:Around}{E2:Value->Shared->Prop}{base:Heap}{env:Env}{outer:List Env}{L e:Addr}{cls:Value}{bad:Addr->Prop}{H:Hp}{Q:Unit->Shared->Prop}
  (KM:A.frames=some (env::outer)) (hl:s.heap.FunFrames base (env::outer)) (hf:env.frame=some L) (F:Fly bad H s.heap e cls) (hb:∀ a,s.heap.objs.size<=a->¬ bad a) (hH:∀ a,s.heap.objs.size<=a->H a=none)
  (h:∀ h',TK (DW (env::outer)) bad H e cls s.heap h'->Q () { s with heap:=h' }) :
  wpAny M A (noteFrame (.ref e) env) (λ_ s2=>wpAny M A2 (setFlight (.ref e) none) Q E2 s2) E s:=by
 obtain⟨nb,fr,oe,vs,he,M3,R1,hd,htb⟩:=F
 have rest:∀ (s1:Shared) (ch:List Addr) (h':Heap) (T:Addr) (oT:Obj) (ts:Array Value) (oe1:Obj),(∀ b o,s.heap.get? b=some o->s1.heap.get? b=some o\/b∈ch)->s1.heap.objs.size=s.heap.objs.size->e∈ch->(∀ b∈ch,¬ bad b/\H b=none/\∃ o vs,s.heap.get? b=some o/\o.data=.fields vs) →
   oe1.cls=cls->oe1.dict=none->oe1.data=.fields vs->1<vs.size →
   (∀ b o,s1.heap.get? b=some o->b≠e->b∉DW (env::outer)->h'.get? b=some o)->(∀ b o,s1.heap.get? b=some o->b≠e->∃ sl,h'.get? b=some { o with slots:=sl }) →
   h'.get? e=some (oe1.mapFields (·.setIfInBounds 1 (.ref T)))->s1.heap.objs.size<=T->h'.get? T=some oT->oT.data=.fields ts->ts[3]? =some (rawInt L)->wpAny M A2 (setFlight (.ref e) none) Q E2 { s with heap:=h' }:=by
  intro s1 ch h' T oT ts oe1 hk1 hsz hech DP hcls1 hdict1 hd1 hv k1 k2 e1 hT e2 hdT h3
  have hT':s.heap.objs.size<=T:=hsz ▸ hT
  have hTe:T≠e:=Ne.symm (E7 (Heap.lt_size he) hT')
  have hde:=Obj.data_mapFields hd1 (·.setIfInBounds 1 (Value.ref T))
  unfold setFlight
  refine wpAny_bind (wpAny_field e1 hde (x:=.ref T) (by simp[hv]) ?_)
  rw[if_pos (show(Value.ref T != Value.none)=true from by simp)]
  have hs3:3<ts.size:=(Array.getElem?_eq_some_iff.mp h3).1
  refine wpAny_setField e2 hdT hs3 (h _ ?_)
  have oth:∀ b,b≠T->(h'.update T (Obj.mapFields (·.setIfInBounds 3 ((none:Option Addr).elim Value.none λf=>rawInt f)))).get? b=h'.get? b:=λb hb'=>Heap.get?_update_other _ _ (Ne.symm hb')
  have ltT:∀ b o,s.heap.get? b=some o->b≠T:=λb o eb=>E7 (Heap.lt_size eb) hT'
  refine⟨⟨ch,DP,λb o eb hbc hbf=> ?_,λb o eb hbc=> ?_⟩,nb,fr,_,_,(oth e (Ne.symm hTe)).trans e1,(Obj.cls_mapFields _ _).trans hcls1,?_,hde,.inr ⟨T,_,_,by simp[hv],hb T hT',hH T hT',hTe,Heap.get?_update_self _ e2 (Obj.isFreed_of_fields (Obj.data_mapFields hdT _)),Obj.data_mapFields hdT _,by simp[hs3]⟩⟩
  ·rw[oth b (ltT b o eb)]
   rcases hk1 b o eb with z | z
   ·exact k1 b o z (λz'=>hbc (z' ▸ hech)) hbf
   ·exact absurd z hbc
  ·rw[oth b (ltT b o eb)]
   rcases hk1 b o eb with z | z
   ·exact k2 b o z (λz'=>hbc (z' ▸ hech))
   ·exact absurd z hbc
  ·obtain⟨c1,c2,c3,c4⟩:=oe1
   dsimp only at hd1
   subst hd1
   exact hdict1
 unfold noteFrame
 simp only[hf]
 rcases htb with h1 | ⟨T0,oT0,ts0,h1,nbT,frT,neT,eT,dT,h3⟩
 ·have hv:1<vs.size:=(Array.getElem?_eq_some_iff.mp h1).1
  refine wpAny_bind (wpAny_field he hd h1 ?_)
  rw[if_neg (by decide)]
  refine dY KM hl hf he hd hv λh' T oT ts k1 k2 e1 hT e2 hdT h3=> ?_
  exact rest s [e] h' T oT ts oe (λb o eb=>.inl eb) rfl (by simp) (λb hb'=>by rw[List.mem_singleton]at hb';subst hb';exact⟨nb,fr,oe,vs,he,hd⟩) M3 R1 hd hv k1 k2 e1 hT e2 hdT h3
 ·have hv:1<vs.size:=(Array.getElem?_eq_some_iff.mp h1).1
  refine wpAny_bind (wpAny_field he hd h1 ?_)
  rw[if_pos (show(Value.ref T0 != Value.none)=true from by simp)]
  refine wpAny_bind (wpAny_field eT dT h3 ?_)
  rw[if_neg (show ¬ ((Value.none == rawInt L)=true)from by simp[rawInt])]
  refine wpAny_bind (wpAny_setField eT dT (Array.getElem?_eq_some_iff.mp h3).1 ?_)
  have oth:∀ b,b≠T0->(s.heap.update T0 (Obj.mapFields (·.setIfInBounds 3 Value.none))).get? b=s.heap.get? b:=λb hb'=>Heap.get?_update_other _ _ (Ne.symm hb')
  have nf:∀ b o,s.heap.get? b=some o->(∀ vs,o.data≠.fields vs)->b≠T0:=λb o eb hn z=>by rw[z,eT]at eb;cases eb;exact hn ts0 dT
  refine dY KM (hl.of_keeps λb o eb hn=>⟨o,(oth b (nf b o eb hn)).trans eb,rfl⟩) hf ((oth e (Ne.symm neT)).trans he) hd hv λh' T oT ts k1 k2 e1 hT e2 hdT h3'=> ?_
  exact rest { s with heap:=s.heap.update T0 (Obj.mapFields (·.setIfInBounds 3 Value.none)) } [e,T0] h' T oT ts oe
   (λb o eb=>by
    by_cases z:b=T0
    ·exact .inr (by simp[z])
    ·exact .inl ((oth b z).trans eb))
   (Heap.size_after_update ..) (by simp)
   (λb hb'=>by
    rcases List.mem_cons.mp hb' with z | z
    ·subst z;exact⟨nb,fr,oe,vs,he,hd⟩
    ·rw[List.mem_singleton]at z;subst z;exact⟨nbT,frT,oT0,ts0,eT,dT⟩)
   M3 R1 hd hv k1 k2 e1 hT e2 hdT h3'
end
def Cx.bad(X:Cx)(AA:List (Addr × Obj)):Addr->Prop:=λa=>X.s₀.heap.get? a≠none\/∃ p∈X.pn++AA,p.1=a
structure XOk(X:Cx)(E:St->XK):Prop where
 po:PassesOwn (model X.prog X.w) X.A X.env X.xe
 ex:X.ex=[]
 calm:X.calm=true
 go:∀ (AA:List (Addr × Obj)) (σ:St) (H:Hp) (s:Shared) (e:Addr) (cls:Value),Inv X AA σ H s->Fly (X.bad AA) H s.heap e cls->E σ cls none H->X.xe (.ref e) s
section
variable{X:Cx}{AA:List (Addr × Obj)}{σ:St}{H:Hp}{s:Shared}
theorem Inv.notbad(I:Inv X AA σ H s)(hx:X.ex=[]){a:Addr}(h:s.heap.get? a=none):¬ X.bad AA a:=λz=>by
 rcases z with z | ⟨p,hp,rfl⟩
 ·cases q:X.s₀.heap.get? a with
  | none=>exact z q
  | some o =>
   obtain⟨o',e⟩:=I.base.there a o q (by rw[hx];simp)
   rw[h]at e;cases e
 ·have:=(I.pin p hp).1
  rw[h]at this;cases this
theorem d0{h:Heap}{a:Addr}(z:h.objs.size<=a):h.get? a=none:=by
 cases q:h.get? a with
 | none=>rfl
 | some o=>exact absurd (Nat.lt_of_lt_of_le (Heap.lt_size q) z) (Nat.lt_irrefl _)
theorem Inv.noted{e:Addr}{cls:Value}{h':Heap}(I:Inv X AA σ H s)(N:TK (DW X.stack) (X.bad AA) H e cls s.heap h'):Inv X AA σ H { s with heap:=h' }:=by
 obtain⟨⟨ch,DP,k1,k2⟩,_⟩:=N
 obtain⟨mL,⟨oL,esL,epL,hoL,dL,rL⟩,_⟩:=id I.loc
 have chne:∀ b∈ch,∀ o,s.heap.get? b=some o->∃ vs,o.data=.fields vs:=λb hb o eb=>by
  obtain⟨_,_,o',vs,e',d⟩:=DP b hb
  rw[eb]at e';cases e'
  exact⟨vs,d⟩
 have hL:X.env.locals∉ch:=λz=>by
  obtain⟨vs,d⟩:=chne _ z _ hoL
  rw[dL]at d;cases d
 refine I.stepN (g':=s.gens) (t':=s.toks) (d':=s.drawn) (ch:=ch) (λb hb=>⟨.inr ?_,λz=>hL (z ▸ hb),λx c ec z=> ?_,λp hp z=>(DP b hb).1 (.inr ⟨p,hp,z⟩)⟩)
  (λb o hbL hbf hbc eb _=>k1 b o eb hbc λz=>(List.mem_cons.mp (I.stkSub b z)).elim hbL hbf) (λb o _ _ hbc eb _=>k2 b o eb hbc) (λ_ _ _ _ n=>n) (λb o hbc eb=> ?_) (λ_ _ q=>q) (λ_ _ _ q=>q) (λb ps q=>⟨#[],by rw[q];simp⟩) (λm hm=> ?_) (λb o eb=> ?_) I.bare
 ·cases q:X.s₀.heap.get? b with
  | none=>rfl
  | some o=>exact absurd (.inl (by rw[q];simp)) (DP b hb).1
 ·obtain⟨v,oc,hoc,hd⟩:=I.cell x c ec
  obtain⟨vs,d⟩:=chne c (z ▸ hb) oc hoc
  rw[hd]at d;cases d
 ·obtain⟨sl,q⟩:=k2 b o eb hbc
  exact⟨_,q⟩
 ·obtain⟨o',es',ep',ho',r'⟩:=hm
  rw[hoL]at ho';cases ho'
  obtain⟨sl,q⟩:=k2 _ _ hoL hL
  exact⟨_,es',ep',q,r'⟩
 ·refine(I.hok b o eb).stay (λc u hc q=>k1 c u q ?_ ?_) (λ_ q=>q) λ_ _ q=>q
  ·intro z
   have fr:=(DP c z).2.1
   rcases hc with rfl | hc
   ·rw[eb]at fr;cases fr
   ·rw[hc]at fr;cases fr
  ·intro z
   have fr:=I.stkFree c z
   rcases hc with rfl | hc
   ·rw[eb]at fr;cases fr
   ·rw[hc]at fr;cases fr
def D2(P:Program)(w:World):GH:=λouter H s E e s'=>∃ (ea:Addr) (cls:Value) (H':Hp),e=.ref ea/\s'.os=s.os/\AllBare s'.gens/\Un (DW outer) [] H H' s.heap s'.heap/\HOk P w H' s'.heap/\Fly (λa=>s.heap.get? a≠none) H' s'.heap ea cls/\E cls none H'
theorem d6{P:Program}{w:World}{outer:List Env}{H:Hp}{s:Shared}{e:Value}{s':Shared}(h:D2 P w outer H s (λ_ _ _=>False) e s'):False:=by
 obtain⟨_,_,_,_,_,_,_,_,_,f⟩:=h
 exact f
theorem XOk.passes{E:St->XK}(x:XOk X E):GI (D2 X.prog X.w) X E:=λAA σ H s e s' I h=>by
 obtain⟨ea,cls,H',rfl,os,bare,un,hok,F,q⟩:=h
 refine x.go AA σ H' s' ea cls (I.call' (ch:=[]) os un hok bare λb z=>absurd z (by simp)) (F.mono λa z=> ?_) q
 rcases z with z | ⟨p,hp,rfl⟩
 ·cases q0:X.s₀.heap.get? a with
  | none=>exact absurd q0 z
  | some o =>
   obtain⟨o',e⟩:=I.base.there a o q0 (by rw[x.ex];simp)
   rw[e];simp
 ·rw[(I.pin p hp).1];simp
theorem JU{P:Program}{w:World}:GI (D2 P w) X (λ_=>E0):=λ_ _ _ _ _ _ _ h=>(d6 h).elim
end
theorem wU{P:Program}{w:World}{K:W.Frag}{mg:Str->Option Value}{base:Heap}{N:List Str}{qual:Str}{scope:Scope}{f:Addr}{cd:Value}{A:Around}{outer:List Env}{s:Shared}{H:Hp}{E:XK} :
  XOk (G6 (D2 P w) P w K mg base N qual scope f cd A outer s H E) (λ_=>E) where
 po:=PassesOwn.leaving
 ex:=rfl
 calm:=rfl
 go:=λAA σ H' s' e cls I F q=>by
  have KM:(A.deeper (envOfC qual scope s.heap.objs.size f cd)).frames=some (envOfC qual scope s.heap.objs.size f cd::outer):=I.ok.frames
  show wpAny _ _ (leaving _ _) _ _ _
  unfold leaving
  refine wpAny_bind (dZ KM I.stack rfl F (λa z=>I.notbad rfl (d0 z)) (λa z=>I.hok.fresh z) λh' N=> ?_)
  have I':=I.noted N
  exact⟨e,cls,H',rfl,I'.os,I'.bare,I'.base,I'.hok,N.fly.mono λa z=>.inl z,q⟩
structure Exc(K:W.Frag)(C:Addr):Prop where
 ex:W.excIn K C [.type "ValueError",.type "Exception",.type "BaseException",.type "object"] "ValueError.__new__"=true
theorem Exc.obj{K:W.Frag}{C:Addr}{h:Heap}(x:Exc K C)(X:K.In h):∃ (tl:List Value) (N:Addr) (nm q:Str) (bs:List Value) (hdct:Bool) (sn:List Str) (sub:List Value) (ab:Bool) (col:Option Bool) (dd:Option Addr) (k0 k1 k2 k3 k5:Option Value) (mN:Str->Option Value),
  h.get? C=some (excClassObj nm q C N bs tl hdct sn sub ab col dd k0 k1 k2 k3 k5 "ValueError.__new__")/\h.Ns N mN/\mN "__init__"=none/\OwnTail h [.type "ValueError",.type "Exception",.type "BaseException",.type "object"] tl:=by
 have q:=x.ex
 unfold W.excIn at q
 split at q
 ·rename_i dd cd sl ho
  split at q
  ·rename_i C' bm k0 k1 k2 k3 n k5 hm hs
   simp only[Bool.and_eq_true,beq_iff_eq,Bool.not_eq_true']at q
   obtain⟨⟨⟨⟨⟨rfl,rfl⟩,hdel⟩,ht⟩,hok⟩,hni⟩:=q
   obtain⟨nm,bs,mro,ns,qn,hd,sn,sub,ab,col,del⟩:=cd
   dsimp only at hm hdel hok hni
   subst hm hdel
   obtain⟨l⟩:=sl
   simp only at hs
   subst hs
   exact⟨bm,ns,nm,qn,bs,hd,sn,sub,ab,col,dd,k0,k1,k2,k3,k5,_,X _ _ ho,.of_isNs (W.isNs_of_in X hok),W.nsMap_none_of_in X hok hni,W.tail_of_in X ht⟩
  ·cases q
 ·cases q
def GL(C:Addr)(E:St->XK)(t:TA):TS:=λ_ σ H=>t σ H λvs H1=>vs.length<=sizeLine/\E σ (.ref C) none H1
section
variable{X:Cx}{E:St->XK}{C:Addr}{x:Str}{np CW pos:Pos}{e:Expr}{es:List Expr}{t:TA}
theorem HV(hx:XOk X E)(c:Exc X.K C)(hg:Gl X x)(hm:X.mg x=some (.ref C))(ha:PA X (e::es) t)(hdb:(x ==("__debug__":Str))=false:=by decide)
  (he:starEach (e::es) X.env=(false,eval e X.env)::starEach es X.env:=by rfl) (CJ:(backTo CW (starEach es X.env)).any (·.1)=false:=by rfl) :
  PS X (.Raise (some (.Call (.Name x np) (e::es) [] CW)) none pos) (GL C E t):=by
 intro AA s σ H D I h
 obtain⟨tl,N,nm,q,bs,hdct,sn,sub,ab,col,dd,k0,k1,k2,k3,k5,mN,hC,hN,hni,T⟩:=c.obj I.mod.kin
 have hpl2:(backTo CW (starEach (e::es) X.env)).any (·.1)=false:=by
  rw[he]
  show(false || (backTo CW (starEach es X.env)).any (·.1))=false
  rw[CJ];rfl
 refine wpAny_Raise_call_subT (C:=C) (nm:=nm) (q:=q) (N:=N) (bs:=bs) (bm:=tl) (hdct:=hdct) (sn:=sn) (sub:=sub) (ab:=ab) (col:=col) (dd:=dd) (k0:=k0) (k1:=k1) (k2:=k2) (k3:=k3) (k5:=k5)
  PySem.F.excBase_ValueError (mN:=mN) (T.hasType PySem.F.excBase_ValueError.hasBase) (I.ok.hd hx.calm) hpl2 hni (M5 I hg hm ⟨rfl,?_⟩ hdb)
 have hq:=ha CW AA s σ H _ I h
 rw[he]at hq ⊢
 refine Calls.evalArgs_plain (AR hq λus s1 ⟨vs,H1,I1,r,hz,q1⟩=>⟨rfl,?_,I1.bk _ _ hC,hN.keeps I1.bk,T.keeps I1.bk,λh' ea hM=> ?_⟩)
 ·show us.length<=_
  rw[<-r.length];exact hz
 ·have I2:Inv X AA σ H1 { s1 with heap:=h' }:=I1.kept (t':=s1.toks) hM.keeps
  obtain⟨tt,h1,h2,h3⟩:=hM.there
  refine hx.go AA σ H1 _ ea (.ref C) I2 ⟨λz=>I1.notbad hx.ex hM.new z,I1.hok.nh hM.new,_,_,h1,rfl,rfl,rfl,.inl rfl⟩ q1
end
end L2
namespace L2
section
variable(P:Program)(w:World)(K:W.Frag)(mg:Str->Option Value)(base:Heap)
structure DM(k:Nat)(x:Str)(ps:List Str)(sp:Sp):Prop where
 ex:∃ (f:Addr) (fd:FuncData),FnOk P w K mg base (D2 P w) k f fd ps sp/\mg x=some (.ref f)/\W.keepIn K (.ref f)=true/\Binds K fd ps []
structure AT(C:Addr)(k:Nat)(m:Str)(ps:List Str)(sp:Sp):Prop where
 ex:∃ (f:Addr) (fd:FuncData),FnOk P w K mg base (D2 P w) k f fd ps sp/\OZ K C m f/\Binds K fd ps []
structure K0(C:Addr)(k:Nat)(x:Str)(ps:List Str)(sp:Sp):Prop where
 ex:∃ (f:Addr) (fd:FuncData),FnOk P w K mg base (D2 P w) k f fd ps sp/\Mk K C f/\mg x=some (.ref C)/\Binds K fd ps []
end
section
variable{X:Cx}{E:St->XK}{k:Nat}{x m:Str}{ps:List Str}{sp:Sp}{C:Addr}{p pos CF:Pos}{e o:Expr}{es:List Expr}{ta:TE}{t:TA}
theorem NI(c:DM X.prog X.w X.K X.mg X.base k x ps sp)(hr:Room k X.A)(hp:GI (D2 X.prog X.w) X E)(hg:Gl X x)(ha:PA X (e::es) t)(hdb:(x ==("__debug__":Str))=false:=by decide)
  (he:starEach (e::es) X.env=(false,eval e X.env)::starEach es X.env:=by rfl) (CJ:(backTo pos (starEach es X.env)).any (·.1)=false:=by rfl):PE X (.Call (.Name x p) (e::es) [] pos) (DD sp [] E t):=by
 obtain⟨f,fd,F,hm,hk,hb⟩:=c.ex
 exact u5 F hr hg hm hk hb .nil hp ha hdb he CJ
theorem FZ{pl:Sem Bool}(he:PE X o ta)(cl:Cls X.K C)(c:AT X.prog X.w X.K X.mg X.base C k m ps sp)(hr:Room k X.A)(hp:GI (D2 X.prog X.w) X E)(ha:PA X (e::es) t)
  (hst:starEach (e::es) X.env=(false,eval e X.env)::starEach es X.env:=by rfl) (CJ:(backTo pos (starEach es X.env)).any (·.1)=false:=by rfl)
  (ht:eval (.Call (.Attribute o m CF) (e::es) [] pos) X.env=(do
   let ov ← eval o X.env
   standAt CF.atName
   let (f,first) ← holding [ov] (getMethod ov m pl)
   callWith pos f first (backTo pos (starEach (e::es) X.env)) (backToKw pos (keywordEach [] X.env))):=by rfl):PE X (.Call (.Attribute o m CF) (e::es) [] pos) (AO C m sp [] E ta t):=by
 obtain⟨f,fd,F,hm,hb⟩:=c.ex
 exact u6 he cl hm F hr hb .nil hp ha hst CJ ht
theorem wV{pl:Sem Bool}(he:PE X o ta)(cl:Cls X.K C)(c:AT X.prog X.w X.K X.mg X.base C k m ps sp)(hr:Room k X.A)(hp:GI (D2 X.prog X.w) X E)
  (ht:eval (.Call (.Attribute o m CF) [] [] pos) X.env=(do
   let ov ← eval o X.env
   standAt CF.atName
   let (f,first) ← holding [ov] (getMethod ov m pl)
   callWith pos f first (backTo pos (starEach [] X.env)) (backToKw pos (keywordEach [] X.env))):=by rfl):PE X (.Call (.Attribute o m CF) [] [] pos) (AO C m sp [] E ta BK):=by
 obtain⟨f,fd,F,hm,hb⟩:=c.ex
 exact u7 he cl hm F hr hb .nil hp ht
theorem NJ(c:K0 X.prog X.w X.K X.mg X.base C k x ps sp)(hr:Room (k+1) X.A)(hp:GI (D2 X.prog X.w) X E)(hg:Gl X x)(ha:PA X (e::es) t)(hdb:(x ==("__debug__":Str))=false:=by decide)
  (he:starEach (e::es) X.env=(false,eval e X.env)::starEach es X.env:=by rfl) (CJ:(backTo pos (starEach es X.env)).any (·.1)=false:=by rfl):PE X (.Call (.Name x p) (e::es) [] pos) (JN C sp [] E t):=by
 obtain⟨f,fd,F,M,hm,hb⟩:=c.ex
 exact u9 M F hr hg hm hb .nil hp ha hdb he CJ
end
theorem Fun.okE{P:Program}{w:World}{K:W.Frag}{mg:Str->Option Value}{base:Heap}{x qual:Str}{st:Stmt}{f:Addr}{fd:FuncData}{N ps:List Str}{k:Nat}{sp:Sp}(F:Fun K x qual st f fd)(S:FnScope N ps (A0 st))(len:∀ vs H Q E,sp vs H Q E->vs.length=ps.length)
  (bC:∀ (BT:Value) (A:Around) (outer:List Env) (s:Shared) (H:Hp) (vs:List V) (Q:VK) (E:XK),Room k (A.deeper (envOfC qual (A0 st) s.heap.objs.size f BT))->sp vs H Q E →
   ∃ t,FN (G6 (D2 P w) P w K mg base N qual (A0 st) f BT A outer s H E) (GK st) t/\t { nx:=λ_ H'=>Q .non H',rt:=Q } (start N vs) H):FnOk P w K mg base (D2 P w) (k+1) f fd ps sp:=by
 obtain⟨oc,od,kV,doc,pm,an,BT,ct,osl,rfl,l,c⟩:=F.ex
 exact vB l c S len λA outer s H vs Q E hr h=>bC BT A outer s H vs Q E hr h
def GV(mg:Str->Option Value)(x:Str)(v:V):Prop:=∃ u,mg x=some u/\RelV v u
theorem TM{X:Cx}{x:Str}{v:V}{pos:Pos}(g:GV X.mg x v)(hg:Gl X x)(hd:(x ==("__debug__":Str))=false:=by decide):PE X (.Name x pos) (tC v):=by
 obtain⟨u,hm,r⟩:=g
 exact tQ hg hm r hd
abbrev Cx.tri(X:Cx)(pn:List (Addr × Obj))(xe:Value->Shared->Prop):Cx:={ X with pn:=pn,xe:=xe }
abbrev Cx.hand(X:Cx)(e:Addr):Cx:={ X with A:=X.A.mark (some (.ref e)),calm:=false,xe:=λ_ _=>False }
section
variable{X:Cx}{AA:List (Addr × Obj)}{σ:St}{H:Hp}{s:Shared}
theorem Cx.Ok.tri{pn:List (Addr × Obj)}{xe:Value->Shared->Prop}(ok:X.Ok):(X.tri pn xe).Ok :=
 ⟨ok.mod,ok.kind,ok.glob,ok.blt,ok.above,ok.inj,ok.has,ok.cab,ok.hd,ok.frames,ok.stk,ok.exf,ok.bs,ok.bsz,ok.noex,ok.exfs,ok.funs,ok.frf⟩
theorem Inv.tri{xe:Value->Shared->Prop}(I:Inv X AA σ H s):Inv (X.tri (X.pn++AA) xe) [] σ H s :=
 ⟨I.ok.tri,I.os,I.bare,I.base,I.loc,I.cell,I.free,I.freeC,λp hp=>I.pin p (by simpa using hp),I.hok,I.len⟩
theorem Cx.Ok.untri{pn:List (Addr × Obj)}{xe:Value->Shared->Prop}(ok:(X.tri pn xe).Ok):X.Ok :=
 ⟨ok.mod,ok.kind,ok.glob,ok.blt,ok.above,ok.inj,ok.has,ok.cab,ok.hd,ok.frames,ok.stk,ok.exf,ok.bs,ok.bsz,ok.noex,ok.exfs,ok.funs,ok.frf⟩
theorem Inv.untri{pl:List (Addr × Obj)}{xe:Value->Shared->Prop}(I:Inv (X.tri (X.pn++AA) xe) pl σ H s):Inv X AA σ H s :=
 ⟨I.ok.untri,I.os,I.bare,I.base,I.loc,I.cell,I.free,I.freeC,λp hp=>I.pin p (List.mem_append_left _ hp),I.hok,I.len⟩
theorem Cx.Ok.hand{e:Addr}(ok:X.Ok):(X.hand e).Ok :=
 ⟨ok.mod,ok.kind,ok.glob,ok.blt,ok.above,ok.inj,ok.has,ok.cab,(λz=>nomatch z),ok.frames,ok.stk,ok.exf,ok.bs,ok.bsz,ok.noex,ok.exfs,ok.funs,ok.frf⟩
theorem Inv.hand{e:Addr}(I:Inv X AA σ H s):Inv (X.hand e) AA σ H s:=⟨I.ok.hand,I.os,I.bare,I.base,I.loc,I.cell,I.free,I.freeC,I.pin,I.hok,I.len⟩
theorem Inv.unhand{e:Addr}(ok:X.Ok)(I:Inv (X.hand e) AA σ H s):Inv X AA σ H s:=⟨ok,I.os,I.bare,I.base,I.loc,I.cell,I.free,I.freeC,I.pin,I.hok,I.len⟩
end
abbrev TH:=Value->Ends->St->Hp->Prop
def TN:TH:=λ_ _ _ _=>False
def IW(p:Value->Option Bool)(ts:TS)(rest:TH):TH:=λcls D σ H=>(p cls=some true/\ts D σ H)\/(p cls=some false/\rest cls D σ H)
def Ends.drop(D:Ends)(i:Nat):Ends:={ nx:=λσ H=>D.nx (σ.set i none) H,rt:=D.rt,bk:=λσ H=>D.bk (σ.set i none) H,ct:=λσ H=>D.ct (σ.set i none) H }
def PH(X:Cx)(hs:List ExceptHandler)(th:TH):Prop :=
 ∀ (AA:List (Addr × Obj)) (s:Shared) (σ:St) (H:Hp) (D:Ends) (e:Addr) (cls:Value),X.ex=[]->Inv X AA σ H s->Fly (X.bad AA) H s.heap e cls->th cls D σ H →
  wpAny (model X.prog X.w) X.A (handleBy (.ref e) X.env hs) (SP X AA D) X.xe s
def PX(X:Cx)(t:Expr)(p:Value->Option Bool):Prop :=
 ∀ (AA:List (Addr × Obj)) (s:Shared) (σ:St) (H:Hp) (e:Addr) (cls:Value) (b:Bool) (Q:Bool->Shared->Prop) (E:Value->Shared->Prop),Inv X AA σ H s->Fly (X.bad AA) H s.heap e cls->p cls=some b →
  (∀ s',Inv X AA σ H s'->Fly (X.bad AA) H s'.heap e cls->Q b s')->wpAny (model X.prog X.w) (X.A.mark (some (.ref e))) (eval t X.env) (λc s1=>wpAny (model X.prog X.w) (X.A.mark (some (.ref e))) (excMatches (.ref e) c) Q E s1) E s
def TQ(tb:(St->XK)->TS)(th:TH):TS:=λD σ H=>tb (λσ' cls _ H'=>th cls D σ' H') D σ H
section
variable{X:Cx}{hs:List ExceptHandler}{h₀:ExceptHandler}{th:TH}{body:List Stmt}{tb:(St->XK)->TS}{pos:Pos}
theorem wW:PH X [] TN:=λ_ _ _ _ _ _ _ _ _ _ h=>h.elim
theorem wX{bad:Addr->Prop}{H:Hp}{h:Heap}{e:Addr}{cls:Value}{M:Model}(F:Fly bad H h e cls):W.Looks M h (typeOf (.ref e)) cls:=by
 obtain⟨_,_,oe,vs,h1,h2,_⟩:=F
 subst h2
 exact(W.Looks.ld h1).andThen .now
theorem O7{x:Str}{np:Pos}{C:Value}(hg:Gl X x)(hm:X.mg x=some C)(hd:(x ==("__debug__":Str))=false:=by decide):PX X (.Name x np) (λcls=>W.exmOne X.K cls C):=by
 intro AA s σ H e cls b Q E I F hp h
 have I2:Inv (X.hand e) AA σ H s:=I.hand
 refine M5 (X:=X.hand e) I2 hg hm ?_ hd
 exact W.exm_one I.kIn (wX F) hp _ _ _ s (λ_ _ z=>z) (h s I F)
theorem wY{M:Model}{A:Around}{E:Value->Shared->Prop}{s:Shared}{bad:Addr->Prop}{H:Hp}{fr:List Addr}{e:Addr}{cls:Value}{Q:Unit->Shared->Prop}(F:Fly bad H s.heap e cls)
  (h:∀ h',TK fr bad H e cls s.heap h'->Q () { s with heap:=h' }):wpAny M A (setFlight (.ref e) none) Q E s:=by
 have F0:=F
 obtain⟨nb,frr,oe,vs,he,M3,R1,hd,htb⟩:=F
 unfold setFlight
 rcases htb with h1 | ⟨T,oT,ts,h1,nbT,frT,neT,eT,dT,h3⟩
 ·refine wpAny_bind (wpAny_field he hd h1 ?_)
  rw[if_neg (by decide)]
  exact wpAny_pure (h s.heap ⟨⟨[],(λb hb=>nomatch hb),λb o eb _ _=>eb,λb o eb _=>⟨o.slots,eb⟩⟩,F0⟩)
 ·refine wpAny_bind (wpAny_field he hd h1 ?_)
  rw[if_pos (show(Value.ref T != Value.none)=true from by simp)]
  have hs3:3<ts.size:=(Array.getElem?_eq_some_iff.mp h3).1
  refine wpAny_setField eT dT hs3 (h _ ?_)
  have oth:∀ b,b≠T->(s.heap.update T (Obj.mapFields (·.setIfInBounds 3 ((none:Option Addr).elim Value.none λf=>rawInt f)))).get? b=s.heap.get? b:=λb hb'=>Heap.get?_update_other _ _ (Ne.symm hb')
  refine⟨⟨[T],λb hb=> ?_,λb o eb hb _=>(oth b λz=>hb (by simp[z])).trans eb,λb o eb hb=>⟨o.slots,(oth b λz=>hb (by simp[z])).trans eb⟩⟩,nb,frr,oe,vs,(oth e (Ne.symm neT)).trans he,M3,R1,hd,.inr ⟨T,_,_,h1,nbT,frT,neT,Heap.get?_update_self _ eT (Obj.isFreed_of_fields (Obj.data_mapFields dT _)),Obj.data_mapFields dT _,by simp[hs3]⟩⟩
  rw[List.mem_singleton]at hb
  subst hb
  exact⟨nbT,frT,oT,ts,eT,dT⟩
theorem SP.unhand{AA:List (Addr × Obj)}{D:Ends}{e:Addr}{f:Flow}{s:Shared}(ok:X.Ok)(h:SP (X.hand e) AA D f s):SP X AA D f s:=by
 cases f with
 | next=>obtain⟨σ1,H1,I1,q⟩:=h;exact⟨σ1,H1,I1.unhand ok,q⟩
 | brk=>obtain⟨σ1,H1,I1,q⟩:=h;exact⟨σ1,H1,I1.unhand ok,q⟩
 | cont=>obtain⟨σ1,H1,I1,q⟩:=h;exact⟨σ1,H1,I1.unhand ok,q⟩
 | ret u=>obtain⟨v,σ1,H1,I1,r,q⟩:=h;exact⟨v,σ1,H1,I1.unhand ok,r,q⟩
theorem O8{t:Expr}{b₀:Stmt}{suite:List Stmt}{hp:Pos}{p:Value->Option Bool}{ts:TS}{rest:List ExceptHandler}{tr:TH}(ht:PX X t p)(hsu:∀ e,FN (X.hand e) (b₀::suite) ts)(hr:PH X rest tr) :
  PH X (.ExceptHandler (some t) none (b₀::suite) hp::rest) (IW p ts tr):=by
 intro AA s σ H D e cls hx I F h
 have hmain:∃ b,p cls=some b/\(b=true->ts D σ H)/\(b=false->tr cls D σ H):=by
  rcases h with⟨h1,h2⟩ | ⟨h1,h2⟩
  ·exact⟨true,h1,λ_=>h2,λz=>nomatch z⟩
  ·exact⟨false,h1,(λz=>nomatch z),λ_=>h2⟩
 obtain⟨b,hp',hT,hF⟩:=hmain
 refine wpAny_handleBy_cons (codeAny_handlers_test (ht AA s σ H e cls b _ _ I F hp' λs' I' F'=> ?_)) (by intro z;cases z)
 cases b with
 | false=>exact hr AA s' σ H D e cls hx I' F' (hF rfl)
 | true =>
  refine codeAny_handlers_suite (wY (fr:=DW X.stack) F' λh' N=> ?_)
  have I2:Inv (X.hand e) AA σ H { s' with heap:=h' }:=(I'.noted N).hand
  refine wpAny_mono (hsu e AA _ σ H D I2 (hT rfl)) (λf s2 h2=>h2.unhand I.ok) λ_ _ z=>z.elim
theorem wZ(hx:X.ex=[])(hcalm:X.calm=true)(hst:X.stack=X.env::X.outer)(KM:X.env.frame=some X.env.locals)(hb:∀ (E:St->XK) (pn:List (Addr × Obj)) (xe:Value->Shared->Prop),XOk (X.tri pn xe) E->FN (X.tri pn xe) body (tb E))(hh:PH X (h₀::hs) th) :
  PS X (.Try body (h₀::hs) [] [] pos) (TQ tb th):=by
 intro AA s σ H D I h
 refine wpAny_Try_except ?_
 let xe:Value->Shared->Prop:=λe s₁=>wpAny (model X.prog X.w) X.A (noteFrame e X.env) (λ_ s₂=>wpAny (model X.prog X.w) X.A (setFlight e none) (λ_ s₃=>wpAny (model X.prog X.w) X.A (handleBy e X.env (h₀::hs)) (SP X AA D) X.xe s₃) X.xe s₂) X.xe s₁
 have xok:XOk (X.tri (X.pn++AA) xe) (λσ' cls _ H'=>th cls D σ' H'):=by
  refine⟨PassesOwn.looking,hx,hcalm,λpl σ' H' s' e cls I' F' q=> ?_⟩
  have Iu:=I'.untri
  refine dZ (hst ▸ Iu.ok.frames) (hst ▸ Iu.stack) KM F' (λa z=>I'.notbad hx (d0 z)) (λa z=>I'.hok.fresh z) λh' N=> ?_
  rw[<-hst]at N
  have I2:Inv (X.tri (X.pn++AA) xe) pl σ' H' { s' with heap:=h' }:=I'.noted N
  exact hh AA _ σ' H' D e cls hx I2.untri (N.fly.mono λa z=>by
   rcases z with z | ⟨p,hp,z⟩
   ·exact .inl z
   ·exact .inr ⟨p,List.mem_append_left _ hp,z⟩) q
 refine wpAny_mono (hb _ _ xe xok [] s σ H D I.tri h) (λf s1 hs1=> ?_) λ_ _ z=>z
 cases f with
 | next =>
  obtain⟨σ1,H1,I1,q⟩:=hs1
  exact wpAny_execs_nil ⟨σ1,H1,I1.untri,q⟩
 | brk=>obtain⟨σ1,H1,I1,q⟩:=hs1;exact⟨σ1,H1,I1.untri,q⟩
 | cont=>obtain⟨σ1,H1,I1,q⟩:=hs1;exact⟨σ1,H1,I1.untri,q⟩
 | ret u=>obtain⟨v,σ1,H1,I1,r,q⟩:=hs1;exact⟨v,σ1,H1,I1.untri,r,q⟩
end
end L2
namespace L2
mutual
inductive Rep(K:W.Frag)(H:Hp):V->PyData->Prop
 | non:Rep K H .non .none
 | bl (b:Bool):Rep K H (.bl b) (.bool b)
 | int (i:Int):Rep K H (.int i) (.int i)
 | str (x:Str):Rep K H (.str x) (.str x)
 | lst {a:Addr} {xs:List V} {ds:List PyData}:SqL K H a xs->RepAll K H xs ds->Rep K H (.ref a) (.list ds)
 | tup {a:Addr} {xs:List V} {ds:List PyData}:SqT K H a xs->RepAll K H xs ds->Rep K H (.ref a) (.tuple ds)
inductive RepAll(K:W.Frag)(H:Hp):List V->List PyData->Prop
 | nil:RepAll K H [] []
 | cons {v:V} {d:PyData} {vs:List V} {ds:List PyData}:Rep K H v d->RepAll K H vs ds->RepAll K H (v::vs) (d::ds)
end
section
variable{X:Cx}{AA:List (Addr × Obj)}{σ:St}{H:Hp}{s:Shared}
mutual
theorem Rep.reads(I:Inv X AA σ H s):∀ {v:V} {d:PyData} {u:Value},Rep X.K H v d->RelV v u->∃ as,Reads s.heap u d as
 | _,_,_,.non,r=>by cases (show _=Value.none from r);exact⟨_,.none⟩
 | _,_,_,.bl b,r=>by cases (show _=Value.bool b from r);exact⟨_,.bool b⟩
 | _,_,_,.int i,r=>by obtain⟨t,e⟩:=(show ∃ t,_=Value.int i t from r);cases e;exact⟨_,.int i t⟩
 | _,_,_,.str x,r=>by obtain⟨t,e⟩:=(show ∃ t,_=Value.str x t from r);cases e;exact⟨_,.str x t⟩
 | _,_,_,.lst (a:=a) h hr,r=>by
  cases (show _=Value.ref a from r)
  obtain⟨its,rv,p,_⟩:=I.list h
  obtain⟨as,q⟩:=RepAll.reads I hr rv
  obtain⟨o,e1,e2,n,e3⟩:=p.isList
  exact⟨_,.list e1 e2 e3 q⟩
 | _,_,_,.tup (a:=a) h hr,r=>by
  cases (show _=Value.ref a from r)
  obtain⟨its,rv,p,_⟩:=I.tuple h
  obtain⟨as,q⟩:=RepAll.reads I hr rv
  obtain⟨o,e1,e2,n,e3⟩:=p
  exact⟨_,.tuple e1 e2 e3 q⟩
theorem RepAll.reads(I:Inv X AA σ H s):∀ {vs:List V} {ds:List PyData} {us:List Value},RepAll X.K H vs ds->Vals vs us->∃ as,ReadsAll s.heap us ds as
 | _,_,_,.nil,.nil=>⟨_,.nil⟩
 | _,_,_,.cons h hr,.cons r rr=>by
  obtain⟨as,q⟩:=Rep.reads I h r
  obtain⟨bs,q2⟩:=RepAll.reads I hr rr
  exact⟨_,.cons q q2⟩
end
end
abbrev shp(d:PyData):Prop:=PySem.SeqAt.shaped d=true
def D7(K:W.Frag):R2:=λx y H Q=>if GE x y=true then Q (.bl (decide (x=y))) H else ∃ d e,Rep K H x d/\Rep K H y e/\shp d/\shp e/\Q (.bl (PyData.eqv d e)) H
def EC(K:W.Frag):R2:=λx y H Q=>if GE x y=true then Q (.bl (!decide (x=y))) H else ∃ d e,Rep K H x d/\Rep K H y e/\shp d/\shp e/\Q (.bl (!PyData.eqv d e)) H
section
variable{X:Cx}
theorem GO(hu:X.A.units+64<cLine):B8 X (compareOp .Eq) (D7 X.K):=by
 intro AA s σ H x y v u Q I rx ry h
 unfold D7 at h
 split at h
 ·rename_i hs
  exact uG AA s σ H x y v u Q I rx ry ⟨hs,h⟩
 ·obtain⟨d,e,rd,re,sd,se,q⟩:=h
  obtain⟨as,ra⟩:=rd.reads I rx
  obtain⟨bs,rb⟩:=re.reads I ry
  exact eq_dataH ra rb sd se hu ⟨.bl _,H,I,rfl,q⟩
theorem O9(hu:X.A.units+64<cLine):B8 X (compareOp .NotEq) (EC X.K):=by
 intro AA s σ H x y v u Q I rx ry h
 unfold EC at h
 split at h
 ·rename_i hs
  exact uH AA s σ H x y v u Q I rx ry ⟨hs,h⟩
 ·obtain⟨d,e,rd,re,sd,se,q⟩:=h
  obtain⟨as,ra⟩:=rd.reads I rx
  obtain⟨bs,rb⟩:=re.reads I ry
  exact ne_dataH ra rb sd se hu ⟨.bl _,H,I,rfl,q⟩
def TR(K:W.Frag):R2:=λx y H Q=>∃ a b ys,x=.ref a/\y=.ref b/\SqT K H a []/\SqT K H b ys/\Q (.ref b) H
theorem w5:B8 X (binaryOp .Add) (TR X.K):=by
 intro AA s σ H x y v u Q I rx ry h
 obtain⟨a,b,ys,rfl,rfl,ha,hb,q⟩:=h
 cases rx
 cases ry
 obtain⟨its,r1,⟨⟨c1,c2,c3,c4⟩,e1,e2,n1,e3⟩,_⟩:=I.tuple ha
 obtain⟨OK,r2,⟨⟨d1,d2,d3,d4⟩,f1,f2,n2,f3⟩,_⟩:=I.tuple hb
 obtain rfl:c1=_:=e2
 obtain rfl:c3=_:=e3
 obtain rfl:d1=_:=f2
 obtain rfl:d3=_:=f3
 cases r1
 exact concat_meets ⟨_,e1,rfl⟩ ⟨_,f1,rfl⟩ noFill_tuple_add seq_tuple_add PySem.F.slot_tuple_add PySem.F.entry_tuple_add (PySem.F.args_tuple_add_2 _ _) (tuple_addW0 a b #[] OK.toArray n1 n2 c2 d2 c4 d4 rfl) ⟨e1,f1,.ref b,H,I,rfl,q⟩
def BO(K:W.Frag):R2:=λx y H Q=>match x,y with
 | .int i,.int j=>Q (.int (i+j)) H
 | .str i,.str j=>i.length+j.length<=sizeLine/\Q (.str (i++j)) H
 | .ref _,.ref _=>SU x y H Q\/SO K x y H Q\/TR K x y H Q
 | _,_=>False
theorem BZ:B8 X (binaryOp .Add) (BO X.K):=by
 intro AA s σ H x y v u Q I rx ry h
 cases x<;>cases y<;>simp only[BO]at h
 ·exact uB AA s σ H _ _ v u Q I rx ry ⟨_,_,rfl,rfl,h⟩
 ·exact uO AA s σ H _ _ v u Q I rx ry ⟨_,_,rfl,rfl,h⟩
 ·rcases h with h | h
  ·exact v3 AA s σ H _ _ v u Q I rx ry h
  rcases h with h | h
  ·exact vI AA s σ H _ _ v u Q I rx ry h
  ·exact w5 AA s σ H _ _ v u Q I rx ry h
def GP:R2:=λx y H Q=>match x,y with
 | .int i,.int j=>Q (.bl (decide (i<j))) H
 | .str i,.str j=>Q (.bl (decide (i.cps.toList<j.cps.toList))) H
 | _,_=>False
def EZ:R2:=λx y H Q=>match x,y with
 | .int i,.int j=>Q (.bl (decide (i<=j))) H
 | .str i,.str j=>Q (.bl (!decide (j.cps.toList<i.cps.toList))) H
 | _,_=>False
end
end L2
namespace L2
theorem w8:fillsNumberSlot (.type "tuple") "mul"=pure false :=
 PySem.fillsNumberSlot_seq (id:="tuple.__mul__") (r:=some (.builtin "tuple.__rmul__")) F.slot_tuple_mul.lookup (by decide +kernel) F.slot_tuple_rmul.lookup (by decide +kernel)
theorem w9:seqRepeat? (.type "tuple")=pure (some (.builtin "tuple.__mul__")):=by
 unfold seqRepeat?
 rw[PySem.seqSlot_of (T:="tuple") (name:="__mul__") (id:="tuple.__mul__") F.slot_tuple_mul.lookup (by decide +kernel),PySem.seqSlot_of (T:="tuple") (name:="__rmul__") (id:="tuple.__rmul__") F.slot_tuple_rmul.lookup (by decide +kernel)]
 rfl
theorem xA(a:Int)(t:Tok)(l:Addr)(BI:Array Value)(dd:Option Addr)(n:Nat)(sl:Array (Option Value)) :
  Meets (Builtin.«int.__rmul__» ⟨[.int a t,.ref l],[]⟩) (λ_ R s=>s.heap.get? l=some ⟨.type "tuple",dd,.seq BI n,sl⟩/\R (.ok (.ret Value.notImplemented)) s) :=
 .of_wp λprog w A R s h=>by obtain⟨hp,g,d,tk,os⟩:=s;obtain⟨hl,h⟩:=h;wp_walk;exact⟨_,rfl,h⟩
theorem xB(l:Addr)(BI:Array Value)(dd:Option Addr)(n:Nat)(sl:Array (Option Value))(x:Int)(u:Tok)(h1:1<x)(h2:x<2 ^ 63)(hne:BI.isEmpty=false)(hz:BI.size * x.toNat<=sizeLine) :
  Meets (Builtin.«tuple.__mul__» ⟨[.ref l,.int x u],[]⟩) (λ_ R s=>s.heap.get? l=some ⟨.type "tuple",dd,.seq BI n,sl⟩ ∧
   R (.ok (.ret (Value.ref s.heap.objs.size))) { s with heap:=s.heap.push { cls:=Value.type "tuple",data:=Data.seq (List.foldl (λx1 x2=>x1++x2) #[] (List.replicate x.toNat BI)) } }) :=
 .of_wp λprog w A R s h=>by
  obtain⟨hp,g,d,tk,os⟩:=s;obtain⟨hl,h⟩:=h
  have hsl:(sizeLine:Nat)<=(2 ^ 63 - 1) / 8:=by decide
  have BV:(List.foldl (λx1 x2=>x1++x2) #[] (List.replicate x.toNat BI)).size<=sizeLine:=by
   have:=O4 BI.toList x.toNat []
   simp only[List.nil_append,Array.toArray_toList]at this
   rw[this]
   simp only[List.size_toArray,List.length_flatten,List.map_replicate,List.sum_replicate_nat,Array.length_toList]
   rw[Nat.mul_comm];exact hz
  have hx:∃ N:Nat,(BI.size:Int) * x=(N:Int)/\N<=sizeLine:=⟨BI.size * x.toNat,by rw[Int.natCast_mul,Int.toNat_of_nonneg (by omega)],hz⟩
  obtain⟨N,hx,hN⟩:=hx
  unfold Builtin.«tuple.__mul__»
  wp_walk
  refine wpAny_ite_false (by simp;omega) ?_
  wp_walk
  refine wpAny_ite_false (by simp only[hne,Bool.false_or];simp;omega) ?_
  refine wpAny_ite_false (by simp only[hne,Bool.or_false];simp;omega) ?_
  refine wpAny_ite_false (by rw[hx];exact decide_eq_false (by omega)) ?_
  refine wpAny_ite_false (by rw[hx];unfold Builtin.Tuple.tupleTooMany;simp;omega) ?_
  wp_walk
  exact⟨_,rfl,h⟩
theorem xC(l:Addr)(BI:Array Value)(dd:Option Addr)(n:Nat)(sl:Array (Option Value))(u:Tok) :
  Meets (Builtin.«tuple.__mul__» ⟨[.ref l,.int 1 u],[]⟩) (λ_ R s=>s.heap.get? l=some ⟨.type "tuple",dd,.seq BI n,sl⟩/\R (.ok (.ret (Value.ref l))) s) :=
 .of_wp λprog w A R s h=>by
  obtain⟨hp,g,d,tk,os⟩:=s;obtain⟨hl,h⟩:=h
  unfold Builtin.«tuple.__mul__»
  wp_walk
  exact⟨_,rfl,h⟩
def TU(K:W.Frag):R2:=λx y H Q=>∃ a k xs,x=.ref a/\y=.int k/\SqT K H a xs/\xs≠[]/\1<=k/\k<2 ^ 63/\xs.length * k.toNat<=sizeLine ∧
 (k=1->Q (.ref a) H)/\(k≠1->∀ p,H p=none->Q (.ref p) (upd H p (.tup (List.replicate k.toNat xs).flatten)))
section
variable{X:Cx}
theorem Inv.tnew{AA:List (Addr × Obj)}{σ:St}{H:Hp}{s:Shared}{ys:List V}{its:List Value}(I:Inv X AA σ H s)(hv:Vals ys its)(hz:ys.length<=sizeLine) :
  Inv X AA σ (upd H s.heap.objs.size (.tup ys)) { s with heap:=s.heap.push { cls:=.type "tuple",data:=.seq its.toArray } } :=
 I.laid (t':=s.toks) (λ_ _ q=>Heap.get?_push_of_some _ q) (Nat.le_refl _) ⟨hz,its,hv,_,Heap.get?_push_size _ rfl,rfl,0,rfl⟩
theorem xD:B8 X (binaryOp .Mult) (TU X.K):=by
 intro AA s σ H x y v u Q I rx ry h
 obtain⟨a,k,xs,rfl,rfl,hx,hne,h1,h2,hz,q1,q2⟩:=h
 cases rx
 obtain⟨t,rfl⟩:=ry
 obtain⟨its,r,⟨⟨c1,c2,c3,c4⟩,e1,e2,n,e3⟩,_⟩:=I.tuple hx
 obtain rfl:c1=_:=e2
 obtain rfl:c3=_:=e3
 have hl:=r.length
 have he:its.toArray.isEmpty=false:=by
  cases its with
  | nil=>exact absurd (List.length_eq_zero_iff.mp hl) hne
  | cons b t=>rfl
 refine wpAny_binaryOp_repeat_ref (T:="tuple") (U:="int") (by decide) ⟨_,e1,rfl⟩ (λs'=>typeIs_int s' k t) w8 F.fills_int_mul F.slot_int_rmul w9 F.slot_int_index.lookup
  (call_meets F.slot_int_rmul (typeIs_int s k t) F.entry_int_rmul (F.args_int_rmul_2 _ _) (xA k t a its.toArray c2 n c4) ⟨e1,rfl,⟨_,e1,rfl⟩,?_⟩)
 by_cases hk:k=1
 ·subst hk
  exact call_meets F.slot_tuple_mul ⟨_,e1,rfl⟩ F.entry_tuple_mul (F.args_tuple_mul_2 _ _) (xC a its.toArray c2 n c4 t) ⟨e1,.ref a,H,I,rfl,q1 rfl⟩
 ·refine call_meets F.slot_tuple_mul ⟨_,e1,rfl⟩ F.entry_tuple_mul (F.args_tuple_mul_2 _ _) (xB a its.toArray c2 n c4 k t (by omega) h2 he (by rw[List.size_toArray,<-hl];exact hz)) ⟨e1,?_⟩
  have f0:=O4 its k.toNat []
  rw[List.nil_append]at f0
  rw[f0]
  exact⟨.ref _,_,I.tnew (r.rep k.toNat) (by rw[dA,Nat.mul_comm];exact hz),rfl,q2 hk _ I.fresh⟩
abbrev PB:R2:=HR λi j=>.int (i - j)
abbrev C1:R2:=rI (λ_ j=>0<j) λi j=>.int (i % j)
abbrev DI:R2:=rI bV λi j=>.int (i / j)
abbrev xE:R2:=rI uA λi j=>.int (i ^ j.toNat)
abbrev TV:V->Hp->VK->Prop:=rU λi=>.int (-i)
abbrev xF:bO:=tV λi j=>i+j
def PD(z:Str)(k:Int):Str:=if k<1 then Str.empty else if(k == 1 || z.length == 0)=true then z else⟨(List.replicate k.toNat z.cps).foldl (· ++·) #[]⟩
theorem xG(z:Str)(k:Nat):(Str.mk ((List.replicate k z.cps).foldl (· ++·) #[])).length=k * z.length:=by
 have e:∀ (m:Nat) (B0:Array Nat),((List.replicate m z.cps).foldl (· ++·) B0).size=B0.size+m * z.cps.size:=λm=>by
  induction m with
  | zero=>intro B0;simp
  | succ m ih=>intro B0;rw[List.replicate_succ,List.foldl_cons,ih,Array.size_append,Nat.succ_mul];omega
 have:=e k #[]
 simpa [Str.length]using this
def xH:R2:=λx y H Q=>∃ z k,x=.str z/\y=.int k/\0<=k/\k<=1000/\z.length<=1000/\Q (.str (PD z k)) H
theorem xI:B8 X (binaryOp .Mult) xH:=by
 intro AA s σ H x y v u Q I rx ry h
 obtain⟨z,k,rfl,rfl,h1,h2,h3,q⟩:=h
 obtain⟨t,rfl⟩:=rx
 obtain⟨t',rfl⟩:=ry
 refine PySem.P.mul_str (by simp;omega) (λa _=> ?_) (λa _=> ?_) ?_
 ·have:(1000:Int)<=(2 ^ 63 - 1) / k:=(Int.le_ediv_iff_mul_le (by omega)).mpr (by omega)
  omega
 ·have h4:z.length * k.toNat<=1000 * 1000:=Nat.mul_le_mul h3 (by omega)
  have h5:(1000 * 1000:Nat)<=sizeLine:=by decide
  unfold Builtin.Str.tooLong
  exact decide_eq_false (by omega)
 ·unfold PD at q
  split
  ·rename_i c
   rw[if_pos c]at q
   exact⟨by show(0:Nat)<=sizeLine;omega,.str _,H,I.tok _,⟨_,rfl⟩,q⟩
  ·rename_i c
   rw[if_neg c]at q
   split
   ·rename_i d
    rw[if_pos d]at q
    exact⟨.str _,H,I,⟨_,rfl⟩,q⟩
   ·rename_i d
    rw[if_neg d]at q
    exact⟨by rw[xG];have:=Nat.mul_le_mul (show k.toNat<=1000 by omega) h3;show _<=2 ^ 24;omega,.str _,H,I.tok _,⟨_,rfl⟩,q⟩
def F1(K:W.Frag):R2:=λx y H Q=>match x,y with
 | .int i,.int j=>CMul i j/\Q (.int (i * j)) H
 | .str z,.int k=>0<=k/\k<=1000/\z.length<=1000/\Q (.str (PD z k)) H
 | .ref _,.int _=>SV x y H Q\/TU K x y H Q
 | _,_=>False
theorem JV:B8 X (binaryOp .Mult) (F1 X.K):=by
 intro AA s σ H x y v u Q I rx ry h
 cases x<;>cases y<;>simp only[F1]at h
 ·exact uC AA s σ H _ _ v u Q I rx ry ⟨_,_,rfl,rfl,h⟩
 ·exact xI AA s σ H _ _ v u Q I rx ry ⟨_,_,rfl,rfl,h⟩
 ·rcases h with h | h
  ·exact v4 AA s σ H _ _ v u Q I rx ry h
  ·exact xD AA s σ H _ _ v u Q I rx ry h
def PF:R2:=λx y H Q=>match x,y with
 | .int i,.int j=>Q (.bl (decide (j<i))) H
 | _,_=>False
theorem JW:B8 X (compareOp .Lt) GP:=by
 intro AA s σ H x y v u Q I rx ry h
 cases x<;>cases y<;>simp only[GP]at h
 ·exact uI AA s σ H _ _ v u Q I rx ry ⟨_,_,rfl,rfl,h⟩
 ·obtain⟨t,rfl⟩:=rx
  obtain⟨t',rfl⟩:=ry
  exact PySem.P.lt_str ⟨.bl _,H,I,rfl,h⟩
theorem F2:B8 X (compareOp .LtE) EZ:=by
 intro AA s σ H x y v u Q I rx ry h
 cases x<;>cases y<;>simp only[EZ]at h
 ·exact uJ AA s σ H _ _ v u Q I rx ry ⟨_,_,rfl,rfl,h⟩
 ·obtain⟨t,rfl⟩:=rx
  obtain⟨t',rfl⟩:=ry
  exact PySem.P.le_str ⟨.bl _,H,I,rfl,h⟩
theorem xJ:B8 X (compareOp .Gt) PF:=by
 intro AA s σ H x y v u Q I rx ry h
 cases x<;>cases y<;>simp only[PF]at h
 exact uK AA s σ H _ _ v u Q I rx ry ⟨_,_,rfl,rfl,h⟩
abbrev K2:R2:=λx y H Q=>y=.non/\Q (.bl (decide (x=.non))) H
abbrev LX:R2:=λx y H Q=>y=.non/\Q (.bl (!decide (x=.non))) H
variable{a:Expr}{ta:TE}{tA:TT}{pos:Pos}
abbrev LY(K:W.Frag)(ta:TE):TT:=λσ H Q=>ta σ H λx H'=>∃ k,LP K x H' k/\Q k H'
def CY(K:W.Frag):R2:=cV K
theorem CH:IxR X (CY X.K):=vN
def xK:V->Option Int->Option Int->Hp->VK->Prop:=λx lo hi H Q=>∃ z,x=.str z/\z.length<=sizeLine/\Q (.str (Txt.slice z lo hi)) H
theorem d7{v:Value}{lo:Option Int}(p:IsPart v lo):∃ l:Option (Int × Tok),v=partValue l/\l.map (·.1)=lo:=by
 cases p with
 | none=>exact⟨none,rfl,rfl⟩
 | int i t=>exact⟨some (i,t),rfl,rfl⟩
theorem xL:SlR X xK:=by
 intro AA s σ H x v vl vu lo hi sl Q I rx hs pl pu h
 obtain⟨z,rfl,hz,q⟩:=h
 obtain⟨t,rfl⟩:=rx
 obtain⟨l,rfl,rfl⟩:=d7 pl
 obtain⟨u,rfl,rfl⟩:=d7 pu
 refine⟨"str",_,PySem.F.slot_str_getitem.lookup,typeIs_str _ _ _,?_⟩
 exact wpAny_getItem_str_slice (l:=l) (u:=u) (st:=none) hs rfl (post_val_or_str ⟨Nat.le_trans (Txt.slice_le z _ _) hz,λt' k=>⟨.str _,H,I.tok k,⟨t',rfl⟩,q⟩⟩)
def JY(K:W.Frag):V->Option Int->Option Int->Hp->VK->Prop:=λx lo hi H Q=>match x with
 | .str z=>z.length<=sizeLine/\Q (.str (Txt.slice z lo hi)) H
 | _=>cX K x lo hi H Q\/cQ K x lo hi H Q
theorem NK:SlR X (JY X.K):=by
 intro AA s σ H x v vl vu lo hi sl Q I rx hs pl pu h
 cases x<;>first
  | exact xL AA s σ H _ v vl vu lo hi sl Q I rx hs pl pu ⟨_,rfl,h⟩
  | exact(SlR.or vS vH) AA s σ H _ v vl vu lo hi sl Q I rx hs pl pu h
abbrev TW:V->V->V->Hp->(Hp->Prop)->Prop:=cW
theorem d8:R9 X TW:=vP
def F3(K:W.Frag)(tl:TE):TI:=λσ H R=>tl σ H λx H1=>∃ a,x=.ref a/\(((∃ xs,SqL K H1 a xs)/\R (IJ K a) H1)\/((∃ xs,SqT K H1 a xs)/\R (IK K a) H1))
def E8(K:W.Frag):List V->Hp->VK->Prop:=λxs H Q=>∃ x n,xs=[x]/\SI K x H n/\Q (.int n) H
theorem F4:FD X (.builtin "len") (E8 X.K):=uQ
def LZ(K:W.Frag):List V->Hp->VK->Prop:=λxs H Q=>∃ p ys,xs=[.ref p]/\(SqL K H p ys\/SqT K H p ys)/\∀ l,H l=none->Q (.ref l) (upd H l (.lst ys))
theorem TX:FD X (.type "list") (LZ X.K):=vV
def L3(K:W.Frag):List V->Hp->VK->Prop:=λxs H Q=>∃ p ys,xs=[.ref p]/\((SqL K H p ys/\∀ l,H l=none->Q (.ref l) (upd H l (.tup ys)))\/(SqT K H p ys/\Q (.ref p) H))
theorem TY:FD X (.type "tuple") (L3 X.K):=vW
abbrev L4:=c8
abbrev xM:=c9
end
end L2
namespace L2
section
variable{X:Cx}{tg a:Expr}{ta:TE}{pos:Pos}
theorem HW{l:Expr}{tl:TE}(hl:PE X l tl):PI X tg l (F3 X.K tl):=by
 intro AA s σ H R I h
 refine AR (hl AA s σ H _ I h) λv s1 hzz=> ?_
 obtain⟨x,H1,I1,r1,q1⟩:=hzz
 obtain⟨a,e,q1⟩:=q1
 subst e
 cases r1
 have fp1:∀ b∈[s1.heap.objs.size],FpOk X AA H1 b:=λb hb=>by
  have e:b=s1.heap.objs.size:=by simpa using hb
  subst e
  exact I1.fpOk (Nat.le_refl _) (I1.hok.fresh (Nat.le_refl _))
 rcases q1 with⟨⟨xs,hq⟩,q⟩ | ⟨⟨xs,hq⟩,q⟩
 ·obtain⟨its,rv,p,hz⟩:=I1.list hq
  refine wpAny_pyIter_list p.isList ?_
  exact⟨s1.heap.objs.size,[s1.heap.objs.size],_,_,H1,rfl,I1.kept (t':=s1.toks) λb o e=>Heap.get?_push_of_some _ e,tW a _,⟨_,Heap.get?_push_size _ rfl,rfl,rfl⟩,fp1,q⟩
 ·obtain⟨its,rv,p,hz⟩:=I1.tuple hq
  refine wpAny_pyIter_tuple (show s1.heap.IsTuple a its.toArray from p) ?_
  exact⟨s1.heap.objs.size,[s1.heap.objs.size],_,_,H1,rfl,I1.kept (t':=s1.toks) λb o e=>Heap.get?_push_of_some _ e,tX a _,⟨_,Heap.get?_push_size _ rfl,rfl,rfl⟩,fp1,q⟩
end
def TZ(scope outer:Scope)(N cn:List Str)(cap:List Nat):Bool :=
 scope.kind == .function && scope.names.all (λy=>y.2 != .cell) && scope.names.all (λy=>y.2 != .local || scope.names.lookup y.1 == some .local) &&
 scope.names.all (λy=>y.2 != .free || outer.names.lookup y.1 == some .cell || outer.names.lookup y.1 == some .free) && cn.all (λx=>scope.names.lookup x == some .free) && (cap.map (λi=>N[i]?) == cn.map some)
theorem xN{X:Cx}{scope outer:Scope}{N tn cn:List Str}{cap:List Nat}(h1:X.env.scope=outer)(h2:X.N=N)(h:TZ scope outer N cn cap=true):LW X scope tn cn cap:=by
 unfold TZ at h
 simp only[Bool.and_eq_true,List.all_eq_true,Bool.or_eq_true,bne_iff_ne,beq_iff_eq]at h
 obtain⟨⟨⟨⟨⟨k1,k2⟩,k3⟩,k4⟩,k5⟩,k6⟩:=h
 refine⟨k1,k2,λy hy hl=>(k3 y hy).resolve_left λz=>z hl,λy hy hf=> ?_,k5,by rw[h2];exact k6⟩
 have z:=k4 y hy
 show X.env.scope.names.lookup y.1=_\/X.env.scope.names.lookup y.1=_
 rw[h1]
 rcases z with(z | z) | z
 ·exact absurd hf z
 ·exact .inl z
 ·exact .inr z
structure zg5(K:W.Frag)(C:Addr):Prop where
 ga:W.findIn K (.ref C) "__getattribute__"=some (some (.builtin "BaseException.__getattribute__"))
 gt:W.findIn K (.ref C) "__getattr__"=some none
 be:W.mroIn K C (.type "BaseException")=some true
 cl:W.isClsIn K C=true
 ha:W.findIn K (.ref C) "__class__"=some (some (.builtin "object.__class__"))
 hn:W.specialIn K (.builtin "object.__class__") "__get__"=some (some (.builtin "getset_descriptor.__get__"))
 tk:W.takesIn K (.builtin "object.__class__")=some true
 mr:W.mroIn K C (.type "object")=some true
inductive d9:V->Value->Prop
 | own (C:Addr):d9 (.ref C) (.ref C)
 | ty (n:String):d9 (.ty n) (.type n)
section
variable{X:Cx}
end
end L2
namespace L2
def G8(J:It)(g:TG)(tt:TT)(te:TE)(k:Nat)(cap:List Nat)(σ:St)(H1:Hp)(Q:VK):Prop :=
 ∃ W:Nat->Nat->St->List V->Hp->Prop,(∃ m,W 0 m (JT k cap σ) [] H1)/\∀ i m σ' ys H,W i m σ' ys H →
  (J.stop i H/\∀ p,H p=none->Q (.ref p) (upd H p (.lst ys))) ∨
  (J.go i H/\ys.length<sizeLine/\∀ x H',J.yld i H x H'->g x σ' H' λσ2 H2=>tt σ2 H2 λb H3 =>
   if b=true then ∃ N:VK,(∀ y H4,N y H4->∃ m',m'<m/\W (i+1) m' σ2 (ys++[y]) H4)/\te σ2 H3 N else ∃ m',m'<m/\W (i+1) m' σ2 ys H3)
def FQ(J:It)(g:TG)(tb:TS)(D:Ends)(σ:St)(H1:Hp):Prop :=
 ∃ W:Nat->Nat->St->Hp->Prop,(∃ m,W 0 m σ H1)/\∀ i m σ H,W i m σ H →
  (J.stop i H/\D.nx σ H)\/(J.go i H/\∃ N:St->Hp->Prop,(∀ σ' H',N σ' H'->∃ m',m'<m/\W (i+1) m' σ' H')/\∀ x H',J.yld i H x H'->g x σ H' λσ2 H2=>tb { D with nx:=N,ct:=N,bk:=D.nx } σ2 H2)
section
variable{K:W.Frag}{ta tb tc to ti tv tl:TE}{tt tA tB' tu:TT}{s1 s2:TS}{r r':R2}{σ:St}{H:Hp}{Q:VK}{D:Ends}{QB:Bool->Hp->Prop}{as:TA}{g:TG}{gs:JL}{te:TE}{k i:Nat}{cap:List Nat}{f m:Str}{C:Addr}{sp:Sp}{DC:List V}{E:St->XK}{v:V}{vs:List V}{QA:List V->Hp->Prop}{QG:St->Hp->Prop}{QO:Option Int->Hp->Prop}
theorem xO:AL s1 s2 D σ H=(s1 { D with nx:=s2 D } σ H):=rfl
theorem xP:CK D σ H=(D.nx σ H):=rfl
theorem xQ:R8 D σ H=(D.bk σ H):=rfl
theorem xR:A4 ta g D σ H=(ta σ H λx H1=>g x σ H1 D.nx):=rfl
theorem xS:DH ta D σ H=(ta σ H λ_ H1=>D.nx σ H1):=rfl
theorem xT:BB ta D σ H=(ta σ H D.rt):=rfl
theorem xU:BX tt s1 s2 D σ H=(tt σ H λb H1=>if b=true then s1 D σ H1 else s2 D σ H1):=rfl
theorem xV:tC v σ H Q=(Q v H):=rfl
theorem xW:AF r ta tb σ H Q=(ta σ H λx H1=>tb σ H1 λy H2=>r x y H2 Q):=rfl
theorem xX:B1 ta σ H QB=(ta σ H λx H'=>∃ k,x=.bl k/\QB k H'):=rfl
theorem xY:GG r r' ta tb tc σ H Q=(ta σ H λx H1=>tb σ H1 λy H2=>r x y H2 λz H3=>∃ k,z=.bl k/\(if k=true then tc σ H3 λw' H4=>r' y w' H4 Q else Q (.bl false) H3)):=rfl
theorem xZ:GB tt σ H QB=(tt σ H λc H1=>QB (!c) H1):=rfl
theorem x4:KP tt tu σ H QB=(tt σ H λc H1=>if c=true then tu σ H1 QB else QB false H1):=rfl
theorem x5:OO tt tu σ H QB=(tt σ H λc H1=>if c=true then QB true H1 else tu σ H1 QB):=rfl
theorem x6:M7 ta tb σ H Q=(ta σ H λx H1=>∃ c,x=.bl c/\if c=true then tb σ H1 Q else Q (.bl false) H1):=rfl
theorem x8:LY K ta σ H QB=(ta σ H λx H'=>∃ k,LP K x H' k/\QB k H'):=rfl
theorem x9:BK σ H QA=(QA [] H):=rfl
theorem yA:DR ta as σ H QA=(ta σ H λx H1=>as σ H1 λxs H2=>QA (x::xs) H2):=rfl
theorem yB:EN as σ H Q=(as σ H λxs H1=>xs.length<=sizeLine/\∀ p,H1 p=none->Q (.ref p) (upd H1 p (.tup xs))):=rfl
theorem yC:B9 as σ H Q=(as σ H λxs H1=>xs.length<=sizeLine/\∀ p,H1 p=none->Q (.ref p) (upd H1 p (.lst xs))):=rfl
theorem yD:DD sp DC E as σ H Q=(as σ H λvs H1=>sp (vs++DC) H1 Q (E σ)):=rfl
theorem yE:AO C m sp DC E ta as σ H Q=(ta σ H λx H1=>∃ a dx fs,x=.ref a/\H1 a=some (.ins C dx fs)/\fs.lookup m=none/\as σ H1 λvs H2=>sp (x::(vs++DC)) H2 Q (E σ)):=rfl
theorem yF:JN C sp DC E as σ H Q=(as σ H λvs H1=>∀ x dx,H1 x=none->H1 dx=none->dx≠x->sp (.ref x::(vs++DC)) (upd (upd H1 dx (.own x)) x (.ins C dx [])) (λv H2=>v=.non/\Q (.ref x) H2) (E σ)):=rfl
theorem yG:AY K ta f σ H Q=(ta σ H λx H1=>∃ a C dx fs v,x=.ref a/\H1 a=some (.ins C dx fs)/\Cls K C/\NoAttr K C f/\fs.lookup f=some v/\Q v H1):=rfl
theorem yH:D6 K ta tv f D σ H=(tv σ H λy H1=>ta σ H1 λx H2=>∃ a C dx fs,x=.ref a/\H2 a=some (.ins C dx fs)/\Cls K C/\NoAttr K C f/\fs.length<1000/\D.nx σ (upd H2 a (.ins C dx (A7 f y fs)))):=rfl
theorem yI{ru:V->Hp->VK->Prop}:OW ru ta σ H Q=ta σ H λx H1=>ru x H1 Q:=rfl
theorem yJ{rc:List V->Hp->VK->Prop}:C7 rc as σ H Q=as σ H λvs H1=>rc vs H1 Q:=rfl
theorem yK:GL C E as D σ H=(as σ H λvs H1=>vs.length<=sizeLine/\E σ (.ref C) none H1):=rfl
theorem yL{sb:(St->XK)->TS}{th:TH}:TQ sb th D σ H=sb (λσ' cls _ H'=>th cls D σ' H') D σ H:=rfl
theorem yM:AM i v σ H QG=(QG (σ.set i (some v)) H):=rfl
theorem yN{rs:OR}:OV to ti rs v σ H QG=to σ H λo H1=>ti σ H1 λi H2=>rs o i v H2 λH3=>QG σ H3:=rfl
theorem yO:OU K k gs v σ H QG=(∃ a xs,v=.ref a/\SqT K H a xs/\xs.length=k/\gs xs σ H QG):=rfl
theorem yP:OS vs σ H QG=((vs=[]/\QG σ H)):=rfl
theorem yQ:LK g gs vs σ H QG=(∃ v r,vs=v::r/\g v σ H λσ' H'=>gs r σ' H' QG):=rfl
theorem yR{rs:V->Option Int->Option Int->Hp->VK->Prop}{ol oh:TO}:KQ rs ta ol oh σ H Q=ta σ H λx H1=>ol σ H1 λl H2=>oh σ H2 λu H3=>rs x l u H3 Q:=rfl
theorem yS:LR σ H QO=(QO none H):=rfl
theorem yT:JO ta σ H QO=(ta σ H λx H1=>∃ i,x=.int i/\QO (some i) H1):=rfl
theorem yU{T:String}{rm:V->List V->Hp->VK->Prop}:HU K T rm ta as σ H Q=ta σ H λx H1=>NE K T x H1/\as σ H1 λxs H2=>rm x xs H2 Q:=rfl
theorem yV{T:String}{rm:V->List V->Hp->VK->Prop}:ST K T rm ta σ H Q=ta σ H λx H1=>NE K T x H1/\rm x [] H1 Q:=rfl
theorem yW:DV σ H QB=(QB true H):=rfl
theorem yX:EY (EK as) g tt te k cap σ H Q=(as σ H λvs H1=>∃ j:Int,vs=[.int j]/\ -(2 ^ 62)<=j/\j<2 ^ 62/\G8 (GD 0 j.toNat) g tt te k cap σ H1 Q):=rfl
theorem yY:EY (F3 K tl) g tt te k cap σ H Q=(tl σ H λx H1=>∃ a,x=.ref a/\(((∃ xs,SqL K H1 a xs)/\G8 (IJ K a) g tt te k cap σ H1 Q)\/((∃ xs,SqT K H1 a xs)/\G8 (IK K a) g tt te k cap σ H1 Q))):=rfl
theorem yZ:DT (EK as) g s1 D σ H=(as σ H λvs H1=>∃ j:Int,vs=[.int j]/\ -(2 ^ 62)<=j/\j<2 ^ 62/\FQ (GD 0 j.toNat) g s1 D σ H1):=rfl
theorem zA:DT (F3 K tl) g s1 D σ H=(tl σ H λx H1=>∃ a,x=.ref a/\(((∃ xs,SqL K H1 a xs)/\FQ (IJ K a) g s1 D σ H1)\/((∃ xs,SqT K H1 a xs)/\FQ (IK K a) g s1 D σ H1))):=rfl
theorem zB{rd:V->V->Hp->VK->Prop}:SL K ta tv rd f D σ H=(ta σ H λx H1=>∃ a C dx fs v,x=.ref a/\H1 a=some (.ins C dx fs)/\Cls K C/\NoAttr K C f/\fs.lookup f=some v/\tv σ H1 λy H2=>rd v y H2 λz H3=>∃ dx' fs',H3 a=some (.ins C dx' fs')/\fs'.length<1000/\D.nx σ (upd H3 a (.ins C dx' (A7 f z fs')))):=rfl
end
end L2
namespace L2
section
variable{K:W.Frag}{σ:St}{H:Hp}{Q:VK}{P:Bool->Prop}{PI':Int->Prop}{PV:V->Prop}{QB:Bool->Hp->Prop}{v:V}{x:Option V}{i j:Int}{n:Nat}{b b':Bool}{s s':Str}{p q:Addr}{f:Int->Int->V}{C:Int->Int->Prop}
def EQ(i:Nat):TE:=λσ H Q=>match σ[i]? with
 | some (some v)=>Q v H
 | _=>False
theorem zC:EQ 0 (some v::σ) H Q=Q v H:=rfl
theorem zD:EQ (n+1) (x::σ) H Q=EQ n σ H Q:=rfl
theorem zE(i:Nat):EQ i=R5 i:=by
 funext σ H Q
 unfold EQ R5
 cases σ[i]? with
 | none=>simp
 | some o=>cases o<;>simp
theorem zF{P:Bool->Prop}:(∃ k,V.bl b=V.bl k/\P k)=P b:=by simp
theorem zG{P:Int->Prop}:(∃ k,V.int i=V.int k/\P k)=P i:=by simp
theorem zH{P:Addr->Prop}:(∃ k,V.ref p=V.ref k/\P k)=P p:=by simp
theorem zI{P:Bool->Prop}:(∃ k,LP K (.bl b) H k/\P k)=P b:=by simp[LP]
theorem zJ:BO K (.int i) (.int j) H Q=Q (.int (i+j)) H:=rfl
theorem zK:BO K (.str s) (.str s') H Q=(s.length+s'.length<=sizeLine/\Q (.str (s++s')) H):=rfl
theorem T2:BO K (.ref p) (.ref q) H Q=(SU (.ref p) (.ref q) H Q\/SO K (.ref p) (.ref q) H Q\/TR K (.ref p) (.ref q) H Q):=rfl
theorem zL{x y:Str}:EZ (.str x) (.str y) H Q=Q (.bl (!decide (y.cps.toList<x.cps.toList))) H:=rfl
theorem zM{x y:Str}:GP (.str x) (.str y) H Q=Q (.bl (decide (x.cps.toList<y.cps.toList))) H:=rfl
theorem zN{x:Str}{lo hi:Option Int}:JY K (.str x) lo hi H Q=(x.length<=sizeLine/\Q (.str (Txt.slice x lo hi)) H):=rfl
theorem zO:F1 K (.int i) (.int j) H Q=(CMul i j/\Q (.int (i * j)) H):=rfl
theorem zP{z:Str}{j:Int}:F1 K (.str z) (.int j) H Q=(0<=j/\j<=1000/\z.length<=1000/\Q (.str (PD z j)) H):=rfl
theorem zQ:F1 K (.ref p) (.int j) H Q=(SV (.ref p) (.int j) H Q\/TU K (.ref p) (.int j) H Q):=rfl
theorem zR:HR f (.int i) (.int j) H Q=Q (f i j) H:=by simp[HR]
theorem eA:rI C f (.int i) (.int j) H Q=(C i j/\Q (f i j) H):=by simp[rI]
theorem zS{g:Int->V}:rU g (.int i) H Q=Q (g i) H:=by simp[rU]
theorem zT:GP (.int i) (.int j) H Q=Q (.bl (decide (i<j))) H:=rfl
theorem zU:EZ (.int i) (.int j) H Q=Q (.bl (decide (i<=j))) H:=rfl
theorem zV:PF (.int i) (.int j) H Q=Q (.bl (decide (j<i))) H:=rfl
theorem zW:D7 K (.int i) (.int j) H Q=Q (.bl (decide (i=j))) H:=by simp[D7,GE]
theorem zX:D7 K (.str s) (.str s') H Q=Q (.bl (decide (s=s'))) H:=by simp[D7,GE]
theorem eB:EC K (.int i) (.int j) H Q=Q (.bl (!decide (i=j))) H:=by simp[EC,GE]
theorem eC:EC K (.str s) (.str s') H Q=Q (.bl (!decide (s=s'))) H:=by simp[EC,GE]
theorem eD:EC K .non .non H Q=Q (.bl false) H:=by simp[EC,GE]
theorem zY:K2 v .non H Q=Q (.bl (decide (v=.non))) H:=by simp[K2]
theorem zZ:LX v .non H Q=Q (.bl (!decide (v=.non))) H:=by simp[LX]
theorem z6:O0 (.int i) (.int j) H Q=Q (.int (i+j)) H:=by simp[O0]
theorem z7:E8 K [v] H Q=∃ n:Nat,SI K v H n/\Q (.int n) H:=by simp[E8]
theorem eE:LZ K [.ref p] H Q=∃ ys,(SqL K H p ys\/SqT K H p ys)/\∀ l,H l=none->Q (.ref l) (upd H l (.lst ys)):=by simp[LZ]
theorem z8:L3 K [.ref p] H Q=∃ ys,((SqL K H p ys/\∀ l,H l=none->Q (.ref l) (upd H l (.tup ys)))\/(SqT K H p ys/\Q (.ref p) H)):=by simp[L3]
end
theorem AB{X:Cx}(i:Nat){x:Str}{pos:Pos}(hN:X.N[i]? =some x:=by rfl)(hv:R4 X.env.scope x:=by first | exact Or.inl rfl | exact Or.inr (Or.inl rfl) | exact Or.inr (Or.inr rfl))(hd:(x ==("__debug__":Str))=false:=by decide)
  (IF:(x ==("__classdict__":Str))=false:=by decide):PE X (.Name x pos) (EQ i):=by
 rw[zE]
 exact tP hN hv hd IF
end L2
namespace L2
abbrev A8(Q:VK):Ends:={ nx:=λ_ H'=>Q .non H',rt:=Q }
abbrev D8(cap:List Nat)(σ:St):St:=cap.map λi=>(σ[i]?).join
section
variable{K:W.Frag}{te:TE}{cap:List Nat}{σ:St}{H:Hp}{Q:VK}
theorem NL{lo:Int}{n:Nat}(hn:n<=sizeLine)(Pv:Nat->List V->Hp->Prop)(h0:Pv 0 [] H)(hs:∀ i ys H,i<n->ys.length=i->Pv i ys H->te (some (.int (lo+i))::D8 cap σ) H λy H2=>Pv (i+1) (ys++[y]) H2)
  (hd:∀ ys H,ys.length=n->Pv n ys H->∀ p,H p=none->Q (.ref p) (upd H p (.lst ys))) :
  G8 (GD lo n) (AM 0) DV te 1 cap σ H Q:=by
 refine⟨λi m σ' ys H=>m=n - i/\i<=n/\ys.length=i/\(∃ x0,σ'=x0::D8 cap σ)/\Pv i ys H,⟨n,by simp,Nat.zero_le _,rfl,⟨none,rfl⟩,h0⟩,?_⟩
 rintro i m σ' ys H ⟨rfl,hi,hl,⟨x0,rfl⟩,p⟩
 by_cases BC:i<n
 ·refine .inr ⟨BC,by omega,λx H' y=> ?_⟩
  obtain⟨e,y⟩:=y
  subst e y
  simp only[AM,DV,if_true]
  refine⟨_,λy H4 q=>⟨n - (i+1),by omega,rfl,BC,?_,⟨_,rfl⟩,q⟩,hs i ys _ BC hl p⟩
  rw[List.length_append,List.length_singleton,hl]
 ·have e:i=n:=by omega
  subst e
  exact .inl ⟨Nat.le_refl _,hd ys H hl p⟩
theorem z9{b:Addr}{xs:List V}(hn:xs.length<=sizeLine)(Pv:Nat->List V->Hp->Prop)(h0:Pv 0 [] H)(hq:∀ i ys H,i<=xs.length->Pv i ys H->SqL K H b xs)
  (hs:∀ i x ys H,xs[i]? =some x->ys.length=i->Pv i ys H->te (some x::D8 cap σ) H λy H2=>Pv (i+1) (ys++[y]) H2)
  (hd:∀ ys H,ys.length=xs.length->Pv xs.length ys H->∀ p,H p=none->Q (.ref p) (upd H p (.lst ys))) :
  G8 (IJ K b) (AM 0) DV te 1 cap σ H Q:=by
 refine⟨λi m σ' ys H=>m=xs.length - i/\i<=xs.length/\ys.length=i/\(∃ x0,σ'=x0::D8 cap σ)/\Pv i ys H,⟨xs.length,by simp,Nat.zero_le _,rfl,⟨none,rfl⟩,h0⟩,?_⟩
 rintro i m σ' ys H ⟨rfl,hi,hl,⟨x0,rfl⟩,p⟩
 have q:=hq i ys H hi p
 by_cases BC:i<xs.length
 ·refine .inr ⟨⟨xs,xs[i],q,by simp[BC]⟩,by omega,λx H' y=> ?_⟩
  obtain⟨e,y⟩:=y
  subst e
  have hx:=y xs q
  simp only[AM,DV,if_true]
  refine⟨_,λy H4 q=>⟨xs.length - (i+1),by omega,rfl,BC,?_,⟨_,rfl⟩,q⟩,hs i x ys _ hx hl p⟩
  rw[List.length_append,List.length_singleton,hl]
 ·have e:i=xs.length:=by omega
  subst e
  exact .inl ⟨⟨xs,q,Nat.le_refl _⟩,hd ys H hl p⟩
theorem K3{b:Addr}{xs:List V}{g:TG}{tb:TS}{D:Ends}(Pv:Nat->St->Hp->Prop)(h0:Pv 0 σ H)(hl:∀ i σ H,i<=xs.length->Pv i σ H->SqL K H b xs)
  (hs:∀ i x σ H,xs[i]? =some x->Pv i σ H->g x σ H λσ2 H2=>tb { D with nx:=Pv (i+1),ct:=Pv (i+1),bk:=D.nx } σ2 H2) (hd:∀ σ H,Pv xs.length σ H->D.nx σ H):FQ (IJ K b) g tb D σ H:=t4 Pv h0 hl hs hd
theorem Ab{b:Addr}{xs:List V}{g:TG}{tb:TS}{D:Ends}(Pv:Nat->St->Hp->Prop)(h0:Pv 0 σ H)(hl:∀ i σ H,i<=xs.length->Pv i σ H->SqT K H b xs)
  (hs:∀ i x σ H,xs[i]? =some x->Pv i σ H->g x σ H λσ2 H2=>tb { D with nx:=Pv (i+1),ct:=Pv (i+1),bk:=D.nx } σ2 H2) (hd:∀ σ H,Pv xs.length σ H->D.nx σ H):FQ (IK K b) g tb D σ H:=t5 Pv h0 hl hs hd
theorem K4{lo:Int}{n:Nat}{g:TG}{tb:TS}{D:Ends}(Pv:Nat->St->Hp->Prop)(h0:Pv 0 σ H)
  (hs:∀ i σ H,i<n->Pv i σ H->g (.int (lo+i)) σ H λσ2 H2=>tb { D with nx:=Pv (i+1),ct:=Pv (i+1),bk:=D.nx } σ2 H2) (hd:∀ σ H,Pv n σ H->D.nx σ H):FQ (GD lo n) g tb D σ H:=t7 Pv h0 hs hd
end
theorem AQ{H:Hp}{p:Addr}{o:HO}(h:H p=none):Same H (upd H p o):=λb u e=>by rw[AG (BN e h)];exact e
theorem JZ{α β :Type}{F: α -> β ->Prop}:∀ {l:List α} {m:List β} {i:Nat} {y: β},Paired F l m->m[i]? =some y->∃ x,l[i]? =some x/\F x y
 | _,_,_,_,.nil,e=>by simp at e
 | _,_,0,_,.cons r _,e=>by simp at e;subst e;exact⟨_,rfl,r⟩
 | _,_,i+1,y,.cons _ t,e=>by
  obtain⟨u,h1,h2⟩:=JZ (i:=i) (y:=y) t (by simpa using e)
  exact⟨u,by simpa using h1,h2⟩
theorem eG{α β :Type}{F: α -> β ->Prop}{x: α}{y: β}(r:F x y):∀ {l:List α} {m:List β} (i:Nat),Paired F l m->Paired F (l.set i x) (m.set i y)
 | _,_,_,.nil=>.nil
 | _,_,0,.cons _ t=>.cons r t
 | _,_,i+1,.cons q t=>.cons q (eG r i t)
theorem FR{K:W.Frag}{H:Hp}{p:Addr}{xs:List V}{i:Int}{n:Nat}{v:V}{Q:VK}(h:SqL K H p xs)(hi:i=n)(hx:xs[n]? =some v)(q:Q v H):CY K (.ref p) (.int i) H Q :=
 .inl ⟨p,xs,i,v,rfl,rfl,h,hi ▸ O2 hx,q⟩
theorem CT(n:Nat)(h:n<=100000):n<=sizeLine:=Nat.le_trans h (by decide)
theorem eI{α :Type}(x: α):∀ w:Nat,(List.replicate w [x]).flatten=List.replicate w x
 | 0=>rfl
 | w+1=>by rw[List.replicate_succ,List.flatten_cons,eI x w];rfl
theorem IX{f:Str}{v:V}{fs:List (Str × V)}{n:Nat}(h:fs.length+1<n):(A7 f v fs).length<n:=Nat.lt_of_le_of_lt (NC f v fs) h
theorem Ac{d:PyData}(h:shp d):PyData.eqv d d=true:=PySem.SeqAt.eqv_refl d (PySem.SeqAt.canLay_of_shaped h)
end L2
namespace L2
def ItK(k:Bool)(h:Heap)(j a:Addr)(i:Nat):Prop:=if k then h.IsListIter j a i else h.IsTupleIter j a i
def eJ(k:Bool)(h:Heap)(a:Addr)(xs:Array Value):Prop:=if k then h.IsList a xs else h.IsTuple a xs
theorem ItK.up{k:Bool}{h h':Heap}{j a:Addr}{i:Nat}(x:ItK k h j a i)(q:∀ o,h.get? j=some o->h'.get? j=some o):ItK k h' j a i:=by
 cases k<;>exact(let ⟨o,e,r⟩:=x;⟨o,q o e,r⟩)
theorem ItK.ob{k:Bool}{h:Heap}{j a:Addr}{i:Nat}(x:ItK k h j a i):∃ o,h.get? j=some o/\o.data=.fields #[.ref a,.int i 0]:=by
 cases k<;>exact(let ⟨o,e,_,r⟩:=x;⟨o,e,r⟩)
section
variable{P:Program}{w:World}{A:Around}{E:Value->Shared->Prop}{s:Shared}
theorem Ag{j t:Addr}{i:Nat}{its:Array Value}{Q:Value->Shared->Prop}(z:A.handled=none)(c:s.heap.IsTupleIter j t i)(d:s.heap.IsTuple t its)(e:its[i]? =none)
  (q:∀ h' x,Heap.ExtBut j s.heap h'->(∃ o,h'.get? x=some o/\o.cls=.type "StopIteration")->E (.ref x) { s with heap:=h' }):wpAny (model P w) A (Builtin.SmallTypes.nextOf (.ref j)) Q E s:=by
 obtain⟨oj,e1,e2,e3⟩:=id c
 obtain⟨ot,f1,_,n,f2⟩:=d
 unfold Builtin.SmallTypes.nextOf
 refine wpAny_bind (wpAny_callSpecial?_slot (name:=Str.ofString "__next__") c.typeIs F.slot_tuple_iterator_next (wpAny_call_entry F.slot_tuple_iterator_next c.typeIs F.entry_tuple_iterator_next ?_ (F.args_tuple_iterator_next_1 _)))
 show wpAny (model P w) _ (field (.ref j) 0 >>= _) _ _ s
 refine wpAny_bind (wpAny_field e1 e3 (x:=.ref t) rfl ?_)
 show wpAny (model P w) _ (field (.ref j) 1 >>= _) _ _ s
 refine wpAny_bind (wpAny_field e1 e3 (x:=.int i 0) rfl ?_)
 show wpAny (model P w) _ (seqItems? (.ref t) >>= _) _ _ s
 refine wpAny_bind (wpAny_seqItems f1 f2 ?_)
 simp only[Int.toNat_natCast,e]
 refine wpAny_bind (wpAny_rule (wpAny_bind (wpAny_setField e1 e3 (by simp) ?_)))
 show wpAny (model P w) _ (newExc (.type "StopIteration") [] >>= _) _ _ _
 refine wpAny_bind ?_
 simp only[newExc,newTuple]
 refine wpAny_bind (wpAny_newObj_type (wpAny_bind (m:=firstArgMember _ _) (wpAny_of_eq (a:=Value.none) (by first | rfl | (simp only[firstArgMember];rfl)) (wpAny_newObj_type ?_ (by size_fits)))) (by size_fits))
 simp only[raiseNew]
 refine wpAny_bind (wpAny_handled ?_)
 rw[show A.in1.handled=none from z]
 exact wpAny_bind (wpAny_pure (wpAny_throw (q _ _ (((Heap.SameBut.update ..).extBut.push _).push _) ⟨_,Heap.get?_push_size _ rfl,rfl⟩)))
theorem Ah{k:Bool}{j t:Addr}{i:Nat}{its:Array Value}{Q:Value->Shared->Prop}(z:A.handled=none)(c:ItK k s.heap j t i)(d:eJ k s.heap t its)(e:its[i]? =none)
  (q:∀ h' x,Heap.ExtBut j s.heap h'->(∃ o,h'.get? x=some o/\o.cls=.type "StopIteration")->E (.ref x) { s with heap:=h' }):wpAny (model P w) A (Builtin.SmallTypes.nextOf (.ref j)) Q E s:=by
 cases k
 ·exact Ag z c d e q
 ·exact wpAny_nextOf_list_end z c d e q
end
section
variable{P:Program}{w:World}{A:Around}{E:Value->Shared->Prop}{s:Shared}
end
theorem Inv.turnedS{X:Cx}{AA:List (Addr × Obj)}{σ:St}{H:Hp}{s:Shared}{h':Heap}{t':Nat}{fp:List Addr}(I:Inv X AA σ H s)(k:∀ b o,b∉fp->s.heap.get? b=some o->h'.get? b=some o)(hf:∀ b∈fp,FpOk X AA H b):Inv X AA σ H { s with heap:=h',toks:=t' }:=by
 have nit:∀ b u,H b=some u->b∉fp:=λb u e z=>by rw[(hf b z).1]at e;cases e
 refine I.step (g':=s.gens) (d':=s.drawn) (ch:=fp) (λb hb=> ?_) (λb o _ _ hc e _=>k b o hc e) (λb o _ _ hc e _=>⟨o.slots,k b o hc e⟩) (λ_ _ _ _ n=>n)
  (λb o hc e=>⟨o,k b o hc e⟩) (λ_ _ e=>e) (λ_ _ _ e=>e) (λb ps e=>⟨#[],by rw[e];simp⟩) (λm hm=> ?_) (λb u e=> ?_) I.bare
 ·obtain⟨_,f1,_,f3,f4,f5⟩:=hf b hb
  exact⟨f3,f1,f4,f5⟩
 ·obtain⟨o,es,ep,ho,r⟩:=hm
  exact⟨o,es,ep,k _ o (λz=>(hf _ z).2.1 rfl) ho,r⟩
 ·refine(I.hok b u e).stay (λc v hc q=>k c v ?_ q) (λ_ q=>q) λ_ _ q=>q
  rcases hc with z | z
  ·rw[z];exact nit b u e
  ·exact nit c _ z
def T5(K:W.Frag)(k:Bool)(H:Hp)(a:Addr)(xs:List V):Prop:=if k then SqL K H a xs else SqT K H a xs
theorem Inv.seqK{X:Cx}{AA:List (Addr × Obj)}{σ:St}{H:Hp}{s:Shared}{k:Bool}{a:Addr}{xs:List V}(I:Inv X AA σ H s)(q:T5 X.K k H a xs):∃ its,Vals xs its/\eJ k s.heap a its.toArray:=by
 cases k
 ·obtain⟨its,rv,p,_⟩:=I.tuple q
  exact⟨its,rv,p⟩
 ·obtain⟨its,rv,p,_⟩:=I.list q
  exact⟨its,rv,p.isList⟩
theorem Inv.seqK_inj{X:Cx}{AA:List (Addr × Obj)}{σ:St}{H:Hp}{s:Shared}{k:Bool}{a:Addr}{xs ys:List V}(I:Inv X AA σ H s)(p:T5 X.K k H a xs)(q:T5 X.K k H a ys):xs=ys:=by
 cases k
 ·exact I.tuple_inj p q
 ·exact I.list_inj p q
structure zg6(z T U j j':Addr):Prop where
 a1:T≠z
 a2:U≠z
 a3:j≠z
 a4:j'≠z
 a5:T≠U
 a6:T≠j
 a7:T≠j'
 a8:U≠j
 a9:U≠j'
 a10:j≠j'
theorem FpOk.upd{X:Cx}{AA:List (Addr × Obj)}{H:Hp}{a b:Addr}{o:HO}(f:FpOk X AA H b)(n:b≠a):FpOk X AA (upd H a o) b:=⟨(AG n).trans f.1,f.2⟩
section
variable{X:Cx}{tg:Expr}
end
end L2
namespace L2
def NM(z:Str):It:=⟨λi _=>i<z.cps.size,λi H x H'=>H'=H/\∃ c,z.cps[i]? =some c/\x=.str ⟨#[c]⟩,λi _=>z.cps.size<=i⟩
theorem eK{P:Program}{w:World}{K:PySem.W.Frag}{tg:Expr}{it:Addr}{z:Str}{t:Tok}{nm:String}(hn:["enumerate","zip","dict_itemiterator","dict_reverseitemiterator","odict_iterator","itertools.zip_longest","itertools.pairwise"].contains nm=false)
  (W:∀ A:Around,A.handled=none->Walks P w A it [it] [it] z.cps.size (SignAt z) (λi h=>h.IsStrIter it nm z t i)) (sf:∀ (A:Around) (i:Nat) (s:Shared) (Q:Value->Shared->Prop) (E:Value->Shared->Prop),s.heap.IsStrIter it nm z t i->Q (.ref it) s->wpAny (model P w) A (pyIter (.ref it)) Q E s) :
  II P w K tg (NM z) [it] it (λi h=>i<=z.cps.size/\h.IsStrIter it nm z t i) where
 mem:=by simp
 obj:=λi h ⟨_,o,e,c,d⟩ b hb=>by
  have e':b=it:=by simpa using hb
  subst e'
  exact⟨o,e,λv q=>by rw[d]at q;cases q⟩
 keep:=λi h h' ⟨l,o,e,r⟩ k=>⟨l,o,k it (by simp) o e,r⟩
 item:=by
  intro X hP hw hK hc i AA s σ H E I hf ⟨_,st⟩ hg
  subst hP hw hK
  obtain⟨f0,f1,f2,f3,f4,f5⟩:=hf it (by simp)
  refine(W _ (I.ok.hd hc)).item i s _ _ hg st λv h' tk hv st' kk=> ?_
  obtain⟨c,u,hx,rfl⟩:=hv
  have I1:Inv X AA σ H { s with heap:=h',toks:=tk }:=I.turned (λb o hb e=>kk b o (by simpa using hb) e) f0 f1 f3 f4 f5
  obtain⟨o,e,c1,d⟩:=id st'
  exact⟨_,rfl,LM (s:={ s with heap:=h',toks:=tk }) e c1 d hn ⟨.str ⟨#[c]⟩,H,I1,⟨u,rfl⟩,⟨rfl,c,hx,rfl⟩,⟨hg,st'⟩,λb hb=>(hf b hb).1⟩⟩
 done:=by
  intro X hP hw hK hc i AA s σ H E I hf ⟨l,st⟩ hg
  subst hP hw hK
  obtain⟨f0,f1,f2,f3,f4,f5⟩:=hf it (by simp)
  have e:i=z.cps.size:=Nat.le_antisymm l hg
  subst e
  exact(W _ (I.ok.hd hc)).done s _ _ st λh' tk kk=>⟨rfl,I.turned (λb o hb e=>kk b o (by simpa using hb) e) f0 f1 f3 f4 f5⟩
 self:=λA i s Q E st h=>sf A i s Q E st.2 h
theorem eO:∀ bs:List Bool,(List.range bs.length).all (λi=>bs.getD i false)=bs.all id
 | []=>rfl
 | b::t=>by
  have ih:=eO t
  rw[List.length_cons,List.range_succ_eq_map,List.all_cons,List.all_map,List.all_cons,<-ih]
  rfl
def PJ(tl:TE):TI:=λσ H R=>tl σ H λx H1=>∃ z,x=.str z/\R (NM z) H1
section
variable{X:Cx}{tg:Expr}
theorem eP{l:Expr}{tl:TE}(hl:PE X l tl):PI X tg l (PJ tl):=by
 intro AA s σ H R I h
 refine AR (hl AA s σ H _ I h) λv s1 hzz=> ?_
 obtain⟨x,H1,I1,r1,q1⟩:=hzz
 obtain⟨z,rfl,q⟩:=q1
 obtain⟨t,rfl⟩:=r1
 have fp1:∀ b∈[s1.heap.objs.size],FpOk X AA H1 b:=λb hb=>by
  have e:b=s1.heap.objs.size:=by simpa using hb
  subst e
  exact I1.fpOk (Nat.le_refl _) (I1.hok.fresh (Nat.le_refl _))
 cases ha:z.cps.all (· <128)
 ·refine wpAny_pyIter_wide ha ⟨s1.heap.objs.size,[s1.heap.objs.size],_,_,H1,rfl,I1.kept (t':=s1.toks) λb o e=>Heap.get?_push_of_some _ e,eK (nm:="str_iterator") (t:=t) (by decide) (λA hA=>Walks.strWide hA _ z t) (λA i s Q E st h=>wpAny_pyIter_striter_wide st h),⟨Nat.zero_le _,_,Heap.get?_push_size _ rfl,rfl,rfl⟩,fp1,q⟩
 ·refine wpAny_pyIter_ascii ha ⟨s1.heap.objs.size,[s1.heap.objs.size],_,_,H1,rfl,I1.kept (t':=s1.toks) λb o e=>Heap.get?_push_of_some _ e,eK (nm:="str_ascii_iterator") (t:=t) (by decide) (λA hA=>Walks.strAscii hA _ z t) (λA i s Q E st h=>wpAny_pyIter_striter_ascii st h),⟨Nat.zero_le _,_,Heap.get?_push_size _ rfl,rfl,rfl⟩,fp1,q⟩
def PK(K:W.Frag):List V->Hp->VK->Prop:=λxs H Q=>∃ x,xs=[.str x]/\x.length=1/\Q (.int (x.cps.getD 0 0:Nat)) H
theorem Aj:FD X (.builtin "ord") (PK X.K):=uP
def NN(K:W.Frag):List V->Hp->VK->Prop:=λxs H Q=>∃ (p:Addr) (bs:List Bool),xs=[.ref p]/\SqL K H p (bs.map V.bl)/\Q (.bl (bs.all id)) H
theorem T6(hc:X.calm=true):FD X (.builtin "all") (NN X.K):=by
 intro AA s σ H xs us Q I r h
 obtain⟨p,bs,rfl,hp,q⟩:=h
 obtain⟨u,rfl,ru⟩:=HS r
 cases ru
 obtain⟨its,rv,pl,hz⟩:=I.list hp
 have hl:=rv.length
 refine call_all_walk (wpAny_pyIter_list pl.isList ?_)
 have hne:p≠s.heap.objs.size:=by
  obtain⟨o,e,_⟩:=pl.isList
  exact Nat.ne_of_lt (Heap.lt_size e)
 refine⟨s.heap.objs.size,_,_,_,_,_,λi=>bs.getD i false,rfl,Walks.list (show X.A.in1.handled=none from I.ok.hd hc) s.heap.objs.size p hne its.toArray,⟨⟨_,Heap.get?_push_size _ rfl,rfl,rfl⟩,pl.isList.push _⟩,?_,?_⟩
 ·intro i v s' Q' E' hv hq
  have hv:its[i]? =some v:=by simpa using hv
  have hi:=(List.getElem?_eq_some_iff.mp hv).1
  rw[List.length_map]at hl
  obtain⟨b,hb⟩:∃ b,bs[i]? =some b:=⟨_,List.getElem?_eq_getElem (by omega)⟩
  obtain⟨u,hu,ru⟩:=rv.get (i:=i) (x:=V.bl b) (by rw[List.getElem?_map,hb];rfl)
  rw[hv]at hu
  cases hu
  cases (show v=Value.bool b from ru)
  have e:bs.getD i false=b:=by rw[List.getD_eq_getElem?_getD,hb];rfl
  have hq:Q' (bs.getD i false) s':=hq
  rw[e]at hq
  exact wpAny_pure hq
 ·intro h' tk kk
  have e:(List.range its.toArray.size).all (λi=>bs.getD i false)=bs.all id:=by
   rw[List.length_map]at hl
   rw[List.size_toArray,<-hl]
   exact eO bs
  rw[e]
  exact⟨.bl _,H,I.kept (t':=tk) λb o eb=>kk b o (by simpa using Nat.ne_of_lt (Heap.lt_size eb)) (Heap.get?_push_of_some _ eb),rfl,q⟩
end
theorem Ak{K:W.Frag}{x:Str}{H:Hp}{Q:VK}:PK K [.str x] H Q=(x.length=1/\Q (.int (x.cps.getD 0 0:Nat)) H):=by simp[PK]
section
variable{P:Program}{w:World}{A:Around}{E:Value->Shared->Prop}{s:Shared}
end
section
variable{X:Cx}
end
theorem Al{tl:TE}{g:TG}{tt:TT}{te:TE}{k:Nat}{cap:List Nat}{σ:St}{H:Hp}{Q:VK}:EY (PJ tl) g tt te k cap σ H Q=(tl σ H λx H1=>∃ z,x=.str z/\G8 (NM z) g tt te k cap σ H1 Q):=rfl
theorem Am{te:TE}{cap:List Nat}{σ:St}{H:Hp}{Q:VK}{z:Str}(hn:z.cps.size<=sizeLine)(Pv:Nat->List V->Hp->Prop)(h0:Pv 0 [] H)(hs:∀ i c ys H,z.cps[i]? =some c->ys.length=i->Pv i ys H->te (some (.str ⟨#[c]⟩)::D8 cap σ) H λy H2=>Pv (i+1) (ys++[y]) H2)
  (hd:∀ ys H,ys.length=z.cps.size->Pv z.cps.size ys H->∀ p,H p=none->Q (.ref p) (upd H p (.lst ys))):G8 (NM z) (AM 0) DV te 1 cap σ H Q:=by
 refine⟨λi m σ' ys H=>m=z.cps.size - i/\i<=z.cps.size/\ys.length=i/\(∃ x0,σ'=x0::D8 cap σ)/\Pv i ys H,⟨z.cps.size,by simp,Nat.zero_le _,rfl,⟨none,rfl⟩,h0⟩,?_⟩
 rintro i m σ' ys H ⟨rfl,hi,hl,⟨x0,rfl⟩,p⟩
 by_cases BC:i<z.cps.size
 ·refine .inr ⟨BC,by omega,λx H' y=> ?_⟩
  obtain⟨e,c,hc,y⟩:=y
  subst e y
  simp only[AM,DV,if_true]
  refine⟨_,λy H4 q=>⟨z.cps.size - (i+1),by omega,rfl,BC,?_,⟨_,rfl⟩,q⟩,hs i c ys _ hc hl p⟩
  rw[List.length_append,List.length_singleton,hl]
 ·have e:i=z.cps.size:=by omega
  subst e
  exact .inl ⟨Nat.le_refl _,hd ys H hl p⟩
end L2
namespace L2
open PySem
abbrev HX(l:List Nat):Prop:=l.Pairwise (· <·)
theorem NO{l:List Nat}(R:HX l){i k a b:Nat}(h:i<k)(ha:l[i]? =some a)(hb:l[k]? =some b):a<b:=by
 obtain⟨h1,rfl⟩:=List.getElem?_eq_some_iff.mp ha
 obtain⟨h2,rfl⟩:=List.getElem?_eq_some_iff.mp hb
 exact List.pairwise_iff_getElem.mp R i k h1 h2 h
structure Below(xs:Array Nat)(j r:Nat):Prop where
 le:r<=xs.size
 lo:∀ i v,i<r->xs.toList[i]? =some v->v<j
 hi:∀ i v,r<=i->xs.toList[i]? =some v->j<=v
theorem T7{xs:Array Nat}{j:Nat}(R:HX xs.toList):∀ (fuel lo hi:Nat),lo<=hi->hi<=xs.size->hi - lo<=fuel->(∀ i v,i<lo->xs.toList[i]? =some v->v<j)->(∀ i v,hi<=i->xs.toList[i]? =some v->j<=v) →
  Below xs j (SetTable.below.go xs j fuel lo hi)
 | 0,lo,hi,h1,h2,h3,a,b=>by
  have e:lo=hi:=by omega
  subst e
  exact⟨h2,a,b⟩
 | fuel+1,lo,hi,h1,h2,h3,a,b=>by
  unfold SetTable.below.go
  by_cases BC:lo<hi
  ·rw[if_pos BC]
   have hm:(lo+hi) / 2<xs.size:=by omega
   have em:xs.toList[(lo+hi) / 2]? =some (xs[(lo+hi) / 2]):=by simp[hm]
   have ed:xs.getD ((lo+hi) / 2) j=xs[(lo+hi) / 2]:=by simp[hm]
   simp only[ed]
   split
   ·rename_i hv
    refine T7 R fuel _ _ (by omega) h2 (by omega) (λi v hi' e=> ?_) b
    by_cases q:i=(lo+hi) / 2
    ·subst q;rw[em]at e;cases e;exact hv
    ·exact Nat.lt_trans (NO R (show i<(lo+hi) / 2 by omega) e em) hv
   ·rename_i hv
    refine T7 R fuel _ _ (by omega) (by omega) (by omega) a λi v hi' e=> ?_
    by_cases q:i=(lo+hi) / 2
    ·subst q;rw[em]at e;cases e;omega
    ·have:=NO R (show(lo+hi) / 2<i by omega) em e
     omega
  ·rw[if_neg BC]
   have e:lo=hi:=by omega
   subst e
   exact⟨h2,a,b⟩
theorem T8{xs:Array Nat}{j:Nat}(R:HX xs.toList):Below xs j (SetTable.below xs j) :=
 T7 R _ _ _ (Nat.zero_le _) (Nat.le_refl _) (by omega) (λ_ _ h=>absurd h (Nat.not_lt_zero _)) λi v h e=>by
  rw[List.getElem?_eq_none (by simpa using h)]at e;cases e
theorem Below.uniq{xs:Array Nat}{j r r':Nat}(a:Below xs j r)(b:Below xs j r'):r=r':=by
 rcases Nat.lt_trichotomy r r' with h | h | h
 ·have hs:r<xs.size:=Nat.lt_of_lt_of_le h b.le
  have e:xs.toList[r]? =some (xs[r]):=by simp[hs]
  have:=b.lo _ _ h e
  have:=a.hi _ _ (Nat.le_refl _) e
  omega
 ·exact h
 ·have hs:r'<xs.size:=Nat.lt_of_lt_of_le h a.le
  have e:xs.toList[r']? =some (xs[r']):=by simp[hs]
  have:=a.lo _ _ h e
  have:=b.hi _ _ (Nat.le_refl _) e
  omega
def NotIn(t:SetTable)(j:Nat):Prop:=t.place[SetTable.below t.place j]? ≠some j
theorem Ap{t:SetTable}{j:Nat}(h:t.slot j=.empty):NotIn t j:=λe=>by
 unfold SetTable.slot at h
 simp only[e,beq_self_eq_true,if_true]at h
 cases h
theorem Aq{t:SetTable}{j:Nat}(h:t.slot j=.dummy):NotIn t j:=λe=>by
 unfold SetTable.slot at h
 simp only[e,beq_self_eq_true,if_true]at h
 cases h
theorem eQ(t:SetTable)(p:SetTable.Probe):(t.advance p).dummy=p.dummy:=by
 unfold SetTable.advance
 split<;>rfl
theorem T9{t:SetTable}{f:Nat->Int}{h:Int}:∀ (fuel:Nat) (p:SetTable.Probe) (j:Nat) (d:Option Nat),SetTable.probe.go t f h fuel p=some (.empty j d)->(∀ x,p.dummy=some x->NotIn t x)->NotIn t (d.getD j)
 | 0,p,j,d,e,_=>by cases e
 | fuel+1,p,j,d,e,hd=>by
  unfold SetTable.probe.go at e
  split at e
  ·rename_i hs
   cases e
   cases q:p.dummy with
   | none=>exact Ap hs
   | some x=>exact hd x q
  ·rename_i hs
   refine T9 fuel _ j d e λx hx=> ?_
   rw[eQ]at hx
   cases hx
   exact Aq hs
  ·rename_i i hs
   split at e
   ·cases e
   ·exact T9 fuel _ j d e λx hx=>by rw[eQ]at hx;exact hd x hx
theorem Av{t:SetTable}{h:Int}{s:Nat}{b:Bool}(e:t.freeSlot h=some (s,b)):NotIn t s:=by
 unfold SetTable.freeSlot at e
 split at e
 ·rename_i j d hp
  cases e
  refine T9 _ _ _ _ hp λx hx=> ?_
  cases hx
 ·cases e
theorem Aw(n:Nat):HX (Array.range n).toList:=by
 rw[Array.toList_range]
 exact List.pairwise_lt_range
theorem Ax {t:SetTable} {j:Nat} (R:HX t.place.toList) (h:NotIn t j):HX (t.put j).1.place.toList:=by
  have b:=T8 (j:=j) R
  show HX (SetTable.insertAt t.place (SetTable.below t.place j) j).toList
  rw[SetTable.toList_insertAt]
  have hlo:∀ v∈t.place.toList.take (SetTable.below t.place j),v<j:=λv hv=>by
    obtain⟨i,hi,e⟩:=List.getElem_of_mem hv
    have hi':i<SetTable.below t.place j:=by rw[List.length_take]at hi;omega
    refine b.lo i v hi' ?_
    rw[<-e];simp only[List.getElem_take];exact List.getElem?_eq_getElem _
  have hhi:∀ v∈t.place.toList.drop (SetTable.below t.place j),j<v:=λv hv=>by
    obtain⟨i,hi,e⟩:=List.getElem_of_mem hv
    have e2:t.place.toList[SetTable.below t.place j+i]? =some v:=by
      rw[<-List.getElem?_drop,List.getElem?_eq_getElem hi,e]
    have:=b.hi _ _ (Nat.le_add_right _ _) e2
    by_cases q:j=v
    · subst q
      have z:i=0:=by
        by_cases z:i=0
        ·exact z
        · have hl:SetTable.below t.place j<t.place.toList.length:=by
            rw[List.length_drop]at hi;omega
          have e3:=List.getElem?_eq_getElem hl
          have:=NO R (show SetTable.below t.place j<SetTable.below t.place j+i by omega) e3 e2
          have:=b.hi _ _ (Nat.le_refl _) e3
          omega
      subst z
      rw[Nat.add_zero,Array.getElem?_toList]at e2
      exact absurd e2 h
    ·omega
  refine List.pairwise_append.mpr ⟨R.sublist (List.take_sublist ..),List.pairwise_cons.mpr ⟨hhi,R.sublist (List.drop_sublist ..)⟩,λx hx y hy=> ?_⟩
  rcases List.mem_cons.mp hy with rfl | hy
  ·exact hlo x hx
  ·exact Nat.lt_trans (hlo x hx) (hhi y hy)
structure Led(led:Bool)(t:SetTable):Prop where
 rise:HX t.place.toList
 led:t.led=led
theorem Led.standIn{led:Bool}{t:SetTable}(h:t.led=led)(n:Nat):Led led (t.standIn n):=⟨Aw n,h⟩
theorem Led.or{led:Bool}{t:SetTable}(h:Led led t)(n:Nat):Led led (t.orStandIn n):=by
 unfold SetTable.orStandIn
 split
 ·exact h
 ·exact .standIn h.led n
theorem Led.layNew{led:Bool}{t:SetTable}(L:Led led t)(es:Array (Int × Value))(h:Int)(x:Value):Led led (layNew t es h x).2.1:=by
 unfold PySem.layNew
 split
 ·rename_i slot b e
  exact Led.or ⟨Ax L.rise (Av e),L.led⟩ _
 ·exact .standIn L.led _
theorem Ay(owner:Array (Option Nat))(m:Nat):HX (((List.range m).filterMap λj=>(owner.getD j none).map (j,·)).map (·.1)):=by
 rw[List.map_filterMap]
 refine(List.pairwise_lt_range (n:=m)).filterMap _ λa b hab x hx y hy=> ?_
 simp only[Option.mem_def,Option.map_map,Option.map_eq_some_iff,Function.comp_apply]at hx hy
 obtain⟨_,_,rfl⟩:=hx
 obtain⟨_,_,rfl⟩:=hy
 exact hab
theorem Led.relayAll{led:Bool}{t:SetTable}(h:t.led=led)(L:Led led t)(es:Array (Int × Value))(wanted:Nat):Led led (relayAll t es wanted).2.1:=by
 unfold PySem.relayAll
 split
 ·rename_i t' order e
  dsimp only
  split
  ·unfold SetTable.relaid SetTable.laid at e
   simp only[Option.bind_eq_bind,Option.bind_eq_some_iff,Option.pure_def,Option.some.injEq,Prod.mk.injEq]at e
   obtain⟨owner,_,rfl,_⟩:=e
   exact⟨by simpa using Ay owner _,h⟩
  ·exact .standIn h _
 ·exact .standIn h _
theorem Led.plainOff{led:Bool}{t:SetTable}(L:Led led t):Led led { t with plain:=false }:=⟨L.rise,L.led⟩
theorem Led.fresh(led:Bool):Led led (.fresh 0 0 led):=⟨List.Pairwise.nil,rfl⟩
def L5(xs:Array Nat):Nat->Nat
 | 0=>0
 | i+1=>xs.getD i 0+1
theorem Az{xs:Array Nat}(R:HX xs.toList):∀ {i:Nat},i<=xs.size->SetTable.below xs (L5 xs i)=i
 | 0,_=>(T8 R).uniq ⟨Nat.zero_le _,λ_ _ h=>absurd h (Nat.not_lt_zero _),λ_ _ _ _=>Nat.zero_le _⟩
 | i+1,hi=>(T8 R).uniq ⟨hi,λk v hk e=>by
   have hi':i<xs.size:=by omega
   have ei:xs.toList[i]? =some xs[i]:=by simp[hi']
   have ed:xs.getD i 0=xs[i]:=by simp[hi']
   show v<xs.getD i 0+1
   rw[ed]
   by_cases q:k=i
   ·subst q;rw[ei]at e;cases e;omega
   ·have:=NO R (show k<i by omega) e ei
    omega,λk v hk e=>by
   have hi':i<xs.size:=by omega
   have ei:xs.toList[i]? =some xs[i]:=by simp[hi']
   have ed:xs.getD i 0=xs[i]:=by simp[hi']
   show xs.getD i 0+1<=v
   rw[ed]
   exact NO R (show i<k by omega) ei e⟩
theorem eU{α :Type}(next:Nat->Nat):∀ (fuel k:Nat) (left:List α) (out:Array α),left.length=fuel->List.Perm (pickOrder.go next fuel k left out).toList (out.toList++left)
 | 0,k,left,out,h=>by
  rw[List.length_eq_zero_iff.mp h]
  unfold pickOrder.go
  simp
 | fuel+1,k,left,out,h=>by
  unfold pickOrder.go
  have hl:next k % left.length<left.length:=Nat.mod_lt _ (by omega)
  rw[List.getElem?_eq_getElem hl]
  dsimp only
  refine(eU next fuel (k+1) _ _ (by rw[List.length_eraseIdx_of_lt hl];omega)).trans ?_
  rw[Array.toList_push,List.append_assoc]
  refine List.Perm.append_left _ ?_
  rw[List.eraseIdx_eq_take_drop_succ]
  show List.Perm (left[next k % left.length]::(left.take (next k % left.length)++left.drop (next k % left.length+1))) left
  refine List.perm_middle.symm.trans ?_
  rw[<-List.drop_eq_getElem_cons hl,List.take_append_drop]
theorem Bb{α :Type}(next:Nat->Nat)(xs:Array α):List.Perm (pickOrder next xs).toList xs.toList:=by
 have:=eU next xs.size 0 xs.toList #[] (by simp)
 simpa [pickOrder]using this
end L2
namespace L2
open PySem PyProof.Rows
def K5(w:World):Bool:= !w.params.followText "set-order"
def iv:Value->Int
 | .int n _=>n
 | _=>0
def IntSet(P:Program)(w:World)(h:Heap)(a:Addr)(ms:List Int):Prop :=
 ∃ (o:Obj) (es:Array (Int × Value)) (ep:Nat) (t:SetTable),h.get? a=some o/\o.ExactSet/\o.data=.set es ep t/\ElemsOf (intKind P w) es.toList ∧
  List.Perm (es.toList.map λe=>iv e.2) ms/\es.size<scanBound/\t.fits es.size=true/\Led (K5 w) t
section
variable{P:Program}{w:World}{A:Around}{E:Value->Shared->Prop}{s:Shared}
theorem UA{es:List (Int × Value)}(h:ElemsOf (intKind P w) es){e:Int × Value}(he:e∈es):∃ t,e.2=.int (iv e.2) t:=by
 obtain⟨⟨k,hk,_⟩,_⟩:=h e he
 obtain⟨t,z⟩:=Value.isInt_shape hk
 exact⟨t,by rw[z];rfl⟩
theorem eV{es:List (Int × Value)}(h:ElemsOf (intKind P w) es){e:Int × Value}(he:e∈es){k:Int}:(intKind P w).is k e.2=true↔iv e.2=k:=by
 obtain⟨t,z⟩:=UA h he
 rw[z]
 refine⟨λq=> ?_,λq=> ?_⟩
 ·have q':Value.isInt k (.int (iv e.2) t)=true:=q
  obtain⟨t',z'⟩:=Value.isInt_shape q'
  cases z';rfl
 ·rw[<-q];exact intKind_is ..
theorem eY{es:List (Int × Value)}{ms:List Int}(h:ElemsOf (intKind P w) es)(p:List.Perm (es.map λe=>iv e.2) ms)(k:Int):k∈ms↔∃ e∈es,(intKind P w).is k e.2=true:=by
 rw[<-p.mem_iff,List.mem_map]
 exact⟨λ⟨e,he,q⟩=>⟨e,he,(eV h he).mpr q⟩,λ⟨e,he,q⟩=>⟨e,he,(eV h he).mp q⟩⟩
theorem eZ{h:Heap}{a:Addr}{o:Obj}{es es':Array (Int × Value)}{ep:Nat}{t t':SetTable}{ms:List Int}(ho:h.get? a=some o)(hex:o.ExactSet)(hd:o.data=.set es ep t)
  (hel:ElemsOf (intKind P w) es'.toList) (hp:List.Perm (es'.toList.map λe=>iv e.2) ms) (hb:es'.size<scanBound) (hf:t'.fits es'.size=true) (L:Led (K5 w) t') :
  (h.update a (Obj.putSet es' t')).get? a=some { o with data:=.set es' (ep+1) t' }/\IntSet P w (h.update a (Obj.putSet es' t')) a ms:=by
 have g:=(SetOf_store (knd:=intKind P w) (S':=λk=>es'.toList.any λe=>(intKind P w).is k e.2) ho hex hd hel (λk=>by rw[List.any_eq_true]) hb hf).1
 exact⟨g,_,es',ep+1,t',g,hex,rfl,hel,hp,hb,hf,L⟩
theorem fA{g:Bool->Sem Unit}(hg:∀ (b:Bool) (s1:Shared) (R:Unit->Shared->Prop),R () s1->wpAny (model P w) A (g b) R E s1){a:Addr}{o:Obj}{es e1:Array (Int × Value)}{ep:Nat}{t t1:SetTable}{ms:List Int}{wd:Bool}
  (ho:s.heap.get? a=some o) (hex:o.ExactSet) (hd:o.data=.set es ep t) (hel:ElemsOf (intKind P w) e1.toList) (hp:List.Perm (e1.toList.map λe=>iv e.2) ms) (hb:e1.size<scanBound) (hf:t1.fits e1.size=true) (L:Led (K5 w) t1)
  {R:Option Bool->Shared->Prop} (h:∀ h',Heap.SameBut a s.heap h'->IntSet P w h' a ms->R (some true) { s with heap:=h' }) :
  wpAny (model P w) A (do
   storeSet a e1 t1
   if(!wd && t1.tooFull)=true then do
    g (relayAll t1 e1 (SetTable.grown e1.size)).2.2
    storeSet a (relayAll t1 e1 (SetTable.grown e1.size)).1 (relayAll t1 e1 (SetTable.grown e1.size)).2.1
    pure (some true)
   else pure (some true)) R E s:=by
 refine wpAny_bind (wpAny_storeSet_of ho hd ?_ (fits_of_scanBound hb))
 obtain⟨g1,S1⟩:=eZ ho hex hd hel hp hb hf L
 have sb1:=Heap.SameBut.update s.heap a (Obj.putSet e1 t1)
 split
 ·have p2:=relayAll_perm t1 e1 (SetTable.grown e1.size)
  have f2:=relayAll_fits t1 e1 (SetTable.grown e1.size)
  have L2:=Led.relayAll L.led L e1 (SetTable.grown e1.size)
  revert p2 f2 L2
  generalize relayAll t1 e1 (SetTable.grown e1.size)=r
  obtain⟨e2,t2,gv⟩:=r
  intro p2 f2 L2
  dsimp only at p2 f2 L2 ⊢
  have z2:e2.size=e1.size:=by rw[<-Array.length_toList,p2.length_eq,Array.length_toList]
  have b2:e2.size<scanBound:=z2 ▸ hb
  refine wpAny_bind (hg _ _ _ ?_)
  refine wpAny_bind (wpAny_storeSet_of g1 rfl ?_ (fits_of_scanBound b2))
  obtain⟨_,S2⟩:=eZ (P:=P) (w:=w) g1 hex rfl (hel.perm p2) ((p2.map _).trans hp) b2 f2 L2
  exact wpAny_pure (h _ (sb1.trans (Heap.SameBut.update ..)) S2)
 ·exact wpAny_pure (h _ sb1 S1)
theorem fB{ms:List Int}{k:Int}(h:k∈ms):step_dedup ms k=ms:=by
 unfold step_dedup
 have e:(ms.any λx=>x == k)=true:=List.any_eq_true.mpr ⟨k,h,beq_self_eq_true k⟩
 rw[if_pos e]
theorem fC{ms:List Int}{k:Int}(h:¬ k∈ms):step_dedup ms k=ms++[k]:=by
 unfold step_dedup
 rw[if_neg λz=> ?_]
 obtain⟨x,hx,q⟩:=List.any_eq_true.mp z
 rw[beq_iff_eq]at q
 exact h (q ▸ hx)
theorem Bc{a:Addr}{ms:List Int}{k:Int}{tk:Tok}{Q:Bool->Shared->Prop}(hS:IntSet P w s.heap a ms)(hr:ms.length+1<scanBound)
    (h:∀ (b:Bool) h',Heap.SameBut a s.heap h'->IntSet P w h' a (step_dedup ms k)->Q b { s with heap:=h' }):wpAny (model P w) A (setAddHashed a (.int k tk) ((intKind P w).hash k)) Q E s:=by
  have hk:(intKind P w).is k (.int k tk)=true:=intKind_is ..
  have hsc:(Value.int k tk).scannable=true:=rfl
  generalize Value.int k tk=x at hk hsc
  obtain⟨o,es,ep,t,ho,hex,hd,hel,hp,hb,hf,L⟩:=hS
  have BV:es.size=ms.length:=by rw[<-hp.length_eq,List.length_map,Array.length_toList]
  have hivx:iv x=k:=by obtain⟨_,z⟩:=Value.isInt_shape hk;rw[z];rfl
  unfold setAddHashed setAddHashedIn
  refine wpAny_holding (wpAny_bind (wpAny_setState_of ho hd hf ?_))
  dsimp only
  rw[byScan_of hsc hb hel,if_pos rfl]
  unfold setAddByScan
  refine wpAny_bind (wpAny_bind (wpAny_rule (wpAny_bind (wpAny_setScan_of hk ho hd hf hel ?_))))
  cases hx:es.toList.findIdx? (λe=>(intKind P w).is k e.2)with
  | some j =>
    dsimp only
    obtain⟨hj,pj,_⟩:=List.findIdx?_eq_some_iff_getElem.mp hx
    have hm:k∈ms:=(eY hel hp k).mpr ⟨_,List.getElem_mem hj,pj⟩
    refine wpAny_pure (wpAny_pure ?_)
    have:=h false s.heap (Heap.SameBut.refl a s.heap) ⟨o,es,ep,t,ho,hex,hd,hel,by rw[fB hm];exact hp,hb,hf,L⟩
    exact this
  | none =>
    dsimp only
    have hm:¬ k∈ms:=λz=>by
      obtain⟨e,he,q⟩:=(eY hel hp k).mp z
      have:=List.findIdx?_eq_none_iff.mp hx e he
      rw[q]at this;cases this
    have p1:=layNew_perm t es ((intKind P w).hash k) x
    have f1:=layNew_fits t es ((intKind P w).hash k) x
    have L1:=L.layNew es ((intKind P w).hash k) x
    revert p1 f1 L1
    generalize layNew t es ((intKind P w).hash k) x=r
    obtain⟨e1,t1,wd,gv⟩:=r
    intro p1 f1 L1
    dsimp only at p1 f1 L1 ⊢
    rw[Array.toList_push]at p1
    have hel1:ElemsOf (intKind P w) e1.toList:=(hel.push hk hsc).perm p1
    have MY:List.Perm (e1.toList.map λe=>iv e.2) (step_dedup ms k):=by
      rw[fC hm]
      refine(p1.map _).trans ?_
      rw[List.map_append,List.map_cons,List.map_nil,hivx]
      exact List.Perm.append_right _ hp
    have hb1:e1.size<scanBound:=by
      rw[<-Array.length_toList,p1.length_eq,List.length_append,Array.length_toList,BV]
      exact hr
    have gw:∀ (b:Bool) (s1:Shared) (R:Unit->Shared->Prop),R () s1 →
        wpAny (model P w) A (match b with
          | true=>rule "set.scan.the-table-gave-way"
          | false=>pure ()) R E s1:=λb s1 R q=>by
      cases b
      ·exact wpAny_pure q
      ·exact wpAny_rule q
    refine wpAny_bind (gw _ _ _ ?_)
    split
    · refine wpAny_bind ?_
      rw[hashByValue_scannable 8 hsc]
      refine wpAny_pure (fA ?_ ho hex hd hel1 MY hb1 ?_ ?_ λh' sb S'=> ?_)
      · intro b s1 R q
        cases b
        ·exact wpAny_pure q
        ·exact wpAny_rule q
      · split
        ·exact f1
        ·exact SetTable.fits_plain_off f1
      · split
        ·exact L1
        ·exact L1.plainOff
      ·dsimp only;exact wpAny_pure (h _ h' sb S')
    · refine wpAny_bind (wpAny_pure ?_)
      rw[if_pos rfl]
      refine fA ?_ ho hex hd hel1 MY hb1 f1 L1 λh' sb S'=> ?_
      · intro b s1 R q
        cases b
        ·exact wpAny_pure q
        ·exact wpAny_rule q
      ·dsimp only;exact wpAny_pure (h _ h' sb S')
theorem IntSet.at{h h':Heap}{a:Addr}{ms:List Int}(x:IntSet P w h a ms)(k:∀ o,h.get? a=some o->h'.get? a=some o):IntSet P w h' a ms:=by
 obtain⟨o,es,ep,t,ho,r⟩:=x
 exact⟨o,es,ep,t,k _ ho,r⟩
end
section
variable{P:Program}{w:World}{A:Around}{R:Result->Shared->Prop}{I:Addr}{fp wr:List Addr}{G:Array GenState->Array GenState->Prop}{n:Nat}{T:Nat->Value->Prop}{St:Nat->Shared->Prop}
theorem Bd(W:WalksS P w A.in1 I fp wr G n T St)(a:Addr)(ha:a∉fp)(val:Nat->Int)(hv:∀ i v,T i v->∃ t,v=.int (val i) t)(hb:n+1<scanBound):∀ (k i:Nat) (s:Shared),n - i=k->i<=n->St i s →
  IntSet P w s.heap a (firstMet val i)->(∀ s',Moved (a::wr) G s s'->IntSet P w s'.heap a (firstMet val n)->R (.ok (.ret .none)) s') →
  codeAny (model P w) A (.builtin "set.update.loop" ⟨[.ref a,.ref I],[]⟩) R s:=by
 have haw:a∉wr:=λz=>ha (W.sub _ z)
 have up:∀ b∈wr,b∈a::wr:=λb q=>List.mem_cons_of_mem _ q
 intro k
 induction k with
 | zero =>
  intro i s e1 e2 st S q
  obtain rfl:i=n:=by omega
  refine codeAny_builtin PyProof.Rows.F.entry_set_update_loop ?_
  rw[Around.under_plainId PyProof.Rows.F.plain_set_update_loop _]
  show wpAny _ A.in1 (pyNext (.ref I) >>= _) _ _ s
  refine wpAny_bind (W.done s _ _ st λs' m=> ?_)
  show wpAny _ A.in1 (ret Value.none) _ _ s'
  exact wpAny_pure (q s' (m.mono up) (S.at λo e=>m.heap a o haw e))
 | succ k ih =>
  intro i s e1 e2 st S q
  have hi:i<n:=by omega
  refine codeAny_builtin PyProof.Rows.F.entry_set_update_loop ?_
  rw[Around.under_plainId PyProof.Rows.F.plain_set_update_loop _]
  show wpAny _ A.in1 (pyNext (.ref I) >>= _) _ _ s
  refine wpAny_bind (W.item i s _ _ hi st λv s1 tv st1 m=> ?_)
  obtain⟨t,rfl⟩:=hv i v tv
  have S1:=S.at λo e=>m.heap a o haw e
  show wpAny _ A.in1 (holding [Value.int (val i) t] (setAdd a (.int (val i) t)) >>= _) _ _ s1
  refine wpAny_bind (wpAny_holding ?_)
  unfold setAdd
  refine wpAny_holding (wpAny_bind ((intKind P w).pyHash (k:=val i) (intKind_is ..) ?_))
  refine Bc (s:={ s1 with toks:=s1.toks+1 }) S1 (by have:=firstMet_length_le val i;omega) λb h' sb S2=> ?_
  rw[<-firstMet_succ]at S2
  refine wpAny_pure ⟨plainId_quiet PyProof.Rows.F.plain_set_update_loop _,ih (i+1) _ (by omega) hi (W.frame _ s1 _ _ st1 (Nat.le_succ _) λb hb o e=> ?_) S2 λs2 m2 S3=> ?_⟩
  ·rw[sb.2 b λz:b=a=>ha (z ▸ hb)];exact e
  ·refine q s2 (Moved.trans W.gtrans ((m.mono up).then_heap (Nat.le_succ _) λb o hb e=> ?_) m2) S3
   rw[sb.2 b λz:b=a=>hb (z ▸ List.mem_cons_self)];exact e
end
section
variable{P:Program}{w:World}{A:Around}{E:Value->Shared->Prop}{s:Shared}
theorem Bg{x:Value}{Q:Value->Shared->Prop}(h:Q (.ref s.heap.objs.size) { s with heap:=s.heap.push { cls:=.type "set",dict:=none,data:=.set #[] 0 (.fresh 0 0 (K5 w)) } }) :
  codeAny (model P w) A (.call (.builtin "set.__new__") ⟨[.type "set",x],[]⟩) (wants Q E) s:=by
 refine codeAny_of_tree ?_
 show wpAny _ A.in1 (checkBuiltinCall "set.__new__" ⟨[.type "set",x],[]⟩ >>= λ_=>again (.builtin "set.__new__" ⟨[.type "set",x],[]⟩)) _ _ s
 refine wpAny_bind (wpAny_of_eq (PySem.F.newCall_set_1 x) (wpAny_pure ⟨plainId_quiet PySem.F.plain_set_new _,codeAny_builtin PySem.F.entry_set_new ?_⟩))
 rw[Around.under_plainId PySem.F.plain_set_new _]
 unfold Builtin.«set.__new__» Builtin.Frozenset.newClass
 have e:=sub_set_self
 obtain⟨hp,g,d,tk,os⟩:=s
 dsimp only
 wp_walk
 refine wpAny_askSetting (wpAny_pure ?_)
 dsimp only
 simp only[newObj]
 exact wpAny_bind (wpAny_alloc (wpAny_pure (wpAny_pure h)))
end
end L2
namespace L2
open PySem PyProof.Rows
abbrev G9(f:Value)(i:Nat)(a:Addr)(n ep:Nat):Obj:={ cls:=.type "set_iterator",dict:=none,data:=.fields #[f,rawInt i,.ref a,rawInt n,rawInt ep],slots:= #[] }
theorem HA:Slot "set_iterator" "__next__" "set_iterator.__next__" :=
 .of (owner:="set_iterator") (n:="__next__") (by rw[typeLookup_type,builtinLookup_eq_fast];kernel_rfl) (by decide +kernel) (by decide +kernel) (by decide +kernel)
  (by first | exact .inl (by decide +kernel) | exact .inr (by decide +kernel))
  (by rw[isSubtype_type];kernel_rfl)
theorem PL:entryFor table "set_iterator.__next__"=some Builtin.«set_iterator.__next__» :=entryFor_of_fast (by kernel_rfl)
theorem PM(a:Value):argsOk "set_iterator.__next__" ⟨[a],[]⟩:=by
 unfold argsOk
 kernel_rfl
theorem fD:Slot "set_iterator" "__iter__" "set_iterator.__iter__" :=
 .of (owner:="set_iterator") (n:="__iter__") (by rw[typeLookup_type,builtinLookup_eq_fast];kernel_rfl) (by decide +kernel) (by decide +kernel) (by decide +kernel)
  (by first | exact .inl (by decide +kernel) | exact .inr (by decide +kernel))
  (by rw[isSubtype_type];kernel_rfl)
section
variable{P:Program}{w:World}{A:Around}{E:Value->Shared->Prop}{s:Shared}
theorem Bh{it a:Addr}{sl i n ep nx:Nat}{x:Value}{o:Obj}{es:Array (Int × Value)}{ep':Nat}{t:SetTable}{Q:Option Value->Shared->Prop}(hit:s.heap.get? it=some (G9 (rawInt sl) i a n ep))
  (ho:s.heap.get? a=some o) (hd:o.data=.set es ep' t) (hf:t.fits es.size=true) (hn:es.size=n)
  (hs:∀ (A':Around) (E':Value->Shared->Prop) (Q':Option (Value × Nat)->Shared->Prop),Q' (some (x,nx)) s->wpAny (model P w) A' (setNext a sl i ep) Q' E' s)
  (q:∀ h',h'.get? it=some (G9 (rawInt nx) (i+1) a n ep)->Heap.SameBut it s.heap h'->Q (some x) { s with heap:=h' }):wpAny (model P w) A (pyNext (.ref it)) Q E s:=by
 have T:s.TypeIs (.ref it) "set_iterator":=⟨_,hit,rfl⟩
 unfold pyNext
 refine wpAny_bind (wpAny_attempt (wpAny_callSpecial?_slot (name:=Str.ofString "__next__") T HA (wpAny_call_entry HA T PL ?_ (PM _))))
 unfold Builtin.«set_iterator.__next__»
 refine wpAny_bind (wpAny_pure ?_)
 refine wpAny_bind (wpAny_fieldsOf hit rfl ?_)
 show wpAny _ _ (setEntries a >>= _) _ _ s
 refine wpAny_bind (wpAny_setEntries_of ho hd hf ?_)
 rw[if_neg (by rw[hn];simp)]
 show wpAny _ _ (setNext a (sl:Int).toNat (i:Int).toNat (ep:Int).toNat >>= _) _ _ s
 rw[Int.toNat_natCast,Int.toNat_natCast,Int.toNat_natCast]
 refine wpAny_bind (hs _ _ _ ?_)
 dsimp only
 refine wpAny_bind (wpAny_setField_rec hit (by simp) λh1 g1 b1=> ?_)
 refine wpAny_bind (wpAny_setField_rec g1 (by simp) λh2 g2 b2=> ?_)
 exact wpAny_pure ⟨_,rfl,wpAny_pure (q h2 g2 (b1.trans b2))⟩
theorem fE{it:Addr}{h1:Heap}{Q:Except Value (Option Value)->Shared->Prop}(hh:A.handled=none)(hx:Heap.ExtBut it s.heap h1)
  (q:∀ h' e,Heap.ExtBut it s.heap h'->({ s with heap:=h' }:Shared).TypeIs e "StopIteration"->Q (.error e) { s with heap:=h' }) :
  wpAny (model P w) A (newExc (.type "StopIteration") [] >>= raiseNew (α :=Fin)) (λ_ _=>False) (λe=>Q (.error e)) { s with heap:=h1 }:=by
 refine wpAny_bind ?_
 simp only[newExc,newTuple]
 refine wpAny_bind (wpAny_newObj_type ?_ (by size_fits))
 refine wpAny_bind (m:=firstArgMember _ _) (wpAny_of_eq (a:=Value.none) (by first | rfl | (simp only[firstArgMember];rfl)) ?_)
 refine wpAny_newObj_type ?_ (by size_fits)
 simp only[raiseNew]
 refine wpAny_bind (wpAny_handled ?_)
 rw[hh]
 refine wpAny_bind (wpAny_pure (wpAny_throw ?_))
 exact q _ _ ((hx.push _).push _) ⟨_,Heap.get?_push_size _ rfl,rfl⟩
theorem Bj{it a:Addr}{sl i n ep:Nat}{o:Obj}{es:Array (Int × Value)}{ep':Nat}{t:SetTable}{Q:Option Value->Shared->Prop}(hh:A.handled=none)(hit:s.heap.get? it=some (G9 (rawInt sl) i a n ep))
  (ho:s.heap.get? a=some o) (hd:o.data=.set es ep' t) (hf:t.fits es.size=true) (hn:es.size=n)
  (hs:∀ (A':Around) (E':Value->Shared->Prop) (Q':Option (Value × Nat)->Shared->Prop),Q' none s->wpAny (model P w) A' (setNext a sl i ep) Q' E' s)
  (q:∀ h',Heap.ExtBut it s.heap h'->Q none { s with heap:=h' }):wpAny (model P w) A (pyNext (.ref it)) Q E s:=by
 have T:s.TypeIs (.ref it) "set_iterator":=⟨_,hit,rfl⟩
 unfold pyNext
 refine wpAny_bind (wpAny_attempt (wpAny_callSpecial?_slot (name:=Str.ofString "__next__") T HA (wpAny_call_entry HA T PL ?_ (PM _))))
 unfold Builtin.«set_iterator.__next__»
 refine wpAny_bind (wpAny_pure ?_)
 refine wpAny_bind (wpAny_fieldsOf hit rfl ?_)
 show wpAny _ _ (setEntries a >>= _) _ _ s
 refine wpAny_bind (wpAny_setEntries_of ho hd hf ?_)
 rw[if_neg (by rw[hn];simp)]
 show wpAny _ _ (setNext a (sl:Int).toNat (i:Int).toNat (ep:Int).toNat >>= _) _ _ s
 rw[Int.toNat_natCast,Int.toNat_natCast,Int.toNat_natCast]
 refine wpAny_bind (hs _ _ _ ?_)
 dsimp only
 refine wpAny_bind (wpAny_setField_rec hit (by simp) λh1 g1 b1=> ?_)
 refine wpAny_mono (fE (s:=s) (it:=it) (A:=A.in1) (Q:=λr s'=>match r with
  | .error e=>wpAny (model P w) A (isInstance e (.type "StopIteration") >>= λb=>if b=true then pure none else throw e) Q E s'
  | _=>False) (by simpa using hh) b1.extBut λh' e hx te=> ?_) (λ_ _ z=>z.elim) (λe s' z=>z)
 refine wpAny_bind (wpAny_isInstance (T:="StopIteration") (b:=true) te isSubtype_stop ?_)
 exact wpAny_pure (q _ hx)
theorem Bk{it a tp:Addr}{i n ep pl:Nat}{ot:Obj}{ps:Array Value}{k:Nat}{x:Int × Value}{o:Obj}{es:Array (Int × Value)}{t:SetTable}{Q:Option Value->Shared->Prop}(hit:s.heap.get? it=some (G9 (.ref tp) i a n ep))
  (ho:s.heap.get? a=some o) (hd:o.data=.set es ep t) (hf:t.fits es.size=true) (hn:es.size=n) (ht:s.heap.get? tp=some ot) (hdt:ot.data=.seq ps k) (hp:ps[i]? =some (rawInt pl)) (hx:es[pl]? =some x)
  (q:∀ h',h'.get? it=some (G9 (.ref tp) (i+1) a n ep)->Heap.SameBut it s.heap h'->Q (some x.2) { s with heap:=h' }):wpAny (model P w) A (pyNext (.ref it)) Q E s:=by
 have T:s.TypeIs (.ref it) "set_iterator":=⟨_,hit,rfl⟩
 unfold pyNext
 refine wpAny_bind (wpAny_attempt (wpAny_callSpecial?_slot (name:=Str.ofString "__next__") T HA (wpAny_call_entry HA T PL ?_ (PM _))))
 unfold Builtin.«set_iterator.__next__»
 refine wpAny_bind (wpAny_pure ?_)
 refine wpAny_bind (wpAny_fieldsOf hit rfl ?_)
 show wpAny _ _ (setEntries a >>= _) _ _ s
 refine wpAny_bind (wpAny_setEntries_of ho hd hf ?_)
 rw[if_neg (by rw[hn];simp)]
 show wpAny _ _ (seqItems? (.ref tp) >>= _) _ _ s
 refine wpAny_bind (wpAny_seqItems ht hdt ?_)
 dsimp only
 rw[Int.toNat_natCast,hp]
 show wpAny _ _ (setNextDrawn a (pl:Int).toNat (ep:Int).toNat >>= _) _ _ s
 rw[Int.toNat_natCast,Int.toNat_natCast]
 unfold setNextDrawn
 refine wpAny_bind (wpAny_bind (wpAny_setState_of ho hd hf ?_))
 dsimp only
 rw[if_neg (by simp)]
 obtain⟨x1,x2⟩:=x
 rw[hx]
 refine wpAny_pure ?_
 refine wpAny_bind (wpAny_setField_rec hit (by simp) λh2 g2 b2=> ?_)
 exact wpAny_pure ⟨_,rfl,wpAny_pure (q h2 g2 b2)⟩
theorem Bl{it a tp:Addr}{i n ep:Nat}{ot:Obj}{ps:Array Value}{k:Nat}{o:Obj}{es:Array (Int × Value)}{t:SetTable}{Q:Option Value->Shared->Prop}(hh:A.handled=none)(hit:s.heap.get? it=some (G9 (.ref tp) i a n ep))
  (ho:s.heap.get? a=some o) (hd:o.data=.set es ep t) (hf:t.fits es.size=true) (hn:es.size=n) (ht:s.heap.get? tp=some ot) (hdt:ot.data=.seq ps k) (hp:ps[i]? =none)
  (q:∀ h',Heap.ExtBut it s.heap h'->Q none { s with heap:=h' }):wpAny (model P w) A (pyNext (.ref it)) Q E s:=by
 have T:s.TypeIs (.ref it) "set_iterator":=⟨_,hit,rfl⟩
 unfold pyNext
 refine wpAny_bind (wpAny_attempt (wpAny_callSpecial?_slot (name:=Str.ofString "__next__") T HA (wpAny_call_entry HA T PL ?_ (PM _))))
 unfold Builtin.«set_iterator.__next__»
 refine wpAny_bind (wpAny_pure ?_)
 refine wpAny_bind (wpAny_fieldsOf hit rfl ?_)
 show wpAny _ _ (setEntries a >>= _) _ _ s
 refine wpAny_bind (wpAny_setEntries_of ho hd hf ?_)
 rw[if_neg (by rw[hn];simp)]
 show wpAny _ _ (seqItems? (.ref tp) >>= _) _ _ s
 refine wpAny_bind (wpAny_seqItems ht hdt ?_)
 dsimp only
 rw[Int.toNat_natCast,hp]
 dsimp only
 refine wpAny_bind (wpAny_setField_rec hit (by simp) λh1 g1 b1=> ?_)
 refine wpAny_bind (wpAny_setField_rec g1 (by simp) λh2 g2 b2=> ?_)
 refine wpAny_mono (fE (s:=s) (it:=it) (A:=A.in1) (Q:=λr s'=>match r with
  | .error e=>wpAny (model P w) A (isInstance e (.type "StopIteration") >>= λb=>if b=true then pure none else throw e) Q E s'
  | _=>False) (by simpa using hh) (b1.trans b2).extBut λh' e hx te=> ?_) (λ_ _ z=>z.elim) (λe s' z=>z)
 refine wpAny_bind (wpAny_isInstance (T:="StopIteration") (b:=true) te isSubtype_stop ?_)
 exact wpAny_pure (q _ hx)
theorem Bm{a:Addr}{o:Obj}{es:Array (Int × Value)}{ep:Nat}{t:SetTable}{i:Nat}{Q:Option (Value × Nat)->Shared->Prop}(ft:w.params.followText "set-order"=true)(ho:s.heap.get? a=some o)(hd:o.data=.set es ep t)(hf:t.fits es.size=true)
  (q:Q (((pickOrder (w.params.setOrder a ep) es)[i]?).map λe=>(e.2,0)) s):wpAny (model P w) A (setNext a 0 i ep) Q E s:=by
 unfold setNext
 refine wpAny_bind (wpAny_setState_of ho hd hf ?_)
 dsimp only
 refine wpAny_bind ?_
 unfold setsByText
 refine wpAny_bind (wpAny_askSetting (wpAny_pure ?_))
 show wpAny _ _ (if w.params.followText "set-order"=true then _ else _) _ _ s
 rw[if_pos ft,if_neg (by simp)]
 refine wpAny_bind ?_
 unfold setWalk
 refine wpAny_bind (wpAny_setState_of ho hd hf ?_)
 dsimp only
 refine wpAny_bind ?_
 unfold setsByText
 refine wpAny_bind (wpAny_askSetting (wpAny_pure ?_))
 show wpAny _ _ (if w.params.followText "set-order"=true then _ else _) _ _ s
 rw[if_pos ft]
 refine wpAny_bind (wpAny_askSetting (wpAny_pure ?_))
 exact wpAny_pure q
theorem Bp{a:Addr}{o:Obj}{es:Array (Int × Value)}{ep:Nat}{t:SetTable}{i:Nat}{Q:Option (Value × Nat)->Shared->Prop}(ft:w.params.followText "set-order"=false)(ho:s.heap.get? a=some o)(hd:o.data=.set es ep t)(hf:t.fits es.size=true)
  (L:Led (K5 w) t) (pl:(!t.plain && decide (es.size > 1))=false) (hi:i<=es.size) (q:Q ((es[i]?).map λe=>(e.2,L5 t.place (i+1))) s):wpAny (model P w) A (setNext a (L5 t.place i) i ep) Q E s:=by
 have hz:t.place.size=es.size:=by
  unfold SetTable.fits at hf
  simp only[Bool.and_eq_true,beq_iff_eq]at hf
  exact hf.1
 unfold setNext
 refine wpAny_bind (wpAny_setState_of ho hd hf ?_)
 dsimp only
 refine wpAny_bind ?_
 unfold setsByText
 refine wpAny_bind (wpAny_askSetting (wpAny_pure ?_))
 show wpAny _ _ (if w.params.followText "set-order"=true then _ else _) _ _ s
 rw[if_neg (show ¬ w.params.followText "set-order"=true by rw[ft];exact Bool.false_ne_true)]
 have ld:t.led=true:=by rw[L.led];unfold K5;rw[ft];rfl
 show wpAny _ _ (if(!t.plain && decide (es.size > 1))=true then _ else _) _ _ s
 rw[if_neg (by rw[pl];exact Bool.false_ne_true)]
 refine wpAny_bind (m:=if(!t.led && !es.isEmpty)=true then _ else _) ?_
 rw[if_neg (by rw[ld];simp)]
 refine wpAny_pure (wpAny_pure ?_)
 rw[Az L.rise (by omega)]
 by_cases BC:i<es.size
 ·have h2:i<t.place.size:=by omega
  rw[Array.getElem?_eq_getElem BC,Array.getElem?_eq_getElem h2]
  rw[Array.getElem?_eq_getElem BC]at q
  have:L5 t.place (i+1)=t.place[i]+1:=by simp[L5,h2]
  rw[Option.map_some,this]at q
  exact q
 ·rw[Array.getElem?_eq_none (by omega)]
  rw[Array.getElem?_eq_none (by omega),Option.map_none]at q
  exact q
end
end L2
namespace L2
open PySem PyProof.Rows
theorem Bq:entryFor table "set.__iter__"=some Builtin.«frozenset.__iter__» :=entryFor_alias (id':="frozenset.__iter__") (by kernel_rfl) rfl (by decide +kernel) (by kernel_rfl)
theorem Bv:entryFor table "set_iterator.__iter__"=some Builtin.«dict_keyiterator.__iter__» :=entryFor_alias (id':="dict_keyiterator.__iter__") (by kernel_rfl) rfl (by decide +kernel) (by kernel_rfl)
theorem Bw(a:Value):argsOk "set_iterator.__iter__" ⟨[a],[]⟩:=by
 unfold argsOk
 kernel_rfl
structure UB(P:Program)(w:World)(A:Around)(h h1:Heap)(a I:Addr)(ms:List Int):Prop where
 ex:∃ (fp:List Addr) (ord:List Value) (ks:List Int) (St:Nat->Heap->Prop),(∀ b∈fp,b=a\/h.objs.size<=b)/\Walks P w A I fp [I] ord.length (λi v=>ord[i]? =some v) St/\St 0 h1/\IntsAre ord ks/\ks.Perm ms
 new:h.objs.size<=I
section
variable{P:Program}{w:World}{A:Around}{E:Value->Shared->Prop}{s:Shared}
theorem UC:∀ {es:List (Int × Value)},ElemsOf (intKind P w) es->IntsAre (es.map (·.2)) (es.map λe=>iv e.2)
 | [],_=>.nil
 | e::r,h=>by
  obtain⟨t,z⟩:=UA h (List.mem_cons_self ..)
  have:=UC h.tail
  rw[List.map_cons,List.map_cons,z]
  exact .cons _ _ this
theorem fF{it:Addr}{f:Value}{i:Nat}{a:Addr}{n ep:Nat}{Q:Value->Shared->Prop}(hit:s.heap.get? it=some (G9 f i a n ep))(q:Q (.ref it) s):wpAny (model P w) A (pyIter (.ref it)) Q E s:=by
 have T:s.TypeIs (.ref it) "set_iterator":=⟨_,hit,rfl⟩
 refine wpAny_pyIter_slot T fD (wpAny_call_entry fD T Bv ?_ (Bw _))
 show wpAny _ _ (ret (.ref it)) _ _ s
 exact wpAny_pure ⟨_,rfl,"set_iterator",_,T,HA.lookup,q⟩
theorem Bx{a I:Addr}{es:Array (Int × Value)}{ep:Nat}{t:SetTable}{o:Obj}{f:Nat->Nat}{ord:List Value}(hh:A.handled=none)(hne:a≠I)(hd:o.data=.set es ep t)(hf:t.fits es.size=true)(hl:ord.length=es.size)
  (nx:∀ (s:Shared),s.heap.get? a=some o->∀ (i:Nat),i<=es.size->∀ (A':Around) (E':Value->Shared->Prop) (Q':Option (Value × Nat)->Shared->Prop),Q' ((ord[i]?).map λv=>(v,f (i+1))) s->wpAny (model P w) A' (setNext a (f i) i ep) Q' E' s) :
  Walks P w A I [I,a] [I] ord.length (λi v=>ord[i]? =some v) (λi h=>h.get? I=some (G9 (rawInt (f i)) i a es.size ep)/\h.get? a=some o) where
 sub:=λb hb=>by simp at hb;simp[hb]
 frame:=λ_ _ _ st k=>⟨k I (by simp) _ st.1,k a (by simp) _ st.2⟩
 item:=λi s Q E hi st q=>by
  have e:ord[i]? =some ord[i]:=List.getElem?_eq_getElem hi
  refine Bh st.1 st.2 hd hf rfl (λA' E' Q' q'=>nx s st.2 i (by omega) A' E' Q' (by rw[e];exact q')) λh' g b=> ?_
  exact q _ h' s.toks e ⟨g,b.extBut a _ hne st.2⟩ λc u hc z=>b.extBut c u (λy=>hc (by simp[y])) z
 done:=λs Q E st q=>by
  refine Bj hh st.1 st.2 hd hf rfl (λA' E' Q' q'=>nx s st.2 ord.length (by omega) A' E' Q' (by rw[List.getElem?_eq_none (Nat.le_refl _)];exact q')) λh' x=> ?_
  exact q h' s.toks λc u hc z=>x c u (λy=>hc (by simp[y])) z
 self:=λ_ _ _ _ st q=>fF st.1 q
theorem By{a I tp:Addr}{es:Array (Int × Value)}{ep k:Nat}{t:SetTable}{o ot:Obj}{pl:List Nat}{ord:List Value}(hh:A.handled=none)(hne:a≠I)(hnt:tp≠I)(hd:o.data=.set es ep t)(hf:t.fits es.size=true)
  (hdt:ot.data=.seq (pl.map λ(i:Nat)=>rawInt i).toArray k) (hl:ord.length=pl.length) (hx:∀ (i p:Nat),pl[i]? =some p->∃ e:Int × Value,es[p]? =some e/\ord[i]? =some e.2) :
  Walks P w A I [I,a,tp] [I] ord.length (λi v=>ord[i]? =some v) (λi h=>h.get? I=some (G9 (.ref tp) i a es.size ep)/\h.get? a=some o/\h.get? tp=some ot) where
 sub:=λb hb=>by simp at hb;simp[hb]
 frame:=λ_ _ _ st k=>⟨k I (by simp) _ st.1,k a (by simp) _ st.2.1,k tp (by simp) _ st.2.2⟩
 item:=λi s Q E hi st q=>by
  have hi':i<pl.length:=by omega
  have e:=List.getElem?_eq_getElem hi'
  obtain⟨x,e1,e2⟩:=hx i _ e
  refine Bk st.1 st.2.1 hd hf rfl st.2.2 hdt (by rw[List.getElem?_toArray,List.getElem?_map,e];rfl) e1 λh' g b=> ?_
  exact q _ h' s.toks e2 ⟨g,b.extBut a _ hne st.2.1,b.extBut tp _ hnt st.2.2⟩ λc u hc z=>b.extBut c u (λy=>hc (by simp[y])) z
 done:=λs Q E st q=>by
  refine Bl hh st.1 st.2.1 hd hf rfl st.2.2 hdt (by rw[List.getElem?_toArray,List.getElem?_map,List.getElem?_eq_none (by omega)];rfl) λh' x=> ?_
  exact q h' s.toks λc u hc z=>x c u (λy=>hc (by simp[y])) z
 self:=λ_ _ _ _ st q=>fF st.1 q
theorem Bz{n:Nat}{Q:Nat->Shared->Prop}(hn:n≠0)(q:∀ i d,i<n->Q i { s with drawn:=d }):wpAny (model P w) A (choose .order n) Q E s:=fun Γ p hΓ =>by
 show Sem.wp _ _ (.choose .order n .pure) _ _ _ _
 rw[Sem.wp_choose]
 refine⟨hn,?_⟩
 show Sem.wp _ _ (.pure _) _ _ _ _
 rw[Sem.wp]
 exact q _ _ (Nat.mod_lt _ (Nat.pos_of_ne_zero hn))
theorem fG{α :Type}:∀ (n:Nat) (xs:List α) (s:Shared) (Q:List α ->Shared->Prop),xs.length=n->(∀ ys d,List.Perm ys xs->Q ys { s with drawn:=d })->wpAny (model P w) A (drawOrder n xs) Q E s
 | 0,xs,s,Q,hn,q=>by
  have:xs=[]:=List.length_eq_zero_iff.mp hn
  subst this
  unfold drawOrder
  exact wpAny_pure (q [] s.drawn .nil)
 | n+1,[],s,Q,hn,q=>by cases hn
 | n+1,x::r,s,Q,hn,q=>by
  unfold drawOrder
  refine wpAny_bind (Bz (by simp) λi d hi=> ?_)
  rw[List.getElem?_eq_getElem hi]
  dsimp only
  refine wpAny_bind (fG n _ _ _ (by rw[List.length_eraseIdx_of_lt hi,hn];rfl) λys d' p=> ?_)
  refine wpAny_pure (q _ d' ?_)
  refine(List.Perm.cons _ p).trans ?_
  rw[List.eraseIdx_eq_take_drop_succ]
  refine List.perm_middle.symm.trans ?_
  rw[<-List.drop_eq_getElem_cons hi,List.take_append_drop]
theorem Cb {a:Addr} {ms:List Int} {Q:Value->Shared->Prop} (hh:A.handled=none) (S:IntSet P w s.heap a ms)
    (q:∀ I h1 d1,(∀ b o,s.heap.get? b=some o->h1.get? b=some o)->UB P w A s.heap h1 a I ms->Q (.ref I) { s with heap:=h1,drawn:=d1 }):wpAny (model P w) A (pyIter (.ref a)) Q E s:=by
  obtain⟨o,es,ep,t,ho,hex,hd,hel,hp,hb,hf,L⟩:=S
  have T:s.TypeIs (.ref a) "set":=⟨o,ho,hex.1⟩
  have BC:a<s.heap.objs.size:=Heap.lt_size ho
  refine wpAny_pyIter_slot T PySem.F.slot_set_iter (wpAny_call_entry PySem.F.slot_set_iter T Bq ?_ (PySem.F.args_set_iter_1 _))
  unfold Builtin.«frozenset.__iter__»
  show wpAny _ _ ((pure a:Sem Addr) >>= _) _ _ s
  refine wpAny_bind (wpAny_pure ?_)
  refine wpAny_bind ?_
  unfold Builtin.Frozenset.sizeOf
  refine wpAny_bind (wpAny_setEntries_of ho hd hf (wpAny_pure ?_))
  refine wpAny_bind ?_
  unfold setDrawn
  refine wpAny_bind (wpAny_setState_of ho hd hf ?_)
  dsimp only
  refine wpAny_bind ?_
  unfold setsByText
  refine wpAny_bind (wpAny_askSetting (wpAny_pure (wpAny_pure ?_)))
  show wpAny _ _ (if(!w.params.followText "set-order" && (!t.plain && decide (es.size > 1)))=true then _ else _) _ _ s
  have plain:∀ (f:Nat->Nat) (ord:List Value),f 0=0->ord.length=es.size->(∃ ks,IntsAre ord ks/\ks.Perm ms) →
      (∀ (s:Shared),s.heap.get? a=some o->∀ (i:Nat),i<=es.size->∀ (A':Around) (E':Value->Shared->Prop) (Q':Option (Value × Nat)->Shared->Prop),Q' ((ord[i]?).map λv=>(v,f (i+1))) s->wpAny (model P w) A' (setNext a (f i) i ep) Q' E' s) →
      UB P w A s.heap (s.heap.push (G9 (rawInt 0) 0 a es.size ep)) a s.heap.objs.size ms:=λf ord f0 hl ⟨ks,hi,pk⟩ nx =>
    ⟨⟨_,ord,ks,_,λb hb=>by
        simp only[List.mem_cons,List.not_mem_nil,or_false]at hb
        rcases hb with rfl | rfl
        ·exact .inr (Nat.le_refl _)
        ·exact .inl rfl,Bx hh (Nat.ne_of_lt BC) hd hf hl nx,⟨by rw[f0];exact Heap.get?_push_size _ rfl,Heap.get?_push_of_some _ ho⟩,hi,pk⟩,Nat.le_refl _⟩
  have fin:∀ (W:UB P w A s.heap (s.heap.push (G9 (rawInt 0) 0 a es.size ep)) a s.heap.objs.size ms),
      wpAny (model P w) A.in1 (do
        let first ← (pure (rawInt 0):Sem Value)
        ret (← newFields "set_iterator" [first,rawInt 0,.ref a,rawInt es.size,rawInt (← setEpoch a)])) (λfin s'=>∃ v,fin=.done (.ret v)/\∃ T' r,s'.TypeIs v T'/\typeLookup (.type T') "__next__"=pure (some r)/\Q v s') E s:=λW=>by
    refine wpAny_bind (wpAny_pure ?_)
    refine wpAny_bind (wpAny_setEpoch_of ho hd hf ?_)
    refine wpAny_bind (wpAny_newObj_type (wpAny_pure ⟨_,rfl,"set_iterator",_,⟨_,Heap.get?_push_size _ rfl,rfl⟩,HA.lookup,?_⟩))
    exact q _ _ s.drawn (λb u e=>Heap.get?_push_of_some _ e) W
  cases ft:w.params.followText "set-order" with
  | true =>
    rw[if_neg (by simp)]
    have pk:=Bb (w.params.setOrder a ep) es
    have hl:(pickOrder (w.params.setOrder a ep) es).size=es.size:=by rw[<-Array.length_toList,pk.length_eq,Array.length_toList]
    refine fin (plain (λ_=>0) ((pickOrder (w.params.setOrder a ep) es).toList.map (·.2)) rfl (by rw[List.length_map,Array.length_toList,hl]) ⟨_,UC (hel.perm pk),(pk.map _).trans hp⟩ λs1 h1 i hi A' E' Q' q'=> ?_)
    refine Bm ft h1 hd hf ?_
    rw[List.getElem?_map,Array.getElem?_toList,Option.map_map]at q'
    exact q'
  | false =>
    cases pl:(!t.plain && decide (es.size > 1))with
    | false =>
      rw[if_neg (by simp)]
      refine fin (plain (L5 t.place) (es.toList.map (·.2)) rfl (by rw[List.length_map,Array.length_toList]) ⟨_,UC hel,hp⟩ λs1 h1 i hi A' E' Q' q'=> ?_)
      refine Bp ft h1 hd hf L pl hi ?_
      rw[List.getElem?_map,Array.getElem?_toList,Option.map_map]at q'
      exact q'
    | true =>
      rw[if_pos (by simp)]
      refine wpAny_bind (fG es.size (List.range es.size) s _ (List.length_range) λys d p=> ?_)
      have hy:ys.length=es.size:=by rw[p.length_eq,List.length_range]
      have hys:∀ x∈ys,x<es.size:=λx hx=>List.mem_range.mp (p.mem_iff.mp hx)
      refine wpAny_bind (wpAny_newTuple ?_ (by rw[List.length_map,hy];exact fits_of_scanBound hb))
      refine wpAny_bind (wpAny_setEpoch_of (o:=o) (Heap.get?_push_of_some _ ho) hd hf ?_)
      refine wpAny_bind (wpAny_newObj_type (wpAny_pure ⟨_,rfl,"set_iterator",_,⟨_,Heap.get?_push_size _ rfl,rfl⟩,HA.lookup,?_⟩))
      refine q _ _ d (λb u e=>Heap.get?_push_of_some _ (Heap.get?_push_of_some _ e)) ⟨⟨_,ys.map λp=>(es[p]?.map (·.2)).getD .none,ys.map λp=>(es[p]?.map λe=>iv e.2).getD 0,_,λb hb=> ?_,
        By hh ?_ ?_ hd hf rfl (by rw[List.length_map]) λi p e=> ?_,⟨Heap.get?_push_size _ rfl,Heap.get?_push_of_some _ (Heap.get?_push_of_some _ ho),Heap.get?_push_of_some _ (Heap.get?_push_size _ rfl)⟩,?_,?_⟩,?_⟩
      · simp only[List.mem_cons,List.not_mem_nil,or_false]at hb
        rcases hb with rfl | rfl | rfl
        ·right;rw[size_push'];exact Nat.le_succ _
        ·exact .inl rfl
        ·exact .inr (Nat.le_refl _)
      ·rw[size_push'];exact Nat.ne_of_lt (Nat.lt_succ_of_lt BC)
      ·rw[size_push'];exact Nat.ne_of_lt (Nat.lt_succ_self _)
      · have hp':p<es.size:=hys p (List.mem_of_getElem? e)
        exact⟨es[p],Array.getElem?_eq_getElem hp',by rw[List.getElem?_map,e];simp[hp']⟩
      · have all:∀ (l:List Nat),(∀ x∈l,x<es.size)->IntsAre (l.map λp=>(es[p]?.map (·.2)).getD .none) (l.map λp=>(es[p]?.map λe=>iv e.2).getD 0):=by
          intro l
          induction l with
          | nil=>exact λ_=>.nil
          | cons x r ih =>
            intro hl
            have hx:=hl x (List.mem_cons_self ..)
            obtain⟨tk,z⟩:=UA hel (e:=es[x]) (by simp)
            have e1:(es[x]?.map (·.2)).getD Value.none=Value.int (iv es[x].2) tk:=by rw[Array.getElem?_eq_getElem hx];exact z
            have e2:(es[x]?.map λe=>iv e.2).getD 0=iv es[x].2:=by rw[Array.getElem?_eq_getElem hx];rfl
            rw[List.map_cons,List.map_cons,e1,e2]
            exact .cons _ _ (ih λy hy=>hl y (List.mem_cons_of_mem _ hy))
        exact all ys hys
      · refine(p.map _).trans (List.Perm.trans (List.Perm.of_eq ?_) hp)
        refine List.ext_getElem (by simp) λi h1 h2=> ?_
        have hi:i<es.size:=by simpa using h1
        simp[hi]
      ·rw[size_push'];exact Nat.le_succ _
theorem Cc{a:Addr}{Q:Bool->Shared->Prop}(T:s.TypeIs (.ref a) "set")(q:Q false s):wpAny (model P w) A (Builtin.List.listLengthHint (.ref a)) Q E s:=by
 unfold Builtin.List.listLengthHint
 refine wpAny_bind (wpAny_specialOf T PySem.F.slot_set_len.lookup ?_)
 generalize hid:("set.__len__":String)=id0
 wp_delta
 rw[show splitId id0=some ("set","__len__")from by subst hid;decide +kernel]
 subst hid
 refine wpAny_bind (wpAny_isInstance (T:="set") (b:=true) T (by rw[isSubtype_type];kernel_rfl) ?_)
 refine wpAny_ite_split (λz=>absurd z (by decide)) (λ_=> ?_)
 refine wpAny_ite_split (λ_=> ?_) (λz=>absurd (by decide +kernel) z)
 exact wpAny_bind (wpAny_typeOf T (wpAny_pure q))
theorem Cd{a:Addr}{ms:List Int}{R:List Value->Shared->Prop}(hh:A.handled=none)(S:IntSet P w s.heap a ms)(hn:ms.length<=sizeLine)
  (q:∀ h' tk d vs ks,(∀ b o,s.heap.get? b=some o->h'.get? b=some o)->s.heap.objs.size<=h'.objs.size->IntsAre vs ks->ks.Perm ms->R vs { s with heap:=h',toks:=tk,drawn:=d }):wpAny (model P w) A (collect (.ref a)) R E s:=by
 have BC:a<s.heap.objs.size:=let ⟨_,_,_,_,ho,_⟩:=S;Heap.lt_size ho
 unfold collect
 refine wpAny_bind (wpAny_runValue (codeAny_builtin entry_proto_collect' ?_))
 rw[Around.under_plainId PySem.F.plain_proto_collect _]
 show wpAny _ A.in1 (newList [] >>= λl=>again (.builtin "list.__iadd__" ⟨[l,.ref a],[]⟩)) _ _ s
 refine wpAny_bind (wpAny_newObj_type ?_)
 refine wpAny_pure ⟨plainId_quiet PySem.F.plain_list_iadd _,codeAny_builtin entry_list_iadd' ?_⟩
 rw[Around.under_plainId PySem.F.plain_list_iadd _]
 show wpAny _ A.in1 (Builtin.List.listExtendWith (.ref s.heap.objs.size) (.ref a) (.ref s.heap.objs.size)) _ _ _
 generalize eN:s.heap.objs.size=N at BC ⊢
 have gN:(s.heap.push { cls:=.type "list",data:=.seq ([]:List Value).toArray }).get? N=some { cls:=.type "list",data:=.seq #[] }:=eN ▸ Heap.get?_push_size _ rfl
 have keep1:∀ b o,s.heap.get? b=some o->(s.heap.push { cls:=.type "list",data:=.seq ([]:List Value).toArray }).get? b=some o:=λb o e=>Heap.get?_push_of_some _ e
 have S1:=S.at λo e=>keep1 a o e
 have big:(s.heap.push { cls:=.type "list",data:=.seq ([]:List Value).toArray }).objs.size=N+1:=by rw[size_push',eN]
 revert gN keep1 S1 big
 generalize s.heap.push { cls:=.type "list",data:=.seq ([]:List Value).toArray }=h0
 intro gN keep1 S1 big
 have T1:∀ h':Heap,(∀ b o,h0.get? b=some o->h'.get? b=some o)->∀ tk d,({ s with heap:=h',toks:=tk,drawn:=d }:Shared).TypeIs (.ref a) "set":=λh' k tk d=>by
  obtain⟨o,_,_,_,ho,hex,_⟩:=S1
  exact⟨o,k _ _ ho,hex.1⟩
 unfold Builtin.List.listExtendWith
 refine wpAny_bind (wpAny_typeOf (T:="set") (T1 h0 (λ_ _ e=>e) s.toks s.drawn) ?_)
 have ne:Builtin.List.listSameRef (.ref N) (.ref a)=false:=by
  simp only[Builtin.List.listSameRef,beq_eq_false_iff_ne]
  exact Nat.ne_of_gt BC
 have n1:(Value.type "set" == Value.type "list")=false:=by decide
 have n2:(Value.type "set" == Value.type "tuple")=false:=by decide
 simp only[ne,n1,n2,Bool.or_false,Bool.false_eq_true,if_false]
 refine wpAny_bind (Cb (A:=A.in1) (s:={ s with heap:=h0 }) (by simpa using hh) S1 λI h1 d1 k1 W=> ?_)
 obtain⟨⟨fp,ord,ks,St,hfp,W,st,hi,pk⟩,hI⟩:=W
 have hI:N+1<=I:=big ▸ hI
 have BV:ord.length=ms.length:=by rw[IntsAre.length hi,pk.length_eq]
 refine wpAny_bind (wpAny_holding (Cc (T1 h1 k1 s.toks d1) ?_))
 rw[if_pos (by decide)]
 refine wpAny_bind (wpAny_rule ?_)
 refine wpAny_bind ?_
 show wpAny _ _ (updateSeq N (·.push .none) >>= λ_=>updateSeq N (·.pop)) _ _ _
 have g1:=k1 _ _ gN
 refine wpAny_bind (wpAny_updateSeq (s:={ s with heap:=h1,drawn:=d1 }) g1 rfl ?_)
 have g2:=Heap.get?_update_self (Obj.mapSeq (·.push Value.none)) g1 rfl
 refine wpAny_updateSeq (hz:=by seq_fits) g2 rfl ?_
 have g3:=Heap.get?_update_self (Obj.mapSeq (·.pop)) g2 rfl
 have oth:∀ b o,b≠N->h1.get? b=some o->((h1.update N (Obj.mapSeq (·.push Value.none))).update N (Obj.mapSeq (·.pop))).get? b=some o:=λb o hb e =>
  (Heap.get?_update_other _ _ (Ne.symm hb)).trans ((Heap.get?_update_other _ _ (Ne.symm hb)).trans e)
 have Nfp:N∉fp:=λz=>by
  rcases hfp N z with y | y
  ·exact Nat.ne_of_gt BC y
  ·have y':h0.objs.size<=N:=y
   rw[big]at y'
   exact absurd y' (Nat.not_succ_le_self _)
 refine wpAny_pure ⟨plainId_quiet PySem.F.plain_extend_loop _,?_⟩
 refine codeAny_extend_loopS W.toS (by rw[BV];exact hn) N Nfp (.ref N) ord.length 0 _ #[] _ rfl (Nat.zero_le _) (W.frame 0 _ _ st λb hb o e=>oth b o (λz=>Nfp (z ▸ hb)) e) g3 (ItemsOf.nil _) λs' B0 c m g4 hacc=> ?_
 show wpAny _ A (load N >>= _) _ _ _
 refine wpAny_bind (wpAny_load g4 ?_)
 refine wpAny_pure ?_
 have eacc:B0.toList=ord:=by
  refine List.ext_getElem? λi=> ?_
  by_cases hlt':i<ord.length
  ·have h3:i<B0.size:=by rw[hacc.1];exact hlt'
   have:=hacc.2 i B0[i] (Array.getElem?_eq_getElem h3)
   rw[Array.getElem?_toList,Array.getElem?_eq_getElem h3,this]
  ·have e1:B0.toList[i]? =none:=List.getElem?_eq_none (by rw[Array.length_toList,hacc.1];omega)
   have e2:ord[i]? =none:=List.getElem?_eq_none (by omega)
   rw[e1,e2]
 show R B0.toList s'
 rw[eacc]
 obtain⟨h3,gn3,dr3,tk3,os3⟩:=s'
 have a1:gn3=s.gens:=m.gens
 have a2:dr3=d1:=m.drawn
 have a3:os3=s.os:=m.os
 subst a1;subst a2;subst a3
 refine q _ _ dr3 ord ks (λb o e=> ?_) (by rw[eN];exact Nat.le_of_lt (Heap.lt_size g4)) hi pk
 have hb:b<N:=eN ▸ Heap.lt_size e
 refine m.heap b o (λz=> ?_) (oth b o (Nat.ne_of_lt hb) (k1 _ _ (keep1 _ _ e)))
 simp only[List.mem_cons,List.not_mem_nil,or_false]at z
 rcases z with z | z
 ·exact Nat.ne_of_lt hb z
 ·exact Nat.ne_of_lt (Nat.lt_of_lt_of_le (Nat.lt_succ_of_lt hb) hI) z
theorem Cg{a:Addr}{ms:List Int}{Q:Value->Shared->Prop}(hh:A.handled=none)(S:IntSet P w s.heap a ms)(hn:ms.length<64)
  (q:∀ D h' tk d c out ks,(∀ b o,s.heap.get? b=some o->h'.get? b=some o)->s.heap.objs.size<=D->h'.get? D=some (seqObj "list" out c)->IntsAre out.toList ks->ks.Perm ms->ks.Pairwise (· <=·)->Q (.ref D) { s with heap:=h',toks:=tk,drawn:=d }) :
  wpAny (model P w) A (call (.builtin "sorted") [.ref a]) Q E s:=by
 refine Calls.call_function_entry kind_sorted plain_sorted entry_sorted (args_sorted1 _) ?_
 unfold Builtin.«sorted»
 refine wpAny_bind (m:=checkCount "sorted" 1 1 _) (wpAny_pure ?_)
 refine wpAny_bind (Cd (A:=A.in1) (by simpa using hh) S (by rw[sizeLine_eq];omega) λh1 tk d vs ks k1 size_le hi pk=> ?_)
 have hl:vs.length<64:=by rw[IntsAre.length hi,pk.length_eq];exact hn
 refine wpAny_bind (wpAny_newList ?_ (by rw[sizeLine_eq];omega))
 have g:(h1.push (seqObj "list" vs.toArray 0)).get? h1.objs.size=some (seqObj "list" vs.toArray 0):=Heap.get?_push_size _ rfl
 show wpAny _ _ _ _ _ { s with heap:=h1.push (seqObj "list" vs.toArray 0),toks:=tk,drawn:=d }
 refine wpAny_bind (wpAny_holding (wpAny_call_entry slot_list_sort ⟨_,g,rfl⟩ entry_list_sort (list_sort_tree g hi hl λout ks' i1 p1 r1=>⟨_,rfl,?_⟩) (args_list_sort _)))
 obtain⟨c,gc⟩:=sortedHeap_at (n:=0) (out:=out) g
 refine wpAny_pure ⟨_,rfl,q _ _ tk d c out ks' (λb o e=> ?_) size_le gc i1 (p1.trans pk) r1⟩
 have hb:=Heap.lt_size (k1 _ _ e)
 rw[sortedHeap_old (Nat.ne_of_lt hb) (by rw[size_push'];exact Nat.lt_succ_of_lt hb)]
 exact Heap.get?_push_of_some _ (k1 _ _ e)
end
end L2
namespace L2
open PySem PyProof.Rows
section
variable{P:Program}{w:World}{A:Around}{E:Value->Shared->Prop}{s:Shared}
theorem Cj {l:Addr} {its:Array Value} {ns:List Int} {Q:Value->Shared->Prop} (hh:A.handled=none) (hl:s.heap.IsList l its) (hi:IntsAre its.toList ns) (hb:its.size+1<scanBound)
    (q:∀ h' tk,IntSet P w h' s.heap.objs.size (firstMet (λi=>ns.getD i 0) its.size)->(∀ b o,s.heap.get? b=some o->h'.get? b=some o)->Q (.ref s.heap.objs.size) { s with heap:=h',toks:=tk }) :
    wpAny (model P w) A (call (.type "set") [.ref l]) Q E s:=by
  obtain⟨c,tl,mro⟩:=PySem.F.called_set.mro
  have made:=PySem.F.called_set.made
  have sub:=PySem.F.called_set.sub
  refine wpAny_call (codeAny_of_tree ?_)
  show wpAny _ _ (callAny (.type "set") _) _ _ _
  refine wpAny_pure ⟨Code.quiet_builtin _ (by decide +kernel),codeAny_builtin PySem.F.entry_type_call ?_⟩
  rw[Around.under_plain (weight_type_call_type "set" [.ref l] []) rfl]
  have n1:=PySem.F.called_set.notType
  have n2:=PySem.F.called_set.canCreate
  have n3:=PySem.F.typeCall_set_1 (.ref l)
  repeat (any_goals (first | assumption | wp_step))
  generalize eS:({ cls:=.type "set",dict:=none,data:=.set #[] 0 (.fresh 0 0 (K5 w)) }:Obj)=oS
  refine codeAny_mono (Bg (E:=E) (Q:=λx s1=>x=.ref s.heap.objs.size/\s1={ s with heap:=s.heap.push oS }) ⟨rfl,by rw[<-eS]⟩) λr s1 hr=> ?_
  cases r with
  | error e=>exact hr
  | ok fl =>
    cases fl with
    | ret x =>
      obtain⟨rfl,rfl⟩:=hr
      have g0:(s.heap.push oS).get? s.heap.objs.size=some oS:=Heap.get?_push_size _ (by rw[<-eS];rfl)
      have T0:Shared.TypeIs { s with heap:=s.heap.push oS } (.ref s.heap.objs.size) "set":=⟨_,g0,by rw[<-eS]⟩
      have i1:=PySem.F.called_set.init.lookup
      have i2:=PySem.F.called_set.init.bind (.ref s.heap.objs.size)
      repeat (any_goals (first | assumption | wp_step))
      refine codeAny_mono (codeAny_call_builtin (R:=wants (λr s2=>r=.none/\∃ h' tk,s2={ s with heap:=h',toks:=tk }/\IntSet P w h' s.heap.objs.size (firstMet (λi=>ns.getD i 0) its.size) ∧
        (∀ b o,s.heap.get? b=some o->h'.get? b=some o)) E) PySem.F.called_set.init.plain PySem.F.entry_set_init (check_set_init_1 T0 ?_)) λr2 s2 bB=> ?_
      · obtain⟨ol,gl,cl,nl,dl⟩:=hl
        obtain⟨c1,d1,dt1,sl1⟩:=ol
        simp only at cl dl
        subst cl;subst dl
        have gl':=Heap.get?_push_of_some oS gl
        have e1:=PySem.F.sub_list_set
        have e2:=PySem.F.sub_list_frozenset
        have e3:(Value.type "list" == Value.type "dict")=false:=by decide
        have F9:(s.heap.push oS).IsList l its:=⟨_,gl',rfl,nl,rfl⟩
        have BC:l<s.heap.objs.size:=Heap.lt_size gl
        have big:=size_push' s.heap oS
        revert gl' F9 g0 T0 big
        have keep0:∀ b o,s.heap.get? b=some o->(s.heap.push oS).get? b=some o:=λb o e=>Heap.get?_push_of_some _ e
        revert keep0
        generalize s.heap.push oS=h0
        intro keep0 g0 T0 gl' F9 big
        subst eS
        unfold Builtin.«set.__init__» noKeywords Builtin.Frozenset.updateFrom
        generalize hPI:pyIter=PI
        wp_walk
        subst hPI
        refine wpAny_pyIter_list F9 ?_
        refine wpAny_bind (wpAny_runValue ?_)
        have hh3:A.in1.in1.in1.handled=none:=by simp[hh]
        have ne1:l≠h0.objs.size:=Nat.ne_of_lt (by rw[big];exact Nat.lt_succ_of_lt BC)
        have nin:s.heap.objs.size∉[h0.objs.size,l]:=by
          simp only[List.mem_cons,List.not_mem_nil,or_false,not_or]
          exact⟨Nat.ne_of_lt (by rw[big];exact Nat.lt_succ_self _),Nat.ne_of_gt BC⟩
        refine Bd ((Walks.list hh3 _ l ne1 its).toS) s.heap.objs.size nin (λi=>ns.getD i 0) (λi v e=>IntsAre.int_at hi i v (by rw[Array.getElem?_toList];exact e)) hb (its.size - 0) 0 _ (by omega) (Nat.zero_le _)
          ⟨⟨_,Heap.get?_push_size _ rfl,rfl,rfl⟩,F9.push _⟩ ⟨_,#[],0,_,Heap.get?_push_of_some _ g0,⟨rfl,rfl,rfl⟩,rfl,λe he=>by simp at he,by exact .nil,by decide,by rfl,Led.fresh _⟩ λs3 m S3=> ?_
        obtain⟨h3,g3,d3,tk3,os3⟩:=s3
        have a1:g3=s.gens:=m.gens
        have a2:d3=s.drawn:=m.drawn
        have a3:os3=s.os:=m.os
        subst a1;subst a2;subst a3
        show wpAny _ _ _ _ _ _
        refine wpAny_pure ?_
        show wpAny _ _ (ret Value.none) _ _ _
        refine wpAny_pure ⟨rfl,h3,tk3,rfl,S3,λb o e=> ?_⟩
        have hb:=Heap.lt_size e
        refine m.heap b o ?_ (Heap.get?_push_of_some _ (keep0 _ _ e))
        simp only[List.mem_cons,List.not_mem_nil,or_false,not_or]
        exact⟨Nat.ne_of_lt hb,Nat.ne_of_lt (by rw[big];exact Nat.lt_succ_of_lt hb)⟩
      · cases r2 with
        | error e=>exact bB
        | ok fl2 =>
          cases fl2 with
          | ret r =>
            obtain⟨rfl,h',tk,rfl,S',k'⟩:=bB
            repeat (any_goals (first | assumption | wp_step))
            exact q _ _ S' k'
          | _=>exact bB.elim
    | _=>exact hr.elim
end
end L2
namespace L2
section
variable{X:Cx}
theorem Inv.drawn{AA:List (Addr × Obj)}{σ:St}{H:Hp}{s:Shared}(I:Inv X AA σ H s)(d):Inv X AA σ H { s with drawn:=d } :=
 { ok:=I.ok,os:=I.os,bare:=I.bare,base:=I.base,loc:=I.loc,cell:=I.cell,free:=I.free,freeC:=I.freeC,pin:=I.pin,hok:=I.hok,len:=I.len }
theorem fH:∀ {ns:List Int} {us:List Value},Vals (ns.map V.int) us->IntsAre us ns
 | [],_,.nil=>.nil
 | n::r,_,.cons h t=>by
  obtain⟨tk,rfl⟩:=h
  exact .cons _ _ (fH t)
abbrev fI(X:Cx)(a:Addr)(ms:List Int):HO:=.ext λh=>IntSet X.prog X.w h a ms
theorem Ck(hc:X.calm=true):FD X (.type "set") (λxs H Q=>∃ (p:Addr) (ns:List Int),xs=[.ref p]/\SqL X.K H p (ns.map V.int)/\ns.length<=1000 ∧
  ∀ (a:Addr),H a=none->Q (.ref a) (upd H a (fI X a (firstMet (λi=>ns.getD i 0) ns.length)))):=by
 intro AA s σ H xs us Q I r h
 obtain⟨p,ns,rfl,hq,hn,q⟩:=h
 obtain⟨u,rfl,rx⟩:=HS r
 cases rx
 obtain⟨its,r',pl,hz⟩:=I.list hq
 have hi:=fH r'
 have BV:its.length=ns.length:=IntsAre.length hi
 refine Cj (I.ok.hd hc) pl.isList hi (by rw[List.size_toArray,BV];exact Nat.lt_of_le_of_lt (Nat.succ_le_succ hn) (by decide)) λh' tk S k=> ?_
 have hz2:its.toArray.size=ns.length:=by rw[List.size_toArray,BV]
 rw[hz2]at S
 refine⟨.ref s.heap.objs.size,_,I.laid k (Nat.le_refl _) ?_,rfl,q _ (I.hok.fresh (Nat.le_refl _))⟩
 exact⟨S,⟨_,S.choose_spec.choose_spec.choose_spec.choose_spec.1⟩,λh1 h2 z e=>z.at e⟩
theorem Cl(hc:X.calm=true):FD X (.builtin "sorted") (λxs H Q=>∃ (a:Addr) (ms:List Int),xs=[.ref a]/\H a=some (fI X a ms)/\ms.length<64 ∧
  ∀ (D:Addr) (ks:List Int),H D=none->List.Perm ks ms->ks.Pairwise (· <=·)->Q (.ref D) (upd H D (.lst (ks.map V.int)))):=by
 intro AA s σ H xs us Q I r h
 obtain⟨a,ms,rfl,ha,hn,q⟩:=h
 obtain⟨u,rfl,rx⟩:=HS r
 cases rx
 obtain⟨S,_,_⟩:=I.hok a _ ha
 refine Cg (I.ok.hd hc) S hn λD h' tk d c out ks k hD g hi pk hr=> ?_
 have hl:ks.length<64:=by rw[pk.length_eq];exact hn
 refine⟨.ref D,_,(I.laid (t':=tk) k hD ?_).drawn d,rfl,q D ks (I.hok.fresh hD) pk hr⟩
 exact⟨by rw[List.length_map,sizeLine_eq];omega,out.toList,c,S7 hi,g⟩
theorem Cm(val:Nat->Int)(n:Nat)(x:Int):x∈firstMet val n↔∃ i,i<n/\val i=x:=by
 have h:=firstMet_any val n x
 rw[Bool.eq_iff_iff,List.any_eq_true,List.any_eq_true]at h
 constructor
 ·intro hx
  obtain⟨y,hy,e⟩:=h.mp ⟨x,hx,beq_self_eq_true x⟩
  obtain⟨i,hi,rfl⟩:=List.mem_map.mp hy
  exact⟨i,List.mem_range.mp hi,eq_of_beq e⟩
 ·rintro ⟨i,hi,rfl⟩
  obtain⟨y,hy,e⟩:=h.mpr ⟨val i,List.mem_map.mpr ⟨i,List.mem_range.mpr hi,rfl⟩,beq_self_eq_true _⟩
  exact eq_of_beq e ▸ hy
theorem UD(val:Nat->Int):∀ n,(firstMet val n).Nodup
 | 0=>by rw[firstMet_zero];exact List.nodup_nil
 | n+1=>by
  rw[firstMet_succ]
  by_cases h:val n∈firstMet val n
  ·rw[fB h];exact UD val n
  ·rw[fC h]
   exact List.nodup_append.mpr ⟨UD val n,by simp,λa ha b hb e=>by rw[List.mem_singleton]at hb;subst hb;subst e;exact h ha⟩
theorem fJ:∀ {l:List Int},l.Pairwise (· <=·)->l.Nodup->l.Pairwise (· <·)
 | [],_,_=>.nil
 | x::r,h,n=>by
  obtain⟨h1,h2⟩:=List.pairwise_cons.mp h
  obtain⟨n1,n2⟩:=List.nodup_cons.mp n
  refine List.pairwise_cons.mpr ⟨λy hy=> ?_,fJ h2 n2⟩
  have:=h1 y hy
  have:x≠y:=λz=>n1 (z ▸ hy)
  omega
def PN(K:W.Frag)(te:TE):TE:=λσ H Q=>te σ H λx H1=>∃ (p:Addr) (ns:List Int),x=.ref p/\SqL K H1 p (ns.map V.int)/\ns.length<64 ∧
 ∀ (a:Addr) (o:HO) (D:Addr) (ks:List Int),H1 a=none->upd H1 a o D=none->ks.Pairwise (· <·)->(∀ x,x∈ks↔x∈ns)->ks.length<=ns.length->Q (.ref D) (upd (upd H1 a o) D (.lst (ks.map V.int)))
def clo(te:TE):TE:=λσ H Q=>∃ C:VK,te σ H C/\∀ x H1,C x H1->Q x H1
theorem PE.clo{e:Expr}{te:TE}(h:PE X e te):PE X e (clo te):=λAA s σ H Q I ⟨C,q,m⟩=>AR (h AA s σ H C I q) λv s' ⟨x,H1,I1,r1,q1⟩=>⟨x,H1,I1,r1,m _ _ q1⟩
theorem fK{e:Expr}{te:TE}{p1 p2 p3 p4:Pos}(hc:X.calm=true)(g1:Gl X "sorted")(m1:X.mg "sorted"=none)(g2:Gl X "set")(m2:X.mg "set"=none)(h:PE X e te)
  (he:starEach [e] X.env=[(false,eval e X.env)]:=by rfl) :
  PE X (.Call (.Name "sorted" p1) [.Call (.Name "set" p2) [e] [] p3] [] p4) (PN X.K te):=λAA s σ H Q I q=>by
 refine(EO (Cl hc) g1 m1 (by rfl) (JM (IL (Ck hc) g2 m2 (by rfl) (JM h.clo E4 he) (he:=he)) E4)) AA s σ H Q I ?_
 refine⟨_,q,λx H1 hzz=> ?_⟩
 obtain⟨p,ns,e1,hq,hn,q1⟩:=hzz
 subst e1
 refine⟨p,ns,rfl,hq,by omega,λa ha=>⟨a,_,rfl,AE,?_,λD ks hD pk hr=> ?_⟩⟩
 ·exact Nat.lt_of_le_of_lt (firstMet_length_le ..) hn
 ·have nd:=UD (λi=>ns.getD i 0) ns.length
  refine q1 a _ D ks ha hD (fJ hr (pk.nodup_iff.mpr nd)) (λx=> ?_) (by rw[pk.length_eq];exact firstMet_length_le ..)
  rw[pk.mem_iff,Cm]
  refine⟨λhzz=> ?_,λhx=> ?_⟩
  ·obtain⟨i,hi,e⟩:=hzz
   rw[<-e]
   simp[List.getD,hi]
  ·obtain⟨i,hi,e⟩:=List.getElem_of_mem hx
   exact⟨i,hi,by simp[List.getD,hi,e]⟩
end
end L2
namespace L2
section
variable{X:Cx}{tg:Expr}
def PQ(K:W.Frag):List V->Hp->VK->Prop:=λxs H Q=>∃ (p:Addr) (kvs:List (AH × V)),xs=[.ref p]/\H p=some (.dK kvs)/\∀ l,H l=none->Q (.ref l) (upd H l (.dK kvs))
theorem Cp:FD X (.type "dict") (PQ X.K):=by
 intro AA s σ H xs us Q I r h
 obtain⟨p,kvs,rfl,hp,q⟩:=h
 obtain⟨u,rfl,rx⟩:=HS r
 cases rx
 exact wL I (.inl hp) λl s' hl I'=>⟨.ref l,_,I',rfl,q l hl⟩
theorem Cq{K:W.Frag}{p:Addr}{H:Hp}{Q:VK}:PQ K [.ref p] H Q=∃ kvs,H p=some (.dK kvs)/\∀ l,H l=none->Q (.ref l) (upd H l (.dK kvs)):=by simp[PQ]
end
section
variable{K:W.Frag}{tt:TT}{cap:List Nat}{σ:St}{H:Hp}{Q:VK}
theorem Cv{n:Nat}(p:Nat->Bool)(hn:n<=sizeLine)(ht:∀ i,i<n->∀ QB:Bool->Hp->Prop,QB (p i) H->tt (some (.int (i:Int))::D8 cap σ) H QB)
  (hd:∀ q,H q=none->Q (.ref q) (upd H q (.lst (((List.range n).filter p).map λ(i:Nat)=>V.int i)))):G8 (GD 0 n) (AM 0) tt (EQ 0) 1 cap σ H Q:=by
 refine⟨λi m σ' ys H'=>m=n - i/\i<=n/\H'=H/\(∃ x0,σ'=x0::D8 cap σ)/\ys=((List.range i).filter p).map λ(i:Nat)=>V.int i,⟨n,by simp,Nat.zero_le _,rfl,⟨none,rfl⟩,rfl⟩,?_⟩
 rintro i m σ' ys H' ⟨rfl,hi,rfl,⟨x0,rfl⟩,rfl⟩
 by_cases BC:i<n
 ·refine .inr ⟨BC,?_,λx H2 y=> ?_⟩
  ·rw[List.length_map]
   have:=List.length_filter_le p (List.range i)
   rw[List.length_range]at this
   omega
  ·obtain⟨e,y⟩:=y
   subst e y
   rw[Int.zero_add]
   simp only[AM,List.set_cons_zero]
   refine ht i BC _ ?_
   cases hp:p i with
   | true =>
    rw[if_pos rfl]
    refine⟨λv H4=>v=.int i/\H4=H2,λy H4 ⟨e1,e2⟩=>⟨n - (i+1),by omega,rfl,BC,e2,⟨_,rfl⟩,?_⟩,?_⟩
    ·rw[e1,List.range_succ,List.filter_append,List.map_append]
     simp[hp]
    ·simp[EQ]
   | false =>
    rw[if_neg Bool.false_ne_true]
    refine⟨n - (i+1),by omega,rfl,BC,rfl,⟨_,rfl⟩,?_⟩
    rw[List.range_succ,List.filter_append,List.map_append]
    simp[hp]
 ·have e:i=n:=by omega
  subst e
  exact .inl ⟨Nat.le_refl _,hd⟩
end
section
variable{K:W.Frag}{td ty tv te:TE}{D:Ends}{σ:St}{H:Hp}{Q:VK}{QB:Bool->Hp->Prop}
theorem Cw:IS td ty σ H Q=(td σ H λx H1=>ty σ H1 λy H2=>∃ a v,x=.ref a/\DGet H2 a y (some v)/\Q v H2):=rfl
theorem Cy:O5 ty td σ H Q=(ty σ H λy H1=>td σ H1 λx H2=>∃ a o,x=.ref a/\DGet H2 a y o/\Q (.bl o.isSome) H2):=rfl
theorem Cz:KU ty td σ H Q=(ty σ H λy H1=>td σ H1 λx H2=>∃ a o,x=.ref a/\DGet H2 a y o/\Q (.bl (!o.isSome)) H2):=rfl
theorem Db:IT td ty tv D σ H=(tv σ H λv H1=>td σ H1 λx H2=>ty σ H2 λy H3=>∃ a H4,x=.ref a/\DPut H3 a y v H4/\D.nx σ H4):=rfl
theorem Dc:S4 td ty σ H Q=(td σ H λx H1=>∃ a,x=.ref a/\LV H1 a/\ty σ H1 λy H2=>∃ o,DGet H2 a y o/\Q (o.getD .non) H2):=rfl
theorem Dd:KZ σ H Q=(∀ p,H p=none->Q (.ref p) (upd H p (.dK []))):=rfl
theorem Dg:O6 σ H Q=(∀ p,H p=none->Q (.ref p) (upd H p (.dT []))):=rfl
theorem Dh:tB te σ H QB=(te σ H λx H1=>∃ c,x=.bl c/\QB c H1):=rfl
theorem Dj:PN K te σ H Q=(te σ H λx H1=>∃ (p:Addr) (ns:List Int),x=.ref p/\SqL K H1 p (ns.map V.int)/\ns.length<64 ∧
 ∀ (a:Addr) (o:HO) (D:Addr) (ks:List Int),H1 a=none->upd H1 a o D=none->ks.Pairwise (· <·)->(∀ x,x∈ks↔x∈ns)->ks.length<=ns.length->Q (.ref D) (upd (upd H1 a o) D (.lst (ks.map V.int)))):=rfl
variable{a b:Addr}{i j:Int}{z:Str}{kvs:List (AH × V)}{kvt:List (List AH × V)}{v:V}
theorem dI(e:H a=some (.dK kvs)):DGet H a (.int i) (BJ kvs (.inl i)):=DGet.k (k:=.inl i) e
theorem dS(e:H a=some (.dK kvs)):DGet H a (.str z) (BJ kvs (.inr z)):=DGet.k (k:=.inr z) e
theorem fM(e:H a=some (.dT kvt))(eb:H b=some (.tup [.int i,.int j])):DGet H a (.ref b) (BJ kvt [.inl i,.inl j]):=DGet.t (k:=[.inl i,.inl j]) e eb
theorem fN(e:H a=some (.dK kvs))(h:BJ kvs (.inl i)=some v):DGet H a (.int i) (some v):=h ▸ dI e
theorem Dk(e:H a=some (.dK kvs))(h:BJ kvs (.inr z)=some v):DGet H a (.str z) (some v):=h ▸ dS e
theorem Dl(e:H a=some (.dT kvt))(eb:H b=some (.tup [.int i,.int j]))(h:BJ kvt [.inl i,.inl j]=some v):DGet H a (.ref b) (some v):=h ▸ fM e eb
theorem pI(e:H a=some (.dK kvs))(hl:kvs.length<100000):DPut H a (.int i) v (upd H a (.dK (CB kvs (.inl i) v))):=DPut.k (k:=.inl i) e (Nat.lt_of_lt_of_le hl (by decide))
theorem pS(e:H a=some (.dK kvs))(hl:kvs.length<100000):DPut H a (.str z) v (upd H a (.dK (CB kvs (.inr z) v))):=DPut.k (k:=.inr z) e (Nat.lt_of_lt_of_le hl (by decide))
theorem Dm(e:H a=some (.dT kvt))(eb:H b=some (.tup [.int i,.int j]))(hl:kvt.length<100000):DPut H a (.ref b) v (upd H a (.dT (CB kvt [.inl i,.inl j] v))):=DPut.t (k:=[.inl i,.inl j]) e eb (Nat.lt_of_lt_of_le hl (by decide))
end
end L2
namespace L2
section
variable{X:Cx}
abbrev K6(K:W.Frag):R2:=cZ K false
theorem PR(hu:X.A.units+64<cLine):B8 X (compareOp .In) (K6 X.K):=vU
end
theorem SqT.same{K:W.Frag}{H H':Hp}{a:Addr}{xs:List V}(e:Same H H')(h:SqT K H a xs):SqT K H' a xs:=by
 rcases h with(h | ⟨o,h⟩) | h
 ·exact .inl (.inl (e _ _ h))
 ·exact .inl (.inr ⟨o,e _ _ h⟩)
 ·exact .inr h
mutual
theorem Rep.same{K:W.Frag}{H H':Hp}(s:Same H H'):∀ {v:V} {d:PyData},Rep K H v d->Rep K H' v d
 | _,_,.non=>.non
 | _,_,.bl b=>.bl b
 | _,_,.int i=>.int i
 | _,_,.str x=>.str x
 | _,_,.lst h r=>.lst (s.seq h) (RepAll.same s r)
 | _,_,.tup h r=>.tup (SqT.same s h) (RepAll.same s r)
theorem RepAll.same{K:W.Frag}{H H':Hp}(s:Same H H'):∀ {vs:List V} {ds:List PyData},RepAll K H vs ds->RepAll K H' vs ds
 | _,_,.nil=>.nil
 | _,_,.cons h r=>.cons (Rep.same s h) (RepAll.same s r)
end
def Dat(K:W.Frag)(H:Hp)(n:Nat)(v:V)(d:PyData):Prop:=Rep K H v d/\d.canLay0=true/\d.depth<=n
section
variable{K:W.Frag}{H:Hp}{n:Nat}{Q:VK}
theorem Dat.int(i:Int):Dat K H n (.int i) (.int i):=⟨.int i,rfl,Nat.zero_le _⟩
theorem Dat.non:Dat K H n .non .none:=⟨.non,rfl,Nat.zero_le _⟩
theorem UE:∀ {xs:List V} {ds:List PyData},Paired (Dat K H n) xs ds->RepAll K H xs ds/\PyData.canLayAll0 ds=true/\PyData.depthAll ds<=n
 | _,_,.nil=>⟨.nil,rfl,Nat.zero_le _⟩
 | _,_,.cons h t=>by
  obtain⟨a1,a2,a3⟩:=UE t
  refine⟨.cons h.1 a1,?_,?_⟩
  ·simp[PyData.canLayAll0,h.2.1,a2]
  ·simp only[PyData.depthAll];exact Nat.max_le.mpr ⟨h.2.2,a3⟩
theorem Dat.lst{p:Addr}{xs:List V}{ds:List PyData}(h:SqL K H p xs)(hs:Paired (Dat K H n) xs ds):Dat K H (n+1) (.ref p) (.list ds):=by
 obtain⟨a1,a2,a3⟩:=UE hs
 exact⟨.lst h a1,by simpa [PyData.canLay0]using a2,by simpa [PyData.depth]using a3⟩
theorem Dat.tup{p:Addr}{xs:List V}{ds:List PyData}(h:SqT K H p xs)(hs:Paired (Dat K H n) xs ds):Dat K H (n+1) (.ref p) (.tuple ds):=by
 obtain⟨a1,a2,a3⟩:=UE hs
 exact⟨.tup h a1,by simpa [PyData.canLay0]using a2,by simpa [PyData.depth]using a3⟩
theorem Dat.shp{v:V}{d:PyData}(h:Dat K H n v d)(hn:n<=64):shp d:=by
 unfold L2.shp PySem.SeqAt.shaped
 rw[h.2.1]
 simpa using Nat.le_trans h.2.2 hn
theorem UF:∀ (l:List Int),Paired (Dat K H n) (l.map V.int) (l.map PyData.int)
 | []=>.nil
 | x::r=>.cons (.int x) (UF r)
theorem UG{p q:Addr}{d:PyData}(hn:n<=64)(h1:Dat K H n (.ref p) d)(h2:Dat K H n (.ref q) d)(hq:Q (.bl false) H):EC K (.ref p) (.ref q) H Q:=by
 unfold EC
 rw[if_neg (by simp[GE])]
 refine⟨_,_,h1.1,h2.1,h1.shp hn,h1.shp hn,?_⟩
 rw[Ac (h1.shp hn)]
 exact hq
theorem Dp{p q:Addr}{xs:List V}{ds:List PyData}(hn:n<=63)(h1:SqL K H p xs)(hd:Paired (Dat K H n) xs ds)(h2:SqL K H q [])(hq:Q (.bl (!decide (xs=[]))) H):EC K (.ref p) (.ref q) H Q:=by
 unfold EC
 rw[if_neg (by simp[GE])]
 have e1:=Dat.lst h1 hd
 have e2:Dat K H 1 (.ref q) (.list []):=Dat.lst h2 .nil
 refine⟨_,_,e1.1,e2.1,e1.shp (by omega),e2.shp (by omega),?_⟩
 cases hd with
 | nil=>exact hq
 | cons _ _=>exact hq
theorem Dq{p q:Addr}{xs:List V}{ds:List PyData}(hn:n<=63)(h1:SqL K H p xs)(hd:Paired (Dat K H n) xs ds)(h2:SqL K H q [])(hq:Q (.bl (decide (xs=[]))) H):D7 K (.ref p) (.ref q) H Q:=by
 unfold D7
 rw[if_neg (by simp[GE])]
 have e1:=Dat.lst h1 hd
 have e2:Dat K H 1 (.ref q) (.list []):=Dat.lst h2 .nil
 refine⟨_,_,e1.1,e2.1,e1.shp (by omega),e2.shp (by omega),?_⟩
 cases hd with
 | nil=>exact hq
 | cons _ _=>exact hq
end
end L2
namespace L2
end L2
namespace L2
section
variable{prog:Program}{w:World}{A:Around}{E:Value->Shared->Prop}{s:Shared}{d it:Addr}{od:Obj}{es:Array DictEntry}{ep i:Nat}
theorem fP{Q:Value->Shared->Prop}(hd:(d == sysModules)=false)(ho:s.heap.get? d=some od)(hx:od.ExactDict)(hdat:od.data=.dict es ep)
  (hQ:Q (.ref s.heap.objs.size) { s with heap:=s.heap.push { cls:=.type "dict_keyiterator",data:=.fields #[.ref d,.int 0 0,.int es.size 0,.int ep 0] } }) :
  wpAny (model prog w) A (pyIter (.ref d)) Q E s:=by
 have hT:s.TypeIs (.ref d) "dict":=⟨od,ho,hx.1⟩
 refine wpAny_pyIter_slot hT F.slot_dict_iter (wpAny_call_entry F.slot_dict_iter hT F.entry_dict_iter ?_ (F.args_dict_iter_1 _))
 unfold Builtin.«dict.__iter__» Builtin.Dict.dictSlotNone
 refine wpAny_bind (wpAny_bind (wpAny_notOrdered_dict hT (wpAny_pure ?_)))
 show wpAny _ _ (Builtin.Dict.showsAll d >>= _) _ _ s
 unfold Builtin.Dict.showsAll
 rw[if_neg (by rw[hd];exact Bool.false_ne_true)]
 refine wpAny_bind (wpAny_pure (wpAny_bind (wpAny_dictEntries ho hdat (wpAny_bind (wpAny_dictEpoch ho hdat ?_)))))
 refine wpAny_bind (wpAny_newObj_type (wpAny_pure ⟨_,rfl,"dict_keyiterator",_,⟨_,Heap.get?_push_size _ rfl,rfl⟩,F.slot_dict_keyiterator_next.lookup,?_⟩))
 simpa [rawInt]using hQ
theorem fQ{Q:Option Value->Shared->Prop}(hit:s.heap.IsKeyIter it d i es.size ep)(hod:s.heap.get? d=some od)(hdd:od.data=.dict es ep){e:DictEntry}(he:es[i]? =some e)
  (hQ:∀ h',h'.IsKeyIter it d (i+1) es.size ep->Heap.SameBut it s.heap h'->Q (some e.key) { s with heap:=h' }) :
  wpAny (model prog w) A (pyNext (.ref it)) Q E s:=by
 obtain⟨o,ho,hc,hd⟩:=id hit
 unfold pyNext
 refine wpAny_bind (wpAny_attempt (wpAny_callSpecial?_slot (name:=Str.ofString "__next__") hit.typeIs F.slot_dict_keyiterator_next
  (wpAny_call_entry F.slot_dict_keyiterator_next hit.typeIs F.entry_dict_keyiterator_next ?_ (F.args_dict_keyiterator_next_1 _))))
 refine wpAny_bind (wpAny_pure (wpAny_bind (wpAny_bind ?_)))
 first | refine wpAny_bind (wpAny_typeNameOfWhole_keyiter hit.typeIs (wpAny_pure ?_)) | refine wpAny_bind (wpAny_typeNameOf_keyiter hit.typeIs (wpAny_pure ?_))
 refine wpAny_bind (wpAny_fieldsOf ho hd ?_)
 have hown:Builtin.Dict_items.ownsTuple "dict_keyiterator"=false:=by decide
 simp only[hown,Bool.false_eq_true,if_false]
 show wpAny _ _ (if(Value.ref d == Value.none)=true then _ else _) _ _ s
 rw[if_neg (show ¬ ((Value.ref d == Value.none)=true)from Bool.false_ne_true)]
 refine wpAny_bind (wpAny_pure (wpAny_bind (wpAny_dictEntries hod hdd ?_)))
 rw[if_neg (by simp)]
 refine wpAny_bind (wpAny_pure (wpAny_bind (wpAny_dictEpoch hod hdd ?_)))
 rw[if_neg (by simp)]
 refine wpAny_pure ?_
 simp only[show ¬ ((i:Int)<0)from by omega,if_false,Int.toNat_natCast,he]
 refine wpAny_bind ?_
 first | refine wpAny_bind (wpAny_typeNameOfWhole_keyiter hit.typeIs (wpAny_pure ?_)) | refine wpAny_bind (wpAny_typeNameOf_keyiter hit.typeIs (wpAny_pure ?_))
 refine wpAny_bind (wpAny_isOneOf_keyiter hit.typeIs ?_)
 show wpAny _ _ (setField (.ref it) 1 (rawInt ((i:Int)+1)) >>= _) _ _ s
 refine wpAny_bind (wpAny_setField ho hd (by simp) ?_)
 have hit':(s.heap.update it (Obj.mapFields (·.setIfInBounds 1 (rawInt ((i:Int)+1))))).IsKeyIter it d (i+1) es.size ep :=
  ⟨_,Heap.get?_update_self _ ho (Obj.isFreed_of_fields (Obj.data_mapFields hd _)),(Obj.cls_mapFields ..).trans hc,by rw[Obj.data_mapFields hd];simp[rawInt]⟩
 refine wpAny_bind (wpAny_holding (wpAny_bind (wpAny_isOneOf_keyiter (s:={ s with heap:=s.heap.update it (Obj.mapFields (·.setIfInBounds 1 (rawInt ((i:Int)+1)))) }) hit'.typeIs ?_)))
 show wpAny _ _ (pure e.key) _ _ _
 exact wpAny_pure (wpAny_pure ⟨_,rfl,wpAny_pure (hQ _ hit' (Heap.SameBut.update ..))⟩)
theorem fR{Q:Option Value->Shared->Prop}(hh:A.handled=none)(hit:s.heap.IsKeyIter it d i es.size ep)(hod:s.heap.get? d=some od)(hdd:od.data=.dict es ep)(hge:es.size<=i)
  (hQ:∀ h',Heap.ExtBut it s.heap h'->Q none { s with heap:=h' }):wpAny (model prog w) A (pyNext (.ref it)) Q E s:=by
 obtain⟨o,ho,hc,hd⟩:=id hit
 unfold pyNext
 refine wpAny_bind (wpAny_attempt (wpAny_callSpecial?_slot (name:=Str.ofString "__next__") hit.typeIs F.slot_dict_keyiterator_next
  (wpAny_call_entry F.slot_dict_keyiterator_next hit.typeIs F.entry_dict_keyiterator_next ?_ (F.args_dict_keyiterator_next_1 _))))
 refine wpAny_bind (wpAny_pure (wpAny_bind (wpAny_bind ?_)))
 first | refine wpAny_bind (wpAny_typeNameOfWhole_keyiter hit.typeIs (wpAny_pure ?_)) | refine wpAny_bind (wpAny_typeNameOf_keyiter hit.typeIs (wpAny_pure ?_))
 refine wpAny_bind (wpAny_fieldsOf ho hd ?_)
 have hown:Builtin.Dict_items.ownsTuple "dict_keyiterator"=false:=by decide
 simp only[hown,Bool.false_eq_true,if_false]
 show wpAny _ _ (if(Value.ref d == Value.none)=true then _ else _) _ _ s
 rw[if_neg (show ¬ ((Value.ref d == Value.none)=true)from Bool.false_ne_true)]
 refine wpAny_bind (wpAny_pure (wpAny_bind (wpAny_dictEntries hod hdd ?_)))
 rw[if_neg (by simp)]
 refine wpAny_bind (wpAny_pure (wpAny_bind (wpAny_dictEpoch hod hdd ?_)))
 rw[if_neg (by simp)]
 refine wpAny_pure ?_
 simp only[show ¬ ((i:Int)<0)from by omega,if_false,Int.toNat_natCast,Array.getElem?_eq_none hge]
 refine wpAny_bind ?_
 first | refine wpAny_bind (wpAny_typeNameOfWhole_keyiter hit.typeIs (wpAny_pure ?_)) | refine wpAny_bind (wpAny_typeNameOf_keyiter hit.typeIs (wpAny_pure ?_))
 show wpAny _ _ (setField (.ref it) 0 .none >>= _) _ _ s
 refine wpAny_bind (wpAny_setField ho hd (by simp) ?_)
 show wpAny _ _ (newExc (.type "StopIteration") [] >>= _) _ _ _
 refine wpAny_bind ?_
 simp only[newExc,newTuple]
 refine wpAny_bind (wpAny_newObj_type ?_ (by size_fits))
 refine wpAny_bind (m:=firstArgMember _ _) (wpAny_of_eq (a:=Value.none) (by first | rfl | (simp only[firstArgMember];rfl)) ?_)
 refine wpAny_newObj_type ?_ (by size_fits)
 simp only[raiseNew]
 refine wpAny_bind (wpAny_handled ?_)
 rw[show A.in1.handled=none from hh]
 refine wpAny_bind (wpAny_pure (wpAny_throw ?_))
 refine wpAny_bind (wpAny_isInstance (T:="StopIteration") (b:=true) ⟨_,Heap.get?_push_size _ rfl,rfl⟩ isSubtype_stop ?_)
 exact wpAny_pure (hQ _ (((Heap.SameBut.update ..).extBut.push _).push _))
end
def PU(d:Addr)(o:Obj)(kvs:List (List AH × V)):It :=
 ⟨λi H=>H d=some (.frz o (.dT kvs))/\i<kvs.length,λi H x H'=>H'=H/\∃ b k v,x=.ref b/\kvs[i]? =some (k,v)/\H b=some (.tup (k.map kV)),λi H=>H d=some (.frz o (.dT kvs))/\kvs.length<=i⟩
theorem Dv{P:Program}{w:World}{K:W.Frag}{tg:Expr}(d it:Addr){o:Obj}{kvs:List (List AH × V)}{es:Array DictEntry}{ep:Nat}(hdat:o.data=.dict es ep):II P w K tg (PU d o kvs) [it] it (λi h=>h.IsKeyIter it d i es.size ep) where
 mem:=by simp
 obj:=λi h st b hb=>by
  have e:b=it:=by simpa using hb
  subst e
  obtain⟨o,e,c,d⟩:=st
  exact⟨o,e,λv z=>by rw[d]at z;cases z⟩
 keep:=λi h h' st k=>st.at λo e=>k it (by simp) o e
 item:=by
  intro X hP hw hK hc i AA s σ H E I hf st hg
  subst hP hw hK
  obtain⟨hq,hi⟩:=hg
  obtain⟨h1,z,y,xs,r,o',es',ep',g1,g2,g3,g4,g5⟩:=(show ObjOk X.prog X.w H s.heap d (.frz o (.dT kvs))from I.hok d _ hq)
  rw[h1]at g1;cases g1
  rw[hdat]at g3;cases g3
  obtain⟨f0,f1,f2,f3,f4,f5⟩:=hf it (by simp)
  have hx:=List.getElem?_eq_getElem hi
  have hl:xs.length=kvs.length:=r.length.symm
  obtain⟨x,ex,hx2⟩:∃ x,xs[i]? =some x/\(kvs[i].1=x.1/\H x.2.1=some (.tup (kvs[i].1.map kV))/\RelV kvs[i].2 x.2.2):=by
   have hix:i<xs.length:=by omega
   obtain⟨y,e1,e2⟩:=JZ r (List.getElem?_eq_getElem hix)
   rw[hx]at e1
   cases e1
   exact⟨_,List.getElem?_eq_getElem hix,e2⟩
  have he:es[i]? =some (entryOfKey (tupleKind (DS X.prog X.w)) x):=by
   rw[<-Array.getElem?_toList,g4,List.getElem?_map,ex];rfl
  refine fQ st h1 hdat he λh' st' sb=> ?_
  have I1:Inv X AA σ H { s with heap:=h' }:=I.turned (t':=s.toks) (λb o hb e=>(sb.2 b hb).trans e) f0 f1 f3 f4 f5
  obtain⟨o2,e2,c2,d2⟩:=id st'
  exact⟨_,rfl,LM (s:={ s with heap:=h' }) e2 c2 d2 (by decide) ⟨.ref x.2.1,H,I1,rfl,⟨rfl,x.2.1,kvs[i].1,kvs[i].2,rfl,hx,hx2.2.1⟩,st',λb hb=>(hf b hb).1⟩⟩
 done:=by
  intro X hP hw hK hc i AA s σ H E I hf st hg
  subst hP hw hK
  obtain⟨hq,hi⟩:=hg
  obtain⟨h1,z,y,xs,r,o',es',ep',g1,g2,g3,g4,g5⟩:=(show ObjOk X.prog X.w H s.heap d (.frz o (.dT kvs))from I.hok d _ hq)
  rw[h1]at g1;cases g1
  rw[hdat]at g3;cases g3
  obtain⟨f0,f1,f2,f3,f4,f5⟩:=hf it (by simp)
  have hes:es.size=kvs.length:=by
   rw[<-Array.length_toList,g4,List.length_map,r.length]
  exact fR (I.ok.hd hc) st h1 hdat (by omega) λh' eb=>⟨rfl,I.turned (t':=s.toks) (λb o hb e=>eb b o hb e) f0 f1 f3 f4 f5⟩
 self:=λ_ _ _ _ _ st h=>wpAny_pyIter_keyiter st h
def UH(te:TE):TI:=λσ H R=>te σ H λx H1=>∃ d kvs,x=.ref d/\H1 d=some (.dT kvs)/\∀ o,R (PU d o kvs) (upd H1 d (.frz o (.dT kvs)))
theorem Dw{X:Cx}{tg a:Expr}{te:TE}(ha:PE X a te):PI X tg a (UH te):=by
 intro AA s σ H R I h
 refine AR (ha AA s σ H _ I h) λv s1 hzz=> ?_
 obtain⟨x,H1,I1,r1,d,kvs,e,hd,q⟩:=hzz
 subst e
 cases r1
 obtain⟨z,y,xs,r,o,es,ep,g1,g2,g3,g4,g5⟩:=(show ObjOk X.prog X.w H1 s1.heap d (.dT kvs)from I1.hok d _ hd)
 refine fP y g1 g2 g3 ?_
 have new:ObjOk X.prog X.w (upd H1 d (.frz o (.dT kvs))) s1.heap d (.frz o (.dT kvs)):=⟨g1,(I1.hok d _ hd).stay (λ_ _ _ e=>e) (λb e=>by rw[AG (BF e hd (by intro z;cases z))];exact e) λb xs e=>by rw[AG (BF e hd (by intro z;cases z))];exact e⟩
 have I2:Inv X AA σ (upd H1 d (.frz o (.dT kvs))) { s1 with heap:=s1.heap,toks:=s1.toks }:=I1.write (by rw[hd];trivial) (.inl rfl) (λ_ _ _ e=>e) ⟨o,g1⟩ new
 have I3:Inv X AA σ (upd H1 d (.frz o (.dT kvs))) { s1 with heap:=s1.heap.push { cls:=.type "dict_keyiterator",data:=.fields #[.ref d,.int 0 0,.int es.size 0,.int ep 0] } }:=I2.kept (t':=s1.toks) λb o e=>Heap.get?_push_of_some _ e
 exact⟨_,[s1.heap.objs.size],_,_,_,rfl,I3,Dv d s1.heap.objs.size g3,⟨_,Heap.get?_push_size _ rfl,rfl,by simp⟩,λb hb=>by
  have e:b=s1.heap.objs.size:=by simpa using hb
  subst e
  exact I2.fpOk (Nat.le_refl _) (I2.hok.fresh (Nat.le_refl _)),q o⟩
theorem Dx{d:Addr}{ob:Obj}{kvs:List (List AH × V)}{g:TG}{tb:TS}{D:Ends}{σ:St}{H:Hp}(Pv:Nat->St->Hp->Prop)(h0:Pv 0 σ H)(hl:∀ i σ H,i<=kvs.length->Pv i σ H->H d=some (.frz ob (.dT kvs)))
  (hs:∀ i b k v σ H,kvs[i]? =some (k,v)->H b=some (.tup (k.map kV))->Pv i σ H->g (.ref b) σ H λσ2 H2=>tb { D with nx:=Pv (i+1),ct:=Pv (i+1),bk:=D.nx } σ2 H2) (hd:∀ σ H,Pv kvs.length σ H->D.nx σ H):FQ (PU d ob kvs) g tb D σ H:=by
 refine⟨λi m σ H=>m=kvs.length - i/\i<=kvs.length/\Pv i σ H,⟨_,rfl,Nat.zero_le _,h0⟩,?_⟩
 rintro i m σ H ⟨rfl,hi,p⟩
 by_cases BC:i<kvs.length
 ·refine .inr ⟨⟨hl i σ H hi p,BC⟩,Pv (i+1),λσ' H' p'=>⟨_,by omega,rfl,by omega,p'⟩,?_⟩
  rintro x H' ⟨rfl,b,k,v,rfl,e1,e2⟩
  exact hs i b k v σ H' e1 e2 p
 ·have e:i=kvs.length:=by omega
  subst e
  exact .inl ⟨⟨hl _ σ H hi p,hi⟩,hd σ H p⟩
theorem Dy{te:TE}{g:TG}{s1:TS}{D:Ends}{σ:St}{H:Hp}:DT (UH te) g s1 D σ H=(te σ H λx H1=>∃ d kvs,x=.ref d/\H1 d=some (.dT kvs)/\∀ o,FQ (PU d o kvs) g s1 D σ (upd H1 d (.frz o (.dT kvs)))):=rfl
end L2
namespace L2
theorem fS:∀ {ys:List Str} {us:List Value},Vals (ys.map V.str) us->StrsAre us ys
 | [],_,.nil=>.nil
 | y::r,_,.cons h t=>by
  obtain⟨tk,rfl⟩:=h
  exact .cons _ _ (fS t)
section
variable{X:Cx}
def fT(K:W.Frag):V->List V->Hp->VK->Prop:=λx vs H Q=>∃ (z:Str) (p:Addr) (ys:List Str),x=.str z/\vs=[.ref p]/\SqL K H p (ys.map V.str)/\z.length<=16/\(ys.map (·.length)).sum+ys.length<=1048576/\Q (.str (Txt.join z ys)) H
theorem Dz:O3 X "str.join" (fT X.K):=by
 intro AA s σ H x vs v us Q I rx rv h
 obtain⟨z,p,ys,rfl,rfl,hp,hz,hw,q⟩:=h
 obtain⟨t,rfl⟩:=rx
 obtain⟨u,rfl,ru⟩:=rv.one
 cases ru
 obtain⟨its,r,pl,hz'⟩:=I.list hp
 exact join_listW pl.isList (fS r) hz hw λt' k=>⟨.str _,H,I.tok k,⟨t',rfl⟩,q⟩
end
section
variable{K:W.Frag}{tt:TT}{te:TE}{cap:List Nat}{σ:St}{H:Hp}{Q:VK}
end
end L2
namespace L2
section
variable{X:Cx}{tg:Expr}
end
section
variable{K:W.Frag}{tt:TT}{cap:List Nat}{σ:St}{H:Hp}{Q:VK}
end
section
variable{P:Program}{w:World}{A:Around}{E:Value->Shared->Prop}{s:Shared}
end
section
variable{X:Cx}
end
end L2
namespace L2
section
variable{P:Program}{w:World}{A:Around}{E:Value->Shared->Prop}{s:Shared}
theorem Eb{e it l:Addr}{i:Nat}{BI:Array Value}{x old:Value}{Q:Option Value->Shared->Prop}(he:IsEnum s.heap e it i old)(hi:s.heap.IsListIter it l i)(hl:s.heap.IsList l BI)(ex:BI[i]? =some x)(ne:e≠it)
  (q:∀ h',IsEnumOut h' e it (i+1) x s.heap.objs.size->h'.IsListIter it l (i+1)->h'.get? s.heap.objs.size=some { cls:=Value.type "tuple",data:=Data.seq #[Value.int i s.toks,x] }->(∀ b o,b≠e->b≠it->s.heap.get? b=some o->h'.get? b=some o) →
   Q (some (.ref s.heap.objs.size)) { s with heap:=h',toks:=s.toks+1 }):wpAny (model P w) A (pyNext (.ref e)) Q E s:=by
 have ty:s.TypeIs (.ref e) "enumerate":=⟨_,he,rfl⟩
 unfold pyNext
 exact wpAny_bind (wpAny_attempt (wpAny_callSpecial?_slot (name:=Str.ofString "__next__") ty F.slot_enumerate_next (wpAny_call_entry F.slot_enumerate_next ty F.entry_enumerate_next
  (enumerate_next_item he hi hl ex ne λh' a1 a2 a3 _ a4=>wpAny_pure (q h' a1 a2 a3 a4)) (F.args_enumerate_next_1 _))))
theorem Ec{e it l:Addr}{i:Nat}{BI:Array Value}{old:Value}{Q:Fin->Shared->Prop}(hh:A.handled=none)(he:IsEnum s.heap e it i old)(hi:s.heap.IsListIter it l i)(hl:s.heap.IsList l BI)(ex:BI[i]? =none)
  (q:∀ h' x,Heap.ExtBut it s.heap h'->(∃ o,h'.get? x=some o/\o.cls=.type "StopIteration")->E (.ref x) { s with heap:=h' }):wpAny (model P w) A (Builtin.«enumerate.__next__» ⟨[.ref e],[]⟩) Q E s:=by
 show wpAny (model P w) A (field (.ref e) 2 >>= _) _ _ s
 refine wpAny_bind (wpAny_field he rfl (x:=.ref it) rfl ?_)
 exact wpAny_bind (Ah (k:=true) hh hi hl ex q)
theorem Ed{e it l:Addr}{i:Nat}{BI:Array Value}{old:Value}{Q:Option Value->Shared->Prop}(hh:A.handled=none)(he:IsEnum s.heap e it i old)(hi:s.heap.IsListIter it l i)(hl:s.heap.IsList l BI)(ex:BI[i]? =none)
  (q:∀ h',Heap.ExtBut it s.heap h'->Q none { s with heap:=h' }):wpAny (model P w) A (pyNext (.ref e)) Q E s:=by
 have ty:s.TypeIs (.ref e) "enumerate":=⟨_,he,rfl⟩
 unfold pyNext
 refine wpAny_bind (wpAny_attempt (wpAny_callSpecial?_slot (name:=Str.ofString "__next__") ty F.slot_enumerate_next (wpAny_call_entry F.slot_enumerate_next ty F.entry_enumerate_next (Ec hh he hi hl ex λh' x kk ⟨o,e1,e2⟩=> ?_) (F.args_enumerate_next_1 _))))
 exact wpAny_bind (wpAny_isInstance (T:="StopIteration") (b:=true) ⟨o,e1,e2⟩ isSubtype_stop (wpAny_pure (q _ kk)))
end
def PY(K:W.Frag)(a:Addr):It :=
  ⟨λi H=>∃ xs x,SqL K H a xs/\xs[i]? =some x,
   λi H v H'=>∃ t,H t=none/\v=.ref t/\∃ x,H'=upd H t (.tup [.int (i:Int),x])/\∀ xs,SqL K H a xs->xs[i]? =some x,
   λi H=>∃ xs,SqL K H a xs/\xs.length<=i⟩
def EnSt(e it l:Addr)(i:Nat)(h:Heap):Prop:=(∃ old,IsEnum h e it i old)/\h.IsListIter it l i
theorem EnSt.lt{e it l:Addr}{i:Nat}{h:Heap}(q:EnSt e it l i h):∀ b∈[e,it],b<h.objs.size:=by
 obtain⟨⟨old,h1⟩,o,h2,_⟩:=q
 intro b hb
 simp only[List.mem_cons,List.not_mem_nil,or_false]at hb
 rcases hb with rfl | rfl
 ·exact Heap.lt_size h1
 ·exact Heap.lt_size h2
theorem Eg{P:Program}{w:World}{K:W.Frag}{elts:List Expr}{kn:Nat}{pos:Pos}{e it l:Addr}(ne:e≠it) :
  II P w K (.Tuple elts kn pos) (PY K l) [e,it] e (λi h=>EnSt e it l i h) where
 mem:=by simp
 obj:=λi h st b hb=>by
  obtain⟨⟨old,h1⟩,h2⟩:=st
  obtain⟨o4,e4,d4⟩:=ItK.ob (k:=true) h2
  simp only[List.mem_cons,List.not_mem_nil,or_false]at hb
  rcases hb with rfl | rfl
  ·exact⟨_,h1,λv q=>by cases q⟩
  ·exact⟨_,e4,λv q=>by rw[d4]at q;cases q⟩
 keep:=λi h h' ⟨⟨old,h1⟩,h2⟩ q=>⟨⟨old,q e (by simp) _ h1⟩,ItK.up (k:=true) h2 λo x=>q it (by simp) o x⟩
 item:=by
  intro X hP hw hK hc i AA s σ H E I hf st hg
  subst hP hw hK
  obtain⟨xs,x,hx,ex⟩:=hg
  obtain⟨its,rv,d1⟩:=I.seqK (k:=true) hx
  obtain⟨u,hu,ru⟩:=rv.get ex
  have lt:=EnSt.lt st
  obtain⟨⟨old,h1⟩,h2⟩:=st
  refine Eb h1 h2 d1 (x:=u) (by simpa using hu) ne λh' g1 g2 g3 kk=>⟨_,rfl,?_⟩
  refine wpAny_letOwnedTupleGo_enum g1 λh2' z2 sb=> ?_
  have I1:=I.tnew (ys:=[.int (i:Int),x]) (its:=[Value.int (i:Int) s.toks,u]) (.cons (show RelV (.int (i:Int)) (Value.int (i:Int) s.toks)from⟨s.toks,rfl⟩) (.cons ru .nil)) (by show 2<=sizeLine;decide)
  have f':∀ b∈[e,it],b≠s.heap.objs.size:=λb hb=>Nat.ne_of_lt (lt b hb)
  have nz:s.heap.objs.size≠e:=(f' e (by simp)).symm
  have I2:Inv X AA σ (upd H s.heap.objs.size (.tup [.int (i:Int),x])) { s with heap:=h2',toks:=s.toks+1 }:=by
   refine Inv.turnedS (s:={ s with heap:=s.heap.push { cls:=Value.type "tuple",data:=Data.seq #[Value.int i s.toks,u] } }) (t':=s.toks+1) (fp:=[e,it]) I1 (λb o hb eo=> ?_) λb hb=>(hf b hb).upd (f' b hb)
   simp only[List.mem_cons,List.not_mem_nil,or_false,not_or]at hb
   rcases Heap.get?_push_cases eo with⟨e1,e2⟩ | e1
   ·subst e1 e2
    exact sb.extBut _ _ nz g3
   ·exact sb.extBut _ _ hb.1 (kk _ _ hb.1 hb.2 e1)
  exact⟨.ref s.heap.objs.size,_,I2,rfl,⟨s.heap.objs.size,I.fresh,rfl,x,rfl,λys' q=>by rw[I.seqK_inj (k:=true) q hx];exact ex⟩,
   ⟨⟨_,z2⟩,ItK.up (k:=true) g2 λo x=>sb.extBut _ _ ne.symm x⟩,λb hb=>((hf b hb).upd (f' b hb)).1⟩
 done:=by
  intro X hP hw hK hc i AA s σ H E I hf st hg
  subst hP hw hK
  obtain⟨xs,hx,en⟩:=hg
  obtain⟨its,rv,d1⟩:=I.seqK (k:=true) hx
  obtain⟨⟨old,h1⟩,h2⟩:=st
  have e1:=rv.length
  refine Ed (I.ok.hd hc) h1 h2 d1 (by simp;omega) λh' kk=>⟨rfl,I.turnedS (t':=s.toks) (fp:=[e,it]) (λb o hb eo=> ?_) hf⟩
  simp only[List.mem_cons,List.not_mem_nil,or_false,not_or]at hb
  exact kk _ _ hb.2 eo
 self:=λ_ _ _ _ _ st h=>by
  obtain⟨⟨old,h1⟩,_⟩:=st
  exact wpAny_pyIter_enum h1 h
section
variable{X:Cx}
def PZ(K:W.Frag)(ta:TA):TI:=λσ H R=>ta σ H λvs H1=>∃ a:Addr,vs=[.ref a]/\(∃ xs,SqL K H1 a xs)/\R (PY K a) H1
theorem fU{a:Expr}{ta:TA}{p pos p2:Pos}{elts:List Expr}{kn:Nat}(hg:Gl X "enumerate")(hm:X.mg "enumerate"=none)(ha:PA X [a] ta)(hs:starEach [a] X.env=[(false,eval a X.env)]:=by rfl) :
  PI X (.Tuple elts kn p2) (.Call (.Name "enumerate" p) [a] [] pos) (PZ X.K ta):=by
 intro AA s σ H R I h
 refine Call_ (ON I hg hm boot_enumerate (PyProof.Rows.callWith_type1 (AR (ha pos AA s σ H _ I h) λus s1 hzz=> ?_) (by rw[hs];rfl) (by rfl)))
 obtain⟨vs,H1,I1,r1,q1⟩:=hzz
 obtain⟨l,e,⟨xs,hx⟩,q⟩:=q1
 subst e
 obtain⟨u,rfl,rx⟩:=HS r1
 cases rx
 obtain⟨its,rv,d1⟩:=I1.seqK (k:=true) hx
 refine call_enumerate_list d1 λh' z1 z2 sz kk=>wpAny_pyIter_enum z1 ?_
 have I2:Inv X AA σ H1 { s1 with heap:=h' }:=I1.kept (t':=s1.toks) kk
 refine⟨_,[s1.heap.objs.size+1,s1.heap.objs.size],_,_,H1,rfl,I2,Eg (Nat.ne_of_gt (by omega)),⟨⟨_,z1⟩,z2⟩,λb hb=>I1.fpOk ?_ (I1.hok.fresh ?_),q⟩
 all_goals
  simp only[List.mem_cons,List.not_mem_nil,or_false]at hb
  rcases hb with rfl | rfl<;>omega
end
theorem Eh{K:W.Frag}{as:TA}{g:TG}{s1:TS}{D:Ends}{σ:St}{H:Hp}:DT (PZ K as) g s1 D σ H=(as σ H λvs H1=>∃ a:Addr,vs=[.ref a]/\(∃ xs,SqL K H1 a xs)/\FQ (PY K a) g s1 D σ H1):=rfl
theorem fV{K:W.Frag}{σ:St}{H:Hp}{a:Addr}{xs:List V}{g:TG}{tb:TS}{D:Ends}(Pv:Nat->St->Hp->Prop)(h0:Pv 0 σ H)(ha:∀ i σ H,i<=xs.length->Pv i σ H->SqL K H a xs)
  (hs:∀ i x σ H t,xs[i]? =some x->Pv i σ H->H t=none->g (.ref t) σ (upd H t (.tup [.int (i:Int),x])) λσ2 H2=>tb { D with nx:=Pv (i+1),ct:=Pv (i+1),bk:=D.nx } σ2 H2) (hd:∀ σ H,Pv xs.length σ H->D.nx σ H):FQ (PY K a) g tb D σ H:=by
 refine⟨λi m σ H=>i+m=xs.length/\Pv i σ H,⟨xs.length,by omega,h0⟩,λi m σ H ⟨e,p⟩=> ?_⟩
 have h1:=ha i σ H (by omega) p
 by_cases hi:i<xs.length
 ·refine .inr ⟨⟨xs,xs[i],h1,List.getElem?_eq_getElem hi⟩,Pv (i+1),λσ' H' q=>⟨m - 1,by omega,by omega,q⟩,λv H' ⟨t,ht,e,x,e',q1⟩=> ?_⟩
  subst e e'
  exact hs i x σ H t (q1 _ h1) p ht
 ·have e:i=xs.length:=by omega
  subst e
  exact .inl ⟨⟨xs,h1,Nat.le_refl _⟩,hd _ _ p⟩
def P0(K:W.Frag):R2:=λx y H Q=>K6 K x y H Q\/∃ t ts p xs,x=.ref t/\SqT K H t ts/\y=.ref p/\SqT K H p xs/\(∀ z∈xs,z=.non\/∃ i,z=.int i)/\Q (.bl false) H
theorem fW:∀ {xs:List V} {us:List Value} {u:Value},Vals xs us->u∈us->∃ x∈xs,RelV x u
 | _,_,_,.nil,h=>by cases h
 | _,_,_,.cons r t,h=>by
  rcases List.mem_cons.mp h with rfl | h
  ·exact⟨_,List.mem_cons_self ..,r⟩
  ·obtain⟨x,hx,e⟩:=fW t h
   exact⟨x,List.mem_cons_of_mem _ hx,e⟩
theorem Ej{X:Cx}(hu:X.A.units+64<cLine):B8 X (compareOp .In) (P0 X.K):=by
 intro AA s σ H x y v u Q I rx ry h
 rcases h with h | ⟨t,ts,p,xs,rfl,ht,rfl,hp,hx,q⟩
 ·exact PR hu AA s σ H x y v u Q I rx ry h
 ·cases rx
  cases ry
  obtain⟨its,r,pl,hz⟩:=I.tuple hp
  obtain⟨tts,tr,tl,_⟩:=I.tuple ht
  have hin:X.A.in1.units<cLine:=by
   have:X.A.in1.units=X.A.units+1:=rfl
   omega
  refine SeqAt.in_tupleAt (λ_=>false) pl (λz hz'=> ?_) ⟨.bl _,H,I,rfl,?_⟩
  ·obtain⟨z0,h0,r0⟩:=fW r (by simpa using hz')
   rcases hx z0 h0 with rfl | ⟨i,rfl⟩
   ·cases r0
    exact SeqAt.EqAt.none_tuple tl hin
   ·obtain⟨tk,rfl⟩:=r0
    exact SeqAt.EqAt.int_tuple _ _ tl hin
  ·have:its.toArray.any (λ_=>false)=false:=by
    rw[Array.any_eq_false]
    simp
   rw[this]
   exact q
end L2
namespace L2
section
variable{X:Cx}
def fX:V->List V->Hp->VK->Prop:=λx vs H Q=>∃ z y:Str,x=.str z/\vs=[.str y]/\Q (.int (Txt.find z y)) H
theorem Ek:O3 X "str.find" fX:=by
 intro AA s σ H x vs v us Q I rx rv h
 obtain⟨z,y,rfl,rfl,q⟩:=h
 obtain⟨t,rfl⟩:=rx
 obtain⟨u,rfl,ru⟩:=rv.one
 obtain⟨t2,rfl⟩:=ru
 exact PySem.SC.find ⟨.int _,H,I.tok _,⟨_,rfl⟩,q⟩
end
end L2
namespace L2
section
variable{P:Program}{w:World}{A:Around}{E:Value->Shared->Prop}{s:Shared}
end
section
variable{X:Cx}
end
end L2
namespace L2
section
variable{X:Cx}{AA:List (Addr × Obj)}{σ:St}{H:Hp}{s:Shared}
theorem Inv.thaw{d:Addr}{o:Obj}{kvs:List (AH × V)}(I:Inv X AA σ H s)(e:H d=some (.frz o (.dK kvs)))(nb:∀ o u,X.H₀ d≠some (.frz o u)):Inv X AA σ (upd H d (.dK kvs)) s:=by
 have nd:∀ {b:Addr},H b=none->b≠d:=λhb z=>by rw[z,e]at hb;cases hb
 have up:∀ {b:Addr},H b=none->upd H d (.dK kvs) b=none:=λhb=>by rw[AG (nd hb)];exact hb
 refine⟨I.ok,I.os,I.bare,⟨I.base.keep,I.base.slot,λb o' e1 e2 e3=>up (I.base.free b o' e1 e2 e3),I.base.there,λb xs eb=> ?_,λb o' u eb=> ?_,λb ps eb=> ?_⟩,I.loc,I.cell,up I.free,λx c ec=>up (I.freeC x c ec),λp hp=> ?_,λb u eb=> ?_,I.len⟩
 ·have:=I.base.tups b xs eb
  rw[AG λz=>by rw[z,e]at this;cases this]
  exact this
 ·have:=I.base.frzs b o' u eb
  rw[AG (show b≠d from λz=>nb o' u (by rw[<-z];exact eb))]
  exact this
 ·obtain⟨more,this⟩:=I.base.tbls b ps eb
  exact⟨more,by rw[AG λz=>by rw[z,e]at this;cases this];exact this⟩
 ·obtain⟨h1,h2,h3⟩:=I.pin p hp
  exact⟨h1,up h2,h3⟩
 ·have st:∀ {b:Addr} {u:HO},ObjOk X.prog X.w H s.heap b u->ObjOk X.prog X.w (upd H d (.dK kvs)) s.heap b u:=λh=>h.stay (λ_ _ _ e=>e) (λb' e'=>by rw[AG (BF e' e (by intro z;cases z))];exact e') λb' xs e'=>by rw[AG (BF e' e (by intro z;cases z))];exact e'
  by_cases hb:b=d
  ·subst hb
   rw[AE]at eb
   cases eb
   exact st (show ObjOk X.prog X.w H s.heap b (.frz o (.dK kvs))from I.hok b _ e).2
  ·rw[AG hb]at eb
   exact st (I.hok b u eb)
def P4(d:Addr)(o:Obj)(kvs:List (AH × V)):It :=
 ⟨λi H=>H d=some (.frz o (.dK kvs))/\i<kvs.length,λi H x H'=>H'=H/\∃ k v,x=kV k/\kvs[i]? =some (k,v),λi H=>H d=some (.frz o (.dK kvs))/\kvs.length<=i⟩
theorem fY{P:Program}{w:World}:∀ {es:List DictEntry} {vs:List (AH × Value)} {i:Nat} {x:AH × Value},Pairs (DS P w) es vs->vs[i]? =some x->∃ e,es[i]? =some e/\JK x.1 e.key=true
 | _,_,0,_,.cons h _ _,e=>by cases e;exact⟨_,rfl,h⟩
 | _,_,i+1,_,.cons _ _ t,e=>fY (i:=i) t e
theorem fZ{P:Program}{w:World}:∀ {es:List DictEntry} {vs:List (AH × Value)},Pairs (DS P w) es vs->es.length=vs.length
 | _,_,.nil=>rfl
 | _,_,.cons _ _ t=>by rw[List.length_cons,List.length_cons,fZ t]
theorem El{P:Program}{w:World}{K:W.Frag}{tg:Expr}(d it:Addr){o:Obj}{kvs:List (AH × V)}{es:Array DictEntry}{ep:Nat}(hdat:o.data=.dict es ep):II P w K tg (P4 d o kvs) [it] it (λi h=>h.IsKeyIter it d i es.size ep) where
 mem:=by simp
 obj:=λi h st b hb=>by
  have e:b=it:=by simpa using hb
  subst e
  obtain⟨o,e,c,d⟩:=st
  exact⟨o,e,λv z=>by rw[d]at z;cases z⟩
 keep:=λi h h' st k=>st.at λo e=>k it (by simp) o e
 item:=by
  intro X hP hw hK hc i AA s σ H E I hf st hg
  subst hP hw hK
  obtain⟨hq,hi⟩:=hg
  obtain⟨h1,z,y,vs,r,o',es',ep',g1,g2,g3,g4,g5,g6⟩:=(show ObjOk X.prog X.w H s.heap d (.frz o (.dK kvs))from I.hok d _ hq)
  rw[h1]at g1;cases g1
  rw[hdat]at g3;cases g3
  obtain⟨f0,f1,f2,f3,f4,f5⟩:=hf it (by simp)
  have hl:vs.length=kvs.length:=r.length.symm
  have hix:i<vs.length:=by omega
  obtain⟨x,ex,hx1,hx2⟩:=JZ r (List.getElem?_eq_getElem hix)
  obtain⟨en,ee,hk⟩:=fY g5 (List.getElem?_eq_getElem hix)
  have he:es[i]? =some en:=by rw[<-Array.getElem?_toList];exact ee
  refine fQ st h1 hdat he λh' st' sb=> ?_
  have I1:Inv X AA σ H { s with heap:=h' }:=I.turned (t':=s.toks) (λb o hb e=>(sb.2 b hb).trans e) f0 f1 f3 f4 f5
  obtain⟨o2,e2,c2,d2⟩:=id st'
  have rk:RelV (kV x.1) en.key:=by
   rw[hx1]
   rcases GZ hk with⟨j,t,e5,e6⟩ | ⟨j,t,e5,e6⟩
   ·rw[e5,e6];exact⟨t,rfl⟩
   ·rw[e5,e6];exact⟨t,rfl⟩
  exact⟨_,rfl,LM (s:={ s with heap:=h' }) e2 c2 d2 (by decide) ⟨kV x.1,H,I1,rk,⟨rfl,x.1,x.2,rfl,ex⟩,st',λb hb=>(hf b hb).1⟩⟩
 done:=by
  intro X hP hw hK hc i AA s σ H E I hf st hg
  subst hP hw hK
  obtain⟨hq,hi⟩:=hg
  obtain⟨h1,z,y,vs,r,o',es',ep',g1,g2,g3,g4,g5,g6⟩:=(show ObjOk X.prog X.w H s.heap d (.frz o (.dK kvs))from I.hok d _ hq)
  rw[h1]at g1;cases g1
  rw[hdat]at g3;cases g3
  obtain⟨f0,f1,f2,f3,f4,f5⟩:=hf it (by simp)
  have hes:es.size=kvs.length:=by rw[<-Array.length_toList,fZ g5];exact r.length.symm
  exact fR (I.ok.hd hc) st h1 hdat (by omega) λh' eb=>⟨rfl,I.turned (t':=s.toks) (λb o hb e=>eb b o hb e) f0 f1 f3 f4 f5⟩
 self:=λ_ _ _ _ _ st h=>wpAny_pyIter_keyiter st h
variable{tg iter FX:Expr}{FB:List Expr}{scope:Scope}{pos:Pos}{td:TE}{g:TG}{tt:TT}{te:TE}{tn cn:List Str}{cap:List Nat}
end
end L2
namespace L2
theorem FnScope.go{N P:List Str}{sc:Scope}(h1:sc.kind=.function:=by exact rfl)(h2:sc.isCoroutine=false:=by exact rfl)(h3:sc.isGenerator=false:=by exact rfl)(h4:N.Nodup:=by decide +kernel)(h5:N.take P.length=P:=by exact rfl)(h6:∀ x∈P,sc.names.lookup x=some .local\/sc.names.lookup x=some .cell:=by decide +kernel)(h7:∀ y∈sc.names,y.2≠.free:=by decide +kernel):FnScope N P sc:=⟨h1,h2,h3,h4,h5,h6,h7⟩
theorem Room.m{j k:Nat}{A:Around}(r:Room k A)(h:j<=k:=by decide):Room j A:=r.mono h
abbrev FP(P:Program)(w:World)(K:W.Frag)(mg:Str->Option Value)(base:Heap)(k:Nat)(f:Addr)(fd:FuncData)(ps:List Str)(sp:Sp):Prop:=FnOk P w K mg base (D2 P w) k f fd ps sp
theorem Fun.okF{P:Program}{w:World}{K:W.Frag}{mg:Str->Option Value}{base:Heap}{x qual:Str}{st:Stmt}{f:Addr}{fd:FuncData}{N ps:List Str}{k:Nat}{sp:Sp}(F:Fun K x qual st f fd)(rd:(St->XK)->TS)(S:FnScope N ps (A0 st))(len:∀ {vs H Q E},sp vs H Q E->vs.length=ps.length)
  (ok:∀ {vs H Q E},sp vs H Q E->rd (λ_=>E) { nx:=λ_ H'=>Q .non H',rt:=Q } (start N vs) H)
  (hb:∀ (BT:Value) (A:Around) (outer:List Env) (s:Shared) (H:Hp) (E:XK),Room k (A.deeper (envOfC qual (A0 st) s.heap.objs.size f BT))->XOk (G6 (D2 P w) P w K mg base N qual (A0 st) f BT A outer s H E) (λ_=>E) →
   FN (G6 (D2 P w) P w K mg base N qual (A0 st) f BT A outer s H E) (GK st) (rd λ_=>E)):FP P w K mg base (k+1) f fd ps sp :=
 F.okE S (λ_ _ _ _=>len) λBT A outer s H _ _ E hr h=>⟨_,hb BT A outer s H E hr wU,ok h⟩
section
variable{X:Cx}{pos:Pos}
theorem A9(i:Nat){x:Str}{e:Expr}{te:TE}{pos':Pos}(hN:X.N.Nodup)(he:PE X e te)(hi:X.N[i]? =some x:=by exact rfl)(hx:LJ X.env.scope x:=by exact Or.inl rfl)(hs:swapsWith e (some (.Name x pos')) pos.line X.env=pure false:=by rfl)(hf:X.fn x=true\/X.env.scope.names.lookup x=some .local:=by first | exact .inl rfl | exact .inr rfl | assumption) :
  PS X (.Assign [.Name x pos'] e pos) (A4 te (AM i)):=M8 hN hi hx he hs hf
theorem CN(i:Nat){x:Str}(hN:X.N.Nodup)(hi:X.N[i]? =some x:=by exact rfl)(hx:LJ X.env.scope x:=by exact Or.inl rfl)(hf:X.fn x=true\/X.env.scope.names.lookup x=some .local:=by first | exact .inl rfl | exact .inr rfl | assumption):PG X (.Name x pos) (AM i):=tU hN hi hx hf
end
end L2
namespace L2
section
variable{X:Cx}{pos:Pos}
theorem FF{a:Expr}{ta:TE}{i:Int}{j pos'}(ha:PE X a ta):PE X (.Subscript a (.Constant (.int i) j pos') pos) (AF (CY X.K) ta (tC (.int i))):=CG CH ha AS (λ_ _=>rfl)
theorem FnScope.cp{scope outer:Scope}{N P tn cn:List Str}{cap:List Nat}(_:FnScope N P outer)(h:TZ scope outer N cn cap=true:=by decide +kernel)(h1:X.env.scope=outer:=by exact rfl)(h2:X.N=N:=by exact rfl):LW X scope tn cn cap:=xN h1 h2 h
end
section
variable{X:Cx}{E:St->XK}{k j:Nat}{x m:Str}{ps:List Str}{sp:Sp}{C:Addr}{p pos CF:Pos}{e o e1 e2 e3:Expr}{es:List Expr}{ta tb tc td:TE}{t:TA}
theorem AJ(h:PE X e ta)(s:starEach [e] X.env=(false,eval e X.env)::starEach [] X.env:=by rfl):PA X [e] (DR ta BK):=JM h E4 s
theorem BR(h:PE X e ta)(h1:PE X e1 tb)(s:starEach [e,e1] X.env=(false,eval e X.env)::starEach [e1] X.env:=by rfl)(s1:starEach [e1] X.env=(false,eval e1 X.env)::starEach [] X.env:=by rfl):PA X [e,e1] (DR ta (DR tb BK)):=JM h (AJ h1 s1) s
theorem DE(h:PE X e ta)(h1:PE X e1 tb)(h2:PE X e2 tc)(s:starEach [e,e1,e2] X.env=(false,eval e X.env)::starEach [e1,e2] X.env:=by rfl)(s1:starEach [e1,e2] X.env=(false,eval e1 X.env)::starEach [e2] X.env:=by rfl)(s2:starEach [e2] X.env=(false,eval e2 X.env)::starEach [] X.env:=by rfl):PA X [e,e1,e2] (DR ta (DR tb (DR tc BK))):=JM h (BR h1 h2 s1 s2) s
theorem L6(h:PE X e ta)(h1:PE X e1 tb)(h2:PE X e2 tc)(h3:PE X e3 td)(s:starEach [e,e1,e2,e3] X.env=(false,eval e X.env)::starEach [e1,e2,e3] X.env:=by rfl)(s1:starEach [e1,e2,e3] X.env=(false,eval e1 X.env)::starEach [e2,e3] X.env:=by rfl)(s2:starEach [e2,e3] X.env=(false,eval e2 X.env)::starEach [e3] X.env:=by rfl)(s3:starEach [e3] X.env=(false,eval e3 X.env)::starEach [] X.env:=by rfl):PA X [e,e1,e2,e3] (DR ta (DR tb (DR tc (DR td BK)))):=JM h (DE h1 h2 h3 s1 s2 s3) s
theorem ED(c:DM X.prog X.w X.K X.mg X.base k x ps sp)(hr:Room j X.A)(hx:XOk X E)(ha:PA X (e::es) t)(hj:k<=j:=by decide)(hg:Gl X x:=by exact rfl)(hdb:(x ==("__debug__":Str))=false:=by decide)
  (he:starEach (e::es) X.env=(false,eval e X.env)::starEach es X.env:=by rfl) (CJ:(backTo pos (starEach es X.env)).any (·.1)=false:=by rfl):PE X (.Call (.Name x p) (e::es) [] pos) (DD sp [] E t):=NI c (hr.mono hj) hx.passes hg ha hdb he CJ
theorem A6{pl:Sem Bool}(he:PE X o ta)(cl:Cls X.K C)(c:AT X.prog X.w X.K X.mg X.base C k m ps sp)(hr:Room j X.A)(hx:XOk X E)(ha:PA X (e::es) t)(hj:k<=j:=by decide)
  (hst:starEach (e::es) X.env=(false,eval e X.env)::starEach es X.env:=by rfl) (CJ:(backTo pos (starEach es X.env)).any (·.1)=false:=by rfl)
  (ht:eval (.Call (.Attribute o m CF) (e::es) [] pos) X.env=(do
   let ov ← eval o X.env
   standAt CF.atName
   let (f,first) ← holding [ov] (getMethod ov m pl)
   callWith pos f first (backTo pos (starEach (e::es) X.env)) (backToKw pos (keywordEach [] X.env))):=by rfl):PE X (.Call (.Attribute o m CF) (e::es) [] pos) (AO C m sp [] E ta t):=FZ he cl c (hr.mono hj) hx.passes ha hst CJ ht
theorem C4{pl:Sem Bool}(he:PE X o ta)(cl:Cls X.K C)(c:AT X.prog X.w X.K X.mg X.base C k m ps sp)(hr:Room j X.A)(hx:XOk X E)(hj:k<=j:=by decide)
  (ht:eval (.Call (.Attribute o m CF) [] [] pos) X.env=(do
   let ov ← eval o X.env
   standAt CF.atName
   let (f,first) ← holding [ov] (getMethod ov m pl)
   callWith pos f first (backTo pos (starEach [] X.env)) (backToKw pos (keywordEach [] X.env))):=by rfl):PE X (.Call (.Attribute o m CF) [] [] pos) (AO C m sp [] E ta BK):=wV he cl c (hr.mono hj) hx.passes ht
end
theorem Fun.okL{P:Program}{w:World}{K:W.Frag}{mg:Str->Option Value}{base:Heap}{x qual:Str}{st:Stmt}{f:Addr}{fd:FuncData}{N ps:List Str}{k:Nat}{sp:Sp}(F:Fun K x qual st f fd)(rd:(St->XK)->TS)(S:FnScope N ps (A0 st))
  (ok:∀ {vs H Q E},sp vs H Q E->rd (λ_=>E) { nx:=λ_ H'=>Q .non H',rt:=Q } (start N vs) H)
  (hb:∀ (BT:Value) (A:Around) (outer:List Env) (s:Shared) (H:Hp) (E:XK),Room k (A.deeper (envOfC qual (A0 st) s.heap.objs.size f BT))->XOk (G6 (D2 P w) P w K mg base N qual (A0 st) f BT A outer s H E) (λ_=>E) →
   FN (G6 (D2 P w) P w K mg base N qual (A0 st) f BT A outer s H E) (GK st) (rd λ_=>E))
  (len:∀ {vs H Q E},sp vs H Q E->vs.length=ps.length:=by
   intro _ _ _ _ h
   repeat (first | (obtain⟨rfl,_⟩:=h;rfl) | (refine Or.elim h ?_ ?_<;>(clear h;intro h)) | obtain⟨_,h⟩:=h)):FP P w K mg base (k+1) f fd ps sp:=F.okF rd S len ok hb
theorem Em{α :Type}{P:List α ->Prop}(h:P []):∀ us:List α,us.length=0->P us
 | [],_=>h
theorem UI{α :Type}{P:List α ->Prop}(h:∀ a,P [a]):∀ us:List α,us.length=1->P us
 | [a],_=>h a
theorem UJ{α :Type}{P:List α ->Prop}(h:∀ a b,P [a,b]):∀ us:List α,us.length=2->P us
 | [a,b],_=>h a b
theorem UK{α :Type}{P:List α ->Prop}(h:∀ a b c,P [a,b,c]):∀ us:List α,us.length=3->P us
 | [a,b,c],_=>h a b c
theorem UL{α :Type}{P:List α ->Prop}(h:∀ a b c d,P [a,b,c,d]):∀ us:List α,us.length=4->P us
 | [a,b,c,d],_=>h a b c d
theorem UM{α :Type}{P:List α ->Prop}(h:∀ a b c d e,P [a,b,c,d,e]):∀ us:List α,us.length=5->P us
 | [a,b,c,d,e],_=>h a b c d e
theorem UN{α :Type}{P:List α ->Prop}(h:∀ a b c d e f,P [a,b,c,d,e,f]):∀ us:List α,us.length=6->P us
 | [a,b,c,d,e,f],_=>h a b c d e f
theorem UO{α :Type}{P:List α ->Prop}(h:∀ a b c d e f g,P [a,b,c,d,e,f,g]):∀ us:List α,us.length=7->P us
 | [a,b,c,d,e,f,g],_=>h a b c d e f g
def UP(x qual:Str)(st:Stmt)(ps:List Str):Prop:=∀ (kV doc pm:Value) (an:Option Addr) (BT ct:Value) (us:List Value),us.length=ps.length->bindArgs (W.fnOf x qual (IU st) (GK st) (A0 st) .none kV doc pm an BT ct) ⟨us,[]⟩=pure (ps.zip us)
structure GF(K:W.Frag)(x:Str)(st:Stmt):Prop where
 ex:∃ (f:Addr) (fd:FuncData),W.nsIn K mainGlobals x=some (some (.ref f))/\Fun K x x st f fd
structure GM(K:W.Frag)(C:Addr)(m q:Str)(st:Stmt):Prop where
 ex:∃ (f:Addr) (fd:FuncData),W.findIn K (.ref C) m=some (some (.ref f))/\W.isFn K (.ref f)=true/\Fun K m q st f fd
structure GC(K:W.Frag)(C:Addr)(x:Str):Prop where
 ac:W.nsIn K mainGlobals x=some (some (.ref C))
 c:Cls K C
structure GN(K:W.Frag)(C:Addr)(x q:Str)(st:Stmt):Prop where
 m:GM K C "__init__" q st
 mks:W.makesIn K C=true
 kc:W.keepIn K (.ref C)=true
 ac:W.nsIn K mainGlobals x=some (some (.ref C))
structure GX(K:W.Frag)(C:Addr)(x:Str):Prop where
 ac:W.nsIn K mainGlobals x=some (some (.ref C))
 ex:W.excIn K C [.type "ValueError",.type "Exception",.type "BaseException",.type "object"] "ValueError.__new__"=true
section
variable{K:W.Frag}{x q:Str}{st:Stmt}{C f:Addr}{oc:Value}{od an:Option Addr}{osl:Array (Option Value)}{kV doc pm BT ct:Value}
theorem gf(a:W.nsIn K mainGlobals x=some (some (.ref f)))(l:K.lookup f=some ⟨oc,od,.func (W.fnOf x x (IU st) (GK st) (A0 st) .none kV doc pm an BT ct),osl⟩)
  (c:W.codeIn K BT x=true) (k:W.keepIn K (.ref f)=true):GF K x st:=⟨_,_,a,dM l c k⟩
theorem gm(a:W.findIn K (.ref C) x=some (some (.ref f)))(l:K.lookup f=some ⟨oc,od,.func (W.fnOf x q (IU st) (GK st) (A0 st) .none kV doc pm an BT ct),osl⟩)
  (c:W.codeIn K BT q=true) (k:W.keepIn K (.ref f)=true) (i:W.isFn K (.ref f)=true):GM K C x q st:=⟨_,_,a,i,dM l c k⟩
theorem gn{y:Str}(a:W.findIn K (.ref C) "__init__"=some (some (.ref f)))(l:K.lookup f=some ⟨oc,od,.func (W.fnOf "__init__" q (IU st) (GK st) (A0 st) .none kV doc pm an BT ct),osl⟩)
  (c:W.codeIn K BT q=true) (k:W.keepIn K (.ref f)=true) (i:W.isFn K (.ref f)=true) (m:W.makesIn K C=true) (n:W.keepIn K (.ref C)=true) (s:W.nsIn K mainGlobals y=some (some (.ref C))):GN K C y q st:=⟨gm a l c k i,m,n,s⟩
theorem gc(a:W.nsIn K mainGlobals x=some (some (.ref C)))(l:W.plainGet K C Str.empty=true)(c:W.hasDictIn K C=true)(k:W.plainOver K C=true)(i:W.findIn K (.ref C) "__setattr__"=some (some (.builtin "object.__setattr__"))):GC K C x:=⟨a,l,c,k,i⟩
end
section
variable{P:Program}{w:World}{K:W.Frag}{h:Heap}{mg:Str->Option Value}{base:Heap}{x q:Str}{st:Stmt}{C:Addr}{k:Nat}{ps:List Str}{sp:Sp}
theorem GF.cal(g:GF K x st)(X:K.In h)(G:h.Ns mainGlobals mg)(ok:∀ {f fd},Fun K x x st f fd->FP P w K mg base k f fd ps sp)
  (b:UP x x st ps:=by intro _ _ _ _ _ _;first | exact UI λ_=>rfl | exact UJ λ_ _=>rfl | exact UK λ_ _ _=>rfl | exact UL λ_ _ _ _=>rfl | exact UM λ_ _ _ _ _=>rfl | exact Em rfl | exact UN λ_ _ _ _ _ _=>rfl | exact UO λ_ _ _ _ _ _ _=>rfl):DM P w K mg base k x ps sp:=by
 obtain⟨f,fd,a,F⟩:=g.ex
 exact⟨f,fd,ok F,W.mg_of X G a,F.kp,F.binds b⟩
theorem GM.cal(g:GM K C x q st)(ok:∀ {f fd},Fun K x q st f fd->FP P w K mg base k f fd ps sp)
  (b:UP x q st ps:=by intro _ _ _ _ _ _;first | exact UI λ_=>rfl | exact UJ λ_ _=>rfl | exact UK λ_ _ _=>rfl | exact UL λ_ _ _ _=>rfl | exact UM λ_ _ _ _ _=>rfl | exact UN λ_ _ _ _ _ _=>rfl | exact UO λ_ _ _ _ _ _ _=>rfl):AT P w K mg base C k x ps sp:=by
 obtain⟨f,fd,a,i,F⟩:=g.ex
 exact⟨f,fd,ok F,⟨a,i,F.kp⟩,F.binds b⟩
theorem GN.cal(g:GN K C x q st)(X:K.In h)(G:h.Ns mainGlobals mg)(ok:∀ {f fd},Fun K "__init__" q st f fd->FP P w K mg base k f fd ps sp)
  (b:UP "__init__" q st ps:=by intro _ _ _ _ _ _;first | exact UI λ_=>rfl | exact UJ λ_ _=>rfl | exact UK λ_ _ _=>rfl | exact UL λ_ _ _ _=>rfl | exact UM λ_ _ _ _ _=>rfl | exact UN λ_ _ _ _ _ _=>rfl | exact UO λ_ _ _ _ _ _ _=>rfl):K0 P w K mg base C k x ps sp:=by
 obtain⟨f,fd,a,i,F⟩:=g.m.ex
 exact⟨f,fd,ok F,⟨g.mks,a,i,g.kc⟩,W.mg_of X G g.ac,F.binds b⟩
theorem GF.law{fa:Addr}(g:GF K x st)(X:K.In h)(G:h.Ns mainGlobals mg)(hfa:mg x=some (.ref fa))
  (b:∀ (kV doc pm:Value) (an:Option Addr) (BT ct:Value) (s:Shared) (v:Value),BindsTo s (W.fnOf x x (IU st) (GK st) (A0 st) .none kV doc pm an BT ct) ⟨[v],[]⟩ [("script",v)]) :
  ∃ fd:FuncData,(∀ (s:Shared) (v:Value),BindsTo s fd ⟨[v],[]⟩ [("script",v)])/\Fun K x x st fa fd:=by
 obtain⟨f,fd,a,F⟩:=g.ex
 have e:=hfa.symm.trans (W.mg_of X G a)
 cases e
 obtain⟨oc,od,kV,doc,pm,an,BT,ct,osl,rfl,lk,IF⟩:=F.ex
 exact⟨_,b kV doc pm an BT ct,F⟩
end
end L2
namespace L2
section
variable{X:Cx}{o i value:Expr}{td ty tv:TE}{tpos pos:Pos}
end
section
variable{X:Cx}{tg:Expr}
end
section
variable{K:W.Frag}{g:TG}{tt:TT}{te:TE}{k:Nat}{cap:List Nat}{σ:St}{H:Hp}{Q:VK}
end
end L2
namespace L2
section
variable{prog:Program}{w:World}{K:Type}[DecidableEq K]{knd:HeapKind prog w K}{A:Around}{E:Value->Shared->Prop}{s:Shared}
end
theorem Ep{td ty tx:TE}{σ:St}{H:Hp}{Q:VK}:S5 td ty tx σ H Q=(td σ H λx H1=>∃ a,x=.ref a/\LV H1 a/\ty σ H1 λy H2=>tx σ H2 λz H3=>∃ o,DGet H3 a y o/\Q (o.getD z) H3):=rfl
end L2
namespace L2
theorem Ev{d:Addr}{ob:Obj}{kvs:List (AH × V)}{g:TG}{tb:TS}{D:Ends}{σ:St}{H:Hp}(Pv:Nat->St->Hp->Prop)(h0:Pv 0 σ H)(hl:∀ i σ H,i<=kvs.length->Pv i σ H->H d=some (.frz ob (.dK kvs)))
  (hs:∀ i k v σ H,kvs[i]? =some (k,v)->Pv i σ H->g (kV k) σ H λσ2 H2=>tb { D with nx:=Pv (i+1),ct:=Pv (i+1),bk:=D.nx } σ2 H2) (hd:∀ σ H,Pv kvs.length σ H->D.nx σ H):FQ (P4 d ob kvs) g tb D σ H:=by
 refine⟨λi m σ H=>m=kvs.length - i/\i<=kvs.length/\Pv i σ H,⟨_,rfl,Nat.zero_le _,h0⟩,?_⟩
 rintro i m σ H ⟨rfl,hi,p⟩
 by_cases BC:i<kvs.length
 ·refine .inr ⟨⟨hl i σ H hi p,BC⟩,Pv (i+1),λσ' H' p'=>⟨_,by omega,rfl,by omega,p'⟩,?_⟩
  rintro x H' ⟨rfl,k,v,rfl,e1⟩
  exact hs i k v σ H' e1 p
 ·have e:i=kvs.length:=by omega
  subst e
  exact .inl ⟨⟨hl _ σ H hi p,hi⟩,hd σ H p⟩
end L2
namespace L2
def Ends.thaw(D:Ends)(d:Addr)(o:Obj)(kvs:List (AH × V)):Ends:={ D with nx:=λσ H=>H d=some (.frz o (.dK kvs))/\D.nx σ (upd H d (.dK kvs)),rt:=λv H=>H d=some (.frz o (.dK kvs))/\D.rt v (upd H d (.dK kvs)) }
def UQ(te:TE)(g:TG)(tb:TS):TS:=λD σ H=>te σ H λx H1=>∃ d kvs,x=.ref d/\H1 d=some (.dK kvs)/\∀ o,FQ (P4 d o kvs) g tb (D.thaw d o kvs) σ (upd H1 d (.frz o (.dK kvs)))
theorem Ew{te:TE}{g:TG}{s1:TS}{D:Ends}{σ:St}{H:Hp}:UQ te g s1 D σ H=(te σ H λx H1=>∃ d kvs,x=.ref d/\H1 d=some (.dK kvs)/\∀ o,FQ (P4 d o kvs) g s1 (D.thaw d o kvs) σ (upd H1 d (.frz o (.dK kvs)))):=rfl
section
variable{X:Cx}{tg:Expr}
theorem Ex{iter:Expr}{body:List Stmt}{te:TE}{g:TG}{tb:TS}{pos:Pos}(hp:PassesOwn (model X.prog X.w) X.A X.env X.xe)(hc:X.calm=true)(hi:PE X iter te)(hg:PG X tg g)(hb:FN X body tb)
  (hs:∀ x,foldedSetIterable iter X.env x=pure x:=by intro _;rfl):PS X (.For tg iter body [] pos) (UQ te g tb):=by
 intro AA s σ H D I h
 have key:wpAny (model X.prog X.w) X.A (eval iter X.env) (λv s1=>wpAny (model X.prog X.w) X.A (pyIter v) (SB X AA σ tg λJ H2=>∃ d o kvs,(∀ o u,X.H₀ d≠some (.frz o u))/\FQ J g tb (D.thaw d o kvs) σ H2) X.xe s1) X.xe s:=by
  refine AR (hi AA s σ H _ I h) λv s1 hzz=> ?_
  obtain⟨x,H1,I1,r1,d,kvs,e,hd,q⟩:=hzz
  subst e
  cases r1
  have nb:∀ o u,X.H₀ d≠some (.frz o u):=λo u e=>by
   have:=I1.base.frzs d o u e
   rw[hd]at this
   cases this
  obtain⟨z,y,vs,r,o,es,ep,g1,g2,g3,g4,g5,g6⟩:=(show ObjOk X.prog X.w H1 s1.heap d (.dK kvs)from I1.hok d _ hd)
  refine fP y g1 g2 g3 ?_
  have new:ObjOk X.prog X.w (upd H1 d (.frz o (.dK kvs))) s1.heap d (.frz o (.dK kvs)):=⟨g1,(I1.hok d _ hd).stay (λ_ _ _ e=>e) (λb e=>by rw[AG (BF e hd (by intro z;cases z))];exact e) λb xs e=>by rw[AG (BF e hd (by intro z;cases z))];exact e⟩
  have I2:Inv X AA σ (upd H1 d (.frz o (.dK kvs))) { s1 with heap:=s1.heap,toks:=s1.toks }:=I1.write (by rw[hd];trivial) (.inl rfl) (λ_ _ _ e=>e) ⟨o,g1⟩ new
  have I3:Inv X AA σ (upd H1 d (.frz o (.dK kvs))) { s1 with heap:=s1.heap.push { cls:=.type "dict_keyiterator",data:=.fields #[.ref d,.int 0 0,.int es.size 0,.int ep 0] } }:=I2.kept (t':=s1.toks) λb o e=>Heap.get?_push_of_some _ e
  exact⟨_,[s1.heap.objs.size],_,_,_,rfl,I3,El d s1.heap.objs.size g3,⟨_,Heap.get?_push_size _ rfl,rfl,by simp⟩,λb hb=>by
   have e:b=s1.heap.objs.size:=by simpa using hb
   subst e
   exact I2.fpOk (Nat.le_refl _) (I2.hok.fresh (Nat.le_refl _)),d,o,kvs,nb,q o⟩
 refine wpAny_For (AR key λv s1 h1=>AR h1 λitv s2 h2=> ?_) hs
 obtain⟨it,fp,tn,J,H2,e,I2,T,st2,f2,d,o,kvs,nb,W,⟨m0,w0⟩,turn⟩:=h2
 subst e
 have stat:∀ {H':Hp},(∀ b∈fp,H' b=none)->∀ b∈fp,FpOk X AA H' b:=λhn b hb=>⟨hn b hb,(f2 b hb).2⟩
 refine codeAny_forLoop_any (λn s'=>∃ i σ' H',Inv X AA σ' H' s'/\tn i s'.heap/\(∀ b∈fp,H' b=none)/\W i n σ' H') ?_ m0 ⟨0,σ,H2,I2,st2,λb hb=>(f2 b hb).1,w0⟩
 rintro n s3 ⟨i,σ3,H3,I3,st3,fr3,w3⟩
 rcases turn i n σ3 H3 w3 with⟨stop,qe,qn⟩ | ⟨go,N,hN,step⟩
 ·refine wpAny_passesOwn hp (AR (T.done X rfl rfl rfl hc i AA s3 σ3 H3 X.xe I3 (stat fr3) st3 stop) λr s4 ⟨hr,I4⟩=> ?_)
  subst hr
  exact wpAny_execs_nil ⟨σ3,_,I4.thaw qe nb,qn⟩
 ·refine wpAny_passesOwn hp (AR (T.item X rfl rfl rfl hc i AA s3 σ3 H3 X.xe I3 (stat fr3) st3 go) λr s4 hzz=> ?_)
  obtain⟨u,hr,h4⟩:=hzz
  subst hr
  refine wpAny_passesOwn hp (AR h4 λ_ s5 hzz=> ?_)
  obtain⟨x,H5,I5,r5,y5,st5,fr5⟩:=hzz
  have I5':=I5.pinned (stat fr5) (T.obj _ _ st5)
  refine wpAny_passesOwn hp (AR (hg _ s5 σ3 H5 x u _ I5' r5 (step x H5 y5)) λ_ s6 hzz=> ?_)
  obtain⟨σ6,H6,I6,q6⟩:=hzz
  refine wpAny_passesOwn hp (AR (hb _ s6 σ6 H6 _ I6 q6) λf s7 q7=> ?_)
  have again:∀ {σ7:St} {H7:Hp},Inv X (AA++LN fp s5.heap) σ7 H7 s7->N σ7 H7->∃ m,m<n/\∃ i σ' H',Inv X AA σ' H' s7/\tn i s7.heap/\(∀ b∈fp,H' b=none)/\W i m σ' H':=λ{σ7 H7} I7 n7=>by
   obtain⟨m',hm,w7⟩:=hN σ7 H7 n7
   refine⟨m',hm,i+1,σ7,H7,I7.unpinned,T.keep _ _ _ st5 λb hb o e=>(I7.pin (b,o) (List.mem_append_right _ (List.mem_append_right _ (LO hb e)))).1,λb hb=> ?_,w7⟩
   obtain⟨o,e,d⟩:=T.obj _ _ st5 b hb
   exact(I7.pin (b,o) (List.mem_append_right _ (List.mem_append_right _ (LO hb e)))).2.1
  cases f with
  | next=>obtain⟨σ7,H7,I7,n7⟩:=q7;exact again I7 n7
  | cont=>obtain⟨σ7,H7,I7,n7⟩:=q7;exact again I7 n7
  | brk=>obtain⟨σ7,H7,I7,q7,q8⟩:=q7;exact⟨σ7,_,I7.unpinned.thaw q7 nb,q8⟩
  | ret v=>obtain⟨x7,σ7,H7,I7,r7,q7,q8⟩:=q7;exact⟨x7,σ7,_,I7.unpinned.thaw q7 nb,r7,q8⟩
end
end L2
namespace L2
def P5(K:W.Frag):List V->Hp->VK->Prop:=λxs H Q=>∃ (a:Addr) (kvs:List (AH × V)),xs=[.ref a]/\H a=some (.dK kvs)/\∀ l,H l=none->Q (.ref l) (upd H l (.lst (kvs.map λp=>kV p.1)))
theorem f7:∀ {ys:List V} {us:List Value},ys.length=us.length->(∀ (j:Nat) y u,ys[j]? =some y->us[j]? =some u->RelV y u)->Vals ys us
 | [],[],_,_=>.nil
 | y::ys,u::us,h,f=>.cons (f 0 y u rfl rfl) (f7 (by simpa using h) λj a b e1 e2=>f (j+1) a b e1 e2)
 | [],_::_,h,_=>by simp at h
 | _::_,[],h,_=>by simp at h
section
variable{X:Cx}
theorem Ey(hc:X.calm=true):FD X (.type "list") (P5 X.K):=by
 intro AA s σ H xs us Q I r h
 obtain⟨a,kvs,rfl,ha,q⟩:=h
 obtain⟨u,rfl,rx⟩:=HS r
 cases rx
 obtain⟨z,y,vs,rel,od,es,ep,ho,hex,hdat,h1,h2,h3⟩:=(show ObjOk X.prog X.w H s.heap a (.dK kvs)from I.hok a _ ha)
 have hl:vs.length=kvs.length:=rel.length.symm
 refine W.kdl_call (W.kdl_dict (knd:=DS X.prog X.w) (kvs:=vs) (ep:=ep) y) (I.ok.hd hc) ⟨od,es,ho,hex,hdat,h1,h2,h3⟩ (by rw[hl];exact z) λh' tk acc' c' kp e hacc=> ?_
 refine⟨.ref s.heap.objs.size,_,I.laid (t':=tk) kp (Nat.le_refl _) (show ObjOk X.prog X.w _ h' _ (.lst (kvs.map λp=>kV p.1))from⟨by rw[List.length_map];exact z,acc'.toList,c',f7 ?_ λj y u ey eu=> ?_,by simpa using e⟩),rfl,q _ (I.hok.fresh (Nat.le_refl _))⟩
 ·have:=hacc.1
  rw[List.length_map]
  simp only[Array.length_toList]
  omega
 ·rw[List.getElem?_map,Option.map_eq_some_iff]at ey
  obtain⟨p,ep',rfl⟩:=ey
  obtain⟨k,x,ek,hk⟩:=hacc.2 j u (by rw[<-Array.getElem?_toList];exact eu)
  obtain⟨p',ep2,MY,HP⟩:=JZ rel ek
  rw[ep']at ep2
  cases ep2
  have hk:JK k u=true:=hk
  rw[MY]
  rcases GZ hk with⟨i,t,e5,e6⟩ | ⟨i,t,e5,e6⟩
  ·rw[e5,e6];exact⟨t,rfl⟩
  ·rw[e5,e6];exact⟨t,rfl⟩
end
theorem Ez{K:W.Frag}{p:Addr}{H:Hp}{Q:VK}:P5 K [.ref p] H Q=∃ kvs,H p=some (.dK kvs)/\∀ l,H l=none->Q (.ref l) (upd H l (.lst (kvs.map λp=>kV p.1))):=by simp[P5]
end L2
namespace L2
abbrev Ad:=String->Addr
def SameBut(F:Addr->Prop)(H H':Hp):Prop:=∀ b o,H b=some o->¬ F b->H' b=some o
structure D9(K:W.Frag)(a:Ad):Prop where
 cl:Cls K (a "Plank")
 nC:NoAttr K (a "Plank") "contents"
 nW:NoAttr K (a "Plank") "width"
 nN:NoAttr K (a "Plank") "written"
def pf(cl:Addr)(w n:Int):List (Str × V):=[("contents",.ref cl),("width",.int w),("written",.int n)]
theorem f8:¬ ("contents":Str)="width":=by decide +kernel
theorem UR:¬ ("contents":Str)="written":=by decide +kernel
theorem US:¬ ("width":Str)="written":=by decide +kernel
theorem P7(cl:Addr)(w n:Int):(pf cl w n).lookup ("contents":Str)=some (V.ref cl):=by simp[pf]
theorem f9(cl:Addr)(w n:Int):(pf cl w n).lookup ("width":Str)=some (V.int w):=by
 have h:(("width":Str) == "contents")=false:=beq_eq_false_iff_ne.mpr (Ne.symm f8)
 simp[pf,List.lookup_cons,h]
theorem Fb(cl:Addr)(w n:Int):(pf cl w n).lookup ("written":Str)=some (V.int n):=by
 have h:(("written":Str) == "contents")=false:=beq_eq_false_iff_ne.mpr (Ne.symm UR)
 have h2:(("written":Str) == "width")=false:=beq_eq_false_iff_ne.mpr (Ne.symm US)
 simp[pf,List.lookup_cons,h,h2]
theorem Fc(cl:Addr)(w n:Int):A7 "written" (.int n) (A7 "width" (.int w) (A7 "contents" (.ref cl) []))=pf cl w n:=by
 simp only[A7,pf]
 rw[if_neg f8]
 simp only[A7]
 rw[if_neg UR,if_neg US]
theorem Fd(cl:Addr)(w n m:Int):A7 "written" (.int m) (pf cl w n)=pf cl w m:=by
 simp only[A7,pf]
 rw[if_neg UR,if_neg US]
 simp
theorem L7(cl:Addr)(w n:Int){m:Str}(h1:¬ m="contents")(h2:¬ m="width")(h3:¬ m="written"):(pf cl w n).lookup m=none:=by
 have e1:=beq_eq_false_iff_ne.mpr h1
 have e2:=beq_eq_false_iff_ne.mpr h2
 have e3:=beq_eq_false_iff_ne.mpr h3
 simp[pf,List.lookup_cons,e1,e2,e3]
structure PlankAt(a:Ad)(H:Hp)(p cl:Addr)(w:Nat)(rows:List (List V))(n:Nat):Prop where
 ob:∃ dx,H p=some (.ins (a "Plank") dx (pf cl w n))
 ls:∃ ts:List Addr,H cl=some (.lst (ts.map V.ref))/\Paired (λt r=>H t=some (.tup r)) ts rows
 wd:∀ r∈rows,r.length=w
 sz:rows.length<=1000
 sw:w<=1000
theorem PlankAt.ne{a:Ad}{H:Hp}{p cl:Addr}{w:Nat}{rows:List (List V)}{n:Nat}(P:PlankAt a H p cl w rows n):p≠cl:=by
 obtain⟨⟨dx,h1⟩,⟨ts,h2,_⟩,_⟩:=P
 exact BF h1 h2 (by intro z;cases z)
theorem PlankAt.same{a:Ad}{H H':Hp}{p cl:Addr}{w:Nat}{rows:List (List V)}{n:Nat}(P:PlankAt a H p cl w rows n)(s:Same H H'):PlankAt a H' p cl w rows n:=by
 obtain⟨⟨dx,e1⟩,⟨ts,e2,e3⟩,r1,r2,r3⟩:=P
 exact⟨⟨dx,s _ _ e1⟩,⟨ts,s _ _ e2,Paired.mapP e3 λt r q=>s _ _ q⟩,r1,r2,r3⟩
def P8(K:W.Frag)(a:Ad):Sp:=λvs H Q _=>∃ (p dx:Addr) (m w:Nat),vs=[.ref p,.int m,.int w]/\D9 K a/\H p=some (.ins (a "Plank") dx [])/\m<=1000/\1<=w/\w<=1000 ∧
 ∀ cl H',H cl=none->PlankAt a H' p cl w (List.replicate m (List.replicate w .non)) 0->SameBut (· =p) H H'->Q .non H'
def L8(K:W.Frag)(a:Ad):Sp:=λvs H Q _=>∃ p cl w rows n,vs=[.ref p]/\D9 K a/\PlankAt a H p cl w rows n/\Q (.int rows.length) H
def P9(K:W.Frag)(a:Ad):Sp:=λvs H Q _=>∃ (p cl:Addr) (w:Nat) (rows:List (List V)) (n:Nat),vs=[.ref p]/\D9 K a/\PlankAt a H p cl w rows n/\Q (.int w) H
def J6(K:W.Frag)(a:Ad):Sp:=λvs H Q E=>∃ (p cl:Addr) (w:Nat) (rows:List (List V)) (n:Nat) (b:Int),vs=[.ref p,.int b]/\D9 K a/\PlankAt a H p cl w rows n ∧
 (0<=b->b<rows.length->Q .non H)/\(b<0\/rows.length<=b->E (.ref (a "NoBlock")) none H)
def J8(K:W.Frag)(a:Ad):Sp:=λvs H Q E=>∃ (p cl:Addr) (w:Nat) (rows:List (List V)) (n:Nat) (b:Int),vs=[.ref p,.int b]/\D9 K a/\PlankAt a H p cl w rows n ∧
 (∀ (i:Nat) row,b=i->rows[i]? =some row->∀ l,H l=none->Q (.ref l) (upd H l (.lst row)))/\(b<0\/rows.length<=b->E (.ref (a "NoBlock")) none H)
def QC(K:W.Frag)(a:Ad):Sp:=λvs H Q E=>∃ (p cl:Addr) (w:Nat) (rows:List (List V)) (n:Nat) (b:Int) (v:Addr) (xs:List V),vs=[.ref p,.int b,.ref v]/\D9 K a/\PlankAt a H p cl w rows n/\SqL K H v xs/\xs.length<=2000 ∧
 (∀ (i:Nat),b=i->i<rows.length->xs.length=w->∀ H',PlankAt a H' p cl w (rows.set i xs) (n+1)->SameBut (λx=>x=p\/x=cl) H H'->Q .non H') ∧
 (b<0\/rows.length<=b\/xs.length≠w->E (.ref (a "NoBlock")) none H)
end L2
namespace L2
theorem C8{K:W.Frag}{H:Hp}{p:Addr}{xs:List V}{i:Int}{n:Nat}{v:V}{Q:VK}(h:H p=some (.tup xs))(hi:i=n)(hx:xs[n]? =some v)(q:Q v H):CY K (.ref p) (.int i) H Q :=
 .inr (.inl ⟨p,xs,i,v,rfl,rfl,SqT.of h,by rw[hi];exact O2 hx,q⟩)
theorem L9{C C' dx dx':Addr}{fs fs':List (Str × V)}(h:fs≠fs'):HO.ins C dx fs≠HO.ins C' dx' fs':=by
 intro z
 injection z with _ _ z
 exact h z
theorem Fg(xs:List V){k:Int}(h:0<=k):EX xs none (some k)=xs.take k.toNat:=by
 unfold EX
 have e:HT.sIx xs.length xs.length (some k)=min k.toNat xs.length:=by
  show(if k<0 then(k+(xs.length:Int)).toNat else min k.toNat xs.length)=_
  rw[if_neg (by omega)]
 rw[e,HT.sIx_none,List.drop_zero,Nat.sub_zero,List.take_eq_take_iff]
 omega
theorem Fh(xs:List V){k:Int}(h:0<=k):EX xs (some k) none=xs.drop k.toNat:=by
 unfold EX
 have e:HT.sIx xs.length 0 (some k)=min k.toNat xs.length:=by
  show(if k<0 then(k+(xs.length:Int)).toNat else min k.toNat xs.length)=_
  rw[if_neg (by omega)]
 rw[e,HT.sIx_none]
 rcases Nat.lt_or_ge k.toNat xs.length with z | z
 ·rw[Nat.min_eq_left (Nat.le_of_lt z),List.take_of_length_le (by rw[List.length_drop];exact Nat.le_refl _)]
 ·rw[Nat.min_eq_right z,List.drop_of_length_le (Nat.le_refl _),List.drop_of_length_le z];simp
theorem Fj{K:W.Frag}{H:Hp}{p:Addr}{xs:List V}{lo hi:Option Int}{Q:VK}(h:SqL K H p xs)(q:∀ r,H r=none->Q (.ref r) (upd H r (.lst (EX xs lo hi)))):JY K (.ref p) lo hi H Q:=.inl ⟨p,xs,rfl,h,q⟩
theorem SameBut.refl{F:Addr->Prop}(H:Hp):SameBut F H H:=λ_ _ e _=>e
theorem SameBut.trans{F:Addr->Prop}{H H' H2:Hp}(s:SameBut F H H')(t:SameBut F H' H2):SameBut F H H2:=λb o e n=>t _ _ (s _ _ e n) n
theorem SameBut.wide{F G:Addr->Prop}{H H':Hp}(s:SameBut F H H')(i:∀ x,F x->G x):SameBut G H H':=λb o e n=>s _ _ e λz=>n (i _ z)
theorem Same.sb{F:Addr->Prop}{H H':Hp}(s:Same H H'):SameBut F H H':=λb o e _=>s b o e
theorem SameBut.upd{F:Addr->Prop}{H H':Hp}{p:Addr}{o:HO}(s:SameBut F H H')(h:F p\/H p=none):SameBut F H (upd H' p o):=λb u e n=>by
 have:b≠p:=by
  rcases h with h | h
  ·exact λz=>n (z ▸ h)
  ·exact BN e h
 rw[AG this];exact s _ _ e n
structure Ch where
 blk:Nat
 cell:Nat
 val:V
 nd:List Int
def K7:List Ch->Int->Int->Option Nat
 | [],_,_=>none
 | c::r,i,j=>if(c.blk:Int)=i/\(c.cell:Int)=j then some r.length else K7 r i j
def D3(cs:List Ch)(i j:Int):Option Nat:=K7 cs.reverse i j
def F5:List Ch->Nat->List Nat
 | [],_=>[]
 | c::r,b=>if c.blk=b then F5 r b++[r.length]else F5 r b
def CI(cs:List Ch)(b:Nat):List Nat:=F5 cs.reverse b
theorem UT(cs:List Ch)(c:Ch)(i j:Int):D3 (cs++[c]) i j=if(c.blk:Int)=i/\(c.cell:Int)=j then some cs.length else D3 cs i j:=by
 simp[D3,K7]
theorem Fk(cs:List Ch)(c:Ch)(b:Nat):CI (cs++[c]) b=if c.blk=b then CI cs b++[cs.length]else CI cs b:=by
 simp[CI,F5]
theorem UU:∀ {l:List Ch} {i j:Int} {k:Nat},K7 l i j=some k->k<l.length
 | [],_,_,_,h=>by cases h
 | c::r,i,j,k,h=>by
  unfold K7 at h
  split at h
  ·cases h;simp
  ·have:=UU h
   simp only[List.length_cons];omega
theorem QD{cs:List Ch}{i j:Int}{k:Nat}(h:D3 cs i j=some k):k<cs.length:=by
 have:=UU h
 rwa [List.length_reverse]at this
theorem UV:∀ {l:List Ch} {b k:Nat},k∈F5 l b->k<l.length
 | [],_,_,h=>by cases h
 | c::r,b,k,h=>by
  unfold F5 at h
  split at h
  ·rcases List.mem_append.mp h with h | h
   ·have:=UV h
    simp only[List.length_cons];omega
   ·rw[List.mem_singleton.mp h];simp
  ·have:=UV h
   simp only[List.length_cons];omega
theorem UW{cs:List Ch}{b k:Nat}(h:k∈CI cs b):k<cs.length:=by
 have:=UV h
 rwa [List.length_reverse]at this
theorem gA:∀ (l:List Ch) (b:Nat),(F5 l b).length<=l.length
 | [],_=>Nat.le_refl _
 | c::r,b=>by
  have:=gA r b
  unfold F5
  split<;>simp<;>omega
theorem gB(cs:List Ch)(b:Nat):(CI cs b).length<=cs.length:=by
 have:=gA cs.reverse b
 rwa [List.length_reverse]at this
def FG(pl:Addr)(v:V)(nt:Addr):List (Str × V):=[("place",.ref pl),("value",v),("needs",.ref nt)]
def bf(gp m mi lt ou:Addr):List (Str × V):=[("ground",.ref gp),("made",.ref m),("made_in",.ref mi),("latest",.ref lt),("outs",.ref ou)]
def E3(a b:Str):Bool:=a == b
section
variable{pl nt gp m mi lt ou:Addr}{v:V}
theorem CL{a b:Str}(h:E3 a b=false):(a == b)=false:=h
theorem Fl:(FG pl v nt).lookup ("place":Str)=some (V.ref pl):=by simp[FG]
theorem gC:(FG pl v nt).lookup ("value":Str)=some v:=by
 simp[FG,List.lookup_cons,CL (a:="value") (b:="place") (by decide +kernel)]
theorem Fm:(FG pl v nt).lookup ("needs":Str)=some (V.ref nt):=by
 simp[FG,List.lookup_cons,CL (a:="needs") (b:="place") (by decide +kernel),CL (a:="needs") (b:="value") (by decide +kernel)]
theorem MA{f g:Str}{x y:V}{r:List (Str × V)}(h:E3 g f=false):A7 f y ((g,x)::r)=(g,x)::A7 f y r:=by
 have:¬ g=f:=λe=>by rw[e]at h;simp[E3]at h
 simp[A7,this]
theorem MB{f:Str}{y:V}:A7 f y []=[(f,y)]:=rfl
theorem Fp:A7 "needs" (.ref nt) (A7 "value" v (A7 "place" (.ref pl) []))=FG pl v nt:=by
 rw[MB,MA (by decide +kernel),MB,MA (by decide +kernel),MA (by decide +kernel),MB]
 rfl
theorem NP:(bf gp m mi lt ou).lookup ("ground":Str)=some (V.ref gp):=by simp[bf]
theorem J9:(bf gp m mi lt ou).lookup ("made":Str)=some (V.ref m):=by
 simp[bf,List.lookup_cons,CL (a:="made") (b:="ground") (by decide +kernel)]
theorem UX:(bf gp m mi lt ou).lookup ("made_in":Str)=some (V.ref mi):=by
 simp[bf,List.lookup_cons,CL (a:="made_in") (b:="ground") (by decide +kernel),CL (a:="made_in") (b:="made") (by decide +kernel)]
theorem gD:(bf gp m mi lt ou).lookup ("latest":Str)=some (V.ref lt):=by
 simp[bf,List.lookup_cons,CL (a:="latest") (b:="ground") (by decide +kernel),CL (a:="latest") (b:="made") (by decide +kernel),CL (a:="latest") (b:="made_in") (by decide +kernel)]
theorem NQ:(bf gp m mi lt ou).lookup ("outs":Str)=some (V.ref ou):=by
 simp[bf,List.lookup_cons,CL (a:="outs") (b:="ground") (by decide +kernel),CL (a:="outs") (b:="made") (by decide +kernel),CL (a:="outs") (b:="made_in") (by decide +kernel),CL (a:="outs") (b:="latest") (by decide +kernel)]
theorem DN{x:Str}(h:(E3 x "ground" || E3 x "made" || E3 x "made_in" || E3 x "latest" || E3 x "outs")=false):(bf gp m mi lt ou).lookup x=none:=by
 simp only[Bool.or_eq_false_iff]at h
 obtain⟨⟨⟨⟨h1,h2⟩,h3⟩,h4⟩,h5⟩:=h
 simp[bf,List.lookup_cons,CL h1,CL h2,CL h3,CL h4,CL h5]
theorem Fq:A7 "outs" (.ref ou) (A7 "latest" (.ref lt) (A7 "made_in" (.ref mi) (A7 "made" (.ref m) (A7 "ground" (.ref gp) []))))=bf gp m mi lt ou:=by
 repeat (first | rw[MB] | rw[MA (by decide +kernel)])
 rfl
end
structure gE(K:W.Frag)(C D:Addr):Prop where
 cl:Cls K C
 nG:NoAttr K C "ground"
 nM:NoAttr K C "made"
 nI:NoAttr K C "made_in"
 nL:NoAttr K C "latest"
 nO:NoAttr K C "outs"
 cc:Cls K D
 nP:NoAttr K D "place"
 nV:NoAttr K D "value"
 nN:NoAttr K D "needs"
def ChAt(D:Addr)(H:Hp)(x:Addr)(c:Ch):Prop:=∃ dx pl nt,H x=some (.ins D dx (FG pl c.val nt))/\H pl=some (.tup [.int c.blk,.int c.cell])/\H nt=some (.tup (c.nd.map V.int))
structure BA where
 b:Addr
 gp:Addr
 m:Addr
 mi:Addr
 lt:Addr
 ou:Addr
 ls:List Addr
 cl:Addr
def BA.F(A:BA)(x:Addr):Prop:=x=A.m\/x=A.mi\/x∈A.ls\/x=A.lt\/x=A.ou\/x=A.cl
def KeysOk(C0:List (AH × V))(n:Nat):Prop:=(C0.map (·.1)).Nodup/\∀ p∈C0,∃ x:Nat,p.1=Sum.inl (x:Int)/\x<n
theorem KeysOk.mono{C0:List (AH × V)}{n m:Nat}(h:KeysOk C0 n)(hm:n<=m):KeysOk C0 m:=⟨h.1,λp hp=>by obtain⟨x,e,hx⟩:=h.2 p hp;exact⟨x,e,by omega⟩⟩
theorem KeysOk.len{C0:List (AH × V)}{n:Nat}(h:KeysOk C0 n):C0.length<=n:=by
 have:=List.Nodup.length_le_of_subset (l₂:=(List.range n).map λ(k:Nat)=>(Sum.inl (k:Int):AH)) h.1 λk hk=>by
  obtain⟨p,hp,rfl⟩:=List.mem_map.mp hk
  obtain⟨x,e,hx⟩:=h.2 p hp
  rw[e]
  exact List.mem_map.mpr ⟨x,List.mem_range.mpr hx,rfl⟩
 simpa using this
theorem KeysOk.put{C0:List (AH × V)}{n:Nat}(h:KeysOk C0 n){k:Nat}(hk:k<n)(hn:BJ C0 (.inl (k:Int))=none)(v:V):KeysOk (CB C0 (.inl (k:Int)) v) n:=by
 refine⟨wR v h.1 hn,λp hp=> ?_⟩
 rw[SW v hn]at hp
 rcases List.mem_append.mp hp with hp | hp
 ·exact h.2 p hp
 ·rw[List.mem_singleton.mp hp];exact⟨k,rfl,hk⟩
structure BookIn(C D:Addr)(H:Hp)(A:BA)(w:Nat)(cs:List Ch)(outs:Int->Bool):Prop where
 ob:∃ dx,H A.b=some (.ins C dx (bf A.gp A.m A.mi A.lt A.ou))
 made:∃ chs:List Addr,H A.m=some (.lst (chs.map V.ref))/\Paired (ChAt D H) chs cs
 mil:H A.mi=some (.lst (A.ls.map V.ref))
 mic:∀ (i:Nat) l,A.ls[i]? =some l->H l=some (.lst ((CI cs i).map λ(k:Nat)=>V.int k))
 nd:A.ls.Nodup
 lat:∃ kvs,H A.lt=some (.dT kvs)/\(∀ i j:Int,BJ kvs [.inl i,.inl j]=(D3 cs i j).map λ(k:Nat)=>V.int k)/\kvs.length<=cs.length
 out:∃ C0,H A.ou=some (.dK C0)/\(∀ k:Int,(BJ C0 (.inl k)).isSome=outs k)/\KeysOk C0 cs.length
 sz:cs.length<=990
 inn:∀ c∈cs,c.blk<A.ls.length/\c.cell<w
 need:∀ (k:Nat) c,cs[k]? =some c->(∀ x∈c.nd,0<=x/\x<k)/\c.nd.Pairwise (· <·)/\c.nd.length<=100
 ap:A.m≠A.mi/\A.m∉A.ls/\A.mi∉A.ls/\A.cl≠A.m/\A.cl≠A.mi/\A.cl∉A.ls
 chn:∀ (k:Nat) c,cs[k]? =some c->∀ j,D3 (cs.take k) c.blk c.cell=some j->(j:Int)∈c.nd
structure BookAt(a:Ad)(C:Addr)(H:Hp)(A:BA)(w:Nat)(rows:List (List V))(n:Nat)(cs:List Ch)(outs:Int->Bool):Prop where
 bk:BookIn C (a "Change") H A w cs outs
 pk:PlankAt a H A.gp A.cl w rows n
 nb:A.ls.length=rows.length
def EE(o:Option HO):Prop:=(∀ xs,o≠some (.tup xs))/\∀ C dx fs,o≠some (.ins C dx fs)
theorem ChAt.sb{D:Addr}{G:Addr->Prop}{H H':Hp}(s:SameBut G H H')(g:∀ x,G x->EE (H x)){x:Addr}{c:Ch}(h:ChAt D H x c):ChAt D H' x c:=by
 obtain⟨dx,pl,nt,e1,e2,e3⟩:=h
 exact⟨dx,pl,nt,s _ _ e1 λz=>(g _ z).2 _ _ _ e1,s _ _ e2 λz=>(g _ z).1 _ e2,s _ _ e3 λz=>(g _ z).1 _ e3⟩
theorem BookIn.sb{C D:Addr}{G:Addr->Prop}{H H':Hp}{A:BA}{w:Nat}{cs:List Ch}{outs:Int->Bool}(B:BookIn C D H A w cs outs)(s:SameBut G H H')(g:∀ x,G x->EE (H x))(f:∀ x,G x->¬ A.F x):BookIn C D H' A w cs outs:=by
 obtain⟨⟨dx,e1⟩,⟨chs,e2,e3⟩,e4,e5,e6,⟨kvs,e7,e8⟩,⟨C0,e9,e10⟩,r1,r2,r3,r4,r5⟩:=B
 refine⟨⟨dx,s _ _ e1 λz=>(g _ z).2 _ _ _ e1⟩,⟨chs,s _ _ e2 λz=>f _ z (.inl rfl),Paired.mapP e3 λx c h=>h.sb s g⟩,s _ _ e4 λz=>f _ z (.inr (.inl rfl)),λi l h=>s _ _ (e5 i l h) λz=>f _ z (.inr (.inr (.inl (List.mem_of_getElem? h)))),e6,
  ⟨kvs,s _ _ e7 λz=>f _ z (.inr (.inr (.inr (.inl rfl)))),e8⟩,⟨C0,s _ _ e9 λz=>f _ z (.inr (.inr (.inr (.inr (.inl rfl))))),e10⟩,r1,r2,r3,r4,r5⟩
theorem PlankAt.sbL{a:Ad}{G:Addr->Prop}{H H':Hp}{p cl:Addr}{w:Nat}{rows:List (List V)}{n:Nat}(P:PlankAt a H p cl w rows n)(s:SameBut G H H')(g:∀ x,G x->EE (H x))(h:¬ G cl):PlankAt a H' p cl w rows n:=by
 obtain⟨⟨dx,e1⟩,⟨ts,e2,e3⟩,r1,r2,r3⟩:=P
 exact⟨⟨dx,s _ _ e1 λz=>(g _ z).2 _ _ _ e1⟩,⟨ts,s _ _ e2 h,Paired.mapP e3 λt r q=>s _ _ q λz=>(g _ z).1 _ q⟩,r1,r2,r3⟩
theorem BookAt.sb{a:Ad}{C:Addr}{G:Addr->Prop}{H H':Hp}{A:BA}{w:Nat}{rows:List (List V)}{n:Nat}{cs:List Ch}{outs:Int->Bool}(B:BookAt a C H A w rows n cs outs)(s:SameBut G H H')(g:∀ x,G x->EE (H x))(f:∀ x,G x->¬ A.F x):BookAt a C H' A w rows n cs outs :=
 ⟨B.bk.sb s g f,B.pk.sbL s g λz=>f _ z (.inr (.inr (.inr (.inr (.inr rfl))))),B.nb⟩
theorem BookAt.same{a:Ad}{C:Addr}{H H':Hp}{A:BA}{w:Nat}{rows:List (List V)}{n:Nat}{cs:List Ch}{outs:Int->Bool}(B:BookAt a C H A w rows n cs outs)(s:Same H H'):BookAt a C H' A w rows n cs outs :=
 B.sb (G:=λ_=>False) (Same.sb s) (λ_ z=>z.elim) λ_ z=>z.elim
theorem BookAt.off{a:Ad}{C:Addr}{H:Hp}{A:BA}{w:Nat}{rows:List (List V)}{n:Nat}{cs:List Ch}{outs:Int->Bool}(B:BookAt a C H A w rows n cs outs){x:Addr}(h:H x=none):¬ A.F x:=by
 obtain⟨⟨_,⟨chs,e2,_⟩,e4,e5,_,⟨kvs,e7,_⟩,⟨C0,e9,_⟩,_⟩,⟨_,⟨ts,e11,_⟩,_⟩,_⟩:=B
 rintro (z | z | z | z | z | z)
 ·rw[z,e2]at h;cases h
 ·rw[z,e4]at h;cases h
 ·obtain⟨i,hi,e⟩:=List.getElem_of_mem z
  have:=e5 i x (by rw[<-e];exact List.getElem?_eq_getElem hi)
  rw[this]at h;cases h
 ·rw[z,e7]at h;cases h
 ·rw[z,e9]at h;cases h
 ·rw[z,e11]at h;cases h
theorem Fv{α :Type}{l:List α}{x: α}(h:x∈l):∃ i:Nat,l[i]? =some x:=by
 obtain⟨i,hi,e⟩:=List.getElem_of_mem h
 exact⟨i,by rw[<-e];exact List.getElem?_eq_getElem hi⟩
theorem MC{H:Hp}{x:Addr}{xs:List V}(h:H x=some (.lst xs)):EE (H x):=by
 rw[h];exact⟨λ_ z=>(by cases z),λ_ _ _ z=>(by cases z)⟩
theorem NR{H:Hp}{x:Addr}{xs:List (AH × V)}(h:H x=some (.dK xs)):EE (H x):=by
 rw[h];exact⟨λ_ z=>(by cases z),λ_ _ _ z=>(by cases z)⟩
theorem Fw{H:Hp}{x:Addr}{xs:List (List AH × V)}(h:H x=some (.dT xs)):EE (H x):=by
 rw[h];exact⟨λ_ z=>(by cases z),λ_ _ _ z=>(by cases z)⟩
theorem BookAt.loose{a:Ad}{C:Addr}{H:Hp}{A:BA}{w:Nat}{rows:List (List V)}{n:Nat}{cs:List Ch}{outs:Int->Bool}(B:BookAt a C H A w rows n cs outs){x:Addr}(h:A.F x):EE (H x):=by
 obtain⟨⟨_,⟨chs,e2,_⟩,e4,e5,_,⟨kvs,e7,_⟩,⟨C0,e9,_⟩,_⟩,⟨_,⟨ts,e11,_⟩,_⟩,_⟩:=B
 rcases h with z | z | z | z | z | z
 ·exact MC (z ▸ e2)
 ·exact MC (z ▸ e4)
 ·obtain⟨i,e⟩:=Fv z
  exact MC (e5 i x e)
 ·exact Fw (z ▸ e7)
 ·exact NR (z ▸ e9)
 ·exact MC (z ▸ e11)
structure zg7(cs:List Ch)(outs:Int->Bool)(ns:List Int)(R:Int->Bool):Prop where
 all:∀ x∈ns,R x=true
 up:∀ (k:Nat) (c:Ch),cs[k]? =some c->outs k=false->R k=true->∀ y∈c.nd,R y=true
 only:∀ x,R x=true->x∈ns\/∃ (k:Nat) (c:Ch),cs[k]? =some c/\outs k=false/\R k=true/\x∈c.nd
end L2
namespace L2
def K8(nd:List Int)(there:Int->Bool):Option Int:=nd.find? λx=> !there x
theorem Fx{nd:List Int}{there:Int->Bool}(h:∀ x∈nd,there x=true):K8 nd there=none:=List.find?_eq_none.mpr λx hx=>by rw[h x hx];exact Bool.false_ne_true
structure Pass where
 out:List Nat
 held:List (Nat × Int)
 gone:Int->Bool
def C9(cs:List Ch)(outs:Int->Bool)(s:Pass)(k:Nat):Pass :=
 if outs k || s.gone k then s else
  match (cs[k]?).bind λc=>K8 c.nd λx=>outs x || s.gone x with
  | none=>⟨s.out++[k],s.held,λx=>s.gone x || x ==(k:Int)⟩
  | some l=>⟨s.out,s.held++[(k,l)],s.gone⟩
def outcome(cs:List Ch)(outs taken:Int->Bool)(b:Nat):Pass:=(CI cs b).foldl (C9 cs outs) ⟨[],[],taken⟩
def FS(cs:List Ch)(outs:Int->Bool)(r:List V)(k:Nat):List V :=
 if outs k then match cs[k]? with
  | some c=>r.set c.cell c.val
  | none=>r
 else r
def EF(cs:List Ch)(outs:Int->Bool)(b:Nat)(row:List V):List V:=(CI cs b).foldl (FS cs outs) row
def EA(cs:List Ch)(outs:Int->Bool)(b:Nat):Int->Bool:=λx=>outs x || (outcome cs outs (λ_=>false) b).out.any λ(k:Nat)=>x ==(k:Int)
theorem Fy{cs:List Ch}{outs:Int->Bool}(r:List V)(k:Nat):(FS cs outs r k).length=r.length:=by
 unfold FS
 split
 ·split
  ·rw[List.length_set]
  ·rfl
 ·rfl
theorem UY{cs:List Ch}{outs:Int->Bool}:∀ (l:List Nat) (r:List V),(l.foldl (FS cs outs) r).length=r.length
 | [],r=>rfl
 | k::l,r=>by rw[List.foldl_cons,UY l,Fy]
theorem gF{cs:List Ch}{outs:Int->Bool}{b:Nat}{row:List V}:(EF cs outs b row).length=row.length:=UY _ _
theorem gG{cs:List Ch}{outs:Int->Bool}:∀ (l:List Nat) (s:Pass),(l.foldl (C9 cs outs) s).out.length+(l.foldl (C9 cs outs) s).held.length<=s.out.length+s.held.length+l.length
 | [],s=>by simp
 | k::l,s=>by
  rw[List.foldl_cons]
  have h:=gG (cs:=cs) (outs:=outs) l (C9 cs outs s k)
  have h2:(C9 cs outs s k).out.length+(C9 cs outs s k).held.length<=s.out.length+s.held.length+1:=by
   unfold C9
   split
   ·omega
   ·split<;>simp<;>omega
  simp only[List.length_cons]
  omega
theorem gH{α β :Type}(f: β -> α -> β)(b: β){l:List α}{i:Nat}{x: α}(h:l[i]? =some x):(l.take (i+1)).foldl f b=f ((l.take i).foldl f b) x:=by
 obtain⟨hi,e⟩:=List.getElem?_eq_some_iff.mp h
 rw[<-e,<-List.take_append_getElem hi,List.foldl_append]
 rfl
theorem gI(b:Nat):∀ l:List Ch,F5 l b=(List.range l.length).filter λ(k:Nat)=>(l.reverse[k]?).any λc=>c.blk == b
 | []=>rfl
 | c::r=>by
  have ih:=gI b r
  have e:(List.range r.length).filter (λ(k:Nat)=>((c::r).reverse[k]?).any λc=>c.blk == b)=F5 r b:=by
   rw[ih]
   refine List.filter_congr λk hk=> ?_
   rw[List.reverse_cons,List.getElem?_append_left (by rw[List.length_reverse];exact List.mem_range.mp hk)]
  have e2:(c::r).reverse[r.length]? =some c:=by
   rw[List.reverse_cons,List.getElem?_append_right (by rw[List.length_reverse];exact Nat.le_refl _)]
   simp
  rw[List.length_cons,List.range_succ,List.filter_append,e]
  show(if c.blk=b then F5 r b++[r.length]else F5 r b)=_
  by_cases h:c.blk=b
  ·rw[if_pos h]
   simp[e2,h]
  ·rw[if_neg h]
   simp[e2,h]
theorem gJ(cs:List Ch)(b:Nat):CI cs b=(List.range cs.length).filter λ(k:Nat)=>(cs[k]?).any λc=>c.blk == b:=by
 have:=gI b cs.reverse
 rw[List.reverse_reverse,List.length_reverse]at this
 exact this
theorem gK(cs:List Ch)(b:Nat):(CI cs b).Pairwise (· <·):=by
 rw[gJ]
 exact List.pairwise_lt_range.filter _
theorem QE{cs:List Ch}{b k:Nat}:k∈CI cs b↔∃ c,cs[k]? =some c/\c.blk=b:=by
 rw[gJ,List.mem_filter,List.mem_range]
 constructor
 ·rintro ⟨h,h2⟩
  rw[List.getElem?_eq_getElem h]at h2 ⊢
  exact⟨_,rfl,by simpa using h2⟩
 ·rintro ⟨c,e,rfl⟩
  exact⟨(List.getElem?_eq_some_iff.mp e).1,by rw[e];simp⟩
theorem gL{cs:List Ch}{outs:Int->Bool}(s:Pass)(k:Nat):C9 cs outs s k=s\/(outs k=false/\C9 cs outs s k=⟨s.out++[k],s.held,λx=>s.gone x || x ==(k:Int)⟩)\/∃ l,C9 cs outs s k=⟨s.out,s.held++[(k,l)],s.gone⟩:=by
 unfold C9
 split
 ·exact .inl rfl
 ·rename_i hc
  simp only[Bool.or_eq_true,not_or,Bool.not_eq_true]at hc
  split
  ·exact .inr (.inl ⟨hc.1,rfl⟩)
  ·exact .inr (.inr ⟨_,rfl⟩)
theorem UZ{cs:List Ch}{outs:Int->Bool}:∀ (l:List Nat) (s:Pass),∃ l',(l.foldl (C9 cs outs) s).out=s.out++l'/\l'.Sublist l/\(∀ k∈l',outs k=false)/\∀ x,(l.foldl (C9 cs outs) s).gone x=(s.gone x || l'.any λ(k:Nat)=>x ==(k:Int))
 | [],s=>⟨[],by simp,.slnil,by simp,by simp⟩
 | k::l,s=>by
  rw[List.foldl_cons]
  obtain⟨l',h1,h2,h3,h4⟩:=UZ (cs:=cs) (outs:=outs) l (C9 cs outs s k)
  rcases gL (cs:=cs) (outs:=outs) s k with e | ⟨ho,e⟩ | ⟨l0,e⟩
  ·rw[e]at h1 h4 ⊢
   exact⟨l',h1,h2.cons _,h3,h4⟩
  ·rw[e]at h1 h4 ⊢
   refine⟨k::l',by rw[h1];simp,h2.cons_cons _,λx hx=> ?_,λx=> ?_⟩
   ·rcases List.mem_cons.mp hx with rfl | hx
    ·exact ho
    ·exact h3 x hx
   ·rw[h4,List.any_cons,Bool.or_assoc]
  ·rw[e]at h1 h4 ⊢
   exact⟨l',h1,h2.cons _,h3,h4⟩
theorem U0{cs:List Ch}{outs:Int->Bool}{b:Nat}:(outcome cs outs (λ_=>false) b).out.Pairwise (· <·)/\(∀ k∈(outcome cs outs (λ_=>false) b).out,outs k=false/\k∈CI cs b)/\∀ x,(outcome cs outs (λ_=>false) b).gone x=(outcome cs outs (λ_=>false) b).out.any λ(k:Nat)=>x ==(k:Int):=by
 obtain⟨l',h1,h2,h3,h4⟩:=UZ (cs:=cs) (outs:=outs) (CI cs b) ⟨[],[],λ_=>false⟩
 have e:(outcome cs outs (λ_=>false) b).out=l':=by unfold outcome;rw[h1];rfl
 rw[e]
 exact⟨(gK cs b).sublist h2,λk hk=>⟨h3 k hk,h2.subset hk⟩,λx=>by unfold outcome;rw[h4];simp⟩
def gM(H:Hp)(t ol hl:Addr)(out:List Nat)(held:List (Nat × Int)):Prop:=H t=some (.tup [.ref ol,.ref hl])/\H ol=some (.lst (out.map λ(k:Nat)=>V.int k))/\∃ hs:List Addr,H hl=some (.lst (hs.map V.ref))/\Paired (λx (p:Nat × Int)=>H x=some (.tup [.int p.1,.int p.2])) hs held
def QF(cs:List Ch)(r:List V)(k:Nat):List V:=match cs[k]? with
 | some c=>r.set c.cell c.val
 | none=>r
def QH(cs:List Ch)(ks:List Nat)(row:List V):List V:=ks.foldl (QF cs) row
theorem Fz(cs:List Ch)(O:Int->Bool)(b:Nat)(row:List V):EF cs O b row=QH cs ((CI cs b).filter λ(k:Nat)=>O k) row:=by
 unfold EF QH
 rw[List.foldl_filter]
 rfl
def HY(cs:List Ch):List Nat->Nat->Option Ch
 | [],_=>none
 | k::r,j=>match HY cs r j with
  | some c=>some c
  | none=>(cs[k]?).filter λc=>c.cell == j
theorem U1(cs:List Ch)(k:Nat)(r:List Nat)(j:Nat):HY cs (k::r) j=match HY cs r j with
  | some c=>some c
  | none=>(cs[k]?).filter λc=>c.cell == j:=rfl
theorem gO(cs:List Ch)(j:Nat):∀ (ks:List Nat) (row:List V),(QH cs ks row)[j]? =(row[j]?).map λv=>((HY cs ks j).map (·.val)).getD v
 | [],row=>by
  show row[j]? =_
  cases row[j]? <;>rfl
 | k::r,row=>by
  show(QH cs r (QF cs row k))[j]? =_
  rw[gO cs j r,U1]
  cases h:HY cs r j with
  | some c =>
   unfold QF
   cases e:cs[k]? with
   | none=>rfl
   | some c0 =>
    dsimp only
    rw[List.getElem?_set]
    by_cases hj:c0.cell=j
    ·subst hj
     rw[if_pos rfl]
     by_cases hl:c0.cell<row.length
     ·rw[if_pos hl,List.getElem?_eq_getElem hl];rfl
     ·rw[if_neg hl,List.getElem?_eq_none (by omega)]
    ·rw[if_neg hj]
  | none =>
   unfold QF
   cases e:cs[k]? with
   | none=>rfl
   | some c0 =>
    dsimp only
    rw[List.getElem?_set]
    by_cases hj:c0.cell=j
    ·subst hj
     rw[if_pos rfl]
     by_cases hl:c0.cell<row.length
     ·rw[if_pos hl,List.getElem?_eq_getElem hl];simp[Option.filter]
     ·rw[if_neg hl,List.getElem?_eq_none (by omega)];rfl
    ·rw[if_neg hj]
     have:(Option.filter (λ(c:Ch)=>c.cell == j) (some c0))=none:=by simp[Option.filter,hj]
     rw[this]
theorem gP{cs:List Ch}{j:Nat}{c:Ch}:∀ {ks:List Nat},HY cs ks j=some c->∃ k∈ks,cs[k]? =some c/\c.cell=j/\(ks.Pairwise (· <·)->∀ k'∈ks,k<k'->∀ c',cs[k']? =some c'->c'.cell≠j)
 | [],h=>by cases h
 | k::r,h=>by
  rw[U1]at h
  cases e:HY cs r j with
  | some c1 =>
   rw[e]at h
   cases h
   obtain⟨k1,h1,h2,h3,h4⟩:=gP e
   refine⟨k1,List.mem_cons_of_mem _ h1,h2,h3,λhp k' hk' BC c' ec=> ?_⟩
   obtain⟨p1,p2⟩:=List.pairwise_cons.mp hp
   rcases List.mem_cons.mp hk' with rfl | hk'
   ·have:=p1 k1 h1;omega
   ·exact h4 p2 k' hk' BC c' ec
  | none =>
   rw[e]at h
   dsimp only at h
   cases ec:cs[k]? with
   | none=>rw[ec]at h;cases h
   | some c0 =>
    rw[ec]at h
    have hc:c0.cell=j/\c0=c:=by
     simp only[Option.filter]at h
     split at h
     ·rename_i hh;cases h;exact⟨by simpa using hh,rfl⟩
     ·cases h
    obtain⟨hc,rfl⟩:=hc
    refine⟨k,List.mem_cons_self ..,ec,hc,λhp k' hk' BC c' ec'=> ?_⟩
    rcases List.mem_cons.mp hk' with rfl | hk'
    ·omega
    ·exact lastAt_no e k' hk' c' ec'
where
 lastAt_no {cs:List Ch} {j:Nat}:∀ {ks:List Nat},HY cs ks j=none->∀ k∈ks,∀ c,cs[k]? =some c->c.cell≠j
  | [],_,k,hk=>by cases hk
  | k0::r,h,k,hk=>λc ec hj=>by
   rw[U1]at h
   cases e:HY cs r j with
   | some c1=>rw[e]at h;cases h
   | none =>
    rw[e]at h
    rcases List.mem_cons.mp hk with rfl | hk
    ·rw[ec]at h
     simp[Option.filter,hj]at h
    ·exact lastAt_no e k hk c ec hj
theorem gQ{i j:Int}:∀ {l:List Ch} {k:Nat} {c:Ch},l.reverse[k]? =some c->(c.blk:Int)=i->(c.cell:Int)=j->∃ j0 c0,K7 l i j=some j0/\k<=j0/\l.reverse[j0]? =some c0/\(c0.blk:Int)=i/\(c0.cell:Int)=j
 | [],k,c,h,_,_=>by simp at h
 | c1::r,k,c,h,h1,h2=>by
  have hk:=(List.getElem?_eq_some_iff.mp h).1
  rw[List.length_reverse,List.length_cons]at hk
  unfold K7
  by_cases hp:(c1.blk:Int)=i/\(c1.cell:Int)=j
  ·rw[if_pos hp]
   refine⟨r.length,c1,rfl,by omega,?_,hp⟩
   rw[List.reverse_cons,List.getElem?_append_right (by rw[List.length_reverse];exact Nat.le_refl _)]
   simp
  ·rw[if_neg hp]
   have BC:k<r.length:=by
    rcases Nat.lt_or_ge k r.length with z | z
    ·exact z
    ·exfalso
     have:k=r.length:=by omega
     subst this
     rw[List.reverse_cons,List.getElem?_append_right (by rw[List.length_reverse];exact Nat.le_refl _)]at h
     simp at h
     subst h
     exact hp ⟨h1,h2⟩
   rw[List.reverse_cons,List.getElem?_append_left (by rw[List.length_reverse];exact BC)]at h
   obtain⟨j0,c0,e1,e2,e3,e4⟩:=gQ h h1 h2
   refine⟨j0,c0,e1,e2,?_,e4⟩
   have:=UU e1
   rw[List.reverse_cons,List.getElem?_append_left (by rw[List.length_reverse];exact this)]
   exact e3
theorem Gb{cs:List Ch}{k:Nat}{c:Ch}(h:cs[k]? =some c):∃ j0 c0,D3 cs c.blk c.cell=some j0/\k<=j0/\cs[j0]? =some c0/\c0.blk=c.blk/\c0.cell=c.cell:=by
 obtain⟨j0,c0,e1,e2,e3,e4,e5⟩:=gQ (l:=cs.reverse) (i:=c.blk) (j:=c.cell) (by rw[List.reverse_reverse];exact h) rfl rfl
 rw[List.reverse_reverse]at e3
 exact⟨j0,c0,e1,e2,e3,by omega,by omega⟩
def QI(cs:List Ch)(outs:Int->Bool):Prop:=∀ (k:Nat) (c:Ch),cs[k]? =some c->outs k=true->∀ y∈c.nd,outs y=true
theorem Gc{cs:List Ch}{outs:Int->Bool}(s:Pass)(k:Nat)(h:(C9 cs outs s k).out=s.out++[k]):∀ c,cs[k]? =some c->∀ y∈c.nd,(outs y || s.gone y)=true:=λc ec y hy=>by
 unfold C9 at h
 split at h
 ·exact absurd h (by intro z;have:=congrArg List.length z;simp at this)
 ·rw[ec]at h
  simp only[Option.bind_some]at h
  split at h
  ·rename_i hn
   have:=List.find?_eq_none.mp hn y hy
   cases e:(outs y || s.gone y)with
   | true=>rfl
   | false =>
    have this:¬ (!(outs y || s.gone y))=true:=this
    rw[e]at this
    exact absurd rfl this
  ·exact absurd h (by intro z;have:=congrArg List.length z;simp at this)
theorem gR{cs:List Ch}{outs:Int->Bool}:∀ (l:List Nat) (s:Pass),(∀ k∈s.out,∀ c,cs[k]? =some c->∀ y∈c.nd,(outs y || s.gone y)=true)->∀ k∈(l.foldl (C9 cs outs) s).out,∀ c,cs[k]? =some c->∀ y∈c.nd,(outs y || (l.foldl (C9 cs outs) s).gone y)=true
 | [],s,h=>h
 | k::l,s,h=>by
  rw[List.foldl_cons]
  refine gR l _ ?_
  rcases gL (cs:=cs) (outs:=outs) s k with e | ⟨ho,e⟩ | ⟨l0,e⟩
  ·rw[e];exact h
  ·have hl:=Gc (cs:=cs) (outs:=outs) s k (by rw[e])
   rw[e]
   intro k' hk' c ec y hy
   rcases List.mem_append.mp hk' with hk' | hk'
   ·have:=h k' hk' c ec y hy
    rw[<-Bool.or_assoc,this,Bool.true_or]
   ·rw[List.mem_singleton.mp hk']at ec
    have:=hl c ec y hy
    rw[<-Bool.or_assoc,this,Bool.true_or]
  ·rw[e];exact h
theorem Gd{cs:List Ch}{outs:Int->Bool}(cut:QI cs outs)(b:Nat):QI cs (EA cs outs b):=λk c ec ho y hy=>by
 obtain⟨_,_,hg⟩:=U0 (cs:=cs) (outs:=outs) (b:=b)
 unfold EA at ho ⊢
 rw[Bool.or_eq_true]at ho
 rcases ho with ho | ho
 ·rw[cut k c ec ho y hy,Bool.true_or]
 ·obtain⟨k',hk',e⟩:=List.any_eq_true.mp ho
  have e:(k:Int)=k':=by simpa using e
  have e:k=k':=by omega
  subst e
  have:=gR (cs:=cs) (outs:=outs) (CI cs b) ⟨[],[],λ_=>false⟩ (by simp) k hk' c ec y hy
  rw[<-hg y]
  exact this
theorem NS{cs:List Ch}{outs:Int->Bool}{b k:Nat}:EA cs outs b k=true↔outs k=true\/k∈(outcome cs outs (λ_=>false) b).out:=by
 unfold EA
 rw[Bool.or_eq_true,List.any_eq_true]
 constructor
 ·rintro (h | ⟨k',hk',e⟩)
  ·exact .inl h
  ·have e:(k:Int)=k':=by simpa using e
   have e:k=k':=by omega
   exact .inr (e ▸ hk')
 ·rintro (h | h)
  ·exact .inl h
  ·exact .inr ⟨k,h,by simp⟩
end L2
namespace L2
theorem Gg{cs:List Ch}{outs:Int->Bool}{m:Nat}{c:Ch}(ec:cs[m]? =some c)(ho:outs m=false)(low:∀ k:Nat,k<m->outs k=true)(hn:∀ x∈c.nd,0<=x/\x<m):∃ r,(outcome cs outs (λ_=>false) c.blk).out=m::r:=by
 have hm:m∈CI cs c.blk:=QE.mpr ⟨c,ec,rfl⟩
 obtain⟨l1,l2,e⟩:=List.append_of_mem hm
 have rise:=gK cs c.blk
 rw[e]at rise
 have h1:∀ k∈l1,outs k=true:=λk hk=>low k ((List.pairwise_append.mp rise).2.2 k hk m (List.mem_cons_self ..))
 have s1:∀ (l:List Nat) (s:Pass),(∀ k∈l,outs k=true)->l.foldl (C9 cs outs) s=s:=λl=>by
  induction l with
  | nil=>exact λ_ _=>rfl
  | cons k l ih =>
   intro s h
   rw[List.foldl_cons]
   have:C9 cs outs s k=s:=by
    unfold C9
    rw[h k (List.mem_cons_self ..),Bool.true_or,if_pos rfl]
   rw[this]
   exact ih s λk' hk=>h k' (List.mem_cons_of_mem _ hk)
 unfold outcome
 rw[e,List.foldl_append,s1 l1 _ h1,List.foldl_cons]
 have st:C9 cs outs ⟨[],[],λ_=>false⟩ m=⟨[m],[],λx=>x ==(m:Int)⟩:=by
  unfold C9
  rw[ho,ec,Option.bind_some,Fx λx hx=>by
   have:=hn x hx
   have e:x=((x.toNat:Nat):Int):=by omega
   have:=low x.toNat (by omega)
   rw[<-e]at this
   rw[this,Bool.true_or]]
  rfl
 rw[st]
 obtain⟨l',h2,_⟩:=UZ (cs:=cs) (outs:=outs) l2 ⟨[m],[],λx=>x ==(m:Int)⟩
 exact⟨l',h2⟩
end L2
namespace L2
structure DX(K:W.Frag)(a:Ad):Prop where
 cl:Cls K (a "Layout")
 n1:NoAttr K (a "Layout") "name_blocks"
 n2:NoAttr K (a "Layout") "record_blocks"
 n3:NoAttr K (a "Layout") "piece_blocks"
 n4:NoAttr K (a "Layout") "width"
section
variable{n r c w:Int}
def lf(n r c w:Int):List (Str × V):=[("name_blocks",.int n),("record_blocks",.int r),("piece_blocks",.int c),("width",.int w)]
theorem QJ:(lf n r c w).lookup ("name_blocks":Str)=some (V.int n):=by simp[lf]
theorem NT:(lf n r c w).lookup ("record_blocks":Str)=some (V.int r):=by
 simp[lf,List.lookup_cons,CL (a:="record_blocks") (b:="name_blocks") (by decide +kernel)]
theorem U2:(lf n r c w).lookup ("piece_blocks":Str)=some (V.int c):=by
 simp[lf,List.lookup_cons,CL (a:="piece_blocks") (b:="name_blocks") (by decide +kernel),CL (a:="piece_blocks") (b:="record_blocks") (by decide +kernel)]
theorem MD:(lf n r c w).lookup ("width":Str)=some (V.int w):=by
 simp[lf,List.lookup_cons,CL (a:="width") (b:="name_blocks") (by decide +kernel),CL (a:="width") (b:="record_blocks") (by decide +kernel),CL (a:="width") (b:="piece_blocks") (by decide +kernel)]
theorem CA{x:Str}(h:(E3 x "name_blocks" || E3 x "record_blocks" || E3 x "piece_blocks" || E3 x "width")=false):(lf n r c w).lookup x=none:=by
 simp only[Bool.or_eq_false_iff]at h
 obtain⟨⟨⟨h1,h2⟩,h3⟩,h4⟩:=h
 simp[lf,List.lookup_cons,CL h1,CL h2,CL h3,CL h4]
theorem Gh:A7 "width" (.int w) (A7 "piece_blocks" (.int c) (A7 "record_blocks" (.int r) (A7 "name_blocks" (.int n) [])))=lf n r c w:=by
 repeat (first | rw[MB] | rw[MA (by decide +kernel)])
 rfl
end
structure LayAt(a:Ad)(H:Hp)(p:Addr)(n r c w:Nat):Prop where
 ob:∃ dx,H p=some (.ins (a "Layout") dx (lf n r c w))
 hn:n<=100
 hr:r<=100
 hc:c<=100
 h1:1<=w
 hw:w<=100
theorem LayAt.same{a:Ad}{H H':Hp}{p:Addr}{n r c w:Nat}(L:LayAt a H p n r c w)(s:Same H H'):LayAt a H' p n r c w:=by
 obtain⟨⟨dx,e⟩,z1,z2,z3,z4,z5⟩:=L
 exact⟨⟨dx,s _ _ e⟩,z1,z2,z3,z4,z5⟩
theorem LayAt.sb{a:Ad}{F:Addr->Prop}{H H':Hp}{p:Addr}{n r c w:Nat}(L:LayAt a H p n r c w)(s:SameBut F H H')(f:¬ F p):LayAt a H' p n r c w:=by
 obtain⟨⟨dx,e⟩,z1,z2,z3,z4,z5⟩:=L
 exact⟨⟨dx,s _ _ e f⟩,z1,z2,z3,z4,z5⟩
def QK(K:W.Frag)(a:Ad):Sp:=λvs H Q _=>∃ (p dx:Addr) (n r c w:Nat),vs=[.ref p,.int n,.int r,.int c,.int w]/\DX K a/\H p=some (.ins (a "Layout") dx [])/\n<=100/\r<=100/\c<=100/\1<=w/\w<=100 ∧
 ∀ H',LayAt a H' p n r c w->SameBut (· =p) H H'->Q .non H'
def GQ(x y:Int)(Q:VK)(H:Hp):Prop:=∀ t,H t=none->Q (.ref t) (upd H t (.tup [.int x,.int y]))
def GR(K:W.Frag)(a:Ad):Sp:=λvs H Q _=>∃ (p:Addr) (n r c w k:Nat) (b:Int),vs=[.ref p,.int b,.int k]/\DX K a/\LayAt a H p n r c w/\GQ (b+k / w) (k % w) Q H
def FH(K:W.Frag)(a:Ad):Sp:=λvs H Q _=>∃ (p:Addr) (n r c w k:Nat),vs=[.ref p,.int k]/\DX K a/\LayAt a H p n r c w/\GQ (0+k / w) (k % w) Q H
def FI(K:W.Frag)(a:Ad):Sp:=λvs H Q _=>∃ (p:Addr) (n r c w k:Nat),vs=[.ref p,.int k]/\DX K a/\LayAt a H p n r c w/\GQ (n+k / w) (k % w) Q H
def NU(K:W.Frag)(a:Ad):Sp:=λvs H Q _=>∃ (p:Addr) (n r c w k:Nat),vs=[.ref p,.int k]/\DX K a/\LayAt a H p n r c w/\GQ (n+r+k / w) (k % w) Q H
def IY(K:W.Frag)(a:Ad):Sp:=λvs H Q _=>∃ (p:Addr) (n r c w k:Nat),vs=[.ref p,.int k]/\DX K a/\LayAt a H p n r c w/\GQ (n+r+c+k / w) (k % w) Q H
def HB(K:W.Frag)(a:Ad):Sp:=λvs H Q _=>∃ (p:Addr) (n r c w k:Nat),vs=[.ref p,.int k]/\DX K a/\LayAt a H p n r c w/\GQ (n+r+c+r+k / w) (k % w) Q H
def KA(K:W.Frag)(a:Ad):Sp:=λvs H Q _=>∃ (p:Addr) (n r c w:Nat),vs=[.ref p]/\DX K a/\LayAt a H p n r c w/\Q (.int (n+r+c)) H
def HZ(K:W.Frag)(a:Ad):Sp:=λvs H Q _=>∃ (p:Addr) (n r c w:Nat),vs=[.ref p]/\DX K a/\LayAt a H p n r c w/\Q (.int (n+r+c+r+c)) H
def FT(K:W.Frag)(a:Ad):Sp:=λvs H Q _=>∃ (p:Addr) (n r c w:Nat),vs=[.ref p]/\DX K a/\LayAt a H p n r c w/\∀ t,H t=none->Q (.ref t) (upd H t (.tup [.int (n * w),.int (r * w),.int (c * w)]))
def QL(K:W.Frag)(a:Ad):Sp:=λvs H Q _=>∃ (p:Addr) (n r c w:Nat),vs=[.ref p]/\DX K a/\D9 K a/\LayAt a H p n r c w ∧
 ∀ x cl H',H x=none->H cl=none->PlankAt a H' x cl w (List.replicate (n+r+c+r+c) (List.replicate w .non)) 0->Same H H'->Q (.ref x) H'
end L2
namespace L2
inductive CV where
 | no
 | nm (z:Str) (k:Nat)
 | mk (i:Nat)
 | rc (m:Nat) (ps:List Nat)
 | tx (z:Str)
abbrev Md:=Nat->Nat->CV
def Md.put(M:Md)(kind k:Nat)(x:CV):Md:=λi j=>if i=kind/\j=k then x else M i j
structure AC where
 kind:Nat
 k:Nat
 x:CV
 nd:List Nat
def sh(M0:Md)(C:Nat->Bool):List AC->Md
 | []=>M0
 | a::r=>if C r.length then(sh M0 C r).put a.kind a.k a.x else sh M0 C r
abbrev BP(M0:Md)(as:List AC):Md:=sh M0 (λ_=>true) as
def HC(kind k:Nat):List AC->Option Nat
 | []=>none
 | a::r=>if a.kind=kind/\a.k=k then some r.length else HC kind k r
def E9(C:Nat->Bool):List AC->Prop
 | []=>True
 | a::r=>E9 C r/\(C r.length=true->(∀ y∈a.nd,C y=true)/\∀ j,HC a.kind a.k r=some j->C j=true)
section
variable{M0 S:Md}{C:Nat->Bool}{as:List AC}{kind k m0:Nat}{x:CV}
theorem CM:S.put kind k x kind k=x:=if_pos ⟨rfl,rfl⟩
theorem DF{i j:Nat}(h:i≠kind):S.put kind k x i j=S i j:=if_neg λz=>h z.1
theorem DG{i j:Nat}(h:j≠k):S.put kind k x i j=S i j:=if_neg λz=>h z.2
theorem Gj(h:∀ j,HC kind k as=some j->C j=true):sh M0 C as kind k=BP M0 as kind k:=by
 induction as with
 | nil=>rfl
 | cons a r ih =>
  unfold HC at h
  simp only[sh,if_true]
  by_cases e:a.kind=kind/\a.k=k
  ·rw[if_pos e]at h
   obtain⟨rfl,rfl⟩:=e
   rw[h _ rfl]
   simp only[if_true]
   rw[CM,CM]
  ·rw[if_neg e]at h
   have:=ih h
   have e':¬ (kind=a.kind/\k=a.k):=λz=>e ⟨z.1.symm,z.2.symm⟩
   unfold Md.put
   rw[if_neg e']
   by_cases c:C r.length=true
   ·rw[if_pos c,if_neg e'];exact this
   ·rw[if_neg c];exact this
theorem IA{a:AC}(h:E9 C (a::as))(c:C as.length=true):sh M0 C as a.kind a.k=BP M0 as a.kind a.k:=Gj (h.2 c).2
theorem DA{a:AC}:BP M0 (a::as)=(BP M0 as).put a.kind a.k a.x:=rfl
theorem CD{a:AC}(c:C as.length=true):sh M0 C (a::as)=(sh M0 C as).put a.kind a.k a.x:=if_pos c
theorem DY{a:AC}(c:¬ C as.length=true):sh M0 C (a::as)=sh M0 C as:=if_neg c
def FU:CV->Nat->Bool
 | .nm _ r',r=>r' == r
 | _,_=>false
def ld(m0:Nat)(S:Md)(r:Nat):Nat:=(List.range m0).countP λk=>FU (S 0 k) r
theorem QM{r:Nat}(h:kind≠0):ld m0 (S.put kind k x) r=ld m0 S r:=by
 unfold ld
 congr 1
 funext j
 rw[DF h.symm]
theorem U3{r:Nat}:∀ {m0:Nat},k<m0->ld m0 (S.put 0 k x) r+(if FU (S 0 k) r then 1 else 0)=ld m0 S r+(if FU x r then 1 else 0):=by
 intro m0
 unfold ld
 induction m0 with
 | zero=>intro h;omega
 | succ n ih =>
  intro h
  rw[List.range_succ,List.countP_append,List.countP_append]
  simp only[List.countP_cons,List.countP_nil,Nat.zero_add]
  by_cases e:k=n
  ·subst e
   have:(List.range k).countP (λj=>FU ((S.put 0 k x) 0 j) r)=(List.range k).countP (λj=>FU (S 0 j) r):=List.countP_congr λj hj=>by
    rw[DG (by have:=List.mem_range.mp hj;omega)]
   rw[this,CM]
   omega
  ·have:=ih (by omega)
   rw[DG (λz=>e z.symm)]
   omega
structure Snd(m0:Nat)(S:Md):Prop where
 nl:∀ k z r,k<m0->S 0 k=.nm z r->∃ m ps,S 3 r=.rc m ps
 ct:∀ r m ps,S 3 r=.rc m ps->ld m0 S r<=m
 mr:∀ r m ps,S 3 r=.rc m ps->S 1 r=.mk 1
 nd:∀ r m ps,S 3 r=.rc m ps->ps.Nodup
 pm:∀ r m ps,S 3 r=.rc m ps->∀ p∈ps,S 2 p=.mk 1/\∃ t,S 4 p=.tx t
 dj:∀ r r' m m' ps ps',r≠r'->S 3 r=.rc m ps->S 3 r'=.rc m' ps'->∀ p∈ps,p∉ps'
 un:∀ k k' z r r',k<m0->k'<m0->S 0 k=.nm z r->S 0 k'=.nm z r'->k=k'
theorem Snd.rmark(I:Snd m0 S){r i:Nat}(h:i=1\/∀ m ps,S 3 r≠.rc m ps):Snd m0 (S.put 1 r (.mk i)):=by
 refine⟨I.nl,λr' m ps e=>I.ct r' m ps e,λr' m ps e=> ?_,I.nd,I.pm,I.dj,I.un⟩
 have e:S 3 r'=.rc m ps:=e
 by_cases z:r'=r
 ·subst z
  rw[CM]
  rcases h with h | h
  ·rw[h]
  ·exact absurd e (h m ps)
 ·rw[DG z];exact I.mr r' m ps e
theorem Snd.pmark(I:Snd m0 S){p i:Nat}(h:i=1\/∀ r m ps,S 3 r=.rc m ps->p∉ps):Snd m0 (S.put 2 p (.mk i)):=by
 refine⟨I.nl,λr' m ps e=>I.ct r' m ps e,I.mr,I.nd,λr' m ps e q hq=>⟨?_,(I.pm r' m ps e q hq).2⟩,I.dj,I.un⟩
 have e:S 3 r'=.rc m ps:=e
 by_cases z:q=p
 ·subst z
  rw[CM]
  rcases h with h | h
  ·rw[h]
  ·exact absurd hq (h r' m ps e)
 ·rw[DG z];exact(I.pm r' m ps e q hq).1
theorem Snd.text(I:Snd m0 S){p:Nat}{t:Str}:Snd m0 (S.put 4 p (.tx t)):=by
 refine⟨I.nl,λr' m ps e=>I.ct r' m ps e,I.mr,I.nd,λr' m ps e q hq=>⟨(I.pm r' m ps e q hq).1,?_⟩,I.dj,I.un⟩
 by_cases z:q=p
 ·subst z;exact⟨t,CM⟩
 ·rw[DG z];exact(I.pm r' m ps e q hq).2
theorem Snd.gone(I:Snd m0 S)(hk:k<m0):Snd m0 (S.put 0 k .no):=by
 have at':∀ {j z r},(S.put 0 k .no) 0 j=.nm z r->S 0 j=.nm z r:=λ{j z r} e=>by
  by_cases h:j=k
  ·subst h;rw[CM]at e;cases e
  ·rw[DG h]at e;exact e
 refine⟨λj z r hj e=>I.nl j z r hj (at' e),λr m ps e=> ?_,I.mr,I.nd,I.pm,I.dj,λj j' z r r' h h' e e'=>I.un j j' z r r' h h' (at' e) (at' e')⟩
 have l:=U3 (S:=S) (x:=.no) (r:=r) hk
 have c:=I.ct r m ps e
 rw[show FU .no r=false from rfl]at l
 simp only[Bool.false_eq_true,if_false]at l
 omega
theorem Snd.fill(I:Snd m0 S)(hk:k<m0){z:Str}{r m:Nat}{ps:List Nat}(h3:S 3 r=.rc m ps)(hl:ld m0 S r+1<=m)(hz:∀ j r',j<m0->S 0 j≠.nm z r')(h0:∀ z r,S 0 k≠.nm z r):Snd m0 (S.put 0 k (.nm z r)):=by
 have at':∀ {j y q},(S.put 0 k (.nm z r)) 0 j=.nm y q->(j=k/\y=z/\q=r)\/(j≠k/\S 0 j=.nm y q):=λ{j y q} e=>by
  by_cases h:j=k
  ·subst h;rw[CM]at e;cases e;exact .inl ⟨rfl,rfl,rfl⟩
  ·rw[DG h]at e;exact .inr ⟨h,e⟩
 refine⟨λj y q hj e=> ?_,λq m' ps' e=> ?_,I.mr,I.nd,I.pm,I.dj,λj j' y q q' h h' e e'=> ?_⟩
 ·rcases at' e with⟨_,_,rfl⟩ | ⟨_,e⟩
  ·exact⟨m,ps,h3⟩
  ·exact I.nl j y q hj e
 ·have e:S 3 q=.rc m' ps':=e
  have l:=U3 (S:=S) (x:=.nm z r) (r:=q) hk
  have c:=I.ct q m' ps' e
  have n0:FU (S 0 k) q=false:=by
   cases e0:S 0 k with
   | nm y q'=>exact absurd e0 (h0 y q')
   | _=>rfl
  rw[n0]at l
  simp only[FU]at l
  by_cases z:r=q
  ·subst z
   rw[e]at h3;cases h3
   simp at l;omega
  ·simp[z]at l;omega
 ·rcases at' e with⟨e1,e2,_⟩ | ⟨e1,e2⟩<;>rcases at' e' with⟨f1,f2,_⟩ | ⟨f1,f2⟩
  ·rw[e1,f1]
  ·subst e2;exact absurd f2 (hz _ _ h')
  ·subst f2;exact absurd e2 (hz _ _ h)
  ·exact I.un j j' y q q' h h' e2 f2
theorem Snd.recd(I:Snd m0 S){r m':Nat}{ps':List Nat}(hl:ld m0 S r<=m')(hm:S 1 r=.mk 1)(hn:ps'.Nodup)(hp:∀ p∈ps',(S 2 p=.mk 1/\∃ t,S 4 p=.tx t)/\∀ q m ps,q≠r->S 3 q=.rc m ps->p∉ps):Snd m0 (S.put 3 r (.rc m' ps')):=by
 have at':∀ {q m ps},(S.put 3 r (.rc m' ps')) 3 q=.rc m ps->(q=r/\m=m'/\ps=ps')\/(q≠r/\S 3 q=.rc m ps):=λ{q m ps} e=>by
  by_cases h:q=r
  ·subst h;rw[CM]at e;cases e;exact .inl ⟨rfl,rfl,rfl⟩
  ·rw[DG h]at e;exact .inr ⟨h,e⟩
 refine⟨λj z q hj e=> ?_,λq m ps e=> ?_,λq m ps e=> ?_,λq m ps e=> ?_,λq m ps e p h=> ?_,λq q' m m1 ps ps1 ne e e' p h=> ?_,I.un⟩
 ·by_cases h:q=r
  ·subst h;exact⟨m',ps',CM⟩
  ·rw[DG h];exact I.nl j z q hj e
 ·rw[QM (by decide)]
  rcases at' e with⟨rfl,rfl,_⟩ | ⟨_,e⟩
  ·exact hl
  ·exact I.ct q m ps e
 ·rcases at' e with⟨rfl,_,_⟩ | ⟨_,e⟩
  ·exact hm
  ·exact I.mr q m ps e
 ·rcases at' e with⟨_,_,rfl⟩ | ⟨_,e⟩
  ·exact hn
  ·exact I.nd q m ps e
 ·rcases at' e with⟨_,_,rfl⟩ | ⟨_,e⟩
  ·exact(hp p h).1
  ·exact I.pm q m ps e p h
 ·rcases at' e with⟨e1,_,rfl⟩ | ⟨e1,e2⟩<;>rcases at' e' with⟨f1,_,rfl⟩ | ⟨f1,f2⟩
  ·exact absurd (e1.trans f1.symm) ne
  ·exact(hp p h).2 q' m1 ps1 (λz=>ne (e1.trans z.symm)) f2
  ·exact λz=>(hp p z).2 q m ps (λy=>ne (y.trans f1.symm)) e2 h
  ·exact I.dj q q' m m1 ps ps1 ne e2 f2 p h
theorem Snd.count(I:Snd m0 S){r m m':Nat}{ps:List Nat}(h3:S 3 r=.rc m ps)(hl:ld m0 S r<=m'):Snd m0 (S.put 3 r (.rc m' ps)) :=
 I.recd hl (I.mr r m ps h3) (I.nd r m ps h3) λp hp=>⟨I.pm r m ps h3 p hp,λq m1 ps1 ne e=>I.dj r q m m1 ps ps1 ne.symm h3 e p hp⟩
theorem Snd.less(I:Snd m0 S){r m:Nat}{ps ps':List Nat}(h3:S 3 r=.rc m ps)(hs:ps'.Sublist ps):Snd m0 (S.put 3 r (.rc m ps')) :=
 I.recd (I.ct r m ps h3) (I.mr r m ps h3) ((I.nd r m ps h3).sublist hs) λp hp=>⟨I.pm r m ps h3 p (hs.subset hp),λq m1 ps1 ne e=>I.dj r q m m1 ps ps1 ne.symm h3 e p (hs.subset hp)⟩
theorem Snd.more(I:Snd m0 S){r m p:Nat}{ps:List Nat}{t:Str}(h3:S 3 r=.rc m ps)(h2:S 2 p=.mk 1)(h4:S 4 p=.tx t)(hu:∀ q m ps,S 3 q=.rc m ps->p∉ps):Snd m0 (S.put 3 r (.rc m (ps++[p]))):=by
 refine I.recd (I.ct r m ps h3) (I.mr r m ps h3) (List.nodup_append.mpr ⟨I.nd r m ps h3,by simp,λx hx y hy e=> ?_⟩) λy hy=> ?_
 ·rw[List.mem_singleton]at hy;subst hy;subst e;exact hu r m ps h3 hx
 ·rcases List.mem_append.mp hy with hy | hy
  ·exact⟨I.pm r m ps h3 y hy,λq m1 ps1 ne e=>I.dj r q m m1 ps ps1 ne.symm h3 e y hy⟩
  ·rw[List.mem_singleton.mp hy];exact⟨⟨h2,t,h4⟩,λq m1 ps1 _ e=>hu q m1 ps1 e⟩
theorem Snd.drop(I:Snd m0 S){r:Nat}(hl:ld m0 S r=0):Snd m0 (S.put 3 r .no):=by
 have at':∀ {q m ps},(S.put 3 r .no) 3 q=.rc m ps->S 3 q=.rc m ps:=λ{q m ps} e=>by
  by_cases h:q=r
  ·subst h;rw[CM]at e;cases e
  ·rw[DG h]at e;exact e
 refine⟨λj z q hj e=> ?_,λq m ps e=> ?_,λq m ps e=>I.mr q m ps (at' e),λq m ps e=>I.nd q m ps (at' e),λq m ps e=>I.pm q m ps (at' e),λq q' m m1 ps ps1 ne e e'=>I.dj q q' m m1 ps ps1 ne (at' e) (at' e'),I.un⟩
 ·have e:S 0 j=.nm z q:=e
  by_cases h:q=r
  ·subst h
   exfalso
   have:0<ld m0 S q:=List.countP_pos_iff.mpr ⟨j,List.mem_range.mpr hj,by have e:S 0 j=.nm z q:=e;simp[e,FU]⟩
   omega
  ·rw[DG h];exact I.nl j z q hj e
 ·rw[QM (by decide)];exact I.ct q m ps (at' e)
structure Hist(m0:Nat)(M0:Md)(as:List AC)(t o:Str->Option Nat):Prop where
 sd:∀ C,E9 C as->Snd m0 (sh M0 C as)
 k1:∀ z k r,k<m0->BP M0 as 0 k=.nm z r->HC 0 k as=o z
 k2:∀ z,(∀ k r,k<m0->BP M0 as 0 k≠.nm z r)->t z=o z
 k3:∀ C z,E9 C as->(∀ j,o z=some j->C j=true)->∀ k r,k<m0->(sh M0 C as 0 k=.nm z r↔BP M0 as 0 k=.nm z r)
theorem gS:∀ as:List AC,E9 (λ_=>true) as
 | []=>trivial
 | _::r=>⟨gS r,λ_=>⟨λ_ _=>rfl,λ_ _=>rfl⟩⟩
variable{t o:Str->Option Nat}
theorem Hist.now(I:Hist m0 M0 as t o):Snd m0 (BP M0 as):=I.sd _ (gS as)
theorem Hist.step(I:Hist m0 M0 as t o){a:AC}(ha:a.kind≠0)(h:∀ C,E9 C (a::as)->C as.length=true->Snd m0 ((sh M0 C as).put a.kind a.k a.x)):Hist m0 M0 (a::as) t o:=by
 have s0:∀ (C:Nat->Bool) (k:Nat),sh M0 C (a::as) 0 k=sh M0 C as 0 k:=λC k=>by
  by_cases c:C as.length=true
  ·rw[CD c,DF ha.symm]
  ·rw[DY c]
 have s1:∀ k:Nat,BP M0 (a::as) 0 k=BP M0 as 0 k:=s0 _
 refine⟨λC hC=> ?_,λz k r hk e=> ?_,λz e=>I.k2 z λk r hk=>by rw[<-s1];exact e k r hk,λC z hC ho k r hk=> ?_⟩
 ·by_cases c:C as.length=true
  ·rw[CD c];exact h C hC c
  ·rw[DY c];exact I.sd C hC.1
 ·rw[s1]at e
  unfold HC
  rw[if_neg λz=>ha z.1]
  exact I.k1 z k r hk e
 ·rw[s0,s1];exact I.k3 C z hC.1 ho k r hk
def EG(f:Str->Option Nat)(z:Str)(j:Nat):Str->Option Nat:=λy=>if y=z then some j else f y
theorem Hist.fill(I:Hist m0 M0 as t o){z:Str}{k r:Nat}{nd:List Nat}(hk:k<m0)(h0:BP M0 as 0 k=.no)(hz:∀ j r,j<m0->BP M0 as 0 j≠.nm z r)(ht:∀ j,t z=some j->j∈nd)
  (h:∀ C,E9 C (⟨0,k,.nm z r,nd⟩::as)->C as.length=true->∃ m ps,sh M0 C as 3 r=.rc m ps/\ld m0 (sh M0 C as) r+1<=m):Hist m0 M0 (⟨0,k,.nm z r,nd⟩::as) t (EG o z as.length):=by
 have to:=I.k2 z hz
 have hnk:∀ {j y q},j<m0->BP M0 as 0 j=.nm y q->j≠k/\y≠z:=λ{j y q} hj e=>⟨λe'=>(by rw[e',h0]at e;cases e),λe'=>hz j q hj (e' ▸ e)⟩
 have free:∀ C,E9 C (⟨0,k,.nm z r,nd⟩::as)->C as.length=true->sh M0 C as 0 k=.no/\∀ j q,j<m0->sh M0 C as 0 j≠.nm z q:=λC hC c=>by
  refine⟨by rw[IA (a:=⟨0,k,.nm z r,nd⟩) hC c];exact h0,λj q hj e=> ?_⟩
  exact hz j q hj ((I.k3 C z hC.1 (λi ei=>(hC.2 c).1 i (ht i (by rw[to,ei]))) j q hj).mp e)
 refine⟨λC hC=> ?_,λy j q hj e=> ?_,λy e=> ?_,λC y hC ho j q hj=> ?_⟩
 ·by_cases c:C as.length=true
  ·obtain⟨m,ps,h3,hl⟩:=h C hC c
   obtain⟨f1,f2⟩:=free C hC c
   rw[CD c]
   exact(I.sd C hC.1).fill hk h3 hl f2 λz r e=>by rw[f1]at e;cases e
  ·rw[DY c];exact I.sd C hC.1
 ·rw[DA]at e
  unfold HC
  by_cases z':j=k
  ·subst z'
   rw[CM]at e;cases e
   rw[if_pos ⟨rfl,rfl⟩]
   exact(if_pos rfl).symm
  ·rw[DG z']at e
   rw[if_neg λw=>z' w.2.symm]
   unfold EG
   rw[if_neg (hnk hj e).2]
   exact I.k1 y j q hj e
 ·have ny:y≠z:=λw=>by
   subst w
   exact e k r hk (by rw[DA,CM])
  unfold EG
  rw[if_neg ny]
  refine I.k2 y λj q hj e'=>e j q hj ?_
  rw[DA,DG (hnk hj e').1];exact e'
 ·rw[DA]
  by_cases c:C as.length=true
  ·obtain⟨f1,f2⟩:=free C hC c
   rw[CD c]
   by_cases z':j=k
   ·subst z';rw[CM,CM]
   ·rw[DG z',DG z']
    by_cases w:y=z
    ·subst w
     exact⟨λe=>absurd e (f2 j q hj),λe=>absurd e (hz j q hj)⟩
    ·unfold EG at ho
     rw[if_neg w]at ho
     exact I.k3 C y hC.1 ho j q hj
  ·rw[DY c]
   unfold EG at ho
   by_cases w:y=z
   ·subst w
    rw[if_pos rfl]at ho
    exact absurd (ho _ rfl) c
   ·rw[if_neg w]at ho
    have k3:=I.k3 C y hC.1 ho j q hj
    by_cases z':j=k
    ·subst z'
     rw[CM]
     refine⟨λe=> ?_,λe=>absurd (by cases e;rfl) w⟩
     have:=k3.mp e
     rw[h0]at this;cases this
    ·rw[DG z'];exact k3
theorem Hist.gone(I:Hist m0 M0 as t o){z:Str}{k r:Nat}{nd:List Nat}(hk:k<m0)(h0:BP M0 as 0 k=.nm z r):Hist m0 M0 (⟨0,k,.no,nd⟩::as) (EG t z as.length) (EG o z as.length):=by
 have un:=I.now.un
 have k1:=I.k1 z k r hk h0
 have only:∀ {j q},j<m0->BP M0 as 0 j=.nm z q->j=k:=λ{j q} hj e=>un j k z q r hj hk e h0
 refine⟨λC hC=> ?_,λy j q hj e=> ?_,λy e=> ?_,λC y hC ho j q hj=> ?_⟩
 ·by_cases c:C as.length=true
  ·rw[CD c];exact(I.sd C hC.1).gone hk
  ·rw[DY c];exact I.sd C hC.1
 ·rw[DA]at e
  by_cases z':j=k
  ·subst z';rw[CM]at e;cases e
  ·rw[DG z']at e
   unfold HC EG
   rw[if_neg λw=>z' w.2.symm,if_neg λw=>z' (only hj (w ▸ e))]
   exact I.k1 y j q hj e
 ·unfold EG
  by_cases w:y=z
  ·rw[if_pos w,if_pos w]
  ·rw[if_neg w,if_neg w]
   refine I.k2 y λj q hj e'=>e j q hj ?_
   have:j≠k:=λz'=>by rw[z',h0]at e';cases e';exact w rfl
   rw[DA,DG this];exact e'
 ·rw[DA]
  unfold EG at ho
  by_cases c:C as.length=true
  ·rw[CD c]
   have ck:sh M0 C as 0 k=.nm z r:=by rw[IA (a:=⟨0,k,.no,nd⟩) hC c];exact h0
   by_cases z':j=k
   ·subst z';rw[CM,CM]
   ·rw[DG z',DG z']
    by_cases w:y=z
    ·subst w
     exact⟨λe=>absurd ((I.sd C hC.1).un j k y q r hj hk e ck) z',λe=>absurd (only hj e) z'⟩
    ·rw[if_neg w]at ho;exact I.k3 C y hC.1 ho j q hj
  ·rw[DY c]
   by_cases w:y=z
   ·subst w
    rw[if_pos rfl]at ho
    exact absurd (ho _ rfl) c
   ·rw[if_neg w]at ho
    have k3:=I.k3 C y hC.1 ho j q hj
    by_cases z':j=k
    ·subst z'
     rw[CM]
     refine⟨λe=> ?_,λe=>by cases e⟩
     have:=k3.mp e
     rw[h0]at this;cases this;exact absurd rfl w
    ·rw[DG z'];exact k3
theorem Snd.ld0(I:Snd m0 S){r:Nat}(h:∀ m ps,S 3 r≠.rc m ps):ld m0 S r=0:=by
 refine List.countP_eq_zero.mpr λk hk e=> ?_
 cases e0:S 0 k with
 | nm z q =>
  simp only[e0,FU,beq_iff_eq]at e
  subst e
  obtain⟨m,ps,e⟩:=I.nl k z q (List.mem_range.mp hk) e0
  exact h m ps e
 | _=>simp[e0,FU]at e
theorem Hist.make(I:Hist m0 M0 as t o){z:Str}{k r:Nat}{nd:List Nat}(hk:k<m0)(h0:BP M0 as 0 k=.no)(hz:∀ j r,j<m0->BP M0 as 0 j≠.nm z r)(h1:BP M0 as 1 r≠.mk 1)(hn:as.length+1∈nd)(ht:∀ j,t z=some j->j∈nd) :
  Hist m0 M0 (⟨0,k,.nm z r,nd⟩::⟨3,r,.rc 1 [],[as.length]⟩::⟨1,r,.mk 1,[]⟩::as) t (EG o z (as.length+2)):=by
 have I1:=I.step (a:=⟨1,r,.mk 1,[]⟩) (by simp) λC hC _=>(I.sd C hC.1).rmark (.inl rfl)
 have no:∀ C,E9 C (⟨3,r,.rc 1 [],[as.length]⟩::⟨1,r,.mk 1,[]⟩::as)->C (as.length+1)=true->ld m0 (sh M0 C (⟨1,r,.mk 1,[]⟩::as)) r=0:=λC hC c=>by
  refine(I1.sd C hC.1).ld0 λm ps e=> ?_
  rw[IA (a:=⟨3,r,.rc 1 [],[as.length]⟩) hC c,DA,DF (by simp)]at e
  exact h1 (I.now.mr r m ps e)
 have I2:=I1.step (a:=⟨3,r,.rc 1 [],[as.length]⟩) (by simp) λC hC c=>by
  have cL:C as.length=true:=(hC.2 c).1 _ (by simp)
  refine(I1.sd C hC.1).recd (by rw[no C hC c];omega) ?_ List.nodup_nil (by simp)
  rw[CD cL,CM]
 refine I2.fill hk (by rw[DA,DF (by simp),DA,DF (by simp)];exact h0) (λj q hj=>by rw[DA,DF (by simp),DA,DF (by simp)];exact hz j q hj) ht λC hC c=> ?_
 have cL:C (as.length+1)=true:=(hC.2 c).1 _ hn
 refine⟨1,[],by rw[CD cL,CM],?_⟩
 rw[CD cL,QM (by simp),no C hC.1 cL]
 exact Nat.le_refl 1
theorem Hist.link(I:Hist m0 M0 as t o){z:Str}{k r m:Nat}{ps nd:List Nat}(hk:k<m0)(h0:BP M0 as 0 k=.no)(hz:∀ j r,j<m0->BP M0 as 0 j≠.nm z r)(h3:BP M0 as 3 r=.rc m ps)(hn:as.length∈nd)(ht:∀ j,t z=some j->j∈nd) :
  Hist m0 M0 (⟨0,k,.nm z r,nd⟩::⟨3,r,.rc (m+1) ps,[]⟩::as) t (EG o z (as.length+1)):=by
 have a3:∀ C,E9 C (⟨3,r,.rc (m+1) ps,[]⟩::as)->C as.length=true->sh M0 C as 3 r=.rc m ps:=λC hC c=>by
  rw[IA (a:=⟨3,r,.rc (m+1) ps,[]⟩) hC c];exact h3
 have I1:=I.step (a:=⟨3,r,.rc (m+1) ps,[]⟩) (by simp) λC hC c=>(I.sd C hC.1).count (a3 C hC c) (Nat.le_succ_of_le ((I.sd C hC.1).ct r m ps (a3 C hC c)))
 refine I1.fill hk (by rw[DA,DF (by simp)];exact h0) (λj q hj=>by rw[DA,DF (by simp)];exact hz j q hj) ht λC hC c=> ?_
 have cL:C as.length=true:=(hC.2 c).1 _ hn
 refine⟨m+1,ps,by rw[CD cL,CM],?_⟩
 rw[CD cL,QM (by simp)]
 exact Nat.succ_le_succ ((I.sd C hC.1.1).ct r m ps (a3 C hC.1 cL))
theorem Hist.fewer(I:Hist m0 M0 as t o){z:Str}{k r m:Nat}{ps nd:List Nat}{b:AC}(hk:k<m0)(h0:BP M0 as 0 k=.nm z r)(h3:BP M0 as 3 r=.rc m ps)(hb:b.kind=3/\b.k=r/\as.length∈b.nd){C:Nat->Bool}(hC:E9 C (b::⟨0,k,.no,nd⟩::as))(c:C (as.length+1)=true) :
  sh M0 C (⟨0,k,.no,nd⟩::as) 3 r=.rc m ps/\ld m0 (sh M0 C (⟨0,k,.no,nd⟩::as)) r+1<=m/\sh M0 C as 3 r=.rc m ps:=by
 obtain⟨b1,b2,b3⟩:=hb
 have cL:C as.length=true:=(hC.2 c).1 _ b3
 have e3:sh M0 C (⟨0,k,.no,nd⟩::as) 3 r=.rc m ps:=by
  have:=IA (M0:=M0) hC c
  rw[b1,b2]at this
  rw[this,DA,DF (by simp)];exact h3
 have f3:sh M0 C as 3 r=.rc m ps:=by
  rw[CD cL,DF (by simp)]at e3;exact e3
 have f0:sh M0 C as 0 k=.nm z r:=by rw[IA (a:=⟨0,k,.no,nd⟩) hC.1 cL];exact h0
 refine⟨e3,?_,f3⟩
 have l:=U3 (S:=sh M0 C as) (x:=.no) (r:=r) hk
 rw[f0,show FU (.nm z r) r=true from by simp[FU],show FU .no r=false from rfl]at l
 simp only[Bool.false_eq_true,if_false,if_true]at l
 have c1:=(I.sd C hC.1.1).ct r m ps f3
 have e:ld m0 (sh M0 C (⟨0,k,.no,nd⟩::as)) r=ld m0 ((sh M0 C as).put 0 k .no) r:=by rw[CD cL]
 omega
theorem Hist.unlead(I:Hist m0 M0 as t o){z:Str}{k r m:Nat}{ps nd:List Nat}(hk:k<m0)(h0:BP M0 as 0 k=.nm z r)(h3:BP M0 as 3 r=.rc (m+1) ps) :
  Hist m0 M0 (⟨3,r,.rc m ps,[as.length]⟩::⟨0,k,.no,nd⟩::as) (EG t z as.length) (EG o z as.length):=by
 have I1:=I.gone (nd:=nd) hk h0
 exact I1.step (a:=⟨3,r,.rc m ps,[as.length]⟩) (by simp) λC hC c=>by
  obtain⟨e1,e2,_⟩:=I.fewer hk h0 h3 ⟨rfl,rfl,by simp⟩ hC c
  exact(I1.sd C hC.1).count e1 (Nat.le_of_succ_le_succ e2)
theorem Hist.unmark{d:Nat}:∀ {ps:List Nat} {bs:List AC},Hist m0 M0 bs t o->(∀ C,E9 C bs->C d=true->∀ q m ps',sh M0 C bs 3 q=.rc m ps'->∀ p∈ps,p∉ps')->Hist m0 M0 ((ps.map λp=>(⟨2,p,.mk 0,[d]⟩:AC)).reverse++bs) t o
 | [],bs,I,_=>I
 | p::ps,bs,I,h=>by
  have I1:=I.step (a:=⟨2,p,.mk 0,[d]⟩) (by simp) λC hC c=>(I.sd C hC.1).pmark (.inr λr m ps' e=>h C hC.1 ((hC.2 c).1 d (by simp)) r m ps' e p List.mem_cons_self)
  have:=Hist.unmark (ps:=ps) I1 λC hC cd q m ps' e p' hp'=>by
   have e':sh M0 C bs 3 q=.rc m ps':=by
    by_cases c:C bs.length=true
    ·rw[CD c,DF (by simp)]at e;exact e
    ·rw[DY c]at e;exact e
   exact h C hC.1 cd q m ps' e' p' (List.mem_cons_of_mem _ hp')
  rw[List.map_cons,List.reverse_cons,List.append_assoc]
  exact this
theorem Gk{cs:List AC}{i j:Nat}(h:∀ a∈cs,a.kind≠i):sh M0 C (cs++as) i j=sh M0 C as i j:=by
 induction cs with
 | nil=>rfl
 | cons a r ih =>
  have ih:=ih λb hb=>h b (List.mem_cons_of_mem _ hb)
  rw[List.cons_append]
  by_cases c:C (r++as).length=true
  ·rw[CD c,DF (h a List.mem_cons_self).symm];exact ih
  ·rw[DY c];exact ih
theorem Hist.dropped(I:Hist m0 M0 as t o){z:Str}{k r m:Nat}{ps nd:List Nat}(hk:k<m0)(h0:BP M0 as 0 k=.nm z r)(h3:BP M0 as 3 r=.rc m ps)(hm:m<=1) :
  Hist m0 M0 (⟨1,r,.mk 0,[as.length+1]⟩::((ps.map λp=>(⟨2,p,.mk 0,[as.length+1]⟩:AC)).reverse++⟨3,r,.no,[as.length]⟩::⟨0,k,.no,nd⟩::as)) (EG t z as.length) (EG o z as.length):=by
 have I1:=I.gone (nd:=nd) hk h0
 have I2:=I1.step (a:=⟨3,r,.no,[as.length]⟩) (by simp) λC hC c=>by
  obtain⟨e1,e2,_⟩:=I.fewer hk h0 h3 ⟨rfl,rfl,by simp⟩ hC c
  exact(I1.sd C hC.1).drop (Nat.le_zero.mp (Nat.le_of_succ_le_succ (Nat.le_trans e2 hm)))
 have I3:=Hist.unmark (d:=as.length+1) (ps:=ps) I2 λC hC cd q m' ps' e p hp=>by
  obtain⟨_,_,f3⟩:=I.fewer hk h0 h3 ⟨rfl,rfl,by simp⟩ hC cd
  have cL:C as.length=true:=(hC.2 cd).1 _ (by simp)
  rw[CD cd]at e
  by_cases z:q=r
  ·subst z;rw[CM]at e;cases e
  ·rw[DG z,CD cL,DF (by simp)]at e
   exact(I.sd C hC.1.1).dj r q m m' ps ps' (λy=>z y.symm) f3 e p hp
 refine I3.step (a:=⟨1,r,.mk 0,[as.length+1]⟩) (by simp) λC hC c=>(I3.sd C hC.1).rmark (.inr λm' ps' e=> ?_)
 have cd:C (as.length+1)=true:=(hC.2 c).1 _ (by simp)
 rw[Gk (λa ha=>by
  obtain⟨p,_,rfl⟩:=List.mem_map.mp (List.mem_reverse.mp ha)
  simp),CD cd,CM]at e
 cases e
theorem Hist.put(I:Hist m0 M0 as t o){r m p:Nat}{ps:List Nat}{x:Str}(h2:BP M0 as 2 p≠.mk 1)(h3:BP M0 as 3 r=.rc m ps) :
  Hist m0 M0 (⟨3,r,.rc m (ps++[p]),[as.length+1]⟩::⟨4,p,.tx x,[as.length]⟩::⟨2,p,.mk 1,[]⟩::as) t o:=by
 have I1:=I.step (a:=⟨2,p,.mk 1,[]⟩) (by simp) λC hC _=>(I.sd C hC.1).pmark (.inl rfl)
 have I2:=I1.step (a:=⟨4,p,.tx x,[as.length]⟩) (by simp) λC hC _=>(I1.sd C hC.1).text
 refine I2.step (a:=⟨3,r,.rc m (ps++[p]),[as.length+1]⟩) (by simp) λC hC c=> ?_
 have c1:C (as.length+1)=true:=(hC.2 c).1 _ (by simp)
 have c0:C as.length=true:=(hC.1.2 c1).1 _ (by simp)
 refine(I2.sd C hC.1).more (t:=x) ?_ ?_ ?_ λq m' ps' e hp=> ?_
 ·rw[IA (a:=⟨3,r,.rc m (ps++[p]),[as.length+1]⟩) hC c,DA,DF (by simp),DA,DF (by simp)];exact h3
 ·rw[CD c1,DF (by simp),CD c0,CM]
 ·rw[CD c1,CM]
 ·rw[CD c1,DF (by simp),CD c0,DF (by simp)]at e
  have:=((I.sd C hC.1.1.1).pm q m' ps' e p hp).1
  rw[IA (a:=⟨2,p,.mk 1,[]⟩) hC.1.1 c0]at this
  exact h2 this
theorem Hist.take(I:Hist m0 M0 as t o){r m p i:Nat}{ps:List Nat}(h3:BP M0 as 3 r=.rc m ps)(hi:ps[i]? =some p) :
  Hist m0 M0 (⟨2,p,.mk 0,[as.length]⟩::⟨3,r,.rc m (ps.eraseIdx i),[]⟩::as) t o:=by
 have a3:∀ C,E9 C (⟨3,r,.rc m (ps.eraseIdx i),[]⟩::as)->C as.length=true->sh M0 C as 3 r=.rc m ps:=λC hC c=>by
  rw[IA (a:=⟨3,r,.rc m (ps.eraseIdx i),[]⟩) hC c];exact h3
 have I1:=I.step (a:=⟨3,r,.rc m (ps.eraseIdx i),[]⟩) (by simp) λC hC c=>(I.sd C hC.1).less (a3 C hC c) (List.eraseIdx_sublist ..)
 refine I1.step (a:=⟨2,p,.mk 0,[as.length]⟩) (by simp) λC hC c=>(I1.sd C hC.1).pmark (.inr λq m' ps' e=> ?_)
 have c0:C as.length=true:=(hC.2 c).1 _ (by simp)
 have e3:=a3 C hC.1 c0
 rw[CD c0]at e
 by_cases z:q=r
 ·subst z
  rw[CM]at e
  cases e
  have nd:=(I.sd C hC.1.1).nd q m ps e3
  exact λh=>by
   have hl:=(List.getElem?_eq_some_iff.mp hi).1
   obtain⟨j,hj,ej⟩:=List.mem_eraseIdx_iff_getElem?.mp h
   exact hj ((List.getElem?_inj hl nd).mp (hi.trans ej.symm)).symm
 ·rw[DG z]at e
  exact(I.sd C hC.1.1).dj r q m m' ps ps' (λy=>z y.symm) e3 e p (List.mem_of_getElem? hi)
end
end L2
namespace L2
section
variable{M0:Md}{C:Nat->Bool}{as:List AC}{m0 b0 r:Nat}{L L':List Str}
def Kp(m0:Nat)(M0:Md)(as:List AC)(b0 r:Nat)(L:List Str):Prop:=∀ C,E9 C as->(∀ j<b0,C j=true)->∃ k z,k<m0/\sh M0 C as 0 k=.nm z r/\z∈L
theorem U4:∀ {as:List AC},(∀ j<as.length,C j=true)->sh M0 C as=BP M0 as
 | [],_=>rfl
 | a::as,h=>by rw[CD (h _ (Nat.lt_succ_self _)),DA,U4 λj hj=>h j (Nat.lt_succ_of_lt hj)]
theorem Kp.start(h:∃ k z,k<m0/\BP M0 as 0 k=.nm z r/\z∈L):Kp m0 M0 as as.length r L:=λC _ hC=>by rw[U4 hC];exact h
theorem Kp.mono(K:Kp m0 M0 as b0 r L)(h:∀ z∈L,z∈L'):Kp m0 M0 as b0 r L':=λC hC h0=>by
 obtain⟨k,z,h1,h2,h3⟩:=K C hC h0
 exact⟨k,z,h1,h2,h z h3⟩
theorem Kp.other(K:Kp m0 M0 as b0 r L){a:AC}(ha:a.kind≠0):Kp m0 M0 (a::as) b0 r L:=λC hC h0=>by
 obtain⟨k,z,h1,h2,h3⟩:=K C hC.1 h0
 refine⟨k,z,h1,?_,h3⟩
 by_cases c:C as.length=true
 ·rw[CD c,DF ha.symm];exact h2
 ·rw[DY c];exact h2
theorem Kp.cell(K:Kp m0 M0 as b0 r L){k:Nat}{x:CV}{nd:List Nat}(h:∀ z q,BP M0 as 0 k=.nm z q->q=r->z∈L->∀ C,E9 C (⟨0,k,x,nd⟩::as)->C as.length=true->∃ k' z,k'<m0/\k'≠k/\sh M0 C as 0 k'=.nm z r/\z∈L):Kp m0 M0 (⟨0,k,x,nd⟩::as) b0 r L:=λC hC h0=>by
 obtain⟨j,z,h1,h2,h3⟩:=K C hC.1 h0
 by_cases c:C as.length=true
 ·rw[CD c]
  by_cases e:j=k
  ·subst e
   have h4:=IA (M0:=M0) (a:=⟨0,j,x,nd⟩) hC c
   obtain⟨k',z',g1,g2,g3,g4⟩:=h z r (h4.symm.trans h2) rfl h3 C hC c
   exact⟨k',z',g1,by rw[DG g2];exact g3,g4⟩
  ·exact⟨j,z,h1,by rw[DG e];exact h2,h3⟩
 ·rw[DY c];exact⟨j,z,h1,h2,h3⟩
theorem Kp.fill(K:Kp m0 M0 as b0 r L){k:Nat}{x:CV}{nd:List Nat}(h:BP M0 as 0 k=.no):Kp m0 M0 (⟨0,k,x,nd⟩::as) b0 r L:=K.cell λz q e=>by rw[h]at e;cases e
theorem Kp.gone(K:Kp m0 M0 as b0 r L){k q:Nat}{z:Str}{x:CV}{nd:List Nat}(h:BP M0 as 0 k=.nm z q)(hn:q≠r\/z∉L):Kp m0 M0 (⟨0,k,x,nd⟩::as) b0 r L:=K.cell λz' q' e e1 e2=>by
 rw[h]at e
 cases e
 rcases hn with hn | hn
 ·exact absurd e1 hn
 ·exact absurd e2 hn
theorem Kp.marks(K:Kp m0 M0 as b0 r L){d:Nat}:∀ {ps:List Nat},Kp m0 M0 ((ps.map λp=>(⟨2,p,.mk 0,[d]⟩:AC))++as) b0 r L
 | []=>K
 | p::ps=>(Kp.marks K (ps:=ps)).other (by simp)
def IB(m0:Nat)(kind:Nat)(y z:Str)(M0:Md)(as:List AC)(M0':Md)(as':List AC):Prop:=∀ b0 r L,Kp m0 M0 as b0 r L->if kind=3 then(y∉L->Kp m0 M0' as' b0 r L)else Kp m0 M0' as' b0 r (if(kind=2\/kind=7)/\y∈L then L++[z]else L)
theorem Kp.plain{kind:Nat}{y z:Str}(K:Kp m0 M0 as b0 r L)(h3:kind≠3):if kind=3 then(y∉L->Kp m0 M0 as b0 r L)else Kp m0 M0 as b0 r (if(kind=2\/kind=7)/\y∈L then L++[z]else L):=by
 rw[if_neg h3]
 split
 ·exact K.mono λx hx=>List.mem_append_left _ hx
 ·exact K
theorem Gm{kind k q:Nat}{y z z':Str}{nd nd1 nd2:List Nat}{v v1:CV}(hk:kind<2)(h0:BP M0 as 0 k=.no):IB m0 kind y z M0 as M0 (⟨0,k,.nm z' q,nd⟩::⟨3,q,v,nd1⟩::⟨1,q,v1,nd2⟩::as):=λb0 r L K =>
 (((K.other (a:=⟨1,q,v1,nd2⟩) (by simp)).other (a:=⟨3,q,v,nd1⟩) (by simp)).fill (by rw[DA,DF (by simp),DA,DF (by simp)];exact h0)).plain (by omega)
theorem Gp{kind k q:Nat}{y z z':Str}{nd nd1:List Nat}{v:CV}(hk:kind=2)(h0:BP M0 as 0 k=.no):IB m0 kind y z M0 as M0 (⟨0,k,.nm z' q,nd⟩::⟨3,q,v,nd1⟩::as):=λb0 r L K =>
 ((K.other (a:=⟨3,q,v,nd1⟩) (by simp)).fill (by rw[DA,DF (by simp)];exact h0)).plain (by omega)
theorem Gq{kind k q:Nat}{y z:Str}{nd nd1:List Nat}{v x:CV}(hk:kind=3)(h0:BP M0 as 0 k=.nm y q):IB m0 kind y z M0 as M0 (⟨3,q,v,nd1⟩::⟨0,k,x,nd⟩::as):=λb0 r L K=>by
 rw[if_pos hk]
 exact λh=>(K.gone h0 (.inr h)).other (by simp)
theorem Gv{kind k q:Nat}{y z:Str}{nd nd1:List Nat}{v x v2:CV}{d e:Nat}{ps:List Nat}(hk:kind=3)(h0:BP M0 as 0 k=.nm y q):IB m0 kind y z M0 as M0 (⟨1,q,v2,[e]⟩::((ps.map λp=>(⟨2,p,.mk 0,[d]⟩:AC)).reverse++⟨3,q,v,nd1⟩::⟨0,k,x,nd⟩::as)):=λb0 r L K=>by
 rw[if_pos hk]
 intro h
 rw[<-List.map_reverse]
 exact(((K.gone h0 (.inr h)).other (a:=⟨3,q,v,nd1⟩) (by simp)).marks).other (by simp)
theorem Gw{kind:Nat}{y z:Str}{a b c:AC}(hk:4<=kind/\kind<7)(ha:a.kind≠0)(hb:b.kind≠0)(hc:c.kind≠0):IB m0 kind y z M0 as M0 (a::b::c::as):=λb0 r L K=>(((K.other hc).other hb).other ha).plain (by omega)
theorem Gx{kind:Nat}{y z:Str}{a b:AC}(hk:4<=kind/\kind<7)(ha:a.kind≠0)(hb:b.kind≠0):IB m0 kind y z M0 as M0 (a::b::as):=λb0 r L K=>((K.other hb).other ha).plain (by omega)
theorem Gy{kind k l q:Nat}{y z:Str}{nd nd1 nd2:List Nat}{v v1:CV}(hk:kind=7)(hkm:k<m0)(h0:BP M0 as 0 k=.no)(hl:BP M0 as 0 l=.nm y q)(hn:as.length+1∈nd1):IB m0 kind y z M0 as M0 (⟨3,q,v1,nd2⟩::⟨0,l,.no,nd1⟩::⟨0,k,.nm z q,nd⟩::⟨3,q,v,[]⟩::as):=λb0 r L K=>by
 rw[if_neg (by omega)]
 have nlk:l≠k:=λe=>by rw[e,h0]at hl;cases hl
 have K1:=(K.other (a:=⟨3,q,v,[]⟩) (by simp)).fill (k:=k) (x:=.nm z q) (nd:=nd) (by rw[DA,DF (by simp)];exact h0)
 have F9:BP M0 (⟨0,k,.nm z q,nd⟩::⟨3,q,v,[]⟩::as) 0 l=.nm y q:=by rw[DA,DG nlk,DA,DF (by simp)];exact hl
 by_cases hy:y∈L
 ·rw[if_pos ⟨.inr hk,hy⟩]
  refine((K1.mono λx hx=>List.mem_append_left [z] hx).cell λz' q' e e1 e2 C hC c=> ?_).other (by simp)
  rw[F9]at e
  cases e
  subst e1
  have c1:C (as.length+1)=true:=(hC.2 c).1 _ hn
  exact⟨k,z,hkm,nlk.symm,by rw[CD (show C (⟨3,q,v,[]⟩::as:List AC).length=true from c1),CM],by simp⟩
 ·rw[if_neg λh=>hy h.2]
  exact(K1.gone F9 (.inr hy)).other (by simp)
end
end L2
namespace L2
abbrev ER(a:Ad):Addr:=a "Hold"
def K9(ns:List Int)(k:Nat):Int:=ns.getD k 0
def ME(K:W.Frag)(a:Ad):Sp:=λvs H Q _=>∃ (s:Addr) (ns:List Int) (k:Nat),vs=[.ref s,.int k]/\SqL K H s (ns.map V.int)/\ns.length<=1000/\Q (.int (K9 ns k)) H
theorem Gz{K:W.Frag}{a:Ad}{s:Addr}{k:Int}{H:Hp}{Q:VK}{E:XK}:ME K a [.ref s,.int k] H Q E=∃ (ns:List Int) (n:Nat),k=n/\SqL K H s (ns.map V.int)/\ns.length<=1000/\Q (.int (K9 ns n)) H:=by simp[ME,and_assoc]
abbrev TB(K:W.Frag)(a:Ad):Prop:=gE K (ER a) (a "Change")
abbrev D4(a:Ad)(H:Hp)(A:BA)(w:Nat)(rows:List (List V))(n:Nat)(cs:List Ch)(outs:Int->Bool):Prop:=BookAt a (ER a) H A w rows n cs outs
def HD:Option Nat->V
 | none=>.non
 | some k=>.int k
def FV(n:Nat)(outs:Int->Bool):List Nat:=(List.range n).filter λ(k:Nat)=> !outs k
def BE(l:List Nat):List V:=l.map λ(k:Nat)=>V.int k
abbrev onPl(rows:List (List V))(w:Nat)(i j:Int):Prop:=0<=i/\i<rows.length/\0<=j/\j<w
def QN(K:W.Frag)(a:Ad):Sp:=λvs H Q _=>∃ x dx pl v nt,vs=[.ref x,.ref pl,v,.ref nt]/\TB K a/\H x=some (.ins (a "Change") dx [])/\Q .non (upd H x (.ins (a "Change") dx (FG pl v nt)))
def NV(K:W.Frag)(a:Ad):Sp:=λvs H Q _=>∃ (b gp cl dx:Addr) (w:Nat) (rows:List (List V)) (n:Nat),vs=[.ref b,.ref gp]/\TB K a/\D9 K a/\PlankAt a H gp cl w rows n/\H b=some (.ins (ER a) dx []) ∧
 ∀ (m mi lt ou:Addr) (ls:List Addr) (H':Hp),H m=none->H mi=none->H lt=none->H ou=none->(∀ l∈ls,H l=none)->D4 a H' ⟨b,gp,m,mi,lt,ou,ls,cl⟩ w rows n [] (λ_=>false)->SameBut (· =b) H H'->Q .non H'
def QP(K:W.Frag)(a:Ad):Sp:=λvs H Q _=>∃ (nl:Addr) (ns:List Int) (o:Option Nat),vs=[.ref nl,HD o]/\SqL K H nl (ns.map V.int)/\ns.length<=60 ∧
 ∀ (t:Addr) (ks:List Int) (H':Hp),Same H H'->H' t=some (.tup (ks.map V.int))->ks.Pairwise (· <·)->(∀ x,x∈ks↔x∈ns\/∃ k:Nat,o=some k/\x=k)->ks.length<=ns.length+1->Q (.ref t) H'
def QQ(K:W.Frag)(a:Ad):Sp:=λvs H Q E=>∃ (A:BA) (w:Nat) (rows:List (List V)) (n:Nat) (cs:List Ch) (outs:Int->Bool) (pl:Addr) (i j:Int),vs=[.ref A.b,.ref pl]/\TB K a/\D9 K a/\D4 a H A w rows n cs outs/\H pl=some (.tup [.int i,.int j]) ∧
 (onPl rows w i j->Q .non H)/\(¬ onPl rows w i j->E (.ref (a "NoBlock")) none H)
def MF(K:W.Frag)(a:Ad):Sp:=λvs H Q E=>∃ (A:BA) (w:Nat) (rows:List (List V)) (n:Nat) (cs:List Ch) (outs:Int->Bool) (pl:Addr) (i j:Int),vs=[.ref A.b,.ref pl]/\TB K a/\D9 K a/\D4 a H A w rows n cs outs/\H pl=some (.tup [.int i,.int j]) ∧
 (onPl rows w i j->Q (HD (D3 cs i j)) H)/\(¬ onPl rows w i j->E (.ref (a "NoBlock")) none H)
abbrev known(cs:List Ch)(x:Int):Prop:=0<=x/\x<cs.length
def QR(K:W.Frag)(a:Ad):Sp:=λvs H Q E=>∃ (A:BA) (w:Nat) (rows:List (List V)) (n:Nat) (cs:List Ch) (outs:Int->Bool) (nl:Addr) (ns:List Int),vs=[.ref A.b,.ref nl]/\TB K a/\D4 a H A w rows n cs outs/\SqL K H nl (ns.map V.int) ∧
 ((∀ x∈ns,known cs x)->Q .non H)/\((∃ x∈ns,¬ known cs x)->E (.ref (a "NoChange")) none H)
def DZ(K:W.Frag)(a:Ad):Sp:=λvs H Q E=>∃ (A:BA) (w:Nat) (rows:List (List V)) (n:Nat) (cs:List Ch) (outs:Int->Bool) (pl nl:Addr) (v:V) (ns:List Int) (i j:Int),vs=[.ref A.b,.ref pl,v,.ref nl]/\TB K a/\D9 K a/\D4 a H A w rows n cs outs/\H pl=some (.tup [.int i,.int j])/\SqL K H nl (ns.map V.int)/\ns.length<=60/\cs.length<990 ∧
 (onPl rows w i j->(∀ x∈ns,known cs x)->∀ (nd:List Int) (H':Hp),nd.Pairwise (· <·)->(∀ x,x∈nd↔x∈ns\/∃ k:Nat,D3 cs i j=some k/\x=k)->D4 a H' A w rows n (cs++[⟨i.toNat,j.toNat,v,nd⟩]) outs->SameBut A.F H H'->Q (.int cs.length) H') ∧
 (¬ onPl rows w i j->E (.ref (a "NoBlock")) none H)/\(onPl rows w i j->(∃ x∈ns,¬ known cs x)->E (.ref (a "NoChange")) none H)
def KB(K:W.Frag)(a:Ad):Sp:=λvs H Q _=>∃ (A:BA) (w:Nat) (rows:List (List V)) (n:Nat) (cs:List Ch) (outs:Int->Bool),vs=[.ref A.b]/\TB K a/\D4 a H A w rows n cs outs ∧
 ∀ (l:Addr) (H':Hp),H l=none->Same H H'->H' l=some (.lst (BE (FV cs.length outs)))->Q (.ref l) H'
def D5(cs:List Ch)(rows:List (List V))(i j:Int):Option V:=match D3 cs i j with
 | some k=>(cs[k]?).map (·.val)
 | none=>(rows[i.toNat]?).bind λr=>r[j.toNat]?
def GS(K:W.Frag)(a:Ad):Sp:=λvs H Q E=>∃ (A:BA) (w:Nat) (rows:List (List V)) (n:Nat) (cs:List Ch) (outs:Int->Bool) (pl:Addr) (i j:Int),vs=[.ref A.b,.ref pl]/\TB K a/\D9 K a/\D4 a H A w rows n cs outs/\H pl=some (.tup [.int i,.int j]) ∧
 (onPl rows w i j->∀ (v:V) (H':Hp),D5 cs rows i j=some v->Same H H'->Q v H')/\(¬ onPl rows w i j->E (.ref (a "NoBlock")) none H)
def U5:Option Int->V
 | none=>.non
 | some k=>.int k
abbrev D0(kvs:List (AH × V))(x:Int):Bool:=(BJ kvs (.inl x)).isSome
def QS(K:W.Frag)(a:Ad):Sp:=λvs H Q _=>∃ (A:BA) (w:Nat) (rows:List (List V)) (n:Nat) (cs:List Ch) (outs:Int->Bool) (k:Nat) (c:Ch) (g:Addr) (kvg:List (AH × V)),vs=[.ref A.b,.int k,.ref g]/\TB K a/\D4 a H A w rows n cs outs/\cs[k]? =some c/\H g=some (.dK kvg) ∧
 Q (U5 (K8 c.nd λx=>outs x || D0 kvg x)) H
def QT(K:W.Frag)(a:Ad):Sp:=λvs H Q _=>∃ (A:BA) (w:Nat) (rows:List (List V)) (n:Nat) (cs:List Ch) (outs:Int->Bool) (b:Nat) (tk:Addr) (kvt:List (AH × V)),vs=[.ref A.b,.int b,.ref tk]/\TB K a/\D4 a H A w rows n cs outs/\b<rows.length/\H tk=some (.dK kvt)/\kvt.length<=1000 ∧
 ∀ (t ol hl:Addr) (H':Hp),H ol=none->H hl=none->ol≠hl->Same H H'->gM H' t ol hl (outcome cs outs (D0 kvt) b).out (outcome cs outs (D0 kvt) b).held->Q (.ref t) H'
def QU(K:W.Frag)(a:Ad):Sp:=λvs H Q _=>∃ (A:BA) (w:Nat) (rows:List (List V)) (n:Nat) (cs:List Ch) (outs:Int->Bool) (b:Nat) (vl:Addr) (row:List V),vs=[.ref A.b,.ref vl,.int b]/\TB K a/\D4 a H A w rows n cs outs/\b<rows.length/\H vl=some (.lst row)/\row.length=w ∧
 ∀ (l:Addr) (H':Hp),H l=none->Same H H'->H' l=some (.lst (EF cs outs b row))->Q (.ref l) H'
def QW(K:W.Frag)(a:Ad):Sp:=λvs H Q E=>∃ (A:BA) (w:Nat) (rows:List (List V)) (n:Nat) (cs:List Ch) (outs:Int->Bool) (b:Int),vs=[.ref A.b,.int b]/\TB K a/\D9 K a/\D4 a H A w rows n cs outs ∧
 (∀ (b':Nat) (row:List V) (t ol hl:Addr) (H':Hp),b=b'->rows[b']? =some row->H ol=none->H hl=none->ol≠hl->gM H' t ol hl (outcome cs outs (λ_=>false) b').out (outcome cs outs (λ_=>false) b').held →
  D4 a H' A w (rows.set b' (EF cs (EA cs outs b') b' row)) (n+1) cs (EA cs outs b')->SameBut (λx=>A.F x\/x=A.gp) H H'->Q (.ref t) H') ∧
 (b<0\/rows.length<=b->E (.ref (a "NoBlock")) none H)
def GoodV:Nat->Hp->V->Prop
 | 0,_,_=>False
 | _+1,_,.int _=>True
 | _+1,_,.non=>True
 | _+1,_,.str z=>PyData.strOk z=true
 | n+1,H,.ref p=>∃ xs,H p=some (.tup xs)/\xs.length<=100/\∀ v∈xs,GoodV n H v
 | _,_,_=>False
def QX(v:V):Prop:=v=.non\/∃ i,v=.int i
def A5(n r c w kind k:Nat):Nat:=(if kind=0 then 0 else if kind=1 then n+r+c else if kind=2 then n+r+c+r else if kind=3 then n else n+r)+k / w
def AX(n r c w kind:Nat):Nat:=(if kind=0 then n else if kind=1 then r else if kind=2 then c else if kind=3 then r else c) * w
def IZ(kind:Nat)(v:V):Bool:=decide (v=.non) || (decide (0<kind) && decide (v=.int 0))
def EH(f:Nat->Bool)(m:Nat):Int:=match (List.range m).find? f with
 | some k=>k
 | none=> -1
def gT(H:Hp)(rows:List (List V)):Prop:=∀ r∈rows,∀ v∈r,GoodV 4 H v
def goodH(H:Hp)(cs:List Ch)(rows:List (List V)):Prop:=gT H rows/\∀ c∈cs,GoodV 4 H c.val
def KC(cs:List Ch)(rows:List (List V))(n r c w kind:Nat)(k:Nat):Bool:=match D5 cs rows (A5 n r c w kind k:Nat) (k % w:Nat)with
 | some v=>IZ kind v
 | none=>false
def JA(K:W.Frag)(a:Ad):Sp:=λvs H Q E=>∃ (A:BA) (w:Nat) (rows:List (List V)) (n:Nat) (cs:List Ch) (outs:Int->Bool) (pl vl:Addr) (ts:List Addr) (xs:List V) (f:Nat->Bool) (m:Nat),vs=[.ref A.b,.ref pl,.ref vl]/\TB K a/\D9 K a/\D4 a H A w rows n cs outs/\H pl=some (.lst (ts.map V.ref))/\ts.length=m/\m<=1000/\H vl=some (.tup xs)/\(∀ z∈xs,QX z) ∧
 (∀ k t,ts[k]? =some t->∃ i j v,H t=some (.tup [.int i,.int j])/\onPl rows w i j/\D5 cs rows i j=some v/\GoodV 4 H v/\f k=decide (v∈xs)) ∧
 (∀ k:Nat,EH f m=k->∀ H',Same H H'->Q (.int k) H')/\(EH f m= -1->∀ H',Same H H'->E (.ref (a "NoRoom")) none H')
def QY(kind:Nat)(K:W.Frag)(a:Ad)(p b:Addr)(H:Hp)(Q:VK)(E:XK):Prop:=∃ (A:BA) (n r c w:Nat) (rows:List (List V)) (nn:Nat) (cs:List Ch) (outs:Int->Bool),b=A.b/\TB K a/\D9 K a/\DX K a/\LayAt a H p n r c w/\n<=6/\r<=6/\c<=6/\w<=6/\D4 a H A w rows nn cs outs/\rows.length=n+r+c+r+c/\(∀ i j v,D5 cs rows i j=some v->GoodV 4 H v) ∧
 (∀ k:Nat,EH (KC cs rows n r c w kind) (AX n r c w kind)=k->∀ H',Same H H'->Q (.int k) H')/\(EH (KC cs rows n r c w kind) (AX n r c w kind)= -1->∀ H',Same H H'->E (.ref (a "NoRoom")) none H')
def MG(K:W.Frag)(a:Ad):Sp:=λvs H Q E=>∃ p b,vs=[.ref p,.ref b]/\QY 0 K a p b H Q E
def QZ(K:W.Frag)(a:Ad):Sp:=λvs H Q E=>∃ p b,vs=[.ref p,.ref b]/\QY 1 K a p b H Q E
def Q0(K:W.Frag)(a:Ad):Sp:=λvs H Q E=>∃ p b,vs=[.ref p,.ref b]/\QY 2 K a p b H Q E
def U6(c:Nat):Bool:=decide (32<=c) && decide (c<=126) && decide (c≠37)
def NW(c:Nat):Bool:=decide (97<=c) && decide (c<=122)
def BM(z:Str):Bool:=decide (1<=z.length) && decide (z.length<=8) && z.cps.toList.all NW
def MH(z:Str):Bool:=decide (1<=z.length) && decide (z.length<=40) && z.cps.toList.all U6
def Q1(K:W.Frag)(a:Ad):Sp:=λvs H Q _=>∃ c:Nat,vs=[.str ⟨#[c]⟩]/\Q (.bl (U6 c)) H
def Q2(K:W.Frag)(a:Ad):Sp:=λvs H Q _=>∃ z:Str,vs=[.str z]/\z.length<=1000/\∀ H',Same H H'->Q (.bl (BM z)) H'
def Q3(K:W.Frag)(a:Ad):Sp:=λvs H Q _=>∃ z:Str,vs=[.str z]/\z.length<=1000/\∀ H',Same H H'->Q (.bl (MH z)) H'
structure NX(K:W.Frag)(a:Ad):Prop where
 cl:Cls K (a "Store")
 n1:NoAttr K (a "Store") "plan"
 n2:NoAttr K (a "Store") "book"
 n3:NoAttr K (a "Store") "taken_out"
def sf(lp b tk:Addr):List (Str × V):=[("plan",.ref lp),("book",.ref b),("taken_out",.ref tk)]
structure SA where
 A:BA
 st:Addr
 lp:Addr
 tk:Addr
structure Hs where
 b:Md
 as:List AC
abbrev Hs.f(M:Hs):Md:=BP M.b M.as
instance:CoeFun Hs λ_=>Nat->Nat->CV:=⟨Hs.f⟩
def Hs.put(M:Hs)(kind k:Nat)(x:CV)(nd:List Nat):Hs:=⟨M.b,⟨kind,k,x,nd⟩::M.as⟩
theorem Hs.put_at{M:Hs}{kind k i j:Nat}{x:CV}{nd:List Nat}:(M.put kind k x nd) i j=if i=kind/\j=k then x else M i j:=rfl
def RepC(H:Hp):CV->V->Prop
 | .no,v=>v=.non
 | .nm z k,v=>∃ t,v=.ref t/\H t=some (.tup [.str z,.int k])
 | .mk i,v=>v=.int i
 | .rc m ps,v=>∃ t u,v=.ref t/\H t=some (.tup [.int m,.ref u])/\H u=some (.tup (BE ps))
 | .tx z,v=>v=.str z
def EB:Nat->CV->Prop
 | _,.no=>True
 | 0,.nm _ _=>True
 | 1,.mk i=>i<=1
 | 2,.mk i=>i<=1
 | 3,.rc _ _=>True
 | 4,.tx _=>True
 | _,_=>False
inductive LaidA(n r c w:Nat)(H:Hp):List Ch->List AC->Prop
 | nil:LaidA n r c w H [] []
 | snoc {cs:List Ch} {as:List AC} {ch:Ch} {x:AC}:LaidA n r c w H cs as->ch.blk=A5 n r c w x.kind x.k->ch.cell=x.k % w->RepC H x.x ch.val->(∀ y:Int,y∈ch.nd↔(∃ j∈x.nd,y=(j:Nat))\/∃ j:Nat,HC x.kind x.k as=some j/\y=j)->x.kind<5->x.k<AX n r c w x.kind->LaidA n r c w H (cs++[ch]) (x::as)
structure SM(a:Ad)(H:Hp)(S:SA)(n r c w:Nat)(rows:List (List V))(nn:Nat)(cs:List Ch)(outs:Int->Bool)(tks:List (AH × V))(M:Hs):Prop where
 ob:∃ dx,H S.st=some (.ins (a "Store") dx (sf S.lp S.A.b S.tk))
 ly:LayAt a H S.lp n r c w
 bk:D4 a H S.A w rows nn cs outs
 tk:H S.tk=some (.dK tks)
 tl:tks.length<=cs.length
 tv:∀ z v,BJ tks (.inr z)=some v->∃ k:Nat,v=.int k/\k<cs.length
 ap:¬ S.A.F S.tk
 sz:n<=6/\r<=6/\c<=6/\w<=6/\rows.length=n+r+c+r+c
 gd:goodH H cs rows
 rp:∀ kind k v,kind<5->k<AX n r c w kind->D5 cs rows (A5 n r c w kind k:Nat) (k % w:Nat)=some v->RepC H (M kind k) v
 ok:∀ kind k,kind<5->k<AX n r c w kind->EB kind (M kind k)
 la:LaidA n r c w H cs M.as
def F6(M:Hs)(k:Nat):Option (Str × Nat):=match M 0 k with
 | .nm z r=>some (z,r)
 | _=>none
def cellOf(M:Hs)(m:Nat)(z:Str):Option Nat:=(List.range m).find? λk=>(F6 M k).any λp=>decide (p.1=z)
def FJ(kind:Nat):CV->Bool
 | .no=>true
 | .mk i=>decide (0<kind) && decide (i=0)
 | _=>false
def F7(M:Hs)(kind m:Nat):Int:=EH (λk=>FJ kind (M kind k)) m
abbrev CO(K:W.Frag)(a:Ad):Prop:=TB K a/\D9 K a/\DX K a/\NX K a
abbrev gU(cs:List Ch)(i j:Int)(x:Int):Prop:=∃ k:Nat,D3 cs i j=some k/\x=k
structure SX where
 S:SA
 n:Nat
 r:Nat
 c:Nat
 w:Nat
 rows:List (List V)
 nn:Nat
 outs:Int->Bool
abbrev SX.at(X:SX)(a:Ad)(H:Hp)(cs:List Ch)(tks:List (AH × V))(M:Hs):Prop:=SM a H X.S X.n X.r X.c X.w X.rows X.nn cs X.outs tks M
abbrev SX.m0(X:SX):Nat:=X.n * X.w
def Q4(K:W.Frag)(a:Ad):Sp:=λvs H Q _=>∃ (x dx lp gp cl:Addr) (n r c w:Nat) (rows:List (List V)) (nn:Nat) (M:Md),vs=[.ref x,.ref lp,.ref gp]/\CO K a/\H x=some (.ins (a "Store") dx [])/\LayAt a H lp n r c w/\PlankAt a H gp cl w rows nn/\(n<=6/\r<=6/\c<=6/\w<=6/\rows.length=n+r+c+r+c)/\gT H rows/\(∀ kind k v,kind<5->k<AX n r c w kind->D5 [] rows (A5 n r c w kind k:Nat) (k % w:Nat)=some v->RepC H (M kind k) v)/\(∀ kind k,kind<5->k<AX n r c w kind->EB kind (M kind k)) ∧
 ∀ (S:SA) (H':Hp),S.st=x->S.lp=lp->S.A.gp=gp->S.A.cl=cl->(∀ y o,H y=some o->y=cl\/¬ S.A.F y)->H S.tk=none->SM a H' S n r c w rows nn [] (λ_=>false) [] ⟨M,[]⟩->SameBut (· =x) H H'->Q .non H'
def HE(K:W.Frag)(a:Ad):Sp:=λvs H Q _=>∃ (x dx lp b tk:Addr),vs=[.ref x]/\NX K a/\H x=some (.ins (a "Store") dx (sf lp b tk))/\Q (.ref b) H
def MI(K:W.Frag)(a:Ad):Sp:=λvs H Q _=>∃ (X:SX) (cs:List Ch) (tks:List (AH × V)) (M:Hs),vs=[.ref X.S.st]/\CO K a/\X.at a H cs tks M ∧
 ∀ (l:Addr) (xs:List V) (H':Hp),Same H H'->H' l=some (.lst xs)->xs.length=X.m0->(∀ k v,xs[k]? =some v->RepC H' (M 0 k) v)->Q (.ref l) H'
def KD(K:W.Frag)(a:Ad):Sp:=λvs H Q _=>∃ (X:SX) (cs:List Ch) (tks:List (AH × V)) (M:Hs) (z:Str),vs=[.ref X.S.st,.str z]/\CO K a/\X.at a H cs tks M/\∀ (H':Hp),Same H H'->Q (HD (cellOf M X.m0 z)) H'
def GT(K:W.Frag)(a:Ad):Sp:=λvs H Q E=>∃ (X:SX) (cs:List Ch) (tks:List (AH × V)) (M:Hs) (z:Str),vs=[.ref X.S.st,.str z]/\CO K a/\X.at a H cs tks M ∧
 (∀ cell k,cellOf M X.m0 z=some cell->cell<X.m0->M 0 cell=.nm z k->∀ H',Same H H'->Q (.int k) H')/\(cellOf M X.m0 z=none->∀ H',Same H H'->E (.ref (a "NoName")) none H')
def FW(K:W.Frag)(a:Ad):Sp:=λvs H Q _=>∃ (X:SX) (cs:List Ch) (tks:List (AH × V)) (M:Hs) (rec:Nat),vs=[.ref X.S.st,.int rec]/\CO K a/\X.at a H cs tks M/\rec<X.r * X.w/\∀ v H',RepC H' (M 3 rec) v->Same H H'->Q v H'
def MJ(K:W.Frag)(a:Ad):Sp:=λvs H Q E=>∃ (X:SX) (cs:List Ch) (tks:List (AH × V)) (M:Hs) (z:Str) (gl:Addr) (zs:List Str),vs=[.ref X.S.st,.str z,.ref gl]/\CO K a/\X.at a H cs tks M/\H gl=some (.lst (zs.map V.str))/\zs.length<=60/\(∀ y∈zs,y.length<=1000) ∧
 (zs.all BM=true->cellOf M X.m0 z=none->∀ H',Same H H'->Q .non H')/\(zs.all BM=false->∀ H',Same H H'->E (.ref (a "NoName")) none H')/\(zs.all BM=true->(∃ k,cellOf M X.m0 z=some k)->∀ H',Same H H'->E (.ref (a "Twice")) none H')
def Q5(X:SX)(a:Ad)(H:Hp)(cs:List Ch)(tks:List (AH × V))(M':Hs)(Q:VK):Prop:=∀ (ch:Ch) (H':Hp),X.at a H' (cs++[ch]) tks M'->SameBut X.S.A.F H H'->Q (.int cs.length) H'
def EI(tks:List (AH × V))(z:Str):List Nat:=match BJ tks (.inr z)with
 | some (.int k)=>[k.toNat]
 | _=>[]
abbrev JB(ns:List Int):List Nat:=ns.map Int.toNat
def MK(K:W.Frag)(a:Ad):Sp:=λvs H Q _=>∃ (X:SX) (cs:List Ch) (tks:List (AH × V)) (M:Hs) (cell rec need:Nat) (z:Str),vs=[.ref X.S.st,.int cell,.str z,.int rec,.int need]/\CO K a/\X.at a H cs tks M/\cell<X.m0/\need<cs.length/\cs.length<980/\PyData.strOk z=true/\Q5 X a H cs tks (M.put 0 cell (.nm z rec) (need::EI tks z)) Q
def KG(K:W.Frag)(a:Ad):Sp:=λvs H Q _=>∃ (X:SX) (cs:List Ch) (tks:List (AH × V)) (M:Hs) (rec m m':Nat) (more:Int) (ps:List Nat) (nl:Addr) (ns:List Int),vs=[.ref X.S.st,.int rec,.int more,.ref nl]/\CO K a/\X.at a H cs tks M/\rec<X.r * X.w/\M 3 rec=.rc m ps/\(m:Int)+more=m'/\ps.length<=100/\H nl=some (.lst (ns.map V.int))/\ns.length<=60/\(∀ x∈ns,known cs x)/\cs.length<980/\Q5 X a H cs tks (M.put 3 rec (.rc m' ps) (JB ns)) Q
def ML(K:W.Frag)(a:Ad):Sp:=λvs H Q _=>∃ (X:SX) (cs:List Ch) (tks:List (AH × V)) (M:Hs) (rec m:Nat) (ps ps':List Nat) (pl nl:Addr) (ns:List Int),vs=[.ref X.S.st,.int rec,.ref pl,.ref nl]/\CO K a/\X.at a H cs tks M/\rec<X.r * X.w/\M 3 rec=.rc m ps/\H pl=some (.tup (BE ps'))/\ps'.length<=100/\H nl=some (.lst (ns.map V.int))/\ns.length<=60/\(∀ x∈ns,known cs x)/\cs.length<980/\Q5 X a H cs tks (M.put 3 rec (.rc m ps') (JB ns)) Q
def MM(K:W.Frag)(a:Ad):Sp:=λvs H Q _=>∃ (X:SX) (cs:List Ch) (tks:List (AH × V)) (M:Hs) (cell:Nat) (z:Str) (nl:Addr) (ns:List Int),vs=[.ref X.S.st,.str z,.ref nl]/\CO K a/\X.at a H cs tks M/\cellOf M X.m0 z=some cell/\cell<X.m0/\H nl=some (.lst (ns.map V.int))/\ns.length<=60/\(∀ x∈ns,known cs x)/\cs.length<980 ∧
 ∀ (ch:Ch) (H':Hp),X.at a H' (cs++[ch]) (CB tks (.inr z) (.int cs.length)) (M.put 0 cell .no (JB ns))->SameBut (λx=>X.S.A.F x\/x=X.S.tk) H H'->Q (.int cs.length) H'
def Hs.unmark(M:Hs)(d:Nat)(ps:List Nat):Hs:=ps.foldl (λM p=>M.put 2 p (.mk 0) [d]) M
def Q6(K:W.Frag)(a:Ad):Sp:=λvs H Q _=>∃ (X:SX) (cs:List Ch) (tks:List (AH × V)) (M:Hs) (rec m gone:Nat) (ps:List Nat),vs=[.ref X.S.st,.int rec,.int gone]/\CO K a/\X.at a H cs tks M/\rec<X.r * X.w/\M 3 rec=.rc m ps/\gone<cs.length/\(∀ p∈ps,p<X.c * X.w)/\ps.length<=36/\cs.length<940 ∧
 ∀ (ex:List Ch) (l:Addr) (H':Hp),H l=none->H' l=some (.lst (BE ((List.range (ps.length+2)).map (cs.length+·))))->ex.length=ps.length+2->X.at a H' (cs++ex) tks (((M.put 3 rec .no [gone]).unmark cs.length ps).put 1 rec (.mk 0) [cs.length])->SameBut X.S.A.F H H'->Q (.ref l) H'
def LA(X:SX)(a:Ad)(H:Hp)(cs:List Ch)(d:Nat)(tks':List (AH × V))(M':Hs)(Q:VK):Prop:=∀ (ex:List Ch) (l:Addr) (H':Hp),ex.length=d->H l=none->H' l=some (.lst (BE ((List.range d).map (cs.length+·))))->X.at a H' (cs++ex) tks' M'->SameBut (λx=>X.S.A.F x\/x=X.S.tk) H H'->Q (.ref l) H'
def ES(a:Ad)(H:Hp)(c:String)(E:XK):Prop:=∀ H',Same H H'->E (.ref (a c)) none H'
def Q7(K:W.Frag)(a:Ad):Sp:=λvs H Q E=>∃ (X:SX) (cs:List Ch) (tks:List (AH × V)) (M:Hs) (z:Str),vs=[.ref X.S.st,.str z]/\CO K a/\X.at a H cs tks M/\z.length<=1000/\cs.length<930 ∧
 (BM z=true->cellOf M X.m0 z=none->∀ rec cell:Nat,F7 M 1 (X.r * X.w)=rec->F7 M 0 X.m0=cell->rec<X.r * X.w->cell<X.m0->LA X a H cs 3 tks (((M.put 1 rec (.mk 1) []).put 3 rec (.rc 1 []) [cs.length]).put 0 cell (.nm z rec) ((cs.length+1)::EI tks z)) Q) ∧
 (BM z=false->ES a H "NoName" E)/\(BM z=true->(∃ k,cellOf M X.m0 z=some k)->ES a H "Twice" E) ∧
 (BM z=true->cellOf M X.m0 z=none->(F7 M 1 (X.r * X.w)= -1\/F7 M 0 X.m0= -1)->ES a H "NoRoom" E)
def MN(K:W.Frag)(a:Ad):Sp:=λvs H Q E=>∃ (X:SX) (cs:List Ch) (tks:List (AH × V)) (M:Hs) (y z:Str),vs=[.ref X.S.st,.str y,.str z]/\CO K a/\X.at a H cs tks M/\y.length<=1000/\z.length<=1000/\cs.length<930 ∧
 (BM y=true->BM z=true->cellOf M X.m0 z=none->∀ old rec cell:Nat,cellOf M X.m0 y=some old->old<X.m0->M 0 old=.nm y rec->rec<X.r * X.w/\∃ m ps,M 3 rec=.rc m ps/\ps.length<=100/\(F7 M 0 X.m0=cell->cell<X.m0->LA X a H cs 2 tks ((M.put 3 rec (.rc (m+1) ps) []).put 0 cell (.nm z rec) (cs.length::EI tks z)) Q)) ∧
 ((BM y && BM z)=false->ES a H "NoName" E)/\(BM y=true->BM z=true->(∃ k,cellOf M X.m0 z=some k)->ES a H "Twice" E)/\(BM y=true->BM z=true->cellOf M X.m0 z=none->cellOf M X.m0 y=none->ES a H "NoName" E) ∧
 (BM y=true->BM z=true->cellOf M X.m0 z=none->(∃ k,cellOf M X.m0 y=some k)->F7 M 0 X.m0= -1->ES a H "NoRoom" E)
def Q8(K:W.Frag)(a:Ad):Sp:=λvs H Q E=>∃ (X:SX) (cs:List Ch) (tks:List (AH × V)) (M:Hs) (z:Str),vs=[.ref X.S.st,.str z]/\CO K a/\X.at a H cs tks M/\cs.length<930 ∧
 (∀ cell rec:Nat,cellOf M X.m0 z=some cell->cell<X.m0->M 0 cell=.nm z rec->rec<X.r * X.w/\∃ m ps,M 3 rec=.rc m ps/\(∀ p∈ps,p<X.c * X.w)/\ps.length<=36 ∧
  (1<m->LA X a H cs 2 (CB tks (.inr z) (.int cs.length)) ((M.put 0 cell .no []).put 3 rec (.rc (m - 1) ps) [cs.length]) Q)/\(m<=1->LA X a H cs (ps.length+3) (CB tks (.inr z) (.int cs.length)) ((((M.put 0 cell .no []).put 3 rec .no [cs.length]).unmark (cs.length+1) ps).put 1 rec (.mk 0) [cs.length+1]) Q)) ∧
 (cellOf M X.m0 z=none->ES a H "NoName" E)
def Q9(K:W.Frag)(a:Ad):Sp:=λvs H Q E=>∃ (X:SX) (cs:List Ch) (tks:List (AH × V)) (M:Hs) (z t:Str),vs=[.ref X.S.st,.str z,.str t]/\CO K a/\X.at a H cs tks M/\t.length<=1000/\PyData.strOk t=true/\cs.length<930 ∧
 (∀ cell rec:Nat,cellOf M X.m0 z=some cell->cell<X.m0->M 0 cell=.nm z rec->MH t=true->∀ p:Nat,F7 M 2 (X.c * X.w)=p->p<X.c * X.w->rec<X.r * X.w/\∃ m ps,M 3 rec=.rc m ps/\ps.length<=90/\LA X a H cs 3 tks (((M.put 2 p (.mk 1) []).put 4 p (.tx t) [cs.length]).put 3 rec (.rc m (ps++[p])) [cs.length+1]) Q) ∧
 (cellOf M X.m0 z=none->ES a H "NoName" E)/\((∃ k,cellOf M X.m0 z=some k)->MH t=false->ES a H "NoPiece" E)/\((∃ k,cellOf M X.m0 z=some k)->MH t=true->F7 M 2 (X.c * X.w)= -1->ES a H "NoRoom" E)
def RA(K:W.Frag)(a:Ad):Sp:=λvs H Q E=>∃ (X:SX) (cs:List Ch) (tks:List (AH × V)) (M:Hs) (z:Str) (x:Int),vs=[.ref X.S.st,.str z,.int x]/\CO K a/\X.at a H cs tks M/\cs.length<930 ∧
 (∀ cell rec:Nat,cellOf M X.m0 z=some cell->cell<X.m0->M 0 cell=.nm z rec->rec<X.r * X.w/\∃ m ps,M 3 rec=.rc m ps/\ps.length<=100/\((x<0\/ps.length<=x)->ES a H "NoPiece" E)/\(∀ (k p:Nat),x=k->ps[k]? =some p->p<X.c * X.w/\LA X a H cs 2 tks ((M.put 3 rec (.rc m (ps.eraseIdx k)) []).put 2 p (.mk 0) [cs.length]) Q)) ∧
 (cellOf M X.m0 z=none->ES a H "NoName" E)
def RB(K:W.Frag)(a:Ad):Sp:=λvs H Q E=>∃ (X:SX) (cs:List Ch) (tks:List (AH × V)) (M:Hs) (y z:Str),vs=[.ref X.S.st,.str y,.str z]/\CO K a/\X.at a H cs tks M/\y.length<=1000/\z.length<=1000/\cs.length<920 ∧
 (BM y=true->BM z=true->cellOf M X.m0 z=none->∀ old rec cell:Nat,cellOf M X.m0 y=some old->old<X.m0->M 0 old=.nm y rec->rec<X.r * X.w/\∃ m ps,M 3 rec=.rc m ps/\ps.length<=100/\(F7 M 0 X.m0=cell->cell<X.m0->LA X a H cs 4 (CB tks (.inr y) (.int (cs.length+2:Nat))) ((((M.put 3 rec (.rc (m+1) ps) []).put 0 cell (.nm z rec) (cs.length::EI tks z)).put 0 old .no [cs.length+1]).put 3 rec (.rc m ps) [cs.length+2]) Q)) ∧
 ((BM y && BM z)=false->ES a H "NoName" E)/\(BM y=true->BM z=true->(∃ k,cellOf M X.m0 z=some k)->ES a H "Twice" E)/\(BM y=true->BM z=true->cellOf M X.m0 z=none->cellOf M X.m0 y=none->ES a H "NoName" E) ∧
 (BM y=true->BM z=true->cellOf M X.m0 z=none->(∃ k,cellOf M X.m0 y=some k)->F7 M 0 X.m0= -1->ES a H "NoRoom" E)
def SX.wr(X:SX)(cs:List Ch)(b:Nat)(row:List V):SX:={ X with rows:=X.rows.set b (EF cs (EA cs X.outs b) b row),nn:=X.nn+1,outs:=EA cs X.outs b }
def KH(K:W.Frag)(a:Ad):Sp:=λvs H Q _=>∃ (X:SX) (cs:List Ch) (tks:List (AH × V)) (M:Hs) (b:Nat) (row:List V),vs=[.ref X.S.st,.int b]/\CO K a/\X.at a H cs tks M/\X.rows[b]? =some row/\∀ t H',(X.wr cs b row).at a H' cs tks M->SameBut (λx=>X.S.A.F x\/x=X.S.A.gp) H H'->Q (.ref t) H'
def RC(K:W.Frag)(a:Ad):Sp:=λvs H Q _=>∃ x:Int,vs=[.int x]/\∀ (l:Addr) (zs:List Str) (H':Hp),H l=none->Same H H'->H' l=some (.lst (zs.map V.str))->zs.length=5->(∀ z∈zs,BM z=true)->Q (.ref l) H'
def RD(K:W.Frag)(a:Ad):Sp:=λvs H Q _=>∃ x:Int,vs=[.int x]/\∀ (t:Str) (H':Hp),t.length<=40->PyData.strOk t=true->Same H H'->Q (.str t) H'
def RE(K:W.Frag)(a:Ad):Sp:=λvs H Q _=>∃ x:Int,vs=[.int x]/\∀ y,Q (.int y) H
structure TD(K:W.Frag)(a:Ad):Prop where
 n1:W.exmOne K (.ref (a "NoName")) (.ref (a "NoName"))=some true
 t1:W.exmOne K (.ref (a "Twice")) (.ref (a "NoName"))=some false
 t2:W.exmOne K (.ref (a "Twice")) (.ref (a "Twice"))=some true
 p1:W.exmOne K (.ref (a "NoPiece")) (.ref (a "NoName"))=some false
 p2:W.exmOne K (.ref (a "NoPiece")) (.ref (a "Twice"))=some false
 p3:W.exmOne K (.ref (a "NoPiece")) (.ref (a "NoPiece"))=some true
 r1:W.exmOne K (.ref (a "NoRoom")) (.ref (a "NoName"))=some false
 r2:W.exmOne K (.ref (a "NoRoom")) (.ref (a "Twice"))=some false
 r3:W.exmOne K (.ref (a "NoRoom")) (.ref (a "NoPiece"))=some false
 r4:W.exmOne K (.ref (a "NoRoom")) (.ref (a "NoRoom"))=some true
def LB(tks:List (AH × V)):Str->Option Nat:=λz=>(EI tks z).head?
def RowsAre(H:Hp)(n r c w:Nat)(rows:List (List V))(S:Md):Prop:=∀ kind k v,kind<5->k<AX n r c w kind->(rows[A5 n r c w kind k]?).bind (λq=>q[k % w]?)=some v->RepC H (S kind k) v
structure C45(a:Ad)(H:Hp)(X:SX)(cs:List Ch)(tks:List (AH × V))(M:Hs):Prop where
 st:X.at a H cs tks M
 hi:∃ o,Hist X.m0 M.b M.as (LB tks) o
 b0:M.b=λ_ _=>.no
 cut:QI cs X.outs
 rows:RowsAre H X.n X.r X.c X.w X.rows (sh M.b (λj=>X.outs (j:Nat)) M.as)
 few:X.c * X.w<=12
 ok:∀ x∈M.as,EB x.kind x.x
def NY(K:W.Frag)(a:Ad):Sp:=λvs H Q _=>∃ (X:SX) (cs:List Ch) (tks:List (AH × V)) (M:Hs) (kind:Nat) (y z:Str) (x:Int),vs=[.ref X.S.st,.int kind,.str y,.str z,.int x]/\CO K a/\TD K a/\C45 a H X cs tks M/\cs.length<920/\kind<8/\BM y=true/\BM z=true ∧
 (∀ v H',v≠Str.ofString ""->Same H H'->Q (.str v) H') ∧
 ∀ cs' tks' M' H',C45 a H' X cs' tks' M'->cs'.length<=cs.length+15->SameBut (λx=>X.S.A.F x\/x=X.S.tk) H H'->IB X.m0 kind y z M.b M.as M'.b M'.as->Q (.str (Str.ofString "")) H'
def LC(K:W.Frag)(a:Ad):Sp:=λvs H Q _=>∃ (ly gp cl:Addr) (n r c w:Nat) (rows:List (List V)) (m:Nat),vs=[.ref ly,.ref gp]/\DX K a/\D9 K a/\LayAt a H ly n r c w/\PlankAt a H gp cl w rows m/\rows.length=n+r+c+r+c/\rows.length<=30/\w<=6 ∧
 ∀ (d:Addr) (kvs:List (List AH × V)) (H':Hp),H d=none->Same H H'->H' d=some (.dT kvs)->(∀ b k:Nat,b<rows.length->k<w->BJ kvs [.inl (b:Int),.inl (k:Int)]=(rows[b]?).bind λq=>q[k]?)->(∀ kv∈kvs,∃ b k:Nat,b<rows.length/\k<w/\kv.1=[.inl (b:Int),.inl (k:Int)])->Q (.ref d) H'
structure There(K:W.Frag)(a:Ad)(H:Hp)(ly d:Addr)(n r c w:Nat)(S:Md):Prop where
 tl:DX K a
 la:LayAt a H ly n r c w
 e:∃ kvs,H d=some (.dT kvs)/\∀ kind k,kind<5->k<AX n r c w kind->∃ v,BJ kvs [.inl ((A5 n r c w kind k:Nat):Int),.inl ((k % w:Nat):Int)]=some v/\RepC H (S kind k) v
 sd:Snd (n * w) S
 ok:∀ kind k,kind<5->k<AX n r c w kind->EB kind (S kind k)
 ps:∀ q m ps,S 3 q=.rc m ps->(∀ p∈ps,p<c * w)/\ps.length<=12
 rr:∀ k z q,k<n * w->S 0 k=.nm z q->q<r * w
 w1:1<=w
 w6:w<=6
 n6:n<=6
 r6:r<=6
 c6:c<=6
structure KvOk(B:Addr->Prop)(H:Hp)(kvs:List (AH × V))(KF:Nat->Option (List Str))(N:Nat):Prop where
 nd:(kvs.map (·.1)).Nodup
 ks:∀ kv∈kvs,∃ r:Nat,r<40/\kv.1=.inl (r:Int)
 v0:∀ r:Nat,KF r=none->BJ kvs (.inl (r:Int))=none
 v1:∀ (r:Nat) L,KF r=some L->∃ x,BJ kvs (.inl (r:Int))=some (.ref x)/\H x=some (.lst (L.map V.str))/\¬ B x/\L.length<=N
def MO(K:W.Frag)(a:Ad):Sp:=λvs H Q _=>∃ (X:SX) (cs:List Ch) (tks:List (AH × V)) (M:Hs),vs=[.ref X.S.lp,.ref X.S.A.gp,.ref X.S.st]/\CO K a/\C45 a H X cs tks M/\1<=X.w/\cs.length<=940 ∧
 ∀ rows nn outs H',(∀ j:Nat,j<cs.length->outs (j:Int)=true)->C45 a H' { X with rows:=rows,nn:=nn,outs:=outs } cs tks M->SameBut (λx=>X.S.A.F x\/x=X.S.A.gp) H H'->Q (.bl true) H'
def NZ(K:W.Frag)(a:Ad):Sp:=λvs H Q _=>∃ (X:SX) (cs:List Ch) (tks:List (AH × V)) (M:Hs),vs=[.ref X.S.lp,.ref X.S.st]/\CO K a/\C45 a H X cs tks M ∧
 ∀ (kd:Addr) (kvs:List (AH × V)) (KF:Nat->Option (List Str)) (H':Hp),H kd=none->Same H H'->H' kd=some (.dK kvs)->KvOk (λx=>H x≠none) H' kvs KF 36->(∀ r L,KF r=some L->∃ k z,k<X.m0/\M 0 k=.nm z r/\z∈L)->Q (.ref kd) H'
def KI(KF:Nat->Option (List Str))(kind:Nat)(y z:Str):Nat->Option (List Str):=λr=>(KF r).bind λL=>if y∈L then(if kind=3 then none else if kind=2\/kind=7 then some (L++[z])else some L)else some L
def N0(K:W.Frag)(a:Ad):Sp:=λvs H Q _=>∃ (kd:Addr) (kvs:List (AH × V)) (KF:Nat->Option (List Str)) (B:Addr->Prop) (N kind:Nat) (y z:Str),vs=[.ref kd,.int kind,.str y,.str z]/\H kd=some (.dK kvs)/\KvOk B H kvs KF N/\N<=1000/\(∀ x,H x=none->¬ B x) ∧
 ∀ kvs' H',SameBut (· =kd) H H'->H' kd=some (.dK kvs')->KvOk B H' kvs' (KI KF kind y z) (N+1)->Q .non H'
def N1(K:W.Frag)(a:Ad):Sp:=λvs H Q _=>∃ (ly d kd:Addr) (n r c w:Nat) (S:Md) (kvs:List (AH × V)) (KF:Nat->Option (List Str)) (B:Addr->Prop) (N:Nat),vs=[.ref ly,.ref d,.ref kd]/\There K a H ly d n r c w S/\H kd=some (.dK kvs)/\KvOk B H kvs KF N/\N<=1000 ∧
 (∀ r L,KF r=some L->∃ k z,k<n * w/\S 0 k=.nm z r/\z∈L)/\∀ H',Same H H'->Q (.bl true) H'
def gW(K:W.Frag)(a:Ad):Sp:=λvs H Q _=>∃ (s:Addr) (ns:List Int),vs=[.ref s]/\CO K a/\TD K a/\SqL K H s (ns.map V.int)/\ns.length<=63/\∀ H',Q (.bl true) H'
end L2
namespace L2
abbrev FK:=W.Frag
abbrev XE:=St->XK
abbrev RT:=FK->Ad->XE->XE->TS
theorem A3{f g:RT}(h:∀ K a E E1,f K a E E1=g K a E E1){K a E E1 D σ H}:f K a E E1 D σ H=g K a E E1 D σ H:=by rw[h]
abbrev FL:TE:=tC (.int 0)
abbrev DO:TE:=tC (.int 1)
abbrev N2:TE:=tC (.int 2)
abbrev IC:TE:=tC (.int 3)
abbrev RF:TE:=tC (.int 4)
abbrev N3:TE:=tC (.int 5)
abbrev RG:TE:=tC (.int 6)
abbrev N4:TE:=tC (.int 7)
abbrev U7:TE:=tC (.int 8)
abbrev Hb:TE:=tC (.int 9)
abbrev C5(n:Int):TE:=tC (.int n)
abbrev AK(x0:TE):TA:=DR x0 BK
abbrev BU(x0 x1:TE):TA:=DR x0 (DR x1 BK)
abbrev DJ(x0 x1 x2:TE):TA:=DR x0 (DR x1 (DR x2 BK))
abbrev MP(x0 x1 x2 x3:TE):TA:=DR x0 (DR x1 (DR x2 (DR x3 BK)))
abbrev DB(K:W.Frag)(x:TE)(n:Int):TE:=AF (CY K) x (tC (.int n))
abbrev AD:TE:=EQ 0
abbrev AU:TE:=EQ 1
abbrev A1:TE:=EQ 2
abbrev BL:TE:=EQ 3
abbrev BS:TE:=EQ 4
abbrev CZ:TE:=EQ 5
abbrev ET:TE:=EQ 6
abbrev MQ:TE:=EQ 7
abbrev U8:TE:=EQ 8
abbrev gX:TE:=EQ 9
section
variable{K:FK}{a:Ad}{n:Nat}{E E1:XE}{D:Ends}{σ:St}{H:Hp}
def gY:RT:=λK a E E1=>(D6 K AD AU "place")
theorem Hc:type_of%(@A3 _ _ gY.eq_1):=rfl
def gZ:RT:=λK a E E1=>(D6 K AD A1 "value")
theorem Hd:type_of%(@A3 _ _ gZ.eq_1):=rfl
def g7:RT:=λK a E E1=>(D6 K AD BL "needs")
theorem Hg:type_of%(@A3 _ _ g7.eq_1):=rfl
def U9(K:FK)(a:Ad)(E:XE):TS:=(AL (gY K a E E) (AL (gZ K a E E) (g7 K a E E)))
def g8:RT:=λK a E E1=>(BB (EY (EK (AK (C7 (E8 K) (AK (AY K AD "made"))))) (AM 0) (tB (KU AD (AY K AU "outs"))) AD 1 [0]))
theorem Hh:type_of%(@A3 _ _ g8.eq_1):=rfl
def VA(K:FK)(a:Ad)(E:XE):TS:=(g8 K a E E)
def g9:RT:=λK a E E1=>(GL (a "NoChange") E (AK (tC (.str "there is no change of such a number"))))
theorem hE:type_of%(@A3 _ _ g9.eq_1):=rfl
def hG:RT:=λK a E E1=>(BX (GB (B1 (GG EZ GP FL A1 (C7 (E8 K) (AK (AY K AD "made")))))) (g9 K a E E) CK)
theorem hR:type_of%(@A3 _ _ hG.eq_1):=rfl
def hU:RT:=λK a E E1=>(DT (F3 K AU) (AM 2) (hG K a E E))
theorem hV:type_of%(@A3 _ _ hU.eq_1):=rfl
def VB(K:FK)(a:Ad)(E:XE):TS:=(hU K a E E)
def hW:RT:=λK a E E1=>(BB (C7 (L3 K) (AK (PN K AD))))
theorem hX:type_of%(@A3 _ _ hW.eq_1):=rfl
def hZ:RT:=λK a E E1=>(BX (B1 (AF K2 AU (tC .non))) (hW K a E E) CK)
theorem h9:type_of%(@A3 _ _ hZ.eq_1):=rfl
def iA:RT:=λK a E E1=>(BB (C7 (L3 K) (AK (PN K (AF (BO K) (C7 (LZ K) (AK AD)) (B9 (AK AU)))))))
theorem iB:type_of%(@A3 _ _ iA.eq_1):=rfl
def RH(K:FK)(a:Ad)(E:XE):TS:=(AL (hZ K a E E) (iA K a E E))
def iC:RT:=λK a E E1=>(BB BL)
theorem VC:type_of%(@A3 _ _ iC.eq_1):=rfl
def iD:RT:=λK a E E1=>(BX (KP (tB (KU BL (AY K AD "outs"))) (tB (KU BL A1))) (iC K a E E) CK)
theorem VD:type_of%(@A3 _ _ iD.eq_1):=rfl
def iE:RT:=λK a E E1=>(DT (F3 K (AY K (AF (CY K) (AY K AD "made") AU) "needs")) (AM 3) (iD K a E E))
theorem VE:type_of%(@A3 _ _ iE.eq_1):=rfl
def iF:RT:=λK a E E1=>(BB (tC .non))
theorem VF:type_of%(@A3 _ _ iF.eq_1):=rfl
def VG(K:FK)(a:Ad)(E:XE):TS:=(AL (iE K a E E) (iF K a E E))
def iG:RT:=λK a E E1=>(A4 (C7 (LZ K) (AK AU)) (AM 3))
theorem VH:type_of%(@A3 _ _ iG.eq_1):=rfl
def iH:RT:=λK a E E1=>(A4 (AY K (AF (CY K) (AY K AD "made") BS) "value") (OV BL (DB K (AY K (AF (CY K) (AY K AD "made") BS) "place") 1) TW))
theorem VI:type_of%(@A3 _ _ iH.eq_1):=rfl
def iI:RT:=λK a E E1=>(BX (tB (O5 BS (AY K AD "outs"))) (iH K a E E) CK)
theorem VJ:type_of%(@A3 _ _ iI.eq_1):=rfl
def iJ:RT:=λK a E E1=>(DT (F3 K (AF (CY K) (AY K AD "made_in") A1)) (AM 4) (iI K a E E))
theorem VL:type_of%(@A3 _ _ iJ.eq_1):=rfl
def iK:RT:=λK a E E1=>(BB BL)
theorem VM:type_of%(@A3 _ _ iK.eq_1):=rfl
def VN(K:FK)(a:Ad)(E:XE):TS:=(AL (iG K a E E) (AL (iJ K a E E) (iK K a E E)))
def iL:RT:=λK a E E1=>(BB (M7 (GG EZ EZ (tC (.str " ")) AD (tC (.str "~"))) (AF (EC K) (C7 (PK K) (AK AD)) (C5 37))))
theorem Hj:type_of%(@A3 _ _ iL.eq_1):=rfl
def VO(K:FK)(a:Ad)(E:XE):TS:=(iL K a E E)
def iM:RT:=λK a E E1=>(BB (M7 (GG EZ EZ DO (C7 (E8 K) (AK AD)) U7) (C7 (NN K) (AK (EY (PJ AD) (AM 0) DV (GG EZ EZ (tC (.str "a")) AD (tC (.str "z"))) 1 [])))))
theorem Hk:type_of%(@A3 _ _ iM.eq_1):=rfl
def VP(K:FK)(a:Ad)(E:XE):TS:=(iM K a E E)
def iN:RT:=λK a E E1=>(BB (AY K AD "book"))
theorem Hl:type_of%(@A3 _ _ iN.eq_1):=rfl
def VQ(K:FK)(a:Ad)(E:XE):TS:=(iN K a E E)
def iO:RT:=λK a E E1=>(D6 K AD (EY (EK (AK AU)) (AM 0) DV (AF (F1 K) (EN (AK (tC .non))) AU) 1 [2]) "contents")
theorem Hm:type_of%(@A3 _ _ iO.eq_1):=rfl
def iP:RT:=λK a E E1=>(D6 K AD A1 "width")
theorem Hq:type_of%(@A3 _ _ iP.eq_1):=rfl
def iQ:RT:=λK a E E1=>(D6 K AD FL "written")
theorem Hv:type_of%(@A3 _ _ iQ.eq_1):=rfl
def VR(K:FK)(a:Ad)(E:XE):TS:=(AL (iO K a E E) (AL (iP K a E E) (iQ K a E E)))
def iR:RT:=λK a E E1=>(BB (C7 (E8 K) (AK (AY K AD "contents"))))
theorem Hw:type_of%(@A3 _ _ iR.eq_1):=rfl
def VS(K:FK)(a:Ad)(E:XE):TS:=(iR K a E E)
def iS:RT:=λK a E E1=>(BB (AY K AD "width"))
theorem Hx:type_of%(@A3 _ _ iS.eq_1):=rfl
def VT(K:FK)(a:Ad)(E:XE):TS:=(iS K a E E)
def iT:RT:=λK a E E1=>(GL (a "NoBlock") E (AK (tC (.str "there is no such block"))))
theorem Hy:type_of%(@A3 _ _ iT.eq_1):=rfl
def iU:RT:=λK a E E1=>(BX (GB (B1 (GG EZ GP FL AU (C7 (E8 K) (AK (AY K AD "contents")))))) (iT K a E E) CK)
theorem Hz:type_of%(@A3 _ _ iU.eq_1):=rfl
def VU(K:FK)(a:Ad)(E:XE):TS:=(iU K a E E)
def iV:RT:=λK a E E1=>(D6 K AD AU "name_blocks")
theorem Jb:type_of%(@A3 _ _ iV.eq_1):=rfl
def iW:RT:=λK a E E1=>(D6 K AD A1 "record_blocks")
theorem Jc:type_of%(@A3 _ _ iW.eq_1):=rfl
def iX:RT:=λK a E E1=>(D6 K AD BL "piece_blocks")
theorem Jd:type_of%(@A3 _ _ iX.eq_1):=rfl
def iY:RT:=λK a E E1=>(D6 K AD BS "width")
theorem Jg:type_of%(@A3 _ _ iY.eq_1):=rfl
def VV(K:FK)(a:Ad)(E:XE):TS:=(AL (iV K a E E) (AL (iW K a E E) (AL (iX K a E E) (iY K a E E))))
def iZ:RT:=λK a E E1=>(BB (EN (DJ (AF (F1 K) (AY K AD "name_blocks") (AY K AD "width")) (AF (F1 K) (AY K AD "record_blocks") (AY K AD "width")) (AF (F1 K) (AY K AD "piece_blocks") (AY K AD "width")))))
theorem Jh:type_of%(@A3 _ _ iZ.eq_1):=rfl
def VW(K:FK)(a:Ad)(E:XE):TS:=(iZ K a E E)
def i4:RT:=λK a E E1=>(BB (AF (BO K) (AF (BO K) (AY K AD "name_blocks") (AY K AD "record_blocks")) (AY K AD "piece_blocks")))
theorem Jj:type_of%(@A3 _ _ i4.eq_1):=rfl
def VX(K:FK)(a:Ad)(E:XE):TS:=(i4 K a E E)
def i5:RT:=λK a E E1=>(BB (EN (BU (AF (BO K) AU (AF DI A1 (AY K AD "width"))) (AF C1 A1 (AY K AD "width")))))
theorem Jk:type_of%(@A3 _ _ i5.eq_1):=rfl
def VY(K:FK)(a:Ad)(E:XE):TS:=(i5 K a E E)
def i6:RT:=λK a E E1=>(BB (AF (CY K) AD AU))
theorem Jl:type_of%(@A3 _ _ i6.eq_1):=rfl
def i7:RT:=λK a E E1=>(BX (B1 (AF GP AU (C7 (E8 K) (AK AD)))) (i6 K a E E) CK)
theorem Jm:type_of%(@A3 _ _ i7.eq_1):=rfl
def i8:RT:=λK a E E1=>(BB FL)
theorem Jp:type_of%(@A3 _ _ i8.eq_1):=rfl
def VZ(K:FK)(a:Ad)(E:XE):TS:=(AL (i7 K a E E) (i8 K a E E))
def i9:RT:=λK a E E1=>(A4 (tC (.str "abcdefghijklmnopqrstuvwxyz")) (AM 1))
theorem Jq:type_of%(@A3 _ _ i9.eq_1):=rfl
def jA:RT:=λK a E E1=>(A4 (tC (.str "")) (AM 2))
theorem Jv:type_of%(@A3 _ _ jA.eq_1):=rfl
def jB:RT:=λK a E E1=>(A4 (AF DI AD RG) (AM 3))
theorem Jw:type_of%(@A3 _ _ jB.eq_1):=rfl
def jC:RT:=λK a E E1=>(A4 (AF (BO K) A1 (AF (CY K) AU (AF C1 (AF (BO K) BL (AF (F1 K) (AF (F1 K) N4 BS) (AF C1 (AF DI BL (C5 26)) N3))) (C5 26)))) (AM 2))
theorem Jx:type_of%(@A3 _ _ jC.eq_1):=rfl
def jD:RT:=λK a E E1=>(A4 (AF (BO K) (AF DI BL (C5 29)) (AF (F1 K) IC BS)) (AM 3))
theorem Jy:type_of%(@A3 _ _ jD.eq_1):=rfl
def jE:RT:=λK a E E1=>(DT (EK (AK (AF (BO K) DO (AF C1 AD RG)))) (AM 4) (AL (jC K a E E) (jD K a E E)))
theorem Jz:type_of%(@A3 _ _ jE.eq_1):=rfl
def jF:RT:=λK a E E1=>(A4 (AF C1 (AF DI AD N4) (C7 (E8 K) (AK A1))) (AM 5))
theorem Kb:type_of%(@A3 _ _ jF.eq_1):=rfl
def jG:RT:=λK a E E1=>(A4 (AF (CY K) AU (AF C1 (AF DI AD (C5 11)) (C5 26))) (AM 6))
theorem Kc:type_of%(@A3 _ _ jG.eq_1):=rfl
def jH:RT:=λK a E E1=>(A4 (AF (CY K) AU (AF C1 (AF (BO K) (AF (BO K) (AF DI AD (C5 11)) DO) (AF C1 (AF DI AD (C5 13)) (C5 25))) (C5 26))) (AM 7))
theorem Kd:type_of%(@A3 _ _ jH.eq_1):=rfl
def jI:RT:=λK a E E1=>(A4 (AF (CY K) AU (AF C1 (AF (BO K) (AF (BO K) (HU K "str" fX AU (AK (AF (CY K) A1 CZ))) DO) (AF C1 (AF DI AD (C5 17)) (C5 25))) (C5 26))) (AM 8))
theorem Kg:type_of%(@A3 _ _ jI.eq_1):=rfl
def jJ:RT:=λK a E E1=>(BB (B9 (DR A1 (MP (AF (BO K) A1 MQ) (AF (BO K) ET A1) (AF (BO K) (AF (BO K) (KQ (JY K) A1 LR (JO CZ)) U8) (KQ (JY K) A1 (JO (AF (BO K) CZ DO)) LR)) (AF (BO K) (AF (BO K) A1 MQ) ET)))))
theorem Kh:type_of%(@A3 _ _ jJ.eq_1):=rfl
def V0(K:FK)(a:Ad)(E:XE):TS:=(AL (i9 K a E E) (AL (jA K a E E) (AL (jB K a E E) (AL (jE K a E E) (AL (jF K a E E) (AL (jG K a E E) (AL (jH K a E E) (AL (jI K a E E) (jJ K a E E)))))))))
def jK:RT:=λK a E E1=>(A4 (tC (.str " !\"#$&'()*+,-./0123456789:;<=>?@ABCDEFGHIJKLMNOPQRSTUVWXYZ[\\]^_`")) (AM 1))
theorem Kj:type_of%(@A3 _ _ jK.eq_1):=rfl
def jL:RT:=λK a E E1=>(A4 (AF (BO K) AU (tC (.str "abcdefghijklmnopqrstuvwxyz{|}~"))) (AM 1))
theorem Kk:type_of%(@A3 _ _ jL.eq_1):=rfl
def jM:RT:=λK a E E1=>(A4 (AF (BO K) DO (AF C1 AD N3)) (AM 2))
theorem Kl:type_of%(@A3 _ _ jM.eq_1):=rfl
def jN:RT:=λK a E E1=>(A4 (AF PB (C5 40) (AF C1 (AF DI AD (C5 40)) N2)) (AM 2))
theorem Km:type_of%(@A3 _ _ jN.eq_1):=rfl
def jO:RT:=λK a E E1=>(BX (B1 (AF (D7 K) (AF C1 (AF DI AD N3) U7) IC)) (jN K a E E) CK)
theorem Kq:type_of%(@A3 _ _ jO.eq_1):=rfl
def V1:RT:=λK a E E1=>(A4 (AF (BO K) DO (AF C1 (AF DI AD (C5 19)) (C5 93))) (AM 3))
theorem Kv:type_of%(@A3 _ _ V1.eq_1):=rfl
def V2:RT:=λK a E E1=>(A4 (AF (BO K) DO (AF C1 (AF DI AD N4) IC)) (AM 4))
theorem Kw:type_of%(@A3 _ _ V2.eq_1):=rfl
def V3:RT:=λK a E E1=>(BB (HU K "str" (fT K) (tC (.str "")) (AK (EY (EK (AK A1)) (AM 0) DV (AF (CY K) AU (AF C1 (AF (BO K) (AF DI A1 IC) (AF (F1 K) BL (AF DI AD BS))) (C5 94))) 1 [1,0,3,4]))))
theorem Kx:type_of%(@A3 _ _ V3.eq_1):=rfl
def V4(K:FK)(a:Ad)(E:XE):TS:=(AL (jK K a E E) (AL (jL K a E E) (AL (jM K a E E) (AL (jO K a E E) (AL (V1 K a E E) (AL (V2 K a E E) (V3 K a E E)))))))
def jP:RT:=λK a E E1=>(BB (AF PB (AF C1 AD RF) DO))
theorem Ky:type_of%(@A3 _ _ jP.eq_1):=rfl
def jQ:RT:=λK a E E1=>(BX (B1 (AF (D7 K) (AF C1 (AF DI AD (C5 28)) N2) FL)) (jP K a E E) CK)
theorem Kz:type_of%(@A3 _ _ jQ.eq_1):=rfl
def jR:RT:=λK a E E1=>(BB (AF PB (AF C1 AD (C5 14)) DO))
theorem Lb:type_of%(@A3 _ _ jR.eq_1):=rfl
def V5(K:FK)(a:Ad)(E:XE):TS:=(AL (jQ K a E E) (jR K a E E))
def jS:RT:=λK a E E1=>(DH (S6 AD BS))
theorem Lc:type_of%(@A3 _ _ jS.eq_1):=rfl
def jT:RT:=λK a E E1=>(IT AD BS (AF (BO K) (IS AD BS) (B9 (AK BL))))
theorem Ld:type_of%(@A3 _ _ jT.eq_1):=rfl
def jU:RT:=λK a E E1=>(BX (B1 (AF (K6 K) AU (EN (BU N2 N4)))) (jT K a E E) CK)
theorem Lg:type_of%(@A3 _ _ jU.eq_1):=rfl
def jV:RT:=λK a E E1=>(BX (B1 (AF (D7 K) AU IC)) (jS K a E E) (jU K a E E))
theorem Lh:type_of%(@A3 _ _ jV.eq_1):=rfl
def jW:RT:=λK a E E1=>(BX (B1 (AF (K6 K) A1 (IS AD BS))) (jV K a E E) CK)
theorem Lj:type_of%(@A3 _ _ jW.eq_1):=rfl
def jX:RT:=λK a E E1=>(DT (F3 K (C7 (P5 K) (AK AD))) (AM 4) (jW K a E E))
theorem Lk:type_of%(@A3 _ _ jX.eq_1):=rfl
def V6(K:FK)(a:Ad)(E:XE):TS:=(jX K a E E)
def jY:RT:=λK a E E1=>(D6 K AD AU "ground")
theorem Ll:type_of%(@A3 _ _ jY.eq_1):=rfl
def jZ:RT:=λK a E E1=>(D6 K AD (B9 BK) "made")
theorem Lm:type_of%(@A3 _ _ jZ.eq_1):=rfl
def j2:RT:=λK a E E1=>(D6 K AD (EY (EK (AK (AO (a "Plank") "blocks" (L8 K a) [] E AU BK))) (AM 0) DV (B9 BK) 1 []) "made_in")
theorem Lp:type_of%(@A3 _ _ j2.eq_1):=rfl
def j3:RT:=λK a E E1=>(D6 K AD O6 "latest")
theorem Lq:type_of%(@A3 _ _ j3.eq_1):=rfl
def j4:RT:=λK a E E1=>(D6 K AD KZ "outs")
theorem Lv:type_of%(@A3 _ _ j4.eq_1):=rfl
def V7(K:FK)(a:Ad)(E:XE):TS:=(AL (jY K a E E) (AL (jZ K a E E) (AL (j2 K a E E) (AL (j3 K a E E) (j4 K a E E)))))
def j5:RT:=λK a E E1=>(GL (a "NoBlock") E (AK (tC (.str "there is no such place on the plank"))))
theorem Lw:type_of%(@A3 _ _ j5.eq_1):=rfl
def j6:RT:=λK a E E1=>(BX (OO (GB (B1 (GG EZ GP FL (DB K AU 0) (AO (a "Plank") "blocks" (L8 K a) [] E (AY K AD "ground") BK)))) (GB (B1 (GG EZ GP FL (DB K AU 1) (AO (a "Plank") "cells" (P9 K a) [] E (AY K AD "ground") BK))))) (j5 K a E E) CK)
theorem Lx:type_of%(@A3 _ _ j6.eq_1):=rfl
def V8(K:FK)(a:Ad)(E:XE):TS:=(j6 K a E E)
def j7:RT:=λK a E E1=>(A4 (C7 (PQ K) (AK A1)) (AM 3))
theorem V9:type_of%(@A3 _ _ j7.eq_1):=rfl
def j8:RT:=λK a E E1=>(A4 (B9 BK) (AM 4))
theorem WA:type_of%(@A3 _ _ j8.eq_1):=rfl
def j9:RT:=λK a E E1=>(A4 (B9 BK) (AM 5))
theorem WB:type_of%(@A3 _ _ j9.eq_1):=rfl
def kA:RT:=λK a E E1=>(A4 (AO (a "Hold") "lack_of" (QS K a) [] E AD (BU ET BL)) (AM 7))
theorem WC:type_of%(@A3 _ _ kA.eq_1):=rfl
def kB:RT:=λK a E E1=>(IT BL ET (tC (.bl true)))
theorem WD:type_of%(@A3 _ _ kB.eq_1):=rfl
def kC:RT:=λK a E E1=>(DH (HU K "list" L4 BS (AK ET)))
theorem WE:type_of%(@A3 _ _ kC.eq_1):=rfl
def kD:RT:=λK a E E1=>(DH (HU K "list" L4 CZ (AK (EN (BU ET MQ)))))
theorem WF:type_of%(@A3 _ _ kD.eq_1):=rfl
def kE:RT:=λK a E E1=>(BX (B1 (AF K2 MQ (tC .non))) (AL (kB K a E E) (kC K a E E)) (kD K a E E))
theorem WG:type_of%(@A3 _ _ kE.eq_1):=rfl
def kF:RT:=λK a E E1=>(BX (KP (tB (KU ET (AY K AD "outs"))) (tB (KU ET BL))) (AL (kA K a E E) (kE K a E E)) CK)
theorem WH:type_of%(@A3 _ _ kF.eq_1):=rfl
def kG:RT:=λK a E E1=>(DT (F3 K (AF (CY K) (AY K AD "made_in") AU)) (AM 6) (kF K a E E))
theorem WI:type_of%(@A3 _ _ kG.eq_1):=rfl
def kH:RT:=λK a E E1=>(BB (EN (BU BS CZ)))
theorem WJ:type_of%(@A3 _ _ kH.eq_1):=rfl
def WK(K:FK)(a:Ad)(E:XE):TS:=(AL (j7 K a E E) (AL (j8 K a E E) (AL (j9 K a E E) (AL (kG K a E E) (kH K a E E)))))
def kI:RT:=λK a E E1=>(BB (M7 (GG EZ EZ DO (C7 (E8 K) (AK AD)) (C5 40)) (C7 (NN K) (AK (EY (PJ AD) (AM 0) DV (DD (Q1 K a) [] (λ_=>E0) (AK AD)) 1 [])))))
theorem Ly:type_of%(@A3 _ _ kI.eq_1):=rfl
def WL(K:FK)(a:Ad)(E:XE):TS:=(kI K a E E)
def kJ:RT:=λK a E E1=>(DH (AO (a "Plank") "ask_for_block" (J6 K a) [] E AD (AK AU)))
theorem Lz:type_of%(@A3 _ _ kJ.eq_1):=rfl
def kK:RT:=λK a E E1=>(BB (C7 (LZ K) (AK (AF (CY K) (AY K AD "contents") AU))))
theorem Mb:type_of%(@A3 _ _ kK.eq_1):=rfl
def WM(K:FK)(a:Ad)(E:XE):TS:=(AL (kJ K a E E) (kK K a E E))
def kL:RT:=λK a E E1=>(DH (AO (a "Plank") "ask_for_block" (J6 K a) [] E AD (AK AU)))
theorem Mc:type_of%(@A3 _ _ kL.eq_1):=rfl
def kM:RT:=λK a E E1=>(GL (a "NoBlock") E (AK (tC (.str "the list is not as long as a block"))))
theorem Mg:type_of%(@A3 _ _ kM.eq_1):=rfl
def kN:RT:=λK a E E1=>(BX (B1 (AF (EC K) (C7 (E8 K) (AK A1)) (AY K AD "width"))) (kM K a E E) CK)
theorem Mh:type_of%(@A3 _ _ kN.eq_1):=rfl
def kO:RT:=λK a E E1=>(A4 (C7 (L3 K) (AK A1)) (OV (AY K AD "contents") AU TW))
theorem Mj:type_of%(@A3 _ _ kO.eq_1):=rfl
def kP:RT:=λK a E E1=>(SL K AD DO O0 "written")
theorem Ml:type_of%(@A3 _ _ kP.eq_1):=rfl
def WN(K:FK)(a:Ad)(E:XE):TS:=(AL (kL K a E E) (AL (kN K a E E) (AL (kO K a E E) (kP K a E E))))
def kQ:RT:=λK a E E1=>(BB (AO (a "Layout") "place_from" (GR K a) [] E AD (BU FL AU)))
theorem Mm:type_of%(@A3 _ _ kQ.eq_1):=rfl
def WO(K:FK)(a:Ad)(E:XE):TS:=(kQ K a E E)
def kR:RT:=λK a E E1=>(BB (AO (a "Layout") "place_from" (GR K a) [] E AD (BU (AY K AD "name_blocks") AU)))
theorem Mp:type_of%(@A3 _ _ kR.eq_1):=rfl
def WP(K:FK)(a:Ad)(E:XE):TS:=(kR K a E E)
def kS:RT:=λK a E E1=>(BB (AO (a "Layout") "place_from" (GR K a) [] E AD (BU (AF (BO K) (AY K AD "name_blocks") (AY K AD "record_blocks")) AU)))
theorem Mq:type_of%(@A3 _ _ kS.eq_1):=rfl
def WQ(K:FK)(a:Ad)(E:XE):TS:=(kS K a E E)
def kT:RT:=λK a E E1=>(BB (AO (a "Layout") "place_from" (GR K a) [] E AD (BU (AO (a "Layout") "blocks_ahead_of_marks" (KA K a) [] E AD BK) AU)))
theorem Mv:type_of%(@A3 _ _ kT.eq_1):=rfl
def WR(K:FK)(a:Ad)(E:XE):TS:=(kT K a E E)
def kU:RT:=λK a E E1=>(BB (AO (a "Layout") "place_from" (GR K a) [] E AD (BU (AF (BO K) (AO (a "Layout") "blocks_ahead_of_marks" (KA K a) [] E AD BK) (AY K AD "record_blocks")) AU)))
theorem Mw:type_of%(@A3 _ _ kU.eq_1):=rfl
def WS(K:FK)(a:Ad)(E:XE):TS:=(kU K a E E)
def kW:RT:=λK a E E1=>(BB (AF (BO K) (AF (BO K) (AO (a "Layout") "blocks_ahead_of_marks" (KA K a) [] E AD BK) (AY K AD "record_blocks")) (AY K AD "piece_blocks")))
theorem Mx:type_of%(@A3 _ _ kW.eq_1):=rfl
def WT(K:FK)(a:Ad)(E:XE):TS:=(kW K a E E)
def kX:RT:=λK a E E1=>(DH (AO (a "Hold") "ask_for_place" (QQ K a) [] E AD (AK AU)))
theorem My:type_of%(@A3 _ _ kX.eq_1):=rfl
def kY:RT:=λK a E E1=>(BB (S4 (AY K AD "latest") AU))
theorem Mz:type_of%(@A3 _ _ kY.eq_1):=rfl
def WU(K:FK)(a:Ad)(E:XE):TS:=(AL (kX K a E E) (kY K a E E))
def kZ:RT:=λK a E E1=>(A4 (AO (a "Plank") "read" (J8 K a) [] E (AY K AD "ground") (AK AU)) (AM 2))
theorem RI:type_of%(@A3 _ _ kZ.eq_1):=rfl
def k8:RT:=λK a E E1=>(A4 (AO (a "Hold") "outcome" (QT K a) [] E AD (BU AU KZ)) (AM 3))
theorem RJ:type_of%(@A3 _ _ k8.eq_1):=rfl
def k9:RT:=λK a E E1=>(IT (AY K AD "outs") BS (tC (.bl true)))
theorem RK:type_of%(@A3 _ _ k9.eq_1):=rfl
def lA:RT:=λK a E E1=>(DT (F3 K (DB K BL 0)) (AM 4) (k9 K a E E))
theorem RL:type_of%(@A3 _ _ lA.eq_1):=rfl
def lB:RT:=λK a E E1=>(DH (AO (a "Plank") "write" (QC K a) [] E (AY K AD "ground") (BU AU (AO (a "Hold") "laid_over" (QU K a) [] E AD (BU A1 AU)))))
theorem RM:type_of%(@A3 _ _ lB.eq_1):=rfl
def lC:RT:=λK a E E1=>(BB BL)
theorem RN:type_of%(@A3 _ _ lC.eq_1):=rfl
def WV(K:FK)(a:Ad)(E:XE):TS:=(AL (kZ K a E E) (AL (k8 K a E E) (AL (lA K a E E) (AL (lB K a E E) (lC K a E E)))))
def lD:RT:=λK a E E1=>(BB (JN (a "Plank") (P8 K a) [] E (BU (AO (a "Layout") "blocks" (HZ K a) [] E AD BK) (AY K AD "width"))))
theorem Nb:type_of%(@A3 _ _ lD.eq_1):=rfl
def WW(K:FK)(a:Ad)(E:XE):TS:=(lD K a E E)
def lE:RT:=λK a E E1=>(A4 O6 (AM 2))
theorem Nd:type_of%(@A3 _ _ lE.eq_1):=rfl
def lF:RT:=λK a E E1=>(A4 (AO (a "Plank") "read" (J8 K a) [] E AU (AK BL)) (AM 4))
theorem Ng:type_of%(@A3 _ _ lF.eq_1):=rfl
def lG:RT:=λK a E E1=>(IT A1 (EN (BU BL CZ)) (AF (CY K) BS CZ))
theorem Nh:type_of%(@A3 _ _ lG.eq_1):=rfl
def lH:RT:=λK a E E1=>(DT (EK (AK (C7 (E8 K) (AK BS)))) (AM 5) (lG K a E E))
theorem Nj:type_of%(@A3 _ _ lH.eq_1):=rfl
def lI:RT:=λK a E E1=>(DT (EK (AK (AO (a "Layout") "blocks" (HZ K a) [] E AD BK))) (AM 3) (AL (lF K a E E) (lH K a E E)))
theorem Nk:type_of%(@A3 _ _ lI.eq_1):=rfl
def lJ:RT:=λK a E E1=>(BB A1)
theorem Nl:type_of%(@A3 _ _ lJ.eq_1):=rfl
def WX(K:FK)(a:Ad)(E:XE):TS:=(AL (lE K a E E) (AL (lI K a E E) (lJ K a E E)))
def lK:RT:=λK a E E1=>(A4 (tC (.bl false)) (AM 4))
theorem Nm:type_of%(@A3 _ _ lK.eq_1):=rfl
def lL:RT:=λK a E E1=>(A4 (IS AU (AO (a "Layout") "name_at" (FH K a) [] E AD (AK CZ))) (AM 6))
theorem Np:type_of%(@A3 _ _ lL.eq_1):=rfl
def lM:RT:=λK a E E1=>(A4 (tC (.bl true)) (AM 4))
theorem Nq:type_of%(@A3 _ _ lM.eq_1):=rfl
def lN:RT:=λK a E E1=>(BX (KP (B1 (AF LX ET (tC .non))) (KP (B1 (AF (D7 K) (DB K ET 1) BL)) (B1 (AF (K6 K) (DB K ET 0) (IS A1 BL))))) (lM K a E E) CK)
theorem Nv:type_of%(@A3 _ _ lN.eq_1):=rfl
def lO:RT:=λK a E E1=>(DT (EK (AK (DB K (AO (a "Layout") "counts" (FT K a) [] E AD BK) 0))) (AM 5) (AL (lL K a E E) (lN K a E E)))
theorem Nx:type_of%(@A3 _ _ lO.eq_1):=rfl
def Ny:RT:=λK a E E1=>(BB (tC (.bl false)))
def lP:RT:=λK a E E1=>(BX (OO (GB (LY K BS)) (B1 (AF K2 (IS AU (AO (a "Layout") "record_at" (FI K a) [] E AD (AK BL))) (tC .non)))) (Ny K a E E) CK)
theorem Nz:type_of%(@A3 _ _ lP.eq_1):=rfl
def lQ:RT:=λK a E E1=>(UQ A1 (AM 3) (AL (lK K a E E) (AL (lO K a E E) (lP K a E E))))
theorem Pb:type_of%(@A3 _ _ lQ.eq_1):=rfl
def lR:RT:=λK a E E1=>(BB (tC (.bl true)))
theorem Pc:type_of%(@A3 _ _ lR.eq_1):=rfl
def WY(K:FK)(a:Ad)(E:XE):TS:=(AL (lQ K a E E) (lR K a E E))
def lS:RT:=λK a E E1=>(A4 (AO (a "Hold") "newest" (MF K a) [] E AD (AK AU)) (AM 4))
theorem Pd:type_of%(@A3 _ _ lS.eq_1):=rfl
def lT:RT:=λK a E E1=>(DH (AO (a "Hold") "ask_for_changes" (QR K a) [] E AD (AK BL)))
theorem Pg:type_of%(@A3 _ _ lT.eq_1):=rfl
def lU:RT:=λK a E E1=>(A4 (C7 (E8 K) (AK (AY K AD "made"))) (AM 5))
theorem Ph:type_of%(@A3 _ _ lU.eq_1):=rfl
def lV:RT:=λK a E E1=>(DH (HU K "list" L4 (AY K AD "made") (AK (JN (a "Change") (QN K a) [] E (DJ AU A1 (DD (QP K a) [] E (BU BL BS)))))))
theorem Pj:type_of%(@A3 _ _ lV.eq_1):=rfl
def lW:RT:=λK a E E1=>(DH (HU K "list" L4 (AF (CY K) (AY K AD "made_in") (DB K AU 0)) (AK CZ)))
theorem Pk:type_of%(@A3 _ _ lW.eq_1):=rfl
def lX:RT:=λK a E E1=>(IT (AY K AD "latest") AU CZ)
theorem Pl:type_of%(@A3 _ _ lX.eq_1):=rfl
def lY:RT:=λK a E E1=>(BB CZ)
theorem Pm:type_of%(@A3 _ _ lY.eq_1):=rfl
def WZ(K:FK)(a:Ad)(E:XE):TS:=(AL (lS K a E E) (AL (lT K a E E) (AL (lU K a E E) (AL (lV K a E E) (AL (lW K a E E) (AL (lX K a E E) (lY K a E E)))))))
def lZ:RT:=λK a E E1=>(A4 (AO (a "Hold") "newest" (MF K a) [] E AD (AK AU)) (AM 2))
theorem Pp:type_of%(@A3 _ _ lZ.eq_1):=rfl
def l9:RT:=λK a E E1=>(BB (AF (CY K) (AO (a "Plank") "read" (J8 K a) [] E (AY K AD "ground") (AK (DB K AU 0))) (DB K AU 1)))
theorem Pq:type_of%(@A3 _ _ l9.eq_1):=rfl
def mB:RT:=λK a E E1=>(BX (B1 (AF K2 A1 (tC .non))) (l9 K a E E) CK)
theorem Pw:type_of%(@A3 _ _ mB.eq_1):=rfl
def mC:RT:=λK a E E1=>(BB (AY K (AF (CY K) (AY K AD "made") A1) "value"))
theorem Px:type_of%(@A3 _ _ mC.eq_1):=rfl
def W0(K:FK)(a:Ad)(E:XE):TS:=(AL (lZ K a E E) (AL (mB K a E E) (mC K a E E)))
def mD:RT:=λK a E E1=>(D6 K AD AU "plan")
theorem Py:type_of%(@A3 _ _ mD.eq_1):=rfl
def mE:RT:=λK a E E1=>(D6 K AD (JN (a "Hold") (NV K a) [] E (AK A1)) "book")
theorem Pz:type_of%(@A3 _ _ mE.eq_1):=rfl
def mF:RT:=λK a E E1=>(D6 K AD KZ "taken_out")
theorem Qb:type_of%(@A3 _ _ mF.eq_1):=rfl
def W1(K:FK)(a:Ad)(E:XE):TS:=(AL (mD K a E E) (AL (mE K a E E) (mF K a E E)))
def mG:RT:=λK a E E1=>(BB (AO (a "Hold") "write" (QW K a) [] E (AY K AD "book") (AK AU)))
theorem Qc:type_of%(@A3 _ _ mG.eq_1):=rfl
def W2(K:FK)(a:Ad)(E:XE):TS:=(mG K a E E)
def mH:RT:=λK a E E1=>(BB BL)
theorem Qd:type_of%(@A3 _ _ mH.eq_1):=rfl
def mI:RT:=λK a E E1=>(BX (B1 (AF (P0 K) (AO (a "Hold") "in_hand" (GS K a) [] E AD (AK BS)) A1)) (mH K a E E) CK)
theorem Qg:type_of%(@A3 _ _ mI.eq_1):=rfl
def mJ:RT:=λK a E E1=>(DT (PZ K (AK AU)) (OU K 2 (LK (AM 3) (LK (AM 4) OS))) (mI K a E E))
theorem Qh:type_of%(@A3 _ _ mJ.eq_1):=rfl
def mK:RT:=λK a E E1=>(GL (a "NoRoom") E (AK (tC (.str "nothing of what is to be taken is free"))))
theorem Qj:type_of%(@A3 _ _ mK.eq_1):=rfl
def W3(K:FK)(a:Ad)(E:XE):TS:=(AL (mJ K a E E) (mK K a E E))
def mM:RT:=λK a E E1=>(BB (EY (EK (AK (DB K (AO (a "Layout") "counts" (FT K a) [] E (AY K AD "plan") BK) 0))) (AM 0) DV (AO (a "Hold") "in_hand" (GS K a) [] (λ_=>E0) (AY K AU "book") (AK (AO (a "Layout") "name_at" (FH K a) [] (λ_=>E0) (AY K AU "plan") (AK AD)))) 1 [0]))
theorem Qk:type_of%(@A3 _ _ mM.eq_1):=rfl
def W4(K:FK)(a:Ad)(E:XE):TS:=(mM K a E E)
def mO:RT:=λK a E E1=>(BB (AO (a "Hold") "in_hand" (GS K a) [] E (AY K AD "book") (AK (AO (a "Layout") "record_at" (FI K a) [] E (AY K AD "plan") (AK AU)))))
theorem Ql:type_of%(@A3 _ _ mO.eq_1):=rfl
def W5(K:FK)(a:Ad)(E:XE):TS:=(mO K a E E)
def mP:RT:=λK a E E1=>(A4 (B9 (AK BS)) (AM 5))
theorem Qm:type_of%(@A3 _ _ mP.eq_1):=rfl
def mQ:RT:=λK a E E1=>(DH (HU K "list" L4 CZ (AK (IS (AY K AD "taken_out") A1))))
theorem Qp:type_of%(@A3 _ _ mQ.eq_1):=rfl
def mR:RT:=λK a E E1=>(BX (tB (O5 A1 (AY K AD "taken_out"))) (mQ K a E E) CK)
theorem Qq:type_of%(@A3 _ _ mR.eq_1):=rfl
def W6:RT:=λK a E E1=>(BB (AO (a "Hold") "change" (DZ K a) [] E (AY K AD "book") (DJ (AO (a "Layout") "name_at" (FH K a) [] E (AY K AD "plan") (AK AU)) (EN (BU A1 BL)) CZ)))
theorem Qv:type_of%(@A3 _ _ W6.eq_1):=rfl
def W7(K:FK)(a:Ad)(E:XE):TS:=(AL (mP K a E E) (AL (mR K a E E) (W6 K a E E)))
def mS:RT:=λK a E E1=>(DH (ST K "list" xM (AO (a "Hold") "waiting" (KB K a) [] E (AO (a "Store") "hold" (HE K a) [] E A1 BK) BK)))
theorem Qw:type_of%(@A3 _ _ mS.eq_1):=rfl
def mT:RT:=λK a E E1=>R8
theorem Qx:type_of%(@A3 _ _ mT.eq_1):=rfl
def mU:RT:=λK a E E1=>(BX (B1 (AF (D7 K) (AO (a "Hold") "waiting" (KB K a) [] E (AO (a "Store") "hold" (HE K a) [] E A1 BK) BK) (B9 BK))) (mT K a E E) CK)
theorem Qy:type_of%(@A3 _ _ mU.eq_1):=rfl
def mV:RT:=λK a E E1=>(DH (AO (a "Store") "write" (KH K a) [] E A1 (AK BS)))
theorem Qz:type_of%(@A3 _ _ mV.eq_1):=rfl
def mW:RT:=λK a E E1=>(DT (EK (AK (AO (a "Layout") "blocks" (HZ K a) [] E AD BK))) (AM 4) (mV K a E E))
theorem Rb:type_of%(@A3 _ _ mW.eq_1):=rfl
def mX:RT:=λK a E E1=>(DT (EK (AK (C7 (E8 K) (AK (AO (a "Hold") "waiting" (KB K a) [] E (AO (a "Store") "hold" (HE K a) [] E A1 BK) BK))))) (AM 3) (AL (mU K a E E) (mW K a E E)))
theorem Rc:type_of%(@A3 _ _ mX.eq_1):=rfl
def Rg:RT:=λK a E E1=>(BB (tC (.bl false)))
def W8:RT:=λK a E E1=>(BX (B1 (AF (EC K) (AO (a "Hold") "waiting" (KB K a) [] E (AO (a "Store") "hold" (HE K a) [] E A1 BK) BK) (B9 BK))) (Rg K a E E) CK)
theorem Rh:type_of%(@A3 _ _ W8.eq_1):=rfl
def W9:RT:=λK a E E1=>(A4 (DD (LC K a) [] E (BU AD AU)) (AM 5))
theorem Rj:type_of%(@A3 _ _ W9.eq_1):=rfl
def Rk:RT:=λK a E E1=>(BB (tC (.bl false)))
def mY:RT:=λK a E E1=>(BX (B1 (AF (EC K) (AO (a "Hold") "in_hand" (GS K a) [] E (AO (a "Store") "hold" (HE K a) [] E A1 BK) (AK ET)) (IS CZ ET))) (Rk K a E E) CK)
theorem Rl:type_of%(@A3 _ _ mY.eq_1):=rfl
def XA:RT:=λK a E E1=>(DT (UH CZ) (AM 6) (mY K a E E))
theorem Rm:type_of%(@A3 _ _ XA.eq_1):=rfl
def XB:RT:=λK a E E1=>(BB (tC (.bl true)))
theorem Rp:type_of%(@A3 _ _ XB.eq_1):=rfl
def XC(K:FK)(a:Ad)(E:XE):TS:=(AL (mS K a E E) (AL (mX K a E E) (AL (W8 K a E E) (AL (W9 K a E E) (AL (XA K a E E) (XB K a E E))))))
def mZ:RT:=λK a E E1=>(A4 KZ (AM 2))
theorem Rq:type_of%(@A3 _ _ mZ.eq_1):=rfl
def m4:RT:=λK a E E1=>(A4 (AO (a "Hold") "in_hand" (GS K a) [] E (AO (a "Store") "hold" (HE K a) [] E AU BK) (AK (AO (a "Layout") "name_at" (FH K a) [] E AD (AK BL)))) (AM 4))
theorem Rv:type_of%(@A3 _ _ m4.eq_1):=rfl
def m6:RT:=λK a E E1=>(A4 (S5 A1 (DB K BS 1) (B9 BK)) (AM 5))
theorem Rw:type_of%(@A3 _ _ m6.eq_1):=rfl
def m7:RT:=λK a E E1=>(IT A1 (DB K BS 1) (AF (BO K) CZ (B9 (AK (DB K BS 0)))))
theorem Rx:type_of%(@A3 _ _ m7.eq_1):=rfl
def m8:RT:=λK a E E1=>(BX (B1 (AF LX BS (tC .non))) (AL (m6 K a E E) (m7 K a E E)) CK)
theorem Ry:type_of%(@A3 _ _ m8.eq_1):=rfl
def m9:RT:=λK a E E1=>(DT (EK (AK (DB K (AO (a "Layout") "counts" (FT K a) [] E AD BK) 0))) (AM 3) (AL (m4 K a E E) (m8 K a E E)))
theorem Rz:type_of%(@A3 _ _ m9.eq_1):=rfl
def nA:RT:=λK a E E1=>(BB A1)
theorem Sb:type_of%(@A3 _ _ nA.eq_1):=rfl
def XD(K:FK)(a:Ad)(E:XE):TS:=(AL (mZ K a E E) (AL (m9 K a E E) (nA K a E E)))
def nD:RT:=λK a E E1=>(A4 (EY (EK (AK (DB K (AO (a "Layout") "counts" (FT K a) [] E AD BK) 0))) (AM 0) DV (AO (a "Layout") "name_at" (FH K a) [] (λ_=>E0) AU (AK AD)) 1 [0]) (AM 2))
theorem Sc:type_of%(@A3 _ _ nD.eq_1):=rfl
def nE:RT:=λK a E E1=>(BB (DD (JA K a) [] E (DJ AU A1 (EN (AK (tC .non))))))
theorem Sd:type_of%(@A3 _ _ nE.eq_1):=rfl
def XF(K:FK)(a:Ad)(E:XE):TS:=(AL (nD K a E E) (nE K a E E))
def nH:RT:=λK a E E1=>(A4 (EY (EK (AK (DB K (AO (a "Layout") "counts" (FT K a) [] E AD BK) 1))) (AM 0) DV (AO (a "Layout") "record_mark" (IY K a) [] (λ_=>E0) AU (AK AD)) 1 [0]) (AM 2))
theorem Sg:type_of%(@A3 _ _ nH.eq_1):=rfl
def nJ:RT:=λK a E E1=>(BB (DD (JA K a) [] E (DJ AU A1 (EN (BU (tC .non) FL)))))
theorem Sh:type_of%(@A3 _ _ nJ.eq_1):=rfl
def XG(K:FK)(a:Ad)(E:XE):TS:=(AL (nH K a E E) (nJ K a E E))
def nK:RT:=λK a E E1=>(A4 (EY (EK (AK (DB K (AO (a "Layout") "counts" (FT K a) [] E AD BK) 2))) (AM 0) DV (AO (a "Layout") "piece_mark" (HB K a) [] (λ_=>E0) AU (AK AD)) 1 [0]) (AM 2))
theorem Sj:type_of%(@A3 _ _ nK.eq_1):=rfl
def nQ:RT:=λK a E E1=>(BB (DD (JA K a) [] E (DJ AU A1 (EN (BU (tC .non) FL)))))
theorem Sk:type_of%(@A3 _ _ nQ.eq_1):=rfl
def XH(K:FK)(a:Ad)(E:XE):TS:=(AL (nK K a E E) (nQ K a E E))
def nR:RT:=λK a E E1=>(BB A1)
theorem Sl:type_of%(@A3 _ _ nR.eq_1):=rfl
def nS:RT:=λK a E E1=>(BX (KP (B1 (AF LX BL (tC .non))) (B1 (AF (D7 K) (DB K BL 0) AU))) (nR K a E E) CK)
theorem Sm:type_of%(@A3 _ _ nS.eq_1):=rfl
def nT:RT:=λK a E E1=>(DT (PZ K (AK (AO (a "Store") "name_cells" (MI K a) [] E AD BK))) (OU K 2 (LK (AM 2) (LK (AM 3) OS))) (nS K a E E))
theorem Sq:type_of%(@A3 _ _ nT.eq_1):=rfl
def nU:RT:=λK a E E1=>(BB (tC .non))
theorem Sv:type_of%(@A3 _ _ nU.eq_1):=rfl
def XI(K:FK)(a:Ad)(E:XE):TS:=(AL (nT K a E E) (nU K a E E))
def nX:RT:=λK a E E1=>(A4 (AO (a "Store") "standing" (FW K a) [] E AD (AK AU)) (AM 4))
theorem Sw:type_of%(@A3 _ _ nX.eq_1):=rfl
def nY:RT:=λK a E E1=>(BB (AO (a "Hold") "change" (DZ K a) [] E (AY K AD "book") (DJ (AO (a "Layout") "record_at" (FI K a) [] E (AY K AD "plan") (AK AU)) (EN (BU (AF (BO K) (DB K BS 0) A1) (DB K BS 1))) BL)))
theorem Sx:type_of%(@A3 _ _ nY.eq_1):=rfl
def XJ(K:FK)(a:Ad)(E:XE):TS:=(AL (nX K a E E) (nY K a E E))
def nZ:RT:=λK a E E1=>(BB (AO (a "Hold") "change" (DZ K a) [] E (AY K AD "book") (DJ (AO (a "Layout") "record_at" (FI K a) [] E (AY K AD "plan") (AK AU)) (EN (BU (DB K (AO (a "Store") "standing" (FW K a) [] E AD (AK AU)) 0) A1)) BL)))
theorem Sy:type_of%(@A3 _ _ nZ.eq_1):=rfl
def XL(K:FK)(a:Ad)(E:XE):TS:=(nZ K a E E)
def n5:RT:=λK a E E1=>(A4 (DB K (AO (a "Store") "standing" (FW K a) [] E AD (AK AU)) 1) (AM 3))
theorem Sz:type_of%(@A3 _ _ n5.eq_1):=rfl
def oA:RT:=λK a E E1=>(A4 (AO (a "Hold") "change" (DZ K a) [] E (AY K AD "book") (DJ (AO (a "Layout") "record_at" (FI K a) [] E (AY K AD "plan") (AK AU)) (tC .non) (B9 (AK A1)))) (AM 4))
theorem Tb:type_of%(@A3 _ _ oA.eq_1):=rfl
def oB:RT:=λK a E E1=>(A4 (B9 (AK BS)) (AM 5))
theorem Tc:type_of%(@A3 _ _ oB.eq_1):=rfl
def oC:RT:=λK a E E1=>(DH (HU K "list" L4 CZ (AK (AO (a "Hold") "change" (DZ K a) [] E (AY K AD "book") (DJ ET FL (B9 (AK BS)))))))
theorem Td:type_of%(@A3 _ _ oC.eq_1):=rfl
def oE:RT:=λK a E E1=>(DT (F3 K (AF (BO K) (EY (F3 K BL) (AM 0) DV (AO (a "Layout") "piece_mark" (HB K a) [] (λ_=>E0) (AY K AU "plan") (AK AD)) 1 [0]) (B9 (AK (AO (a "Layout") "record_mark" (IY K a) [] E (AY K AD "plan") (AK AU)))))) (AM 6) (oC K a E E))
theorem Tg:type_of%(@A3 _ _ oE.eq_1):=rfl
def oF:RT:=λK a E E1=>(BB CZ)
theorem Th:type_of%(@A3 _ _ oF.eq_1):=rfl
def XM(K:FK)(a:Ad)(E:XE):TS:=(AL (n5 K a E E) (AL (oA K a E E) (AL (oB K a E E) (AL (oE K a E E) (oF K a E E)))))
def oG:RT:=λK a E E1=>(GL (a "NoName") E (AK (tC (.str "the text is no name"))))
theorem Tj:type_of%(@A3 _ _ oG.eq_1):=rfl
def oH:RT:=λK a E E1=>(BX (GB (LY K (C7 (NN K) (AK (EY (F3 K A1) (AM 0) DV (DD (Q2 K a) [] (λ_=>E0) (AK AD)) 1 []))))) (oG K a E E) CK)
theorem Tk:type_of%(@A3 _ _ oH.eq_1):=rfl
def oI:RT:=λK a E E1=>(GL (a "Twice") E (AK (tC (.str "the new name stands already"))))
theorem Tl:type_of%(@A3 _ _ oI.eq_1):=rfl
def oJ:RT:=λK a E E1=>(BX (B1 (AF LX (AO (a "Store") "cell_of" (KD K a) [] E AD (AK AU)) (tC .non))) (oI K a E E) CK)
theorem Tm:type_of%(@A3 _ _ oJ.eq_1):=rfl
def XN(K:FK)(a:Ad)(E:XE):TS:=(AL (oH K a E E) (oJ K a E E))
def oK:RT:=λK a E E1=>(A4 (AO (a "Store") "cell_of" (KD K a) [] E AD (AK AU)) (AM 2))
theorem Tp:type_of%(@A3 _ _ oK.eq_1):=rfl
def oM:RT:=λK a E E1=>(GL (a "NoName") E (AK (tC (.str "no such name stands"))))
theorem Tq:type_of%(@A3 _ _ oM.eq_1):=rfl
def oN:RT:=λK a E E1=>(BX (B1 (AF K2 A1 (tC .non))) (oM K a E E) CK)
theorem Tv:type_of%(@A3 _ _ oN.eq_1):=rfl
def oO:RT:=λK a E E1=>(BB (DB K (AF (CY K) (AO (a "Store") "name_cells" (MI K a) [] E AD BK) A1) 1))
theorem Tw:type_of%(@A3 _ _ oO.eq_1):=rfl
def XO(K:FK)(a:Ad)(E:XE):TS:=(AL (oK K a E E) (AL (oN K a E E) (oO K a E E)))
def oP:RT:=λK a E E1=>(A4 (AO (a "Hold") "change" (DZ K a) [] E (AY K AD "book") (DJ (AO (a "Layout") "name_at" (FH K a) [] E (AY K AD "plan") (AK (AO (a "Store") "cell_of" (KD K a) [] E AD (AK AU)))) (tC .non) A1)) (AM 3))
theorem Tx:type_of%(@A3 _ _ oP.eq_1):=rfl
def oQ:RT:=λK a E E1=>(IT (AY K AD "taken_out") AU BL)
theorem Ty:type_of%(@A3 _ _ oQ.eq_1):=rfl
def oR:RT:=λK a E E1=>(BB BL)
theorem Tz:type_of%(@A3 _ _ oR.eq_1):=rfl
def XQ(K:FK)(a:Ad)(E:XE):TS:=(AL (oP K a E E) (AL (oQ K a E E) (oR K a E E)))
def oU:RT:=λK a E E1=>(DH (AO (a "Store") "ask_for_new_name" (MJ K a) [] E AD (BU AU (B9 (AK AU)))))
theorem Ub:type_of%(@A3 _ _ oU.eq_1):=rfl
def oV:RT:=λK a E E1=>(A4 (DD (QZ K a) [] E (BU (AY K AD "plan") (AY K AD "book"))) (AM 2))
theorem Uc:type_of%(@A3 _ _ oV.eq_1):=rfl
def oW:RT:=λK a E E1=>(A4 (DD (MG K a) [] E (BU (AY K AD "plan") (AY K AD "book"))) (AM 3))
theorem Ud:type_of%(@A3 _ _ oW.eq_1):=rfl
def oX:RT:=λK a E E1=>(A4 (AO (a "Hold") "change" (DZ K a) [] E (AY K AD "book") (DJ (AO (a "Layout") "record_mark" (IY K a) [] E (AY K AD "plan") (AK A1)) DO (B9 BK))) (AM 4))
theorem Ug:type_of%(@A3 _ _ oX.eq_1):=rfl
def oY:RT:=λK a E E1=>(A4 (AO (a "Hold") "change" (DZ K a) [] E (AY K AD "book") (DJ (AO (a "Layout") "record_at" (FI K a) [] E (AY K AD "plan") (AK A1)) (EN (BU DO (EN BK))) (B9 (AK BS)))) (AM 5))
theorem Uh:type_of%(@A3 _ _ oY.eq_1):=rfl
def oZ:RT:=λK a E E1=>(BB (B9 (DJ BS CZ (AO (a "Store") "fill_cell" (MK K a) [] E AD (MP BL AU A1 CZ)))))
theorem Uj:type_of%(@A3 _ _ oZ.eq_1):=rfl
def XR(K:FK)(a:Ad)(E:XE):TS:=(AL (oU K a E E) (AL (oV K a E E) (AL (oW K a E E) (AL (oX K a E E) (AL (oY K a E E) (oZ K a E E))))))
def o0:RT:=λK a E E1=>(DH (AO (a "Store") "ask_for_new_name" (MJ K a) [] E AD (BU A1 (B9 (BU AU A1)))))
theorem Uk:type_of%(@A3 _ _ o0.eq_1):=rfl
def o5:RT:=λK a E E1=>(A4 (AO (a "Store") "record_of" (GT K a) [] E AD (AK AU)) (AM 3))
theorem Ul:type_of%(@A3 _ _ o5.eq_1):=rfl
def o6:RT:=λK a E E1=>(A4 (DD (MG K a) [] E (BU (AY K AD "plan") (AY K AD "book"))) (AM 4))
theorem Um:type_of%(@A3 _ _ o6.eq_1):=rfl
def o7:RT:=λK a E E1=>(A4 (AO (a "Store") "recount" (KG K a) [] E AD (DJ BL DO (B9 BK))) (AM 5))
theorem Up:type_of%(@A3 _ _ o7.eq_1):=rfl
def o8:RT:=λK a E E1=>(BB (B9 (BU CZ (AO (a "Store") "fill_cell" (MK K a) [] E AD (MP BS A1 BL CZ)))))
theorem Uq:type_of%(@A3 _ _ o8.eq_1):=rfl
def XS(K:FK)(a:Ad)(E:XE):TS:=(AL (o0 K a E E) (AL (o5 K a E E) (AL (o6 K a E E) (AL (o7 K a E E) (o8 K a E E)))))
def o9:RT:=λK a E E1=>(A4 (AO (a "Store") "record_of" (GT K a) [] E AD (AK AU)) (AM 2))
theorem Uv:type_of%(@A3 _ _ o9.eq_1):=rfl
def pA:RT:=λK a E E1=>(A4 (AO (a "Store") "empty_cell" (MM K a) [] E AD (BU AU (B9 BK))) (AM 3))
theorem Uw:type_of%(@A3 _ _ pA.eq_1):=rfl
def pB:RT:=λK a E E1=>(BB (B9 (BU BL (AO (a "Store") "recount" (KG K a) [] E AD (DJ A1 (OW TV DO) (B9 (AK BL)))))))
theorem Ux:type_of%(@A3 _ _ pB.eq_1):=rfl
def pC:RT:=λK a E E1=>(BX (B1 (AF PF (DB K (AO (a "Store") "standing" (FW K a) [] E AD (AK A1)) 0) DO)) (pB K a E E) CK)
theorem Uy:type_of%(@A3 _ _ pC.eq_1):=rfl
def pD:RT:=λK a E E1=>(BB (AF (BO K) (B9 (AK BL)) (AO (a "Store") "drop_record" (Q6 K a) [] E AD (BU A1 BL))))
theorem Uz:type_of%(@A3 _ _ pD.eq_1):=rfl
def XT(K:FK)(a:Ad)(E:XE):TS:=(AL (o9 K a E E) (AL (pA K a E E) (AL (pC K a E E) (pD K a E E))))
def pE:RT:=λK a E E1=>(A4 (AO (a "Store") "record_of" (GT K a) [] E AD (AK AU)) (AM 3))
theorem Vb:type_of%(@A3 _ _ pE.eq_1):=rfl
def pF:RT:=λK a E E1=>(GL (a "NoPiece") E (AK (tC (.str "the text is none of a piece"))))
theorem Vc:type_of%(@A3 _ _ pF.eq_1):=rfl
def pG:RT:=λK a E E1=>(BX (GB (LY K (DD (Q3 K a) [] E (AK A1)))) (pF K a E E) CK)
theorem Vd:type_of%(@A3 _ _ pG.eq_1):=rfl
def pH:RT:=λK a E E1=>(A4 (DD (Q0 K a) [] E (BU (AY K AD "plan") (AY K AD "book"))) (AM 4))
theorem Vg:type_of%(@A3 _ _ pH.eq_1):=rfl
def pJ:RT:=λK a E E1=>(A4 (AO (a "Hold") "change" (DZ K a) [] E (AY K AD "book") (DJ (AO (a "Layout") "piece_mark" (HB K a) [] E (AY K AD "plan") (AK BS)) DO (B9 BK))) (AM 5))
theorem Vh:type_of%(@A3 _ _ pJ.eq_1):=rfl
def pK:RT:=λK a E E1=>(A4 (AO (a "Hold") "change" (DZ K a) [] E (AY K AD "book") (DJ (AO (a "Layout") "piece_at" (NU K a) [] E (AY K AD "plan") (AK BS)) A1 (B9 (AK CZ)))) (AM 6))
theorem Vj:type_of%(@A3 _ _ pK.eq_1):=rfl
def pL:RT:=λK a E E1=>(BB (B9 (DJ CZ ET (AO (a "Store") "regroup" (ML K a) [] E AD (DJ BL (AF (BO K) (DB K (AO (a "Store") "standing" (FW K a) [] E AD (AK BL)) 1) (EN (AK BS))) (B9 (AK ET)))))))
theorem Vk:type_of%(@A3 _ _ pL.eq_1):=rfl
def XU(K:FK)(a:Ad)(E:XE):TS:=(AL (pE K a E E) (AL (pG K a E E) (AL (pH K a E E) (AL (pJ K a E E) (AL (pK K a E E) (pL K a E E))))))
def pM:RT:=λK a E E1=>(A4 (AO (a "Store") "record_of" (GT K a) [] E AD (AK AU)) (AM 3))
theorem Vl:type_of%(@A3 _ _ pM.eq_1):=rfl
def pN:RT:=λK a E E1=>(A4 (DB K (AO (a "Store") "standing" (FW K a) [] E AD (AK BL)) 1) (AM 4))
theorem Vm:type_of%(@A3 _ _ pN.eq_1):=rfl
def pO:RT:=λK a E E1=>(GL (a "NoPiece") E (AK (tC (.str "the record has no piece at that place"))))
theorem Vp:type_of%(@A3 _ _ pO.eq_1):=rfl
def pP:RT:=λK a E E1=>(BX (GB (B1 (GG EZ GP FL A1 (C7 (E8 K) (AK BS))))) (pO K a E E) CK)
theorem Vq:type_of%(@A3 _ _ pP.eq_1):=rfl
def pQ:RT:=λK a E E1=>(A4 (AO (a "Store") "regroup" (ML K a) [] E AD (DJ BL (AF (BO K) (KQ (JY K) BS LR (JO A1)) (KQ (JY K) BS (JO (AF (BO K) A1 DO)) LR)) (B9 BK))) (AM 5))
theorem Vv:type_of%(@A3 _ _ pQ.eq_1):=rfl
def pR:RT:=λK a E E1=>(BB (B9 (BU CZ (AO (a "Hold") "change" (DZ K a) [] E (AY K AD "book") (DJ (AO (a "Layout") "piece_mark" (HB K a) [] E (AY K AD "plan") (AK (AF (CY K) BS A1))) FL (B9 (AK CZ)))))))
theorem Vw:type_of%(@A3 _ _ pR.eq_1):=rfl
def XV(K:FK)(a:Ad)(E:XE):TS:=(AL (pM K a E E) (AL (pN K a E E) (AL (pP K a E E) (AL (pQ K a E E) (pR K a E E)))))
def pT:RT:=λK a E E1=>(A4 (AO (a "Store") "link" (MN K a) [] E AD (BU AU A1)) (AM 3))
theorem Vx:type_of%(@A3 _ _ pT.eq_1):=rfl
def pU:RT:=λK a E E1=>(A4 (AO (a "Store") "record_of" (GT K a) [] E AD (AK AU)) (AM 4))
theorem Vy:type_of%(@A3 _ _ pU.eq_1):=rfl
def pV:RT:=λK a E E1=>(A4 (AO (a "Store") "empty_cell" (MM K a) [] E AD (BU AU (B9 (AK (DB K BL 1))))) (AM 5))
theorem Vz:type_of%(@A3 _ _ pV.eq_1):=rfl
def pW:RT:=λK a E E1=>(BB (AF (BO K) BL (B9 (BU CZ (AO (a "Store") "recount" (KG K a) [] E AD (DJ BS (OW TV DO) (B9 (AK CZ))))))))
theorem Wb:type_of%(@A3 _ _ pW.eq_1):=rfl
def XW(K:FK)(a:Ad)(E:XE):TS:=(AL (pT K a E E) (AL (pU K a E E) (AL (pV K a E E) (pW K a E E))))
def pX:RT:=λK a E E1=>(A4 (tC (.str "")) (AM 5))
theorem Wc:type_of%(@A3 _ _ pX.eq_1):=rfl
def pY:RT:=λK a E E1=>(DH (AO (a "Store") "make" (Q7 K a) [] E1 AD (AK A1)))
theorem Wd:type_of%(@A3 _ _ pY.eq_1):=rfl
def pZ:RT:=λK a E E1=>(DH (AO (a "Store") "link" (MN K a) [] E1 AD (BU A1 BL)))
theorem Wg:type_of%(@A3 _ _ pZ.eq_1):=rfl
def p0:RT:=λK a E E1=>(DH (AO (a "Store") "cut" (Q8 K a) [] E1 AD (AK A1)))
theorem Wh:type_of%(@A3 _ _ p0.eq_1):=rfl
def p5:RT:=λK a E E1=>(DH (AO (a "Store") "put" (Q9 K a) [] E1 AD (BU A1 (DD (RD K a) [] E1 (AK BS)))))
theorem Wj:type_of%(@A3 _ _ p5.eq_1):=rfl
def p6:RT:=λK a E E1=>(DH (AO (a "Store") "take" (RA K a) [] E1 AD (BU A1 (DD (RE K a) [] E1 (AK BS)))))
theorem Wk:type_of%(@A3 _ _ p6.eq_1):=rfl
def p7:RT:=λK a E E1=>(DH (AO (a "Store") "move" (RB K a) [] E1 AD (BU A1 BL)))
theorem Wl:type_of%(@A3 _ _ p7.eq_1):=rfl
def p8:RT:=λK a E E1=>(BX (B1 (AF (D7 K) AU RG)) (p6 K a E E1) (p7 K a E E1))
theorem Wm:type_of%(@A3 _ _ p8.eq_1):=rfl
def p9:RT:=λK a E E1=>(BX (B1 (AF GP AU RG)) (p5 K a E E1) (p8 K a E E1))
theorem Wp:type_of%(@A3 _ _ p9.eq_1):=rfl
def qA:RT:=λK a E E1=>(BX (B1 (AF (D7 K) AU IC)) (p0 K a E E1) (p9 K a E E1))
theorem Wq:type_of%(@A3 _ _ qA.eq_1):=rfl
def qB:RT:=λK a E E1=>(BX (B1 (AF (D7 K) AU N2)) (pZ K a E E1) (qA K a E E1))
theorem Wv:type_of%(@A3 _ _ qB.eq_1):=rfl
def qC:RT:=λK a E E1=>(BX (B1 (AF GP AU N2)) (pY K a E E1) (qB K a E E1))
theorem Ww:type_of%(@A3 _ _ qC.eq_1):=rfl
def XX:RT:=λK a E E1=>(A4 (tC (.str "NoRoom")) (AM 5))
theorem Wx:type_of%(@A3 _ _ XX.eq_1):=rfl
def XY:RT:=λK a E E1=>(A4 (tC (.str "NoPiece")) (AM 5))
theorem Wy:type_of%(@A3 _ _ XY.eq_1):=rfl
def XZ:RT:=λK a E E1=>(A4 (tC (.str "Twice")) (AM 5))
theorem Wz:type_of%(@A3 _ _ XZ.eq_1):=rfl
def X0:RT:=λK a E E1=>(A4 (tC (.str "NoName")) (AM 5))
theorem Xb:type_of%(@A3 _ _ X0.eq_1):=rfl
def qD:RT:=λK a E E1=>(TQ (λE1=>(qC K a E E1)) (IW (λcls=>W.exmOne K cls (.ref (a "NoName"))) (X0 K a E E) (IW (λcls=>W.exmOne K cls (.ref (a "Twice"))) (XZ K a E E) (IW (λcls=>W.exmOne K cls (.ref (a "NoPiece"))) (XY K a E E) (IW (λcls=>W.exmOne K cls (.ref (a "NoRoom"))) (XX K a E E) TN)))))
theorem Xc:type_of%(@A3 _ _ qD.eq_1):=rfl
def N5:RT:=λK a E E1=>(BB CZ)
theorem qE:type_of%(@A3 _ _ N5.eq_1):=rfl
def X1(K:FK)(a:Ad)(E:XE):TS:=(AL (pX K a E E) (AL (qD K a E E) (N5 K a E E)))
def qF:RT:=λK a E E1=>(A4 (DD (ME K a) [] E (BU AD FL)) (AM 1))
theorem Xd:type_of%(@A3 _ _ qF.eq_1):=rfl
def qG:RT:=λK a E E1=>(A4 (JN (a "Layout") (QK K a) [] E (MP (AF (BO K) DO (AF C1 AU IC)) (AF (BO K) DO (AF C1 (AF DI AU IC) IC)) (AF (BO K) DO (AF C1 (AF DI AU Hb) IC)) (AF (BO K) DO (AF C1 (AF DI AU (C5 27)) RF)))) (AM 2))
theorem Xg:type_of%(@A3 _ _ qG.eq_1):=rfl
def qH:RT:=λK a E E1=>(A4 (AO (a "Layout") "plank" (QL K a) [] E A1 BK) (AM 3))
theorem Xh:type_of%(@A3 _ _ qH.eq_1):=rfl
def qI:RT:=λK a E E1=>(A4 (JN (a "Store") (Q4 K a) [] E (BU A1 BL)) (AM 4))
theorem Xj:type_of%(@A3 _ _ qI.eq_1):=rfl
def qJ:RT:=λK a E E1=>(A4 (DD (RC K a) [] E (AK (AF DI AU (C5 108)))) (AM 5))
theorem Xk:type_of%(@A3 _ _ qJ.eq_1):=rfl
def qK:RT:=λK a E E1=>(A4 KZ (AM 6))
theorem Xl:type_of%(@A3 _ _ qK.eq_1):=rfl
def Xm:RT:=λK a E E1=>(BB (tC (.bl false)))
def qL:RT:=λK a E E1=>(BX (GB (LY K (DD (MO K a) [] E (DJ A1 BL BS)))) (Xm K a E E) CK)
theorem Xp:type_of%(@A3 _ _ qL.eq_1):=rfl
def qM:RT:=λK a E E1=>(A4 (DD (NZ K a) [] E (BU A1 BS)) (AM 6))
theorem Xq:type_of%(@A3 _ _ qM.eq_1):=rfl
def qN:RT:=λK a E E1=>(DH (AO (a "Store") "write" (KH K a) [] E BS (AK (AF C1 (AF DI AU RF) (AO (a "Layout") "blocks" (HZ K a) [] E A1 BK)))))
theorem Xv:type_of%(@A3 _ _ qN.eq_1):=rfl
def qO:RT:=λK a E E1=>(A4 (AF C1 (AF DI AU (C5 12)) U7) (AM 7))
theorem Xw:type_of%(@A3 _ _ qO.eq_1):=rfl
def qP:RT:=λK a E E1=>(A4 (AF (CY K) CZ (AF C1 (AF DI AU (C5 96)) N3)) (AM 8))
theorem Xx:type_of%(@A3 _ _ qP.eq_1):=rfl
def qQ:RT:=λK a E E1=>(A4 (AF (CY K) CZ (AF C1 (AF DI AU (C5 480)) N3)) (AM 9))
theorem Xy:type_of%(@A3 _ _ qQ.eq_1):=rfl
def qR:RT:=λK a E E1=>(DH (DD (N0 K a) [] E (MP ET MQ U8 gX)))
theorem Xz:type_of%(@A3 _ _ qR.eq_1):=rfl
def qS:RT:=λK a E E1=>(BX (B1 (AF (D7 K) (DD (NY K a) [] E (DR BS (MP MQ U8 gX (AF DI AU (C5 2400))))) (tC (.str "")))) (qR K a E E) CK)
theorem Yb:type_of%(@A3 _ _ qS.eq_1):=rfl
def qT:RT:=λK a E E1=>(BX (B1 (AF (D7 K) (AF C1 AU RF) FL)) (qN K a E E) (AL (qO K a E E) (AL (qP K a E E) (AL (qQ K a E E) (qS K a E E)))))
theorem Yc:type_of%(@A3 _ _ qT.eq_1):=rfl
def qU:RT:=λK a E E1=>(BX (B1 (AF (D7 K) (AF C1 AU (C5 12)) N4)) (AL (qL K a E E) (qM K a E E)) (qT K a E E))
theorem Yd:type_of%(@A3 _ _ qU.eq_1):=rfl
def Yg:RT:=λK a E E1=>(BB (tC (.bl false)))
def X2:RT:=λK a E E1=>(BX (GB (LY K (DD (N1 K a) [] E (DJ A1 (DD (LC K a) [] E (BU A1 BL)) ET)))) (Yg K a E E) CK)
theorem Yh:type_of%(@A3 _ _ X2.eq_1):=rfl
def qV:RT:=λK a E E1=>(DT (F3 K (KQ (JY K) AD (JO DO) (JO (C5 121)))) (AM 1) (AL (qU K a E E) (X2 K a E E)))
theorem Yj:type_of%(@A3 _ _ qV.eq_1):=rfl
def qW:RT:=λK a E E1=>(BB (DD (MO K a) [] E (DJ A1 BL BS)))
theorem Yk:type_of%(@A3 _ _ qW.eq_1):=rfl
def X3(K:FK)(a:Ad)(E:XE):TS:=(AL (qF K a E E) (AL (qG K a E E) (AL (qH K a E E) (AL (qI K a E E) (AL (qJ K a E E) (AL (qK K a E E) (AL (qV K a E E) (qW K a E E))))))))
end
end L2
namespace L2
local macro_rules
 | `(tactic| push_cast[$ls,*])=>`(tactic| simp only[↓xO,↓xP,↓xQ,↓xR,↓xS,↓xT,↓xU,↓xV,↓xW,↓xX,↓xY,↓xZ,↓x4,↓x5,↓x6,↓x8,↓x9,↓yA,↓yB,↓yC,↓yD,↓yE,↓yF,↓yG,↓yH,↓yI,↓yJ,↓yK,↓yL,↓yM,↓yN,↓yO,↓yP,↓yQ,↓yR,↓yS,↓yT,↓yU,↓yV,↓yW,↓yX,↓yY,↓yZ,↓zA,↓zB,
     ↓zC,↓zD,↓zF,↓zG,↓zH,↓zI,↓zJ,↓zK,↓T2,↓zO,↓zQ,↓zP,↓zR,↓eA,↓zS,↓zT,↓zU,↓zM,↓zL,↓zN,↓zV,↓zW,↓zX,↓eB,↓eC,↓eD,↓zY,↓zZ,↓z6,↓z7,↓eE,↓z8,
     PB,C1,DI,xE,TV,xF,Ends.drop,start,List.map_cons,List.map_nil,List.length_cons,List.length_nil,List.reduceReplicate,Nat.reduceAdd,Nat.reduceSub,Nat.zero_add,List.cons_append,List.nil_append,List.append_nil,List.getElem?_cons_zero,List.getElem?_cons_succ,Option.some.injEq,Option.join_some,List.set_cons_zero,List.set_cons_succ,
     V.int.injEq,V.ref.injEq,V.bl.injEq,V.str.injEq,List.cons.injEq,and_true,true_and,exists_eq_left',exists_eq_left,exists_eq',exists_eq,exists_and_left,exists_and_right,reduceCtorEq,false_and,and_false,or_false,false_or,exists_false,decide_eq_true_eq,Bool.not_eq_true',Bool.not_eq_true,decide_eq_false_iff_not,eq_self_iff_true,if_true,Bool.false_eq_true,if_false,ite_true,Bool.true_eq_false,forall_const,and_assoc,Int.reduceToNat,Int.reduceLT,Int.reduceLE,Int.reduceEq,Nat.reduceLeDiff,Int.toNat_natCast,not_true_eq_false,not_false_eq_true,Bool.not_false,Bool.not_true,↓Cw,↓Cy,↓Cz,↓Db,↓Dc,↓Dd,↓Dg,↓Dh,↓Dj,↓Cq,↓Ew,↓Ez,↓Dy,↓Eh,↓Ep,↓Al,↓Ak,$ls,*])
section
variable{K:W.Frag}{a:Ad}{vs:List V}{H:Hp}{Q:VK}{E:XK}
theorem Yl(h:ME K a vs H Q E):VZ K a (λ_=>E) (A8 Q) (start ["script","k"] vs) H:=by
 obtain⟨s,ns,k,rfl,hs,hl,q⟩:=h
 push_cast[VZ,↓Jl,↓Jm,↓Jp]
 refine⟨ns.length,?_,?_⟩
 ·exact .inl ⟨_,hs,(List.length_map _).symm⟩
 split
 ·rename_i hk
  have hk:k<ns.length:=by omega
  refine FR hs rfl (v:=.int (K9 ns k)) ?_ q
  unfold K9
  rw[List.getElem?_map,List.getElem?_eq_getElem hk]
  simp[List.getD,hk]
 ·rename_i hk
  have:K9 ns k=0:=by
   unfold K9
   rw[List.getD_eq_getElem?_getD,List.getElem?_eq_none (by omega)];rfl
  rw[this]at q
  exact q
theorem Ym(h:P8 K a vs H Q E):VR K a (λ_=>E) (A8 Q) (start ["self","blocks","cells"] vs) H:=by
 obtain⟨p,dx,m,w,rfl,T,hp,hm,h1,h2,q⟩:=h
 push_cast[VR,↓Hm,↓Hq,↓Hv]
 refine⟨by omega,by omega,?_⟩
 refine NL (CT m (by omega)) (λi ys H'=>Same H H'/\∃ ts:List Addr,ys=ts.map V.ref/\Paired (λt r=>H' t=some (.tup r)) ts (List.replicate i (List.replicate w .non))) ⟨Same.refl _,[],rfl,.nil⟩ (λi ys H' hi hl hzz=> ?_) (λys H' hl ⟨s,ts,e,P⟩ cl BH=> ?_)
 ·obtain⟨s,ts,e,P⟩:=hzz
  push_cast[D8,Option.join_some,Int.zero_add]
  refine⟨by decide,λt ht=>.inr ?_⟩
  have fin:∀ (t':Addr) (H2:Hp),Same H' H2->H2 t'=some (.tup (List.replicate w .non))->Same H H2/\∃ ts':List Addr,ys++[V.ref t']=ts'.map V.ref/\Paired (λt r=>H2 t=some (.tup r)) ts' (List.replicate (i+1) (List.replicate w .non)):=λt' H2 s2 e2=>by
   refine⟨s.trans s2,ts++[t'],by rw[e,List.map_append];rfl,?_⟩
   rw[List.replicate_succ']
   exact Paired.snoc (Paired.mapP P λt r z=>s2 _ _ z) e2
  have s1:Same H' (upd H' t (.tup [V.non])):=λb o z=>by rw[AG (BN z ht)];exact z
  refine⟨t,w,[.non],rfl,rfl,SqT.of AE,by simp,by omega,by omega,CT _ (by simp;omega),λe1=> ?_,λe1 u hu=> ?_⟩
  ·have e1:w=1:=by omega
   refine fin t _ s1 ?_
   rw[AE,e1];rfl
  ·rw[Int.toNat_natCast,eI]
   exact fin u _ (s1.trans λb o z=>by rw[AG (BN z hu)];exact z) AE
 ·have npc:p≠cl:=BN (s _ _ hp) BH
  have e1:upd H' cl (HO.lst ys) p=some (HO.ins (a "Plank") dx []):=by rw[AG npc];exact s _ _ hp
  refine⟨_,_,_,e1,T.cl,T.nC,by decide,_,_,_,AE,T.cl,T.nW,IX (by decide),_,_,_,AE,T.cl,T.nN,IX (n:=1000) (Nat.succ_lt_succ (IX (n:=999) (by decide))),?_⟩
  rw[Fc,G1,G1]
  refine q cl _ (s.free BH) ⟨⟨dx,AE⟩,⟨ts,by rw[AG npc.symm,AE,e],?_⟩,λr hr=> ?_,by simpa using hm,h2⟩ λb o eb hb=> ?_
  ·refine Paired.mapP P λt r z=> ?_
   rw[AG (BF z (s _ _ hp) (by intro z';cases z')),AG (BN z BH)]
   exact z
  ·rw[List.eq_of_mem_replicate hr,List.length_replicate]
  ·rw[AG hb,AG (BN (s _ _ eb) BH)]
   exact s _ _ eb
theorem Yp(h:L8 K a vs H Q E):VS K a (λ_=>E) (A8 Q) (start ["self"] vs) H:=by
 obtain⟨p,cl,w,rows,n,rfl,T,P,q⟩:=h
 obtain⟨dx,h1⟩:=P.ob
 obtain⟨ts,h2,h3⟩:=P.ls
 push_cast[VS,↓Hw]
 refine⟨_,_,_,h1,T.cl,T.nC,_,P7 _ _ _,rows.length,.inl ⟨_,SqL.of h2,?_⟩,q⟩
 rw[List.length_map,h3.length]
theorem Yq(h:P9 K a vs H Q E):VT K a (λ_=>E) (A8 Q) (start ["self"] vs) H:=by
 obtain⟨p,cl,w,rows,n,rfl,T,P,q⟩:=h
 obtain⟨dx,h1⟩:=P.ob
 push_cast[VT,↓Hx]
 exact⟨_,_,_,h1,T.cl,T.nW,_,f9 _ _ _,q⟩
theorem Yv(h:J6 K a vs H Q E):VU K a (λ_=>E) (A8 Q) (start ["self","block"] vs) H:=by
 obtain⟨p,cl,w,rows,n,b,rfl,T,P,q,qe⟩:=h
 obtain⟨dx,h1⟩:=P.ob
 obtain⟨ts,h2,h3⟩:=P.ls
 push_cast[VU,↓Hy,↓Hz]
 have hl:rows.length=(ts.map V.ref).length:=by rw[List.length_map,h3.length]
 split
 ·rename_i h0
  refine⟨_,_,_,h1,T.cl,T.nC,_,P7 _ _ _,rows.length,.inl ⟨_,SqL.of h2,hl⟩,?_⟩
  split
  ·exact⟨by decide,qe (by omega)⟩
  ·exact q h0 (by omega)
 ·exact⟨by decide,qe (by omega)⟩
theorem qX(cl:Addr)(w n:Int):(pf cl w n).lookup ("ask_for_block":Str)=none:=L7 _ _ _ (by decide +kernel) (by decide +kernel) (by decide +kernel)
theorem Yw(h:J8 K a vs H Q E):WM K a (λ_=>E) (A8 Q) (start ["self","block"] vs) H:=by
 obtain⟨p,cl,w,rows,n,b,rfl,T,P,q,qe⟩:=h
 obtain⟨dx,h1⟩:=P.ob
 obtain⟨ts,h2,h3⟩:=P.ls
 push_cast[WM,↓Lz,↓Mb,J6]
 refine⟨_,_,h1,qX _ _ _,T,cl,w,rows,⟨n,P⟩,λh0 hb=>⟨_,_,_,h1,T.cl,T.nC,_,P7 _ _ _,?_⟩,qe⟩
 obtain⟨i,rfl⟩:∃ i:Nat,b=i:=⟨b.toNat,by omega⟩
 have hi:i<rows.length:=by omega
 obtain⟨t,et,ht⟩:=JZ h3 (List.getElem?_eq_getElem hi)
 refine FR (SqL.of h2) rfl (v:=.ref t) (by rw[List.getElem?_map,et];rfl) ?_
 rw[eE]
 exact⟨_,.inr (SqT.of ht),q i _ rfl (List.getElem?_eq_getElem hi)⟩
theorem Yx(h:QC K a vs H Q E):WN K a (λ_=>E) (A8 Q) (start ["self","block","values"] vs) H:=by
 obtain⟨p,cl,w,rows,n,b,v,xs,rfl,T,P,hv,hx,q,qe⟩:=h
 obtain⟨dx,h1⟩:=P.ob
 obtain⟨ts,h2,h3⟩:=P.ls
 have npc:=P.ne
 push_cast[WN,↓Mc,↓Mg,↓Mh,↓Mj,↓Ml,J6]
 refine⟨_,_,h1,qX _ _ _,T,cl,w,rows,⟨n,P⟩,λh0 hb=>⟨xs.length,.inl ⟨_,hv,rfl⟩,_,_,_,h1,T.cl,T.nW,_,f9 _ _ _,?_⟩,λz=>qe (z.imp id .inl)⟩
 obtain⟨i,rfl⟩:∃ i:Nat,b=i:=⟨b.toNat,by omega⟩
 have hi:i<rows.length:=by omega
 push_cast[]
 split
 ·exact⟨by decide,qe (.inr (.inr (by omega)))⟩
 ·rename_i hw
  have hw:xs.length=w:=by omega
  refine⟨xs,.inl ⟨hv,λt ht=> ?_⟩⟩
  have ntp:p≠t:=BN h1 ht
  have ntc:cl≠t:=BN h2 ht
  refine⟨_,_,_,by rw[AG ntp];exact h1,T.cl,T.nC,_,P7 _ _ _,?_⟩
  refine⟨cl,ts.map V.ref,(i:Int),i,rfl,rfl,by rw[AG ntc];exact h2,?_,?_⟩
  ·unfold IM
   rw[if_pos (by omega),if_pos (by rw[List.length_map,h3.length];omega),Int.toNat_natCast]
  ·refine⟨_,_,_,by rw[AG npc,AG ntp];exact h1,T.cl,T.nN,_,Fb _ _ _,?_⟩
   push_cast[]
   refine⟨_,_,by rw[AG npc,AG ntp];exact h1,by show 3<1000;decide,?_⟩
   rw[Fd]
   refine q i rfl hi hw _ ⟨⟨dx,AE⟩,⟨ts.set i t,?_,?_⟩,λr hr=> ?_,by rw[List.length_set];exact P.sz,P.sw⟩ λx o ex hxn=> ?_
   ·rw[AG npc.symm,AE,List.map_set]
   ·have keep:∀ u r,H u=some (.tup r)->upd (upd (upd H t (.tup xs)) cl (.lst ((ts.map V.ref).set i (.ref t)))) p (.ins (a "Plank") dx (pf cl w ((n:Int)+1))) u=some (.tup r):=λu r hu=>by
     rw[AG (BF hu h1 (by intro z;cases z)),AG (BF hu h2 (by intro z;cases z)),AG (BN hu ht)]
     exact hu
    refine eG ?_ i (Paired.mapP h3 keep)
    rw[AG ntp.symm,AG ntc.symm,AE]
   ·rcases List.mem_or_eq_of_mem_set hr with z | z
    ·exact P.wd r z
    ·rw[z];exact hw
   ·have hxn:x≠p/\x≠cl:=⟨λz=>hxn (.inl z),λz=>hxn (.inr z)⟩
    rw[AG hxn.1,AG hxn.2,AG (BN ex ht)]
    exact ex
theorem X4(cl:Addr)(w n:Int):(pf cl w n).lookup ("read":Str)=none:=L7 _ _ _ (by decide +kernel) (by decide +kernel) (by decide +kernel)
theorem Yy(cl:Addr)(w n:Int):(pf cl w n).lookup ("write":Str)=none:=L7 _ _ _ (by decide +kernel) (by decide +kernel) (by decide +kernel)
theorem FA{f:Str}{v:V}{fs:List (Str × V)}{n:Nat}(h:fs.length<n):(A7 f v fs).length<n+1:=Nat.lt_of_le_of_lt (NC f v fs) (Nat.succ_lt_succ h)
theorem SameBut.none{b:Addr}{H H1:Hp}{x:Addr}(s:SameBut (· =b) H H1)(hb:H1 b≠Option.none)(h:H1 x=Option.none):H x=Option.none:=by
 cases e:H x with
 | none=>rfl
 | some o =>
  have:x≠b:=λz=>hb (z ▸ h)
  rw[s _ _ e this]at h
  cases h
theorem Yz(h:QN K a vs H Q E):U9 K a (λ_=>E) (A8 Q) (start ["self","place","value","needs"] vs) H:=by
 obtain⟨x,dx,pl,v,nt,rfl,T,hx,q⟩:=h
 push_cast[U9,↓Hc,↓Hd,↓Hg]
 refine⟨_,_,_,hx,T.cc,T.nP,by decide,_,_,_,AE,T.cc,T.nV,FA (n:=999) (by decide),_,_,_,AE,T.cc,T.nN,FA (n:=999) (FA (n:=998) (by decide)),?_⟩
 rw[Fp,G1,G1]
 exact q
theorem Zb(h:NV K a vs H Q E):V7 K a (λ_=>E) (A8 Q) (start ["self","plank"] vs) H:=by
 obtain⟨b,gp,cl,dx,w,rows,n,rfl,T,TP,P,hb,q⟩:=h
 push_cast[V7,↓Ll,↓Lm,↓Lp,↓Lq,↓Lv]
 refine⟨_,_,_,hb,T.cl,T.nG,by decide,by decide,?_⟩
 have e1:upd H b (.ins (ER a) dx (A7 "ground" (.ref gp) [])) b=some (.ins (ER a) dx (A7 "ground" (.ref gp) [])):=AE
 have s1:SameBut (· =b) H (upd H b (.ins (ER a) dx (A7 "ground" (.ref gp) []))):=λx o e n=>by rw[AG n];exact e
 revert e1 s1
 generalize upd H b (.ins (ER a) dx (A7 "ground" (.ref gp) []))=H1
 intro e1 s1 m hm
 have nbm:b≠m:=BN e1 hm
 have hmH:=s1.none (by rw[e1];intro z;cases z) hm
 refine⟨_,_,_,by rw[AG nbm];exact e1,T.cl,T.nM,FA (n:=999) (by decide),?_⟩
 have s2:SameBut (· =b) H (upd (upd H1 m (.lst [])) b (.ins (ER a) dx (A7 "made" (.ref m) (A7 "ground" (.ref gp) [])))):=(s1.upd (.inr hmH)).upd (.inl rfl)
 have e2:upd (upd H1 m (.lst [])) b (.ins (ER a) dx (A7 "made" (.ref m) (A7 "ground" (.ref gp) []))) b=some (.ins (ER a) dx (A7 "made" (.ref m) (A7 "ground" (.ref gp) []))):=AE
 have m2:upd (upd H1 m (.lst [])) b (.ins (ER a) dx (A7 "made" (.ref m) (A7 "ground" (.ref gp) []))) m=some (.lst []):=by rw[AG nbm.symm,AE]
 revert s2 e2 m2
 generalize upd (upd H1 m (.lst [])) b (.ins (ER a) dx (A7 "made" (.ref m) (A7 "ground" (.ref gp) [])))=H2
 intro s2 e2 m2
 have gb:∀ x xs,(· =b) x->H x≠some (.tup xs):=λx xs e=>by rw[show x=b from e,hb];intro z;cases z
 have ncl:¬ cl=b:=by obtain⟨ts,z,_⟩:=P.ls;exact BF z hb (by intro z;cases z)
 have P2:PlankAt a H2 gp cl w rows n:=by
  obtain⟨⟨dx',f1⟩,⟨ts,f2,f3⟩,r1,r2,r3⟩:=P
  exact⟨⟨dx',s2 _ _ f1 (BF f1 hb (L9 (by simp[pf])))⟩,⟨ts,s2 _ _ f2 (BF f2 hb (by intro z;cases z)),Paired.mapP f3 λt r z=>s2 _ _ z (BF z hb (by intro z;cases z))⟩,r1,r2,r3⟩
 obtain⟨dp,hp⟩:=P2.ob
 refine⟨_,_,hp,L7 _ _ _ (by decide +kernel) (by decide +kernel) (by decide +kernel),gp,cl,w,rows,n,rfl,TP,P2,rows.length,rfl,by omega,by have:=P.sz;omega,?_⟩
 rw[Int.toNat_natCast]
 refine NL (CT _ (by have:=P.sz;omega)) (λi ys H'=>Same H2 H'/\∃ ls:List Addr,ys=ls.map V.ref/\ls.Nodup/\∀ l∈ls,H' l=some (.lst [])/\H2 l=none) ⟨Same.refl _,[],rfl,List.nodup_nil,by simp⟩ (λi ys H' hi hl hzz=> ?_) (λys H' hl ⟨s,ls,ey,nd,al⟩ mi GW=> ?_)
 ·obtain⟨s,ls,ey,nd,al⟩:=hzz
  push_cast[]
  refine⟨by decide,λl hl'=>⟨s.trans (AQ hl'),ls++[l],by rw[ey,List.map_append];rfl,?_,λx hx=> ?_⟩⟩
  ·exact List.nodup_append.mpr ⟨nd,by simp,λx hx y hy e=>by rw[List.mem_singleton]at hy;subst hy;subst e;rw[(al _ hx).1]at hl';cases hl'⟩
  ·rcases List.mem_append.mp hx with hx | hx
   ·exact⟨AQ hl' _ _ (al x hx).1,(al x hx).2⟩
   ·rw[List.mem_singleton.mp hx];exact⟨AE,s.free hl'⟩
 ·have s3:SameBut (· =b) H (upd H' mi (.lst ys)):=by
   intro x o e nx
   have e':=s _ _ (s2 _ _ e nx)
   rw[AG (BN e' GW)];exact e'
  have e3:upd H' mi (.lst ys) b=some (.ins (ER a) dx (A7 "made" (.ref m) (A7 "ground" (.ref gp) []))):=by rw[AG (BN (s _ _ e2) GW)];exact s _ _ e2
  have m3:upd H' mi (.lst ys) m=some (.lst []):=by rw[AG (BN (s _ _ m2) GW)];exact s _ _ m2
  have i3:upd H' mi (.lst ys) mi=some (.lst (ls.map V.ref)):=by rw[AE,ey]
  have l3:∀ l∈ls,upd H' mi (.lst ys) l=some (.lst [])/\H l=none/\l≠mi/\l≠m:=λl hl'=>by
   have z:=al l hl'
   have n1:=BN z.1 GW
   exact⟨by rw[AG n1];exact z.1,s2.none (by rw[e2];intro z;cases z) z.2,n1,λy=>by rw[y,m2]at z;cases z.2⟩
  have hmiH:H mi=none:=s2.none (by rw[e2];intro z;cases z) (s.free GW)
  have nmm:m≠mi:=BN (s _ _ m2) GW
  have BV:ls.length=rows.length:=by rw[<-hl,ey,List.length_map]
  revert s3 e3 m3 i3 l3
  generalize upd H' mi (.lst ys)=H3
  intro s3 e3 m3 i3 l3
  refine⟨_,_,_,e3,T.cl,T.nI,FA (n:=999) (FA (n:=998) (by decide)),λlt BC=> ?_⟩
  have nb4:b≠lt:=BN AE BC
  rw[AG nb4.symm]at BC
  have ltH:H lt=none:=s3.none (by rw[e3];intro z;cases z) BC
  refine⟨_,_,_,by rw[AG nb4,AE],T.cl,T.nL,FA (n:=999) (FA (n:=998) (FA (n:=997) (by decide))),λou D1=> ?_⟩
  have nb5:b≠ou:=BN AE D1
  rw[AG nb5.symm]at D1
  have nl5:lt≠ou:=BN AE D1
  rw[AG nl5.symm,AG nb5.symm]at D1
  have ouH:H ou=none:=s3.none (by rw[e3];intro z;cases z) D1
  refine⟨_,_,_,by rw[AG nb5,AE],T.cl,T.nO,FA (n:=999) (FA (n:=998) (FA (n:=997) (FA (n:=996) (by decide)))),?_⟩
  rw[Fq]
  generalize eH:upd (upd (upd (upd (upd H3 b _) lt (.dT [])) b _) ou (.dK [])) b (.ins (ER a) dx (bf gp m mi lt ou))=H5
  have kp:∀ x,x≠b->x≠lt->x≠ou->H5 x=H3 x:=λx n1 n2 n3=>by rw[<-eH,AG n1,AG n3,AG n1,AG n2,AG n1]
  have kk:∀ x o,H3 x=some o->x≠b->H5 x=some o:=λx o e n1=>by rw[kp x n1 (BN e BC) (BN e D1)];exact e
  have s5:SameBut (· =b) H H5:=λx o e n1=>kk x o (s3 _ _ e n1) n1
  have nbx:∀ x xs,H3 x=some (.lst xs)->x≠b:=λx xs e=>BF e e3 (by intro z;cases z)
  refine q m mi lt ou ls H5 hmH hmiH ltH ouH (λl hl'=>(l3 l hl').2.1) ⟨⟨⟨dx,by rw[<-eH,AE]⟩,⟨[],kk _ _ m3 (nbx _ _ m3),.nil⟩,kk _ _ i3 (nbx _ _ i3),λi l e=> ?_,nd,⟨[],?_,λi j=>rfl,Nat.le_refl _⟩,⟨[],?_,λk=>rfl,List.nodup_nil,by simp⟩,by simp,by simp,by simp,⟨nmm,?_,?_,?_,?_,?_⟩,by simp⟩,?_,BV⟩ s5
  ·have z:=l3 l (List.mem_of_getElem? e)
   exact kk _ _ z.1 (nbx _ _ z.1)
  ·rw[<-eH,AG nb4.symm,AG nl5,AG nb4.symm,AE]
  ·rw[<-eH,AG nb5.symm,AE]
  ·exact λz=>(l3 _ z).2.2.2 rfl
  ·exact λz=>(l3 _ z).2.2.1 rfl
  ·obtain⟨ts,z,_⟩:=P.ls;exact BN z hmH
  ·obtain⟨ts,z,_⟩:=P.ls;exact BN z hmiH
  ·obtain⟨ts,z,_⟩:=P.ls;exact λy=>by rw[(l3 _ y).2.1]at z;cases z
  ·obtain⟨⟨dx',f1⟩,⟨ts,f2,f3⟩,r1,r2,r3⟩:=P
   exact⟨⟨dx',s5 _ _ f1 (BF f1 hb (L9 (by simp[pf])))⟩,⟨ts,s5 _ _ f2 (BF f2 hb (by intro z;cases z)),Paired.mapP f3 λt r z=>s5 _ _ z (BF z hb (by intro z;cases z))⟩,r1,r2,r3⟩
theorem Zc(h:QP K a vs H Q E):RH K a (λ_=>E) (A8 Q) (start ["needs","ahead"] vs) H:=by
 obtain⟨nl,ns,o,rfl,hs,hl,q⟩:=h
 cases o with
 | none =>
  push_cast[RH,↓hX,↓h9,↓iB,HD]
  refine⟨ns,hs,by omega,λx o D ks hx hD r m l=>⟨_,.inl ⟨SqL.of AE,λt ht=>q t ks _ (((AQ hx).trans (AQ hD)).trans (AQ ht)) AE r (λy=> ?_) (by omega)⟩⟩⟩
  rw[m y];simp
 | some k =>
  push_cast[RH,↓hX,↓h9,↓iB,HD]
  refine⟨_,.inl hs,λl hl'=>⟨by decide,λp hp=>.inl ?_⟩⟩
  have np:l≠p:=BN AE hp
  have s0:Same H (upd (upd H l (.lst (ns.map V.int))) p (.lst [.int k])):=(AQ hl').trans (AQ hp)
  have e1:upd (upd H l (.lst (ns.map V.int))) p (.lst [.int k]) l=some (.lst (ns.map V.int)):=by rw[AG np,AE]
  have e2:upd (upd H l (.lst (ns.map V.int))) p (.lst [.int k]) p=some (.lst [.int k]):=AE
  revert s0 e1 e2
  generalize upd (upd H l (.lst (ns.map V.int))) p (.lst [.int k])=H1
  intro s0 e1 e2
  refine⟨l,p,_,_,rfl,rfl,e1,e2,CT _ (by simp;omega),λr hr=>⟨r,rfl,ns++[(k:Int)],?_,by simp;omega,λx o D ks hx hD rs m ll=>⟨_,.inl ⟨SqL.of AE,λt ht=>q t ks _ ((((s0.trans (AQ hr)).trans (AQ hx)).trans (AQ hD)).trans (AQ ht)) AE rs (λy=> ?_) (by simpa using ll)⟩⟩⟩⟩
  ·rw[List.map_append];exact SqL.of AE
  ·rw[m y,List.mem_append,List.mem_singleton];simp
theorem Zd(h:QQ K a vs H Q E):V8 K a (λ_=>E) (A8 Q) (start ["self","place"] vs) H:=by
 obtain⟨A,w,rows,n,cs,outs,pl,i,j,rfl,T,TP,B,hp,q,qe⟩:=h
 obtain⟨dx,hb⟩:=B.bk.ob
 obtain⟨dp,hg⟩:=B.pk.ob
 have ng:∀ {m:Str},¬ m="contents"->¬ m="width"->¬ m="written"->(pf A.cl w n).lookup m=none:=λh1 h2 h3=>L7 _ _ _ h1 h2 h3
 push_cast[V8,↓Lw,↓Lx]
 refine C8 hp (n:=0) rfl rfl ?_
 push_cast[]
 split
 ·rename_i h0
  refine⟨_,_,_,hb,T.cl,T.nG,_,NP,A.gp,rfl,_,_,hg,ng (by decide +kernel) (by decide +kernel) (by decide +kernel),A.gp,A.cl,w,rows,n,rfl,TP,B.pk,?_⟩
  push_cast[]
  split
  ·exact⟨by decide,qe λz=>by omega⟩
  ·rename_i h1
   refine C8 hp (n:=1) rfl rfl ?_
   push_cast[]
   split
   ·rename_i h2
    refine⟨_,_,_,hb,T.cl,T.nG,_,NP,A.gp,rfl,_,_,hg,ng (by decide +kernel) (by decide +kernel) (by decide +kernel),A.gp,A.cl,w,rows,n,rfl,TP,B.pk,?_⟩
    push_cast[]
    split
    ·exact⟨by decide,qe λz=>by omega⟩
    ·exact q ⟨h0,by omega,h2,by omega⟩
   ·exact⟨by decide,qe λz=>by omega⟩
 ·exact⟨by decide,qe λz=>by omega⟩
theorem Zg(h:MF K a vs H Q E):WU K a (λ_=>E) (A8 Q) (start ["self","place"] vs) H:=by
 obtain⟨A,w,rows,n,cs,outs,pl,i,j,rfl,T,TP,B,hp,q,qe⟩:=h
 obtain⟨dx,hb⟩:=B.bk.ob
 obtain⟨kvs,hl,hv,_⟩:=B.bk.lat
 push_cast[WU,↓My,↓Mz]
 refine⟨_,_,hb,DN (by decide +kernel),A,w,rows,n,cs,outs,pl,i,j,rfl,T,TP,B,hp,λh=> ?_,qe⟩
 push_cast[]
 refine⟨_,_,_,hb,T.cl,T.nL,_,gD,A.lt,rfl,.inr ⟨_,.inl hl⟩,_,fM hl hp,?_⟩
 rw[hv]
 have:=q h
 cases e:D3 cs i j with
 | none=>rw[e]at this;exact this
 | some k=>rw[e]at this;exact this
theorem BookIn.len{C D:Addr}{A:BA}{w:Nat}{cs:List Ch}{outs:Int->Bool}(B:BookIn C D H A w cs outs):∃ xs,H A.m=some (.lst xs)/\xs.length=cs.length:=by
 obtain⟨chs,e,p⟩:=B.made
 exact⟨_,e,by rw[List.length_map,p.length]⟩
theorem Zh(h:QR K a vs H Q E):VB K a (λ_=>E) (A8 Q) (start ["self","numbers","number"] vs) H:=by
 obtain⟨A,w,rows,n,cs,outs,nl,ns,rfl,T,B,hs,q,qe⟩:=h
 obtain⟨dx,hb⟩:=B.bk.ob
 obtain⟨xs,hm,hml⟩:=B.bk.len
 push_cast[VB,↓hE,↓hR,↓hV]
 refine .inl ⟨⟨_,hs⟩,?_⟩
 refine K3 (xs:=ns.map V.int) (λi σ H'=>H'=H/\(∃ z,σ=[some (.ref A.b),some (.ref nl),z])/\∀ x∈ns.take i,known cs x) ⟨rfl,⟨_,rfl⟩,by simp⟩ (λi σ H' _ ⟨e,_⟩=>e ▸ hs) (λi x σ H' hx ⟨e,⟨z,ez⟩,kn⟩=> ?_) (λσ H' ⟨e,⟨z,ez⟩,kn⟩=> ?_)
 ·subst e;subst ez
  rw[List.getElem?_map,Option.map_eq_some_iff]at hx
  obtain⟨x',hx',rfl⟩:=hx
  push_cast[↓hE,↓hR,↓hV]
  have bad:¬ known cs x'->1<=sizeLine/\E (.ref (a "NoChange")) none H':=λh=>⟨by decide,qe ⟨x',List.mem_of_getElem? hx',h⟩⟩
  split
  ·rename_i h0
   refine⟨_,_,_,hb,T.cl,T.nM,_,J9,cs.length,.inl ⟨_,SqL.of hm,hml.symm⟩,?_⟩
   split
   ·exact bad λz=>by omega
   ·intro y hy
    rw[List.take_add_one,hx']at hy
    rcases List.mem_append.mp hy with hy | hy
    ·exact kn y hy
    ·simp only[Option.toList_some,List.mem_singleton]at hy
     subst hy
     exact⟨h0,by omega⟩
  ·exact bad λz=>by omega
 ·subst e
  refine q λx hx=>kn x ?_
  rw[List.length_map,List.take_length];exact hx
theorem Zj(h:KB K a vs H Q E):VA K a (λ_=>E) (A8 Q) (start ["self"] vs) H:=by
 obtain⟨A,w,rows,n,cs,outs,rfl,T,B,q⟩:=h
 obtain⟨dx,hb⟩:=B.bk.ob
 obtain⟨xs,hm,hml⟩:=B.bk.len
 obtain⟨C0,ho,hv,_⟩:=B.bk.out
 have sz:=B.bk.sz
 push_cast[VA,↓Hh]
 refine⟨_,_,_,hb,T.cl,T.nM,_,J9,cs.length,.inl ⟨_,SqL.of hm,hml.symm⟩,by omega,by omega,?_⟩
 refine Cv (λ(k:Nat)=> !outs k) (CT _ (by omega)) (λi hi QB qb=> ?_) λp hp=> ?_
 ·push_cast[D8]
  refine⟨_,_,_,hb,T.cl,T.nO,_,NQ,A.ou,rfl,_,dI ho,?_⟩
  rw[hv];exact qb
 ·exact q p _ hp (AQ hp) (by rw[AE];rfl)
theorem Zk(h:DZ K a vs H Q E):WZ K a (λ_=>E) (A8 Q) (start ["self","place","value","needs","ahead","number"] vs) H:=by
 obtain⟨A,w,rows,n,cs,outs,pl,nl,v,ns,i,j,rfl,T,TP,B,hp,hs,hl,hc,q,q1,q2⟩:=h
 obtain⟨dx,hb⟩:=B.bk.ob
 obtain⟨xs,hm,hml⟩:=B.bk.len
 push_cast[WZ,↓Pd]
 refine⟨_,_,hb,DN (by decide +kernel),A,w,rows,n,cs,outs,pl,i,j,rfl,T,TP,B,hp,λhon=> ?_,q1⟩
 push_cast[↓Pg]
 refine⟨_,_,hb,DN (by decide +kernel),A,w,rows,n,cs,outs,nl,ns,rfl,T,B,hs,λhkn=> ?_,q2 hon⟩
 push_cast[↓Ph]
 refine⟨_,_,_,hb,T.cl,T.nM,_,J9,cs.length,.inl ⟨_,SqL.of hm,hml.symm⟩,?_⟩
 push_cast[↓Pj]
 refine⟨_,_,_,hb,T.cl,T.nM,_,J9,.inl ⟨rfl,_,SqL.of hm⟩,nl,ns,D3 cs i j,rfl,hs,hl,λt ks H1 s1 et kr km kl=> ?_⟩
 push_cast[]
 intro x dy hx hdy ndy
 refine⟨x,dy,pl,v,t,rfl,T,AE,rfl,?_⟩
 rw[G1]
 have s2:Same H1 (upd (upd H1 dy (.own x)) x (.ins (a "Change") dy (FG pl v t))):=(AQ hdy).trans (AQ (by rw[AG ndy.symm];exact hx))
 have ex:upd (upd H1 dy (.own x)) x (.ins (a "Change") dy (FG pl v t)) x=some (.ins (a "Change") dy (FG pl v t)):=AE
 revert s2 ex
 generalize upd (upd H1 dy (.own x)) x (.ins (a "Change") dy (FG pl v t))=H2
 intro s2 ex
 have s:=s1.trans s2
 have hxH:H x=none:=s1.free hx
 replace et:=s2 _ _ et
 obtain⟨chs,hm',pch⟩:=B.bk.made
 have GW:=B.bk.mil
 obtain⟨kvs,BC,hv,hkl⟩:=B.bk.lat
 obtain⟨C0,D1,hvo,hko⟩:=B.bk.out
 obtain⟨i0,i1,j0,j1⟩:=hon
 obtain⟨i',rfl⟩:∃ i':Nat,i=i':=⟨i.toNat,by omega⟩
 obtain⟨j',rfl⟩:∃ j':Nat,j=j':=⟨j.toNat,by omega⟩
 have hil:i'<A.ls.length:=by rw[B.nb];omega
 have el:=List.getElem?_eq_getElem hil
 have hll:=B.bk.mic i' _ el
 have hmem:A.ls[i']∈A.ls:=List.getElem_mem hil
 revert el hll hmem
 generalize A.ls[i']=l
 intro el hll hmem
 have ap:=B.bk.ap
 have nml:A.m≠l:=λz=>ap.2.1 (z ▸ hmem)
 have nil':A.mi≠l:=λz=>ap.2.2.1 (z ▸ hmem)
 have ncl:A.cl≠l:=λz=>ap.2.2.2.2.2 (z ▸ hmem)
 have klt:∀ {y:Addr} {o:HO},H2 y=some o->(∀ k,o≠.dT k)->y≠A.lt:=λe h=>BF e (s _ _ BC) (h _)
 have km':∀ {y:Addr} {o:HO},H2 y=some o->(∀ k,o≠.lst k)->y≠A.m:=λe h=>BF e (s _ _ hm') (h _)
 have kll:∀ {y:Addr} {o:HO},H2 y=some o->(∀ k,o≠.lst k)->y≠l:=λe h=>BF e (s _ _ hll) (h _)
 have hb2:=s _ _ hb
 have HP:=s _ _ hp
 have sz:=B.bk.sz
 have lenc:chs.length=cs.length:=pch.length
 refine⟨A.m,_,_,rfl,rfl,s _ _ hm',Nat.lt_of_lt_of_le (show(chs.map V.ref).length<1000 by rw[List.length_map];omega) (by decide),?_⟩
 push_cast[↓Pk]
 have bb:A.b≠A.m:=km' hb2 (by intro k z;cases z)
 have bl:A.b≠l:=kll hb2 (by intro k z;cases z)
 have bt:A.b≠A.lt:=klt hb2 (by intro k z;cases z)
 have pm:pl≠A.m:=km' HP (by intro k z;cases z)
 have pl':pl≠l:=kll HP (by intro k z;cases z)
 have pt:pl≠A.lt:=klt HP (by intro k z;cases z)
 have lt':l≠A.lt:=klt (s _ _ hll) (by intro k z;cases z)
 have mt:A.m≠A.lt:=klt (s _ _ hm') (by intro k z;cases z)
 have it:A.mi≠A.lt:=klt (s _ _ GW) (by intro k z;cases z)
 refine⟨_,_,_,by rw[AG bb];exact hb2,T.cl,T.nI,_,UX,C8 (by rw[AG pm];exact HP) (n:=0) rfl rfl (FR (SqL.of (by rw[AG ap.1.symm];exact s _ _ GW)) (n:=i') (v:=.ref l) rfl (by rw[List.getElem?_map,el];rfl) ⟨.inl ⟨rfl,_,SqL.of (by rw[AG nml.symm];exact s _ _ hll)⟩,?_⟩)⟩
 have bln:=gB cs i'
 refine⟨l,_,_,rfl,rfl,by rw[AG nml.symm];exact s _ _ hll,Nat.lt_of_lt_of_le (show((CI cs i').map λ(k:Nat)=>V.int k).length<1000 by rw[List.length_map];omega) (by decide),?_⟩
 push_cast[↓Pl,↓Pm]
 refine⟨_,_,_,by rw[AG bl,AG bb];exact hb2,T.cl,T.nL,_,gD,A.lt,rfl,_,Dm (by rw[AG lt'.symm,AG mt.symm];exact s _ _ BC) (by rw[AG pl',AG pm];exact HP) (by omega),?_⟩
 generalize eH:upd (upd (upd H2 A.m _) l _) A.lt (.dT (CB kvs [.inl ↑i',.inl ↑j'] (.int ↑cs.length)))=H5
 have kp:∀ y,y≠A.m->y≠l->y≠A.lt->H5 y=H2 y:=λy n1 n2 n3=>by rw[<-eH,AG n3,AG n2,AG n1]
 have s5:SameBut (λy=>y=A.m\/y=l\/y=A.lt) H H5:=λy o e ny=>by
  rw[kp y (λz=>ny (.inl z)) (λz=>ny (.inr (.inl z))) (λz=>ny (.inr (.inr z)))]
  exact s _ _ e
 have lo:∀ y,(y=A.m\/y=l\/y=A.lt)->EE (H y):=by
  rintro y (z | z | z)
  ·exact B.loose (.inl z)
  ·exact B.loose (.inr (.inr (.inl (z ▸ hmem))))
  ·exact B.loose (.inr (.inr (.inr (.inl z))))
 have BP:∀ y∈ks,0<=y/\y<cs.length:=λy hy=>by
  rcases(km y).mp hy with h | ⟨k,e,rfl⟩
  ·exact hkn y h
  ·exact⟨by omega,by have:=QD e;omega⟩
 refine q ⟨i0,i1,j0,j1⟩ hkn ks H5 kr km ⟨⟨⟨dx,by rw[kp _ bb bl bt];exact hb2⟩,⟨chs++[x],?_,Paired.snoc (Paired.mapP pch λy c h=>h.sb s5 lo) ⟨dy,pl,t,?_,?_,?_⟩⟩,?_,λk l' e=> ?_,B.bk.nd,⟨CB kvs [.inl ↑i',.inl ↑j'] (.int ↑cs.length),?_,λp q=> ?_,?_⟩,⟨C0,?_,hvo,?_⟩,?_,λc hc'=> ?_,λk c e=> ?_,ap,λk c e j ej=> ?_⟩,B.pk.sbL s5 lo ?_,B.nb⟩ (s5.wide λy z=> ?_)
 ·rw[<-eH,AG mt,AG nml,AE,List.map_append];rfl
 ·rw[kp x (km' ex (by intro k z;cases z)) (kll ex (by intro k z;cases z)) (klt ex (by intro k z;cases z))];exact ex
 ·rw[kp pl pm pl' pt];exact HP
 ·rw[kp t (km' et (by intro k z;cases z)) (kll et (by intro k z;cases z)) (klt et (by intro k z;cases z))];exact et
 ·rw[kp _ ap.1.symm nil' it];exact s _ _ GW
 ·rw[Fk]
  by_cases z:l'=l
  ·subst z
   have ek:k=i':=by
    obtain⟨h1,h2⟩:=List.getElem?_eq_some_iff.mp e
    obtain⟨h3,h4⟩:=List.getElem?_eq_some_iff.mp el
    exact(List.getElem_inj B.bk.nd).mp (h2.trans h4.symm)
   subst ek
   rw[<-eH,AG lt',AE]
   simp
  ·have nk:¬ i'=k:=λy=>by subst y;rw[el]at e;cases e;exact z rfl
   have hl':=B.bk.mic k l' e
   rw[kp l' (λy=>ap.2.1 (y ▸ List.mem_of_getElem? e)) z (klt (s _ _ hl') (by intro k z;cases z))]
   simp only[Int.toNat_natCast,if_neg nk]
   exact s _ _ hl'
 ·rw[<-eH,AE]
 ·rw[JQ,UT]
  by_cases z:p=i'/\q=j'
  ·obtain⟨rfl,rfl⟩:=z
   simp
  ·have z1:¬ ([Sum.inl p,Sum.inl q]:List AH)=[.inl ↑i',.inl ↑j']:=λy=>z (by simpa using y)
   have z2:¬ ((((i':Int).toNat:Nat):Int)=p/\(((j':Int).toNat:Nat):Int)=q):=λy=>z ⟨by omega,by omega⟩
   rw[if_neg z1,if_neg z2]
   exact hv p q
 ·have:=LU kvs [.inl ↑i',.inl ↑j'] (.int ↑cs.length)
  simp;omega
 ·rw[kp _ (km' (s _ _ D1) (by intro k z;cases z)) (kll (s _ _ D1) (by intro k z;cases z)) (klt (s _ _ D1) (by intro k z;cases z))];exact s _ _ D1
 ·exact hko.mono (by simp)
 ·simp;omega
 ·rcases List.mem_append.mp hc' with h | h
  ·exact B.bk.inn c h
  ·rw[List.mem_singleton.mp h]
   exact⟨by rw[Int.toNat_natCast];exact hil,(show(j':Int).toNat<w by omega)⟩
 ·rcases Nat.lt_or_ge k cs.length with h | h
  ·rw[List.getElem?_append_left h]at e
   exact B.bk.need k c e
  ·rw[List.getElem?_append_right h]at e
   have:k - cs.length=0:=by
    rcases Nat.eq_zero_or_pos (k - cs.length)with z | z
    ·exact z
    ·rw[List.getElem?_eq_none (by simp;omega)]at e;cases e
   rw[this]at e
   cases e
   exact⟨λy hy=>⟨(BP y hy).1,by have:=(BP y hy).2;omega⟩,kr,(show ks.length<=100 by omega)⟩
 ·rcases Nat.lt_or_ge k cs.length with h | h
  ·rw[List.getElem?_append_left h]at e
   rw[List.take_append_of_le_length (by omega)]at ej
   exact B.bk.chn k c e j ej
  ·rw[List.getElem?_append_right h]at e
   have:k - cs.length=0:=by
    rcases Nat.eq_zero_or_pos (k - cs.length)with z | z
    ·exact z
    ·rw[List.getElem?_eq_none (by simp;omega)]at e;cases e
   have hk:k=cs.length:=by omega
   subst hk
   rw[this]at e
   cases e
   rw[List.take_left' rfl]at ej
   exact(km _).mpr (.inr ⟨j,by simpa using ej,rfl⟩)
 ·rintro (z | z | z)
  ·exact ap.2.2.2.1 z
  ·exact ncl z
  ·obtain⟨ts,e,_⟩:=B.pk.ls
   exact klt (s _ _ e) (by intro k z;cases z) z
 ·rcases z with z | z | z
  ·exact .inl z
  ·exact .inr (.inr (.inl (z ▸ hmem)))
  ·exact .inr (.inr (.inr (.inl z)))
theorem BookIn.at{C D:Addr}{A:BA}{w:Nat}{cs:List Ch}{outs:Int->Bool}{H:Hp}(B:BookIn C D H A w cs outs){k:Nat}{c:Ch}(e:cs[k]? =some c):∃ xs x,H A.m=some (.lst xs)/\xs[k]? =some (.ref x)/\ChAt D H x c:=by
 obtain⟨chs,h,p⟩:=B.made
 obtain⟨x,ex,hx⟩:=JZ p e
 exact⟨_,x,h,by rw[List.getElem?_map,ex];rfl,hx⟩
theorem Zl(l:List Nat):BE l=(l.map λ(k:Nat)=>(k:Int)).map V.int:=by simp[BE]
theorem Zm{w n:Nat}{rows:List (List V)}{gp cl:Addr}{H1:Hp}{Q:Addr->Hp->Prop}{E:XK}(T:TB K a)(TP:D9 K a)(P:PlankAt a H1 gp cl w rows n)
  (q:∀ (A:BA) (H2:Hp),A.gp=gp->A.cl=cl->(∀ x o,H1 x=some o->x=cl\/¬ A.F x)->D4 a H2 A w rows n [] (λ_=>false)->Same H1 H2->Q A.b H2) :
  ∀ x dx,H1 x=none->H1 dx=none->dx≠x->NV K a [.ref x,.ref gp] (upd (upd H1 dx (.own x)) x (.ins (ER a) dx [])) (λv H2=>v=.non/\Q x H2) E:=λb db hb hdb ndb=>by
 have s0:Same H1 (upd (upd H1 db (.own b)) b (.ins (ER a) db [])):=(AQ hdb).trans (AQ (by rw[AG ndb.symm];exact hb))
 refine⟨b,gp,cl,db,w,rows,n,rfl,T,TP,P.same s0,AE,λm mi lt ou ls H4 hm GW BC D1 hls B4 sb4=>⟨rfl,?_⟩⟩
 refine q ⟨b,gp,m,mi,lt,ou,ls,cl⟩ H4 rfl rfl (λx o e=> ?_) B4 λy o e=>sb4 _ _ (s0 _ _ e) (BN e hb)
 by_cases z:x=cl
 ·exact .inl z
 ·refine .inr ?_
  have e':=s0 _ _ e
  rintro (y | y | y | y | y | y)
  ·rw[y]at e';rw[show(BA.mk b gp m mi lt ou ls cl).m=m from rfl,hm]at e';cases e'
  ·rw[y]at e';rw[show(BA.mk b gp m mi lt ou ls cl).mi=mi from rfl,GW]at e';cases e'
  ·rw[hls x y]at e';cases e'
  ·rw[y]at e';rw[show(BA.mk b gp m mi lt ou ls cl).lt=lt from rfl,BC]at e';cases e'
  ·rw[y]at e';rw[show(BA.mk b gp m mi lt ou ls cl).ou=ou from rfl,D1]at e';cases e'
  ·exact z y
theorem Zp(h:GS K a vs H Q E):W0 K a (λ_=>E) (A8 Q) (start ["self","place","number"] vs) H:=by
 obtain⟨A,w,rows,n,cs,outs,pl,i,j,rfl,T,TP,B,hp,q,qe⟩:=h
 obtain⟨dx,hb⟩:=B.bk.ob
 obtain⟨dp,hg⟩:=B.pk.ob
 push_cast[W0,↓Pp,↓Pq,↓Pw,↓Px]
 refine⟨_,_,hb,DN (by decide +kernel),A,w,rows,n,cs,outs,pl,i,j,rfl,T,TP,B,hp,λh=> ?_,qe⟩
 have q:=q h
 unfold D5 at q
 cases e:D3 cs i j with
 | none =>
  rw[e]at q
  push_cast[HD]
  refine⟨_,_,_,hb,T.cl,T.nG,_,NP,A.gp,rfl,_,_,hg,X4 _ _ _,C8 hp (n:=0) rfl rfl ?_⟩
  refine⟨A.gp,A.cl,w,rows,n,i,rfl,TP,B.pk,λb' row eb er vl hvl=> ?_,λz=>absurd h λy=>by omega⟩
  subst eb
  have s1:=AQ (o:=.lst row) hvl
  refine C8 (s1 _ _ hp) (n:=1) rfl rfl ?_
  have rl:=B.pk.wd row (List.mem_of_getElem? er)
  have hj:j.toNat<row.length:=by omega
  have ej:=List.getElem?_eq_getElem hj
  refine FR (SqL.of AE) (n:=j.toNat) (v:=row[j.toNat]) (by omega) ej ?_
  refine q _ _ ?_ s1
  rw[show((b':Int)).toNat=b' from by omega,er]
  exact ej
 | some k =>
  rw[e]at q
  push_cast[HD]
  have hk:=QD e
  have ec:=List.getElem?_eq_getElem hk
  obtain⟨chs,hm,pc⟩:=B.bk.made
  obtain⟨x,ex,dx',p1,n1,h1,h2,h3⟩:=JZ pc ec
  refine⟨_,_,_,hb,T.cl,T.nM,_,J9,FR (SqL.of hm) (n:=k) (v:=.ref x) rfl (by rw[List.getElem?_map,ex];rfl) ⟨x,rfl,_,_,_,h1,T.cc,T.nV,_,gC,q _ _ ?_ (Same.refl _)⟩⟩
  show(cs[k]?).map (·.val)=_
  rw[ec]
  rfl
theorem Zq(h:QS K a vs H Q E):VG K a (λ_=>E) (A8 Q) (start ["self","number","gone","need"] vs) H:=by
 obtain⟨A,w,rows,n,cs,outs,k,c,g,kvg,rfl,T,B,ec,hg,q⟩:=h
 obtain⟨dx,hb⟩:=B.bk.ob
 obtain⟨xs,cx,hm,ex,DP⟩:=B.bk.at ec
 obtain⟨dc,pl,nt,hc1,hc2,hc3⟩:=DP
 obtain⟨C0,ho,hv,_⟩:=B.bk.out
 push_cast[VG,↓VC,↓VD,↓VE,↓VF]
 refine⟨_,_,_,hb,T.cl,T.nM,_,J9,FR (SqL.of hm) rfl ex ⟨cx,rfl,_,_,_,hc1,T.cc,T.nN,_,Fm,nt,rfl,.inr ⟨⟨_,SqT.of hc3⟩,?_⟩⟩⟩
 refine Ab (xs:=c.nd.map V.int) (λi σ H'=>H'=H/\(∀ x∈c.nd.take i,(outs x || D0 kvg x)=true)/\∃ z,σ=[some (.ref A.b),some (.int k),some (.ref g),z]) ⟨rfl,by simp,_,rfl⟩ (λi σ H' _ ⟨e,_⟩=>e ▸ SqT.of hc3) (λi x σ H' hx hzz=> ?_) (λσ H' hzz=> ?_)
 ·obtain⟨e,al,z,ez⟩:=hzz
  subst e;subst ez
  rw[List.getElem?_map,Option.map_eq_some_iff]at hx
  obtain⟨y,hy,rfl⟩:=hx
  push_cast[↓VC,↓VD,↓VE,↓VF]
  have step:(outs y || D0 kvg y)=true->∀ x∈c.nd.take (i+1),(outs x || D0 kvg x)=true:=λh x hx=>by
   rw[List.take_add_one,hy]at hx
   rcases List.mem_append.mp hx with hx | hx
   ·exact al x hx
   ·have:x=y:=by simpa using hx
    exact this ▸ h
  refine⟨_,_,_,hb,T.cl,T.nO,_,NQ,A.ou,rfl,_,dI ho,?_⟩
  rw[hv]
  cases h1:outs y with
  | true =>
   push_cast[]
   exact step (by rw[h1];rfl)
  | false =>
   push_cast[]
   refine⟨_,dI hg,?_⟩
   cases h2:(BJ kvg (.inl y)).isSome with
   | true =>
    push_cast[]
    exact step (by show(outs y || (BJ kvg (.inl y)).isSome)=true;rw[h2];simp)
   | false =>
    push_cast[]
    have e:K8 c.nd (λx=>outs x || D0 kvg x)=some y:=by
     obtain⟨hi,e⟩:=List.getElem?_eq_some_iff.mp hy
     unfold K8
     rw[List.find?_eq_some_iff_append]
     refine⟨by show(!(outs y || (BJ kvg (.inl y)).isSome))=true;rw[h1,h2];rfl,c.nd.take i,c.nd.drop (i+1),?_,λx hx=>by show(!!(outs x || D0 kvg x))=true;rw[al x hx];rfl⟩
     rw[<-e,<-List.drop_eq_getElem_cons hi,List.take_append_drop]
    rw[e]at q
    exact q
 ·obtain⟨e,al,z,ez⟩:=hzz
  subst e;subst ez
  rw[List.length_map,List.take_length]at al
  push_cast[↓VC,↓VD,↓VE,↓VF]
  have e:K8 c.nd (λx=>outs x || D0 kvg x)=none:=List.find?_eq_none.mpr λx hx=>by show ¬ (!(outs x || D0 kvg x))=true;rw[al x hx];exact Bool.false_ne_true
  rw[e]at q
  exact q
def Zv(s:Pass)(m:Nat)(H1 H':Hp)(g ol hl:Addr):Prop:=∃ (kvg:List (AH × V)) (hs:List Addr),SameBut (λy=>y=g\/y=ol\/y=hl) H1 H'/\H' g=some (.dK kvg)/\(∀ x:Int,D0 kvg x=s.gone x)/\kvg.length<=m/\H' ol=some (.lst (s.out.map λ(k:Nat)=>V.int k)) ∧
 H' hl=some (.lst (hs.map V.ref))/\Paired (λx (p:Nat × Int)=>H' x=some (.tup [.int p.1,.int p.2])) hs s.held
theorem qY(kvs:List (AH × V))(k x:Int)(v:V):D0 (CB kvs (.inl k) v) x=(D0 kvs x || x == k):=by
 unfold D0
 rw[JQ]
 by_cases e:x=k
 ·subst e;simp
 ·have:¬ (Sum.inl x:AH)=Sum.inl k:=λz=>e (by simpa using z)
  rw[if_neg this];simp[e]
theorem Zw (h:QT K a vs H Q E):WK K a (λ_=>E) (A8 Q) (start ["self","block","taken","gone","out","held","number","lack"] vs) H:=by
  obtain⟨A,w,rows,n,cs,outs,b,tk,kvt,rfl,T,B,hbl,htk,hkt,q⟩:=h
  obtain⟨dx,hb⟩:=B.bk.ob
  push_cast[WK,↓V9,↓WA,↓WB,↓WC,↓WD,↓WE,↓WF,↓WG,↓WH,↓WI,↓WJ]
  refine⟨_,htk,λg hg=>⟨by decide,λol hol=>⟨by decide,λhl hhl=> ?_⟩⟩⟩
  have s1:Same H (upd (upd (upd H g (.dK kvt)) ol (.lst [])) hl (.lst [])):=((AQ hg).trans (AQ hol)).trans (AQ hhl)
  have ngo:g≠ol:=BN AE hol
  have nol:ol≠hl:=BN AE hhl
  have ngl:g≠hl:=BN (by rw[AG ngo];exact AE) hhl
  have eg:upd (upd (upd H g (.dK kvt)) ol (.lst [])) hl (.lst []) g=some (.dK kvt):=by rw[AG ngl,AG ngo,AE]
  have eo:upd (upd (upd H g (.dK kvt)) ol (.lst [])) hl (.lst []) ol=some (.lst []):=by rw[AG nol,AE]
  have el:upd (upd (upd H g (.dK kvt)) ol (.lst [])) hl (.lst []) hl=some (.lst []):=AE
  have holH:H ol=none:=(AQ hg).free hol
  have hhlH:H hl=none:=((AQ hg).trans (AQ hol)).free hhl
  revert s1 eg eo el
  generalize upd (upd (upd H g (.dK kvt)) ol (.lst [])) hl (.lst [])=H1
  intro s1 eg eo el
  have hil:b<A.ls.length:=by rw[B.nb];exact hbl
  have ell:=List.getElem?_eq_getElem hil
  have hll:=B.bk.mic b _ ell
  revert ell hll
  generalize A.ls[b]=l
  intro ell hll
  refine⟨_,_,_,s1 _ _ hb,T.cl,T.nI,_,UX,FR (SqL.of (s1 _ _ B.bk.mil)) (n:=b) (v:=.ref l) rfl (by rw[List.getElem?_map,ell];rfl) ⟨l,rfl,.inl ⟨⟨_,SqL.of (s1 _ _ hll)⟩,?_⟩⟩⟩
  have bln:=gB cs b
  have sz:=B.bk.sz
  have G:∀ {H':Hp},SameBut (λy=>y=g\/y=ol\/y=hl) H1 H'->Same H H':=λsb y o e=>sb _ _ (s1 _ _ e) (by
    rintro (z | z | z)
    ·rw[z,hg]at e;cases e
    ·rw[z,holH]at e;cases e
    ·rw[z,hhlH]at e;cases e)
  refine K3 (xs:=(CI cs b).map λ(k:Nat)=>V.int k) (λi σ H'=>Zv (((CI cs b).take i).foldl (C9 cs outs) ⟨[],[],D0 kvt⟩) (1000+i) H1 H' g ol hl/\∃ z1 z2,σ=[some (.ref A.b),some (.int b),some (.ref tk),some (.ref g),some (.ref ol),some (.ref hl),z1,z2])
    ⟨⟨kvt,[],SameBut.refl _,eg,λ_=>rfl,by omega,eo,el,.nil⟩,_,_,rfl⟩ (λi σ H' _ ⟨⟨kvg,hs,sb,_⟩,_⟩=>SqL.of (G sb _ _ hll)) (λi x σ H' hx ⟨iv,z1,z2,ez⟩=> ?_) (λσ H' ⟨iv,z1,z2,ez⟩=> ?_)
  · subst ez
    have hi:=(List.getElem?_eq_some_iff.mp hx).1
    rw[List.length_map]at hi
    rw[List.getElem?_map,Option.map_eq_some_iff]at hx
    obtain⟨k,hk,rfl⟩:=hx
    have hkc:=UW (List.mem_of_getElem? hk)
    have ec:=List.getElem?_eq_getElem hkc
    revert ec
    generalize cs[k]=c
    intro ec
    have hszs:=gG (cs:=cs) (outs:=outs) ((CI cs b).take i) ⟨[],[],D0 kvt⟩
    have es:=gH (C9 cs outs) (⟨[],[],D0 kvt⟩:Pass) hk
    revert iv hszs es
    generalize ((CI cs b).take i).foldl (C9 cs outs) ⟨[],[],D0 kvt⟩=s
    generalize ((CI cs b).take (i+1)).foldl (C9 cs outs) ⟨[],[],D0 kvt⟩=s'
    intro iv hszs es
    obtain⟨kvg,hs,sb,e1,e2,e3,e4,e5,e6⟩:=iv
    simp only[List.length_nil,List.length_take]at hszs
    have sH:=G sb
    have B':=B.same sH
    obtain⟨C0,ho,hv,_⟩:=B.bk.out
    push_cast[↓V9,↓WA,↓WB,↓WC,↓WD,↓WE,↓WF,↓WG,↓WH,↓WI,↓WJ]
    refine⟨_,_,_,sH _ _ hb,T.cl,T.nO,_,NQ,A.ou,rfl,_,dI (sH _ _ ho),?_⟩
    rw[hv]
    unfold C9 at es
    cases h1:outs k with
    | true =>
      rw[h1,Bool.true_or,if_pos rfl]at es
      push_cast[]
      rw[es]
      exact⟨kvg,hs,sb,e1,e2,by omega,e4,e5,e6⟩
    | false =>
      rw[h1,Bool.false_or]at es
      push_cast[]
      refine⟨_,dI e1,?_⟩
      have e2k:(BJ kvg (.inl (k:Int))).isSome=s.gone k:=e2 k
      rw[e2k]
      cases h2:s.gone k with
      | true =>
        rw[h2,if_pos rfl]at es
        push_cast[]
        rw[es]
        exact⟨kvg,hs,sb,e1,e2,by omega,e4,e5,e6⟩
      | false =>
        rw[h2,if_neg Bool.false_ne_true,ec]at es
        push_cast[]
        refine⟨_,_,sH _ _ hb,DN (by decide +kernel),A,w,rows,n,cs,outs,k,c,g,kvg,rfl,T,B',ec,e1,?_⟩
        have efn:(λx=>outs x || D0 kvg x)=λx=>outs x || s.gone x:=by funext x;rw[e2]
        rw[efn]
        simp only[Option.bind_some]at es
        cases h3:K8 c.nd (λx=>outs x || s.gone x)with
        | none =>
          rw[h3]at es
          dsimp only at es
          dsimp only [U5]
          rw[if_pos rfl]
          refine⟨_,pI e1 (by omega),.inl ⟨rfl,_,SqL.of (by rw[AG ngo.symm];exact e4)⟩,ol,_,_,rfl,rfl,by rw[AG ngo.symm];exact e4,Nat.lt_of_lt_of_le (show(s.out.map λ(k:Nat)=>V.int k).length<1000 by rw[List.length_map];omega) (by decide),?_⟩
          rw[es]
          refine⟨_,hs,?_,by rw[AG ngo,AE],λx=>by rw[qY,e2],?_,by rw[AE,List.map_append];rfl,by rw[AG nol.symm,AG ngl.symm];exact e5,Paired.mapP e6 λx p e=> ?_⟩
          · intro y o e ny
            rw[AG λz=>ny (.inr (.inl z)),AG λz=>ny (.inl z)]
            exact sb _ _ e ny
          · have:=LU kvg (.inl (k:Int)) (.bl true)
            omega
          ·rw[AG (BF e e4 (by intro z;cases z)),AG (BF e e1 (by intro z;cases z))];exact e
        | some l' =>
          rw[h3]at es
          dsimp only at es
          dsimp only [U5]
          rw[if_neg (by intro z;cases z)]
          refine⟨.inl ⟨rfl,_,SqL.of e5⟩,by decide,λtp htp=> ?_⟩
          have ntl:hl≠tp:=BN e5 htp
          refine⟨hl,_,_,rfl,rfl,by rw[AG ntl];exact e5,Nat.lt_of_lt_of_le (show(hs.map V.ref).length<1000 by rw[List.length_map,e6.length];omega) (by decide),?_⟩
          rw[es]
          have s2:=AQ (o:=.tup [.int (k:Int),.int l']) htp
          have kp:∀ y,y≠hl->y≠tp->upd (upd H' tp (.tup [.int (k:Int),.int l'])) hl (.lst (hs.map V.ref++[.ref tp])) y=H' y:=λy n1 n2=>by rw[AG n1,AG n2]
          refine⟨kvg,hs++[tp],?_,by rw[kp g ngl (BN e1 htp)];exact e1,e2,by omega,by rw[kp ol nol (BN e4 htp)];exact e4,by rw[AE,List.map_append];rfl,Paired.snoc (Paired.mapP e6 λx p e=> ?_) ?_⟩
          · intro y o e ny
            have e':=sb _ _ e ny
            rw[kp y (λz=>ny (.inr (.inr z))) (BN e' htp)];exact e'
          ·rw[kp x (BF e e5 (by intro z;cases z)) (BN e htp)];exact e
          ·rw[AG ntl.symm,AE]
  · subst ez
    rw[List.length_map,List.take_length]at iv
    push_cast[↓V9,↓WA,↓WB,↓WC,↓WD,↓WE,↓WF,↓WG,↓WH,↓WI,↓WJ]
    obtain⟨kvg,hs,sb,e1,e2,e3,e4,e5,e6⟩:=iv
    refine⟨by decide,λt ht=> ?_⟩
    have s2:=AQ (o:=.tup [.ref ol,.ref hl]) ht
    exact q t ol hl _ holH hhlH nol ((G sb).trans s2) ⟨AE,s2 _ _ e4,hs,s2 _ _ e5,Paired.mapP e6 λx p e=>s2 _ _ e⟩
theorem Zx(h:QU K a vs H Q E):VN K a (λ_=>E) (A8 Q) (start ["self","values","block","laid","number"] vs) H:=by
 obtain⟨A,w,rows,n,cs,outs,b,vl,row,rfl,T,B,hbl,hvl,OJ,q⟩:=h
 obtain⟨dx,hb⟩:=B.bk.ob
 obtain⟨C0,ho,hv,_⟩:=B.bk.out
 push_cast[VN,↓VH,↓VI,↓VJ,↓VL,↓VM]
 refine⟨_,.inl (SqL.of hvl),λla hla=> ?_⟩
 have s1:=AQ (o:=.lst row) hla
 have hil:b<A.ls.length:=by rw[B.nb];exact hbl
 have ell:=List.getElem?_eq_getElem hil
 have hll:=B.bk.mic b _ ell
 revert ell hll
 generalize A.ls[b]=l
 intro ell hll
 refine⟨_,_,_,s1 _ _ hb,T.cl,T.nI,_,UX,FR (SqL.of (s1 _ _ B.bk.mil)) (n:=b) (v:=.ref l) rfl (by rw[List.getElem?_map,ell];rfl) ⟨l,rfl,.inl ⟨⟨_,SqL.of (s1 _ _ hll)⟩,?_⟩⟩⟩
 have sk:∀ o,Same H (upd H la o):=λo=>AQ hla
 refine K3 (xs:=(CI cs b).map λ(k:Nat)=>V.int k) (λi σ H'=>H'=upd H la (.lst (((CI cs b).take i).foldl (FS cs outs) row))/\∃ z1,σ=[some (.ref A.b),some (.ref vl),some (.int b),some (.ref la),z1])
  ⟨rfl,_,rfl⟩ (λi σ H' _ ⟨e,_⟩=>by rw[e];exact SqL.of (sk _ _ _ hll)) (λi x σ H' hx ⟨e,z1,ez⟩=> ?_) (λσ H' ⟨e,z1,ez⟩=> ?_)
 ·subst e;subst ez
  rw[List.getElem?_map,Option.map_eq_some_iff]at hx
  obtain⟨k,hk,rfl⟩:=hx
  have hkc:=UW (List.mem_of_getElem? hk)
  have ec:=List.getElem?_eq_getElem hkc
  revert ec
  generalize cs[k]=c
  intro ec
  have es:=gH (FS cs outs) row hk
  have BV:=UY (cs:=cs) (outs:=outs) ((CI cs b).take i) row
  revert es BV
  generalize ((CI cs b).take i).foldl (FS cs outs) row=r
  generalize ((CI cs b).take (i+1)).foldl (FS cs outs) row=r'
  intro es BV
  have sH:=sk (.lst r)
  push_cast[↓VH,↓VI,↓VJ,↓VL,↓VM]
  refine⟨_,_,_,sH _ _ hb,T.cl,T.nO,_,NQ,A.ou,rfl,_,dI (sH _ _ ho),?_⟩
  rw[hv]
  unfold FS at es
  cases h1:outs k with
  | false =>
   rw[h1,if_neg Bool.false_ne_true]at es
   push_cast[]
   rw[es]
  | true =>
   rw[h1,if_pos rfl,ec]at es
   dsimp only at es
   push_cast[]
   obtain⟨xs,cx,hm,ex,dc,pl,nt,hc1,hc2,hc3⟩:=(B.same sH).bk.at ec
   have hcell:=(B.bk.inn c (List.mem_of_getElem? ec)).2
   refine⟨_,_,_,sH _ _ hb,T.cl,T.nM,_,J9,FR (SqL.of hm) rfl ex ⟨cx,rfl,_,_,_,hc1,T.cc,T.nV,_,gC,?_⟩⟩
   refine⟨_,_,_,sH _ _ hb,T.cl,T.nM,_,J9,FR (SqL.of hm) rfl ex ⟨cx,rfl,_,_,_,hc1,T.cc,T.nP,_,Fl,C8 hc2 (n:=1) rfl rfl ?_⟩⟩
   refine⟨la,r,(c.cell:Int),c.cell,rfl,rfl,AE,?_,?_⟩
   ·unfold IM
    rw[if_pos (by omega),if_pos (by omega),Int.toNat_natCast]
   ·rw[G1,es]
 ·subst e;subst ez
  rw[List.length_map,List.take_length]
  push_cast[↓VH,↓VI,↓VJ,↓VL,↓VM]
  exact q la _ hla (sk _) AE
theorem Zy(h:QW K a vs H Q E):WV K a (λ_=>E) (A8 Q) (start ["self","block","values","told","number"] vs) H:=by
 obtain⟨A,w,rows,n,cs,outs,b,rfl,T,TP,B,q,qe⟩:=h
 obtain⟨dx,hb⟩:=B.bk.ob
 obtain⟨dp,hg⟩:=B.pk.ob
 push_cast[WV,↓RI,↓RJ,↓RK,↓RL,↓RM,↓RN]
 refine⟨_,_,_,hb,T.cl,T.nG,_,NP,A.gp,rfl,_,_,hg,X4 _ _ _,A.gp,A.cl,w,rows,n,b,rfl,TP,B.pk,λb' row eb er vl hvl=> ?_,qe⟩
 subst eb
 push_cast[]
 have hbl:=(List.getElem?_eq_some_iff.mp er).1
 have s1:=AQ (o:=.lst row) hvl
 have ev:upd H vl (.lst row) vl=some (.lst row):=AE
 revert s1 ev
 generalize upd H vl (.lst row)=H1
 intro s1 ev
 refine⟨_,_,s1 _ _ hb,DN (by decide +kernel),λe0 he0=> ?_⟩
 have s2:=s1.trans (AQ (o:=.dK []) he0)
 refine⟨A,w,rows,n,cs,outs,b',e0,[],rfl,T,B.same s2,hbl,AE,by simp,λt ol hl H3 hol hhl nol s3 told=> ?_⟩
 have R0:=s2.trans s3
 have ev3:=s3 _ _ (AQ he0 _ _ ev)
 have holH:=s2.free hol
 have hhlH:=s2.free hhl
 have hasnil:(D0 ([]:List (AH × V)))=λ_=>false:=rfl
 rw[hasnil]at told
 obtain⟨ht,ho3,hs,hh3,hpr⟩:=told
 obtain⟨rise,fresh,_⟩:=U0 (cs:=cs) (outs:=outs) (b:=b')
 have eW:EA cs outs b'=λx=>outs x || (outcome cs outs (λ_=>false) b').out.any λ(k:Nat)=>x ==(k:Int):=rfl
 replace q:=λH' a1 a2 a3=>q b' row t ol hl H' rfl er holH hhlH nol a1 a2 a3
 revert ho3 hpr rise fresh eW q
 generalize outcome cs outs (λ_=>false) b'=oc
 generalize EA cs outs b'=ow
 intro ho3 hpr rise fresh eW q
 push_cast[]
 refine C8 ht (n:=0) rfl rfl ⟨ol,rfl,.inl ⟨⟨_,SqL.of ho3⟩,?_⟩⟩
 obtain⟨C0,D1,hvo,hko⟩:=B.bk.out
 have hou3:=R0 _ _ D1
 have fO:¬ A.F ol:=B.off holH
 have fL:¬ A.F hl:=B.off hhlH
 have nou:ol≠A.ou:=λz=>fO (.inr (.inr (.inr (.inr (.inl z)))))
 refine K3 (xs:=oc.out.map λ(k:Nat)=>V.int k) (λi σ H'=>(∃ kv,H'=upd H3 A.ou (.dK kv)/\(∀ x:Int,(BJ kv (.inl x)).isSome=(outs x || (oc.out.take i).any λ(k:Nat)=>x ==(k:Int)))/\KeysOk kv cs.length)/\∃ z1,σ=[some (.ref A.b),some (.int b'),some (.ref vl),some (.ref t),z1])
  ⟨⟨C0,?_,λx=>by rw[hvo];simp,hko⟩,_,rfl⟩ (λi σ H' _ ⟨⟨kv,e,_⟩,_⟩=>by rw[e];exact SqL.of (by rw[AG nou];exact ho3)) (λi x σ H' hx ⟨⟨kv,e,hv,hk⟩,z1,ez⟩=> ?_) (λσ H' ⟨⟨kv,e,hv,hk⟩,z1,ez⟩=> ?_)
 ·funext y
  by_cases e:y=A.ou
  ·subst e;rw[AE];exact hou3
  ·rw[AG e]
 ·subst e;subst ez
  rw[List.getElem?_map,Option.map_eq_some_iff]at hx
  obtain⟨k,ek,rfl⟩:=hx
  have hkm:=List.mem_of_getElem? ek
  have hkc:=UW (fresh k hkm).2
  have hnone:BJ kv (.inl (k:Int))=none:=by
   have:=hv k
   rw[(fresh k hkm).1,Bool.false_or]at this
   have z:(oc.out.take i).any (λ(j:Nat)=>(k:Int) ==(j:Int))=false:=by
    rw[List.any_eq_false]
    intro j hj
    obtain⟨m,hm,e⟩:=List.getElem_of_mem hj
    rw[List.length_take]at hm
    rw[List.getElem_take]at e
    obtain⟨hi,e2⟩:=List.getElem?_eq_some_iff.mp ek
    have:=List.pairwise_iff_getElem.mp rise m i (by omega) hi (by omega)
    rw[e,e2]at this
    simp;omega
   rw[z]at this
   exact Option.isSome_eq_false_iff.mp this |> Option.isNone_iff_eq_none.mp
  push_cast[↓RI,↓RJ,↓RK,↓RL,↓RM,↓RN]
  have hb3:upd H3 A.ou (.dK kv) A.b=some (.ins (ER a) dx (bf A.gp A.m A.mi A.lt A.ou)):=by
   rw[AG (BF (R0 _ _ hb) hou3 (by intro z;cases z))];exact R0 _ _ hb
  refine⟨_,_,_,hb3,T.cl,T.nO,_,NQ,A.ou,rfl,_,pI AE (by have:=hk.len;have:=B.bk.sz;omega),_,G1,λx=> ?_,hk.put hkc hnone _⟩
  have:=qY kv k x (.bl true)
  unfold D0 at this
  rw[this,hv,List.take_add_one,ek,List.any_append,Bool.or_assoc]
  simp
 ·subst e;subst ez
  rw[List.length_map,List.take_length]at hv
  replace hv:∀ x:Int,(BJ kv (.inl x)).isSome=ow x:=λx=>by rw[hv,eW]
  push_cast[↓RI,↓RJ,↓RK,↓RL,↓RM,↓RN]
  have lou:EE (H A.ou):=NR D1
  have kb:∀ {y:Addr} {o:HO},H y=some o->y≠A.ou->upd H3 A.ou (.dK kv) y=some o:=λe n=>by rw[AG n];exact R0 _ _ e
  have sb4:SameBut (· =A.ou) H (upd H3 A.ou (.dK kv)):=λy o e n=>kb e n
  have B4:D4 a (upd H3 A.ou (.dK kv)) A w rows n cs ow:=by
   obtain⟨⟨b1,b2,b3,b4,b5,b6,_,b8,b9,b10,b11,b12⟩,pk,nb⟩:=B
   have g:∀ x,x=A.ou->EE (H x):=λx e=>e ▸ lou
   obtain⟨dx',b1⟩:=b1
   obtain⟨chs,b2,b2'⟩:=b2
   obtain⟨kvs,b6,b6'⟩:=b6
   obtain⟨ts,pl1,pl2⟩:=pk.ls
   refine⟨⟨⟨dx',kb b1 (BF b1 D1 (by intro z;cases z))⟩,⟨chs,kb b2 (BF b2 D1 (by intro z;cases z)),Paired.mapP b2' λx c h=>h.sb sb4 g⟩,kb b3 (BF b3 D1 (by intro z;cases z)),λi l e=>kb (b4 i l e) (BF (b4 i l e) D1 (by intro z;cases z)),b5,⟨kvs,kb b6 (BF b6 D1 (by intro z;cases z)),b6'⟩,⟨kv,AE,hv,hk⟩,b8,b9,b10,b11,b12⟩,pk.sbL sb4 g (BF pl1 D1 (by intro z;cases z)),nb⟩
  have ev4:upd H3 A.ou (.dK kv) vl=some (.lst row):=by rw[AG (BF ev3 hou3 (by intro z;cases z))];exact ev3
  have ht4:upd H3 A.ou (.dK kv) t=some (.tup [.ref ol,.ref hl]):=by rw[AG (BF ht hou3 (by intro z;cases z))];exact ht
  have ho4:upd H3 A.ou (.dK kv) ol=some (.lst (oc.out.map λ(k:Nat)=>V.int k)):=by rw[AG nou];exact ho3
  have hh4:upd H3 A.ou (.dK kv) hl=some (.lst (hs.map V.ref)):=by rw[AG (BF hh3 hou3 (by intro z;cases z))];exact hh3
  have hp4:Paired (λx (p:Nat × Int)=>upd H3 A.ou (.dK kv) x=some (.tup [.int p.1,.int p.2])) hs oc.held:=Paired.mapP hpr λx p e=>by rw[AG (BF e hou3 (by intro z;cases z))];exact e
  revert sb4 B4 ev4 ht4 ho4 hh4 hp4
  generalize upd H3 A.ou (.dK kv)=H4
  intro sb4 B4 ev4 ht4 ho4 hh4 hp4
  obtain⟨dx4,hb4⟩:=B4.bk.ob
  obtain⟨dp4,hg4⟩:=B4.pk.ob
  refine⟨_,_,_,hb4,T.cl,T.nG,_,NP,A.gp,rfl,_,_,hg4,Yy _ _ _,_,_,hb4,DN (by decide +kernel),A,w,rows,n,cs,ow,b',vl,row,rfl,T,B4,hbl,ev4,B.pk.wd row (List.mem_of_getElem? er),λll H5 hll5 s5 ell5=> ?_⟩
  have B5:=B4.same s5
  refine⟨A.gp,A.cl,w,rows,n,b',ll,EF cs ow b' row,rfl,TP,B5.pk,SqL.of ell5,by rw[gF,B.pk.wd row (List.mem_of_getElem? er)];have:=B.pk.sw;omega,λi ei hi hxw H6 P6 sb6=> ?_,λz=> ?_⟩
  ·have ei:b'=i:=by omega
   subst ei
   push_cast[↓RI,↓RJ,↓RK,↓RL,↓RM,↓RN]
   obtain⟨ts5,pl5,pt5⟩:=B5.pk.ls
   obtain⟨dp5,hg5⟩:=B5.pk.ob
   have ap:=B5.bk.ap
   have nF:∀ {y:Addr} {o:HO},H5 y=some o->(∀ C d f,o≠.ins C d f)->(∀ xs,o≠.lst xs)->¬ (y=A.gp\/y=A.cl):=λe n1 n2=>by
    rintro (z | z)
    ·exact BF e hg5 (n1 _ _ _) z
    ·exact BF e pl5 (n2 _) z
   have gp_b:A.b≠A.gp:=by
    obtain⟨d5,hb5⟩:=B5.bk.ob
    exact BF hb5 hg5 (L9 (by simp[bf,pf]))
   have k6:∀ {y:Addr} {o:HO},H5 y=some o->y≠A.gp->y≠A.cl->H6 y=some o:=λe n1 n2=>sb6 _ _ e (by rintro (z | z);exact n1 z;exact n2 z)
   have notins:∀ {y:Addr} {o:HO},H5 y=some o->(∀ C d f,o≠.ins C d f)->y≠A.gp:=λe n=>BF e hg5 (n _ _ _)
   have B6:D4 a H6 A w (rows.set b' (EF cs ow b' row)) (n+1) cs ow:=by
    obtain⟨⟨b1,b2,b3,b4,b5,b6,b7,b8,b9,b10,b11,b12⟩,pk,nb⟩:=B5
    obtain⟨dx',b1⟩:=b1
    obtain⟨chs,b2,b2'⟩:=b2
    obtain⟨kvs,b6,b6'⟩:=b6
    obtain⟨kvo',b7,b7'⟩:=b7
    refine⟨⟨⟨dx',k6 b1 gp_b (BF b1 pl5 (by intro z;cases z))⟩,⟨chs,k6 b2 (notins b2 (by intro _ _ _ z;cases z)) ap.2.2.2.1.symm,Paired.mapP b2' λx c h=> ?_⟩,k6 b3 (notins b3 (by intro _ _ _ z;cases z)) ap.2.2.2.2.1.symm,λi l e=>k6 (b4 i l e) (notins (b4 i l e) (by intro _ _ _ z;cases z)) (λz=>ap.2.2.2.2.2 (z ▸ List.mem_of_getElem? e)),b5,⟨kvs,k6 b6 (notins b6 (by intro _ _ _ z;cases z)) (BF b6 pl5 (by intro z;cases z)),b6'⟩,⟨kvo',k6 b7 (notins b7 (by intro _ _ _ z;cases z)) (BF b7 pl5 (by intro z;cases z)),b7'⟩,b8,b9,b10,b11,b12⟩,P6,by rw[nb,List.length_set]⟩
    obtain⟨dc,p1,n1,h1,h2,h3⟩:=h
    exact⟨dc,p1,n1,k6 h1 (BF h1 hg5 (L9 (by simp[FG,pf]))) (BF h1 pl5 (by intro z;cases z)),k6 h2 (notins h2 (by intro _ _ _ z;cases z)) (BF h2 pl5 (by intro z;cases z)),k6 h3 (notins h3 (by intro _ _ _ z;cases z)) (BF h3 pl5 (by intro z;cases z))⟩
   have ncO:ol≠A.cl:=λz=>fO (.inr (.inr (.inr (.inr (.inr z)))))
   have ncL:hl≠A.cl:=λz=>fL (.inr (.inr (.inr (.inr (.inr z)))))
   have ht5:=s5 _ _ ht4
   have ho5:=s5 _ _ ho4
   have hh5:=s5 _ _ hh4
   refine q H6 ⟨k6 ht5 (notins ht5 (by intro _ _ _ z;cases z)) (BF ht5 pl5 (by intro z;cases z)),k6 ho5 (notins ho5 (by intro _ _ _ z;cases z)) ncO,hs,k6 hh5 (notins hh5 (by intro _ _ _ z;cases z)) ncL,Paired.mapP hp4 λx p e=> ?_⟩ B6 λy o e ny=> ?_
   ·have e5:=s5 _ _ e
    exact k6 e5 (notins e5 (by intro _ _ _ z;cases z)) (BF e5 pl5 (by intro z;cases z))
   ·exact k6 (s5 _ _ (sb4 _ _ e λz=>ny (.inl (.inr (.inr (.inr (.inr (.inl z)))))))) (λz=>ny (.inr z)) (λz=>ny (.inl (.inr (.inr (.inr (.inr (.inr z)))))))
  ·rcases z with z | z | z
   ·omega
   ·omega
   ·exact absurd (by rw[gF,B.pk.wd row (List.mem_of_getElem? er)]) z
theorem Zz(h:QK K a vs H Q E):VV K a (λ_=>E) (A8 Q) (start ["self","names","records","pieces","cells"] vs) H:=by
 obtain⟨p,dx,n,r,c,w,rfl,T,hp,b1,b2,b3,b4,b5,q⟩:=h
 push_cast[VV,↓Jb,↓Jc,↓Jd,↓Jg]
 refine⟨_,_,_,hp,T.cl,T.n1,by decide,_,_,_,AE,T.cl,T.n2,IX (by decide),_,_,_,AE,T.cl,T.n3,IX (n:=1000) (Nat.succ_lt_succ (IX (n:=999) (by decide))),_,_,_,AE,T.cl,T.n4,?_,?_⟩
 ·exact IX (n:=1000) (Nat.succ_lt_succ (IX (n:=999) (Nat.succ_lt_succ (IX (n:=998) (by decide)))))
 ·rw[Gh,G1,G1,G1]
  exact q _ ⟨⟨dx,AE⟩,b1,b2,b3,b4,b5⟩ λb o e hb=>by rw[AG hb];exact e
theorem zaa(h:GR K a vs H Q E):VY K a (λ_=>E) (A8 Q) (start ["self","block","k"] vs) H:=by
 obtain⟨p,n,r,c,w,k,b,rfl,T,L,q⟩:=h
 obtain⟨dx,e⟩:=L.ob
 have:=L.h1
 have:=L.hw
 push_cast[VY,↓Jk]
 refine⟨_,_,_,e,T.cl,T.n4,_,MD,?_⟩
 push_cast[]
 refine⟨⟨by omega,by omega⟩,_,_,_,e,T.cl,T.n4,_,MD,?_⟩
 push_cast[]
 exact⟨by omega,by decide,q⟩
theorem zab(h:FH K a vs H Q E):WO K a (λ_=>E) (A8 Q) (start ["self","k"] vs) H:=by
 obtain⟨p,n,r,c,w,k,rfl,T,L,q⟩:=h
 obtain⟨dx,e⟩:=L.ob
 push_cast[WO,↓Mm]
 exact⟨_,_,e,CA (by decide +kernel),p,n,r,c,w,k,0,rfl,T,L,q⟩
theorem zac(h:FI K a vs H Q E):WP K a (λ_=>E) (A8 Q) (start ["self","k"] vs) H:=by
 obtain⟨p,n,r,c,w,k,rfl,T,L,q⟩:=h
 obtain⟨dx,e⟩:=L.ob
 push_cast[WP,↓Mp]
 exact⟨_,_,e,CA (by decide +kernel),_,_,_,e,T.cl,T.n1,_,QJ,p,n,r,c,w,k,_,rfl,T,L,q⟩
theorem zad(h:NU K a vs H Q E):WQ K a (λ_=>E) (A8 Q) (start ["self","k"] vs) H:=by
 obtain⟨p,n,r,c,w,k,rfl,T,L,q⟩:=h
 obtain⟨dx,e⟩:=L.ob
 push_cast[WQ,↓Mq]
 refine⟨_,_,e,CA (by decide +kernel),_,_,_,e,T.cl,T.n1,_,QJ,_,_,_,e,T.cl,T.n2,_,NT,?_⟩
 push_cast[]
 exact⟨p,n,r,c,w,k,_,rfl,T,L,q⟩
theorem zae(h:IY K a vs H Q E):WR K a (λ_=>E) (A8 Q) (start ["self","k"] vs) H:=by
 obtain⟨p,n,r,c,w,k,rfl,T,L,q⟩:=h
 obtain⟨dx,e⟩:=L.ob
 push_cast[WR,↓Mv]
 exact⟨_,_,e,CA (by decide +kernel),_,_,e,CA (by decide +kernel),p,n,r,c,w,rfl,T,L,p,n,r,c,w,k,_,rfl,T,L,q⟩
theorem zaf(h:HB K a vs H Q E):WS K a (λ_=>E) (A8 Q) (start ["self","k"] vs) H:=by
 obtain⟨p,n,r,c,w,k,rfl,T,L,q⟩:=h
 obtain⟨dx,e⟩:=L.ob
 push_cast[WS,↓Mw]
 refine⟨_,_,e,CA (by decide +kernel),_,_,e,CA (by decide +kernel),p,n,r,c,w,rfl,T,L,_,_,_,e,T.cl,T.n2,_,NT,?_⟩
 push_cast[]
 exact⟨p,n,r,c,w,k,_,rfl,T,L,q⟩
theorem zag(h:KA K a vs H Q E):VX K a (λ_=>E) (A8 Q) (start ["self"] vs) H:=by
 obtain⟨p,n,r,c,w,rfl,T,L,q⟩:=h
 obtain⟨dx,e⟩:=L.ob
 push_cast[VX,↓Jj]
 refine⟨_,_,_,e,T.cl,T.n1,_,QJ,_,_,_,e,T.cl,T.n2,_,NT,?_⟩
 push_cast[]
 refine⟨_,_,_,e,T.cl,T.n3,_,U2,?_⟩
 push_cast[]
 exact q
theorem zah(h:HZ K a vs H Q E):WT K a (λ_=>E) (A8 Q) (start ["self"] vs) H:=by
 obtain⟨p,n,r,c,w,rfl,T,L,q⟩:=h
 obtain⟨dx,e⟩:=L.ob
 push_cast[WT,↓Mx]
 refine⟨_,_,e,CA (by decide +kernel),p,n,r,c,w,rfl,T,L,_,_,_,e,T.cl,T.n2,_,NT,?_⟩
 push_cast[]
 refine⟨_,_,_,e,T.cl,T.n3,_,U2,?_⟩
 push_cast[]
 exact q
theorem zai(h:FT K a vs H Q E):VW K a (λ_=>E) (A8 Q) (start ["self"] vs) H:=by
 obtain⟨p,n,r,c,w,rfl,T,L,q⟩:=h
 obtain⟨dx,e⟩:=L.ob
 obtain⟨_,b1,b2,b3,b4,b5⟩:=L
 push_cast[VW,↓Jh]
 refine⟨_,_,_,e,T.cl,T.n1,_,QJ,_,_,_,e,T.cl,T.n4,_,MD,?_⟩
 push_cast[]
 refine⟨.inl ⟨by omega,by omega⟩,_,_,_,e,T.cl,T.n2,_,NT,_,_,_,e,T.cl,T.n4,_,MD,?_⟩
 push_cast[]
 refine⟨.inl ⟨by omega,by omega⟩,_,_,_,e,T.cl,T.n3,_,U2,_,_,_,e,T.cl,T.n4,_,MD,?_⟩
 push_cast[]
 exact⟨.inl ⟨by omega,by omega⟩,by decide,q⟩
theorem zaj(h:QL K a vs H Q E):WW K a (λ_=>E) (A8 Q) (start ["self"] vs) H:=by
 obtain⟨p,n,r,c,w,rfl,T,TP,L,q⟩:=h
 obtain⟨dx,e⟩:=L.ob
 have LL:=L
 obtain⟨_,b1,b2,b3,b4,b5⟩:=L
 push_cast[WW,↓Nb]
 refine⟨_,_,e,CA (by decide +kernel),p,n,r,c,w,rfl,T,LL,_,_,_,e,T.cl,T.n4,_,MD,λx dx' hx hdx hne=> ?_⟩
 have s3:Same H (upd (upd H dx' (.own x)) x (.ins (a "Plank") dx' [])):=(AQ hdx).trans (AQ (by rw[AG hne.symm];exact hx))
 refine⟨x,dx',n+r+c+r+c,w,by simp,TP,AE,by omega,b4,by omega,λcl H2 BH P2 s4=>⟨rfl,q x cl H2 hx (s3.free BH) P2 λb o eb=>s4 _ _ (s3 _ _ eb) (BN eb hx)⟩⟩
theorem zak{f:Nat->Bool}{m i:Nat}(hi:i<m)(h:f i=true)(hl:∀ j<i,f j=false):EH f m=i:=by
 unfold EH
 have:(List.range m).find? f=some i:=by
  rw[List.find?_eq_some_iff_append]
  refine⟨h,List.range i,(List.range (m - i - 1)).map (i+1+·),?_,λj hj=>by rw[hl j (List.mem_range.mp hj)];rfl⟩
  have e1:m=i+(1+(m - i - 1)):=by omega
  conv=>lhs;rw[e1]
  rw[List.range_add,List.range_add]
  simp[Nat.add_assoc,Function.comp_def]
 rw[this]
theorem zal{f:Nat->Bool}{m:Nat}(hl:∀ j<m,f j=false):EH f m= -1:=by
 unfold EH
 have:(List.range m).find? f=none:=List.find?_eq_none.mpr λj hj=>by rw[hl j (List.mem_range.mp hj)];exact Bool.false_ne_true
 rw[this]
theorem zam{n:Nat}{H:Hp}{v:V}{xs:List V}(hx:∀ z∈xs,QX z)(hv:GoodV n H v)(hf:GJ v=true):IP v xs=decide (v∈xs):=by
 rw[Bool.eq_iff_iff,decide_eq_true_iff]
 unfold IP
 rw[List.any_eq_true]
 have key:∀ z,QX z->(FY z v=true↔z=v):=λz hz=>by
  rcases hz with rfl | ⟨i,rfl⟩<;>(cases v<;>first | (simp[FY];done) | (cases n<;>exact hv.elim) | (simp[GJ]at hf))
 constructor
 ·rintro ⟨z,hz,e⟩
  rw[<-(key z (hx z hz)).mp e];exact hz
 ·intro h
  exact⟨v,h,(key v (hx v h)).mpr rfl⟩
def EU(H H':Hp):Prop:=∀ b xs,H b=some (.tup xs)->H' b=some (.tup xs)
theorem GoodV.keep{H H':Hp}(k:EU H H'):∀ {n:Nat} {v:V},GoodV n H v->GoodV n H' v
 | 0,_,h=>h
 | _+1,.int _,_=>trivial
 | _+1,.non,_=>trivial
 | _+1,.str _,h=>h
 | n+1,.ref p,⟨xs,h1,h2,h3⟩=>⟨xs,k _ _ h1,h2,λv hv=>(h3 v hv).keep k⟩
theorem Same.tk{H H':Hp}(s:Same H H'):EU H H':=λb xs e=>s _ _ e
theorem zan{v:V}{vl:Addr}{xs:List V}(hg:GoodV 4 H v)(hv:H vl=some (.tup xs))(hx:∀ z∈xs,QX z)(q:Q (.bl (decide (v∈xs))) H):P0 K v (.ref vl) H Q:=by
 have fx:xs.all GJ=true:=List.all_eq_true.mpr λz hz=>by rcases hx z hz with rfl | ⟨i,rfl⟩<;>rfl
 have flat:GJ v=true->P0 K v (.ref vl) H Q:=λhf=>.inl ⟨vl,xs,rfl,.inr (SqT.of hv),hf,fx,by
  show Q (.bl (IP v xs)) H
  rw[zam hx hg hf];exact q⟩
 cases v with
 | ref t =>
  obtain⟨ys,e,_⟩:=hg
  have:decide ((V.ref t)∈xs)=false:=decide_eq_false λhm=>by rcases hx _ hm with z | ⟨i,z⟩<;>cases z
  rw[this]at q
  exact .inr ⟨t,ys,vl,xs,rfl,SqT.of e,rfl,SqT.of hv,hx,q⟩
 | int i=>exact flat rfl
 | non=>exact flat rfl
 | str z=>exact flat rfl
 | _=>exact hg.elim
theorem zao(h:JA K a vs H Q E):W3 K a (λ_=>E) (A8 Q) (start ["hold","places","values","k","place"] vs) H:=by
 obtain⟨A,w,rows,n,cs,outs,pl,vl,ts,xs,f,m,rfl,T,TP,B,hp,hm,hm2,hv,hx,hf,q,qe⟩:=h
 obtain⟨dx,ho⟩:=B.bk.ob
 push_cast[W3,↓Qh]
 refine⟨⟨_,SqL.of hp⟩,fV (xs:=ts.map V.ref) (λi σ H'=>(Same H H'/\∀ j<i,f j=false)/\∃ x y,σ=[some (.ref A.b),some (.ref pl),some (.ref vl),x,y]) ⟨⟨Same.refl _,λj hj=>absurd hj (Nat.not_lt_zero _)⟩,_,_,rfl⟩ (λi σ H' _ ⟨⟨s,_⟩,_⟩=>SqL.of (s _ _ hp)) (λi x σ H' t hx' ⟨⟨s,lo⟩,x0,y0,ez⟩ ht=> ?_) (λσ H' ⟨⟨s,lo⟩,x0,y0,ez⟩=> ?_)⟩
 ·subst ez
  rw[List.getElem?_map]at hx'
  cases et:ts[i]? with
  | none=>rw[et]at hx';cases hx'
  | some tt =>
   rw[et]at hx'
   cases hx'
   obtain⟨bi,bj,v,e1,on,ev,gv,ef⟩:=hf i tt et
   have s2:=s.trans (AQ (o:=.tup [.int (i:Int),.ref tt]) ht)
   push_cast[]
   refine⟨_,SqT.of AE,rfl,_,_,rfl,_,_,rfl,rfl,?_⟩
   revert s2
   generalize upd H' t (.tup [.int (i:Int),.ref tt])=H2
   intro s2
   push_cast[↓Qg,↓Qd]
   refine⟨_,_,s2 _ _ ho,DN (by decide +kernel),A,w,rows,n,cs,outs,tt,bi,bj,rfl,T,TP,B.same s2,s2 _ _ e1,λ_ v' H3 ev' s3=> ?_,λz=>absurd on z⟩
   rw[ev]at ev'
   cases ev'
   have s4:=s2.trans s3
   refine zan (gv.keep s4.tk) (s4 _ _ hv) hx ?_
   rw[<-ef]
   push_cast[]
   cases hfi:f i with
   | true=>exact q i (zak (by have:=(List.getElem?_eq_some_iff.mp et).1;omega) hfi lo) _ s4
   | false=>exact⟨s4,λj hj=>by
     rcases Nat.lt_or_ge j i with z | z
     ·exact lo j z
     ·rw[show j=i by omega];exact hfi⟩
 ·subst ez
  push_cast[↓Qj]
  rw[List.length_map,hm]at lo
  exact⟨by decide,qe (zal lo) _ s⟩
theorem X5{m w:Nat}{B:Nat->Int}{te:TE}{cap:List Nat}{σ:St}{H:Hp}{Q:VK}(hm:m<=1000)(ht:∀ i H' Q',i<m->Same H H'->GQ (B i) (i % w:Nat) Q' H'->te (some (.int (0+(i:Int)))::D8 cap σ) H' Q')
  (q:∀ (ts:List Addr) (H':Hp) (l:Addr),ts.length=m->Same H H'->(∀ k t,ts[k]? =some t->H' t=some (.tup [.int (B k),.int (k % w:Nat)]))->H' l=some (.lst (ts.map V.ref))->Q (.ref l) H'):G8 (GD 0 m) (AM 0) DV te 1 cap σ H Q:=by
 refine NL (CT m (by omega)) (λi ys H'=>Same H H'/\∃ ts:List Addr,ys=ts.map V.ref/\ts.length=i/\∀ k t,ts[k]? =some t->H' t=some (.tup [.int (B k),.int (k % w:Nat)])) ⟨Same.refl _,[],rfl,rfl,λk t h=>by simp at h⟩ (λi ys H' hi hl hzz=> ?_) λys H' hl ⟨s,ts,e,el,h⟩ l hl'=> ?_
 ·obtain⟨s,ts,e,el,h⟩:=hzz
  refine ht i H' _ hi s λt htn=> ?_
  have st:=AQ (o:=.tup [.int (B i),.int (i % w:Nat)]) htn
  refine⟨s.trans st,ts++[t],by rw[e,List.map_append];rfl,by simp[el],λk t' hk=> ?_⟩
  rcases Nat.lt_or_ge k ts.length with z | z
  ·rw[List.getElem?_append_left z]at hk
   exact st _ _ (h k t' hk)
  ·rw[List.getElem?_append_right z]at hk
   have hk0:k - ts.length=0:=by
    rcases Nat.eq_zero_or_pos (k - ts.length)with z | z
    ·exact z
    ·rw[List.getElem?_eq_none (by simp;omega)]at hk;cases hk
   rw[hk0]at hk
   cases hk
   have:k=i:=by omega
   subst this
   exact AE
 ·subst e
  have st:=AQ (o:=.lst (ts.map V.ref)) hl'
  exact q ts _ l (by simpa using hl) (s.trans st) (λk t hk=>st _ _ (h k t hk)) AE
theorem qZ{rows:List (List V)}{w i j:Nat}(hw:∀ r∈rows,r.length=w)(hi:i<rows.length)(hj:j<w)(cs:List Ch):∃ v,D5 cs rows i j=some v:=by
 unfold D5
 cases e:D3 cs i j with
 | some k =>
  have:=QD e
  exact⟨_,by show(cs[k]?).map _=_;rw[List.getElem?_eq_getElem this];rfl⟩
 | none =>
  have er:=List.getElem?_eq_getElem hi
  have hl:=hw _ (List.mem_of_getElem? er)
  exact⟨rows[i][j],by show(rows[(i:Int).toNat]?).bind (λr=>r[(j:Int).toNat]?)=_;rw[Int.toNat_natCast,Int.toNat_natCast,er];exact List.getElem?_eq_getElem (by omega)⟩
theorem zap{n r c w kind k:Nat}(hk:kind<3)(h:k<AX n r c w kind):A5 n r c w kind k<n+r+c+r+c:=by
 unfold AX at h
 unfold A5
 have hd:k / w<(if kind=0 then n else if kind=1 then r else if kind=2 then c else if kind=3 then r else c):=Nat.div_lt_of_lt_mul (by rw[Nat.mul_comm];exact h)
 rcases(by omega:kind=0\/kind=1\/kind=2)with z | z | z<;>subst z<;>simp at hd ⊢ <;>omega
theorem rA{n r c w kind k:Nat}(h:k<AX n r c w kind):1<=w:=by
 unfold AX at h
 rcases Nat.eq_zero_or_pos w with z | z
 ·rw[z,Nat.mul_zero]at h;omega
 ·exact z
theorem RO{n r c w kind:Nat}(h1:n<=6)(h2:r<=6)(h3:c<=6)(h4:w<=6):AX n r c w kind<=36:=by
 unfold AX
 have h:(if kind=0 then n else if kind=1 then r else if kind=2 then c else if kind=3 then r else c)<=6:=by
  split<;>(try split)<;>(try split)<;>(try split)<;>omega
 exact Nat.mul_le_mul h h4
def MR(kind:Nat):List V:=if kind=0 then [.non]else [.non,.int 0]
theorem zaq(kind:Nat)(v:V):decide (v∈MR kind)=IZ kind v:=by
 unfold MR IZ
 by_cases h:kind=0
 ·subst h;simp
 ·rw[if_neg h];simp[Nat.pos_of_ne_zero h]
theorem X6{kind:Nat}{A:BA}{n r c w:Nat}{rows:List (List V)}{nn:Nat}{cs:List Ch}{outs:Int->Bool}{ts:List Addr}{l:Addr}{H':Hp}(hk:kind<3)(T:TB K a)(TP:D9 K a)(s:Same H H')(B:D4 a H A w rows nn cs outs)(hM:rows.length=n+r+c+r+c)(h1:n<=6)(h2:r<=6)(h3:c<=6)(h4:w<=6)
  (gh:∀ i j v,D5 cs rows i j=some v->GoodV 4 H v) (hts:ts.length=AX n r c w kind) (ht:∀ k t,ts[k]? =some t->H' t=some (.tup [.int (A5 n r c w kind k:Nat),.int (k % w:Nat)])) (el:H' l=some (.lst (ts.map V.ref)))
  (q:∀ k:Nat,EH (KC cs rows n r c w kind) (AX n r c w kind)=k->∀ H',Same H H'->Q (.int k) H') (qe:EH (KC cs rows n r c w kind) (AX n r c w kind)= -1->∀ H',Same H H'->E (.ref (a "NoRoom")) none H') :
  ∀ u,H' u=none->JA K a [.ref A.b,.ref l,.ref u] (upd H' u (.tup (MR kind))) Q E:=λu hu=>by
 have su:=AQ (o:=.tup (MR kind)) hu
 have s2:=s.trans su
 refine⟨A,w,rows,nn,cs,outs,l,u,ts,MR kind,KC cs rows n r c w kind,AX n r c w kind,rfl,T,TP,B.same s2,su _ _ el,hts,by have:=RO (kind:=kind) h1 h2 h3 h4;omega,AE,λz hz=> ?_,λk t hkt=> ?_,λk hk' H3 s3=>q k hk' H3 (s2.trans s3),λhk' H3 s3=>qe hk' H3 (s2.trans s3)⟩
 ·unfold MR at hz
  split at hz<;>simp at hz
  ·exact .inl hz
  ·rcases hz with z | z
   ·exact .inl z
   ·exact .inr ⟨0,z⟩
 ·have BC:k<AX n r c w kind:=by have:=(List.getElem?_eq_some_iff.mp hkt).1;omega
  have hb:=zap hk BC
  have hw:=rA BC
  have hj:k % w<w:=Nat.mod_lt _ (by omega)
  obtain⟨v,ev⟩:=qZ (λr' hr'=>B.pk.wd r' hr') (show A5 n r c w kind k<rows.length by omega) hj cs
  refine⟨_,_,v,su _ _ (ht k t hkt),⟨by omega,by omega,by omega,by omega⟩,ev,(gh _ _ _ ev).keep s2.tk,?_⟩
  unfold KC
  rw[ev,zaq]
theorem zar(h:MG K a vs H Q E):XF K a (λ_=>E) (A8 Q) (start ["layout","hold","places"] vs) H:=by
 obtain⟨p,b,rfl,A,n,r,c,w,rows,nn,cs,outs,rfl,T,TP,TL,L,h1,h2,h3,h4,B,hM,gh,q,qe⟩:=h
 obtain⟨dx,e⟩:=L.ob
 push_cast[XF,↓Sc,↓Sd]
 refine⟨_,_,e,CA (by decide +kernel),p,n,r,c,w,rfl,TL,L,λt ht=> ?_⟩
 have s1:=AQ (o:=.tup [V.int ((n:Int) * w),V.int ((r:Int) * w),V.int ((c:Int) * w)]) ht
 refine C8 AE (n:=0) rfl rfl ?_
 revert s1
 generalize upd H t (.tup [V.int ((n:Int) * w),V.int ((r:Int) * w),V.int ((c:Int) * w)])=H1
 intro s1
 have hk:=RO (kind:=0) h1 h2 h3 h4
 have em:(n:Int) * w=(AX n r c w 0:Nat):=by unfold AX;simp
 rw[em]
 push_cast[]
 refine⟨by omega,by omega,X5 (B:=λk=>(A5 n r c w 0 k:Nat)) (w:=w) (by omega) (λi H' Q' hi s' q'=> ?_) λts H' l hts s' htt el=> ?_⟩
 ·push_cast[D8]
  refine⟨_,_,s' _ _ (s1 _ _ e),CA (by decide +kernel),p,n,r,c,w,i,(by simp),TL,(L.same s1).same s',?_⟩
  unfold A5 at q'
  simpa using q'
 ·push_cast[]
  exact⟨by decide,X6 (kind:=0) (by decide) T TP (s1.trans s') B hM h1 h2 h3 h4 gh hts htt el q qe⟩
theorem zas(h:QZ K a vs H Q E):XG K a (λ_=>E) (A8 Q) (start ["layout","hold","marks"] vs) H:=by
 obtain⟨p,b,rfl,A,n,r,c,w,rows,nn,cs,outs,rfl,T,TP,TL,L,h1,h2,h3,h4,B,hM,gh,q,qe⟩:=h
 obtain⟨dx,e⟩:=L.ob
 push_cast[XG,↓Sg,↓Sh]
 refine⟨_,_,e,CA (by decide +kernel),p,n,r,c,w,rfl,TL,L,λt ht=> ?_⟩
 have s1:=AQ (o:=.tup [V.int ((n:Int) * w),V.int ((r:Int) * w),V.int ((c:Int) * w)]) ht
 refine C8 AE (n:=1) rfl rfl ?_
 revert s1
 generalize upd H t (.tup [V.int ((n:Int) * w),V.int ((r:Int) * w),V.int ((c:Int) * w)])=H1
 intro s1
 have hk:=RO (kind:=1) h1 h2 h3 h4
 have em:(r:Int) * w=(AX n r c w 1:Nat):=by unfold AX;simp
 rw[em]
 push_cast[]
 refine⟨by omega,by omega,X5 (B:=λk=>(A5 n r c w 1 k:Nat)) (w:=w) (by omega) (λi H' Q' hi s' q'=> ?_) λts H' l hts s' htt el=> ?_⟩
 ·push_cast[D8]
  refine⟨_,_,s' _ _ (s1 _ _ e),CA (by decide +kernel),p,n,r,c,w,i,(by simp),TL,(L.same s1).same s',?_⟩
  unfold A5 at q'
  simpa using q'
 ·push_cast[]
  exact⟨by decide,X6 (kind:=1) (by decide) T TP (s1.trans s') B hM h1 h2 h3 h4 gh hts htt el q qe⟩
theorem zat(h:Q0 K a vs H Q E):XH K a (λ_=>E) (A8 Q) (start ["layout","hold","marks"] vs) H:=by
 obtain⟨p,b,rfl,A,n,r,c,w,rows,nn,cs,outs,rfl,T,TP,TL,L,h1,h2,h3,h4,B,hM,gh,q,qe⟩:=h
 obtain⟨dx,e⟩:=L.ob
 push_cast[XH,↓Sj,↓Sk]
 refine⟨_,_,e,CA (by decide +kernel),p,n,r,c,w,rfl,TL,L,λt ht=> ?_⟩
 have s1:=AQ (o:=.tup [V.int ((n:Int) * w),V.int ((r:Int) * w),V.int ((c:Int) * w)]) ht
 refine C8 AE (n:=2) rfl rfl ?_
 revert s1
 generalize upd H t (.tup [V.int ((n:Int) * w),V.int ((r:Int) * w),V.int ((c:Int) * w)])=H1
 intro s1
 have hk:=RO (kind:=2) h1 h2 h3 h4
 have em:(c:Int) * w=(AX n r c w 2:Nat):=by unfold AX;simp
 rw[em]
 push_cast[]
 refine⟨by omega,by omega,X5 (B:=λk=>(A5 n r c w 2 k:Nat)) (w:=w) (by omega) (λi H' Q' hi s' q'=> ?_) λts H' l hts s' htt el=> ?_⟩
 ·push_cast[D8]
  refine⟨_,_,s' _ _ (s1 _ _ e),CA (by decide +kernel),p,n,r,c,w,i,(by simp),TL,(L.same s1).same s',?_⟩
  unfold A5 at q'
  simpa using q'
 ·push_cast[]
  exact⟨by decide,X6 (kind:=2) (by decide) T TP (s1.trans s') B hM h1 h2 h3 h4 gh hts htt el q qe⟩
theorem X7:∀ {n:Nat} {v:V},GoodV n H v->∃ d,Dat K H n v d
 | _+1,.int i,_=>⟨_,Dat.int i⟩
 | _+1,.non,_=>⟨_,Dat.non⟩
 | _+1,.str z,h=>⟨.str z,.str z,h,Nat.zero_le _⟩
 | n+1,.ref p,⟨xs,h1,h2,h3⟩=>by
  have:∀ (l:List V),(∀ v∈l,GoodV n H v)->∃ ds,Paired (Dat K H n) l ds:=λl=>by
   induction l with
   | nil=>exact λ_=>⟨[],.nil⟩
   | cons x r ih =>
    intro h
    obtain⟨d,hd⟩:=X7 (h x (List.mem_cons_self ..))
    obtain⟨ds,hds⟩:=ih λv hv=>h v (List.mem_cons_of_mem _ hv)
    exact⟨d::ds,.cons hd hds⟩
  obtain⟨ds,hds⟩:=this xs h3
  exact⟨_,Dat.tup (SqT.of h1) hds⟩
theorem zau{n:Nat}{l:List V}(h:∀ v∈l,GoodV n H v):∃ ds,Paired (Dat K H n) l ds:=by
 induction l with
 | nil=>exact⟨[],.nil⟩
 | cons x r ih =>
  obtain⟨d,hd⟩:=X7 (K:=K) (h x (List.mem_cons_self ..))
  obtain⟨ds,hds⟩:=ih λv hv=>h v (List.mem_cons_of_mem _ hv)
  exact⟨d::ds,.cons hd hds⟩
theorem rB{cs:List Ch}{rows:List (List V)}(g:goodH H cs rows){i j:Int}{v:V}(h:D5 cs rows i j=some v):GoodV 4 H v:=by
 unfold D5 at h
 cases e:D3 cs i j with
 | some k =>
  rw[e]at h
  have h:(cs[k]?).map (·.val)=some v:=h
  cases ec:cs[k]? with
  | none=>rw[ec]at h;cases h
  | some c =>
   rw[ec]at h
   cases h
   exact g.2 c (List.mem_of_getElem? ec)
 | none =>
  rw[e]at h
  have h:(rows[i.toNat]?).bind (λr=>r[j.toNat]?)=some v:=h
  cases er:rows[i.toNat]? with
  | none=>rw[er]at h;cases h
  | some r =>
   rw[er]at h
   exact g.1 r (List.mem_of_getElem? er) v (List.mem_of_getElem? h)
theorem goodH.keep{H H':Hp}{cs:List Ch}{rows:List (List V)}(g:goodH H cs rows)(k:EU H H'):goodH H' cs rows:=⟨λr hr v hv=>(g.1 r hr v hv).keep k,λc hc=>(g.2 c hc).keep k⟩
theorem zav{cs:List Ch}{rows:List (List V)}{i j:Int}{bi bj:Nat}{v:V}{nd:List Int}:D5 (cs++[⟨bi,bj,v,nd⟩]) rows i j=if(bi:Int)=i/\(bj:Int)=j then some v else D5 cs rows i j:=by
 unfold D5
 rw[UT]
 by_cases h:(bi:Int)=i/\(bj:Int)=j
 ·rw[if_pos h,if_pos h]
  simp
 ·rw[if_neg h,if_neg h]
  cases e:D3 cs i j with
  | none=>rfl
  | some k =>
   show((cs++[_])[k]?).map _=(cs[k]?).map _
   rw[List.getElem?_append_left (QD e)]
theorem JC{G:Addr->Prop}{H H':Hp}(s:SameBut G H H')(g:∀ x,G x->EE (H x)):EU H H':=λb xs e=>s _ _ e λz=>(g _ z).1 _ e
theorem X8{v:V}(hg:GoodV 4 H v)(q:Q (.bl false) H):EC K v v H Q:=by
 cases v with
 | int i=>rw[eB];simpa using q
 | non=>rw[eD];exact q
 | str z=>rw[eC];simpa using q
 | ref p =>
  obtain⟨d,D⟩:=X7 (K:=K) hg
  exact UG (by decide) D D q
 | _=>exact hg.elim
theorem rC{z:Str}{i:Int}{n:Nat}{c:Nat}{Q:VK}(hi:i=n)(hL:z.cps.toList.length<=1000)(hc:z.cps.toList[n]? =some c)(q:Q (.str ⟨#[c]⟩) H):CY K (.str z) (.int i) H Q:=by
 subst hi
 exact .inr (.inr ⟨z,n,c,rfl,rfl,Nat.le_trans (by simpa [Str.length]using hL) (CT _ (by omega)),O2 hc,q⟩)
theorem zaw{c:Nat}:[c]<(Str.ofString " ").cps.toList↔c<32:=by
 rw[show(Str.ofString " ").cps.toList=[32] by decide +kernel,List.cons_lt_cons_iff]
 simp
theorem zax{c:Nat}:(Str.ofString "~").cps.toList<[c]↔126<c:=by
 rw[show(Str.ofString "~").cps.toList=[126] by decide +kernel,List.cons_lt_cons_iff]
 simp
theorem zay{c:Nat}:[c]<(Str.ofString "a").cps.toList↔c<97:=by
 rw[show(Str.ofString "a").cps.toList=[97] by decide +kernel,List.cons_lt_cons_iff]
 simp
theorem zaz{c:Nat}:(Str.ofString "z").cps.toList<[c]↔122<c:=by
 rw[show(Str.ofString "z").cps.toList=[122] by decide +kernel,List.cons_lt_cons_iff]
 simp
theorem za0(h:Q1 K a vs H Q E):VO K a (λ_=>E) (A8 Q) (start ["sign"] vs) H:=by
 obtain⟨c,rfl,q⟩:=h
 push_cast[VO,↓Hj,zaw,zax]
 unfold U6 at q
 split
 ·rename_i h1
  split
  ·rename_i h2
   rw[show decide (32<=c)=true from decide_eq_true (by omega),show decide (c<=126)=true from decide_eq_true (by omega)]at q
   refine⟨rfl,?_⟩
   have e:(!decide (((#[c].getD 0 0:Nat):Int)=37))=decide (c≠37):=by
    rw[show(#[c]:Array Nat).getD 0 0=c from rfl,<-decide_not]
    exact decide_eq_decide.mpr (by omega)
   rw[e]
   simpa using q
  ·rename_i h2
   rw[show decide (c<=126)=false from decide_eq_false (by omega)]at q
   simpa using q
 ·rename_i h1
  rw[show decide (32<=c)=false from decide_eq_false (by omega)]at q
  simpa using q
theorem rD{z:Str}{f:Nat->Bool}{te:TE}{Q:VK}(hz:z.length<=1000)(ht:∀ c (Q':VK),Q' (.bl (f c)) H->te [some (.str ⟨#[c]⟩)] H Q')(q:∀ H',Same H H'->Q (.bl (z.cps.toList.all f)) H') :
  G8 (NM z) (AM 0) DV te 1 [] [some (.str z)] H λx H1=>NN K [x] H1 Q:=by
 have hs:z.cps.size=z.length:=rfl
 refine Am (CT _ (by omega)) (λi ys H'=>H'=H/\ys=(z.cps.toList.take i).map λc=>V.bl (f c)) ⟨rfl,by simp⟩ (λi c ys H' hc hl ⟨e1,e2⟩=> ?_) (λys H' hl ⟨e1,e2⟩ p hp=> ?_)
 ·subst e1
  refine ht c _ ⟨rfl,?_⟩
  have hc':z.cps.toList[i]? =some c:=by simpa using hc
  rw[List.take_add_one,hc',e2]
  simp
 ·subst e1
  have e3:ys=(z.cps.toList.map f).map V.bl:=by
   rw[e2,List.map_map,List.take_of_length_le (by simp)];rfl
  refine⟨p,z.cps.toList.map f,rfl,by rw[<-e3];exact SqL.of AE,?_⟩
  have:=q _ (AQ (o:=.lst ys) hp)
  rw[List.all_map]
  exact this
theorem za1(h:Q2 K a vs H Q E):VP K a (λ_=>E) (A8 Q) (start ["thing"] vs) H:=by
 obtain⟨z,rfl,hz,q⟩:=h
 push_cast[VP,↓Hk]
 unfold BM at q
 refine⟨z.length,⟨CT _ (by omega),rfl⟩,?_⟩
 split
 ·rename_i h1
  rw[show decide (1<=z.length)=true from decide_eq_true (by omega),Bool.true_and]at q
  by_cases h2:z.length<=8
  ·rw[show decide (z.length<=8)=true from decide_eq_true h2,Bool.true_and]at q
   rw[if_pos (by omega)]
   refine rD hz (λc Q' q'=> ?_) q
   push_cast[zay,zaz]
   unfold NW at q'
   split
   ·rename_i h3
    rw[show decide (97<=c)=true from decide_eq_true (by omega),Bool.true_and]at q'
    rw[show(!decide (122<c))=decide (c<=122) by rw[<-decide_not];exact decide_eq_decide.mpr (by omega)]
    exact q'
   ·rename_i h3
    rw[show decide (97<=c)=false from decide_eq_false (by omega),Bool.false_and]at q'
    exact q'
  ·rw[show decide (z.length<=8)=false from decide_eq_false h2,Bool.false_and]at q
   rw[if_neg (by omega)]
   exact q _ (Same.refl _)
 ·rename_i h1
  rw[show decide (1<=z.length)=false from decide_eq_false (by omega),Bool.false_and,Bool.false_and]at q
  exact q _ (Same.refl _)
theorem za2(h:Q3 K a vs H Q E):WL K a (λ_=>E) (A8 Q) (start ["thing"] vs) H:=by
 obtain⟨z,rfl,hz,q⟩:=h
 push_cast[WL,↓Ly]
 unfold MH at q
 refine⟨z.length,⟨CT _ (by omega),rfl⟩,?_⟩
 split
 ·rename_i h1
  rw[show decide (1<=z.length)=true from decide_eq_true (by omega),Bool.true_and]at q
  by_cases h2:z.length<=40
  ·rw[show decide (z.length<=40)=true from decide_eq_true h2,Bool.true_and]at q
   rw[if_pos (by omega)]
   refine rD hz (λc Q' q'=> ?_) q
   push_cast[]
   exact⟨c,rfl,q'⟩
  ·rw[show decide (z.length<=40)=false from decide_eq_false h2,Bool.false_and]at q
   rw[if_neg (by omega)]
   exact q _ (Same.refl _)
 ·rename_i h1
  rw[show decide (1<=z.length)=false from decide_eq_false (by omega),Bool.false_and,Bool.false_and]at q
  exact q _ (Same.refl _)
theorem rE(x y:Str):(x++y).length=x.length+y.length:=PySem.strLen_append x y
theorem X9(x:Int){n:Nat}(h:1<=n):∃ b:Nat,x % (n:Int)=b/\b<n :=
  ⟨(x % (n:Int)).toNat,by have:=Int.emod_nonneg x (show(n:Int)≠0 by omega);omega,by
    have:=Int.emod_lt_of_pos x (show(0:Int)<n by omega)
    have:=Int.emod_nonneg x (show(n:Int)≠0 by omega);omega⟩
theorem za3{z:Str}{i:Int}{n:Nat}{Q:VK}(hi:i=n)(hn:n<z.length)(hz:z.length<=1000)(q:∀ c,Q (.str ⟨#[c]⟩) H):CY K (.str z) (.int i) H Q:=by
 subst hi
 have hn':n<z.cps.toList.length:=by simpa [Str.length]using hn
 exact .inr (.inr ⟨z,n,z.cps.toList[n],rfl,rfl,CT _ (by omega),O2 (List.getElem?_eq_getElem hn'),q _⟩)
section
variable{lp b tk:Addr}
theorem HF:(sf lp b tk).lookup ("plan":Str)=some (V.ref lp):=by simp[sf]
theorem HG:(sf lp b tk).lookup ("book":Str)=some (V.ref b):=by
 simp[sf,List.lookup_cons,CL (a:="book") (b:="plan") (by decide +kernel)]
theorem YA:(sf lp b tk).lookup ("taken_out":Str)=some (V.ref tk):=by
 simp[sf,List.lookup_cons,CL (a:="taken_out") (b:="plan") (by decide +kernel),CL (a:="taken_out") (b:="book") (by decide +kernel)]
theorem B2{x:Str}(h:(E3 x "plan" || E3 x "book" || E3 x "taken_out")=false):(sf lp b tk).lookup x=none:=by
 simp only[Bool.or_eq_false_iff]at h
 obtain⟨⟨h1,h2⟩,h3⟩:=h
 simp[sf,List.lookup_cons,CL h1,CL h2,CL h3]
theorem za4:A7 "taken_out" (.ref tk) (A7 "book" (.ref b) (A7 "plan" (.ref lp) []))=sf lp b tk:=by
 repeat (first | rw[MB] | rw[MA (by decide +kernel)])
 rfl
end
theorem za5{w k k':Nat}(h1:k / w=k' / w)(h2:k % w=k' % w):k=k':=by
 rw[<-Nat.div_add_mod k w,<-Nat.div_add_mod k' w,h1,h2]
theorem za6{f:Nat->Bool}{m k:Nat}(h:EH f m=k):k<m:=by
 unfold EH at h
 cases e:(List.range m).find? f with
 | none=>rw[e]at h;simp at h
 | some k' =>
  rw[e]at h
  have:=List.mem_range.mp (List.mem_of_find?_eq_some e)
  simp at h
  omega
theorem rF{z:Str}(h:BM z=true):PyData.strOk z=true:=by
 unfold BM at h
 rw[Bool.and_eq_true]at h
 have h:=h.2
 unfold PyData.strOk
 rw[<-Array.all_toList]
 rw[List.all_eq_true]at h ⊢
 intro c hc
 have:=h c hc
 simp only[NW,Bool.and_eq_true,decide_eq_true_eq]at this ⊢
 omega
theorem RepC.keep{H H':Hp}(k:EU H H'):∀ {x:CV} {v:V},RepC H x v->RepC H' x v
 | .no,_,h=>h
 | .nm _ _,_,⟨t,e,et⟩=>⟨t,e,k _ _ et⟩
 | .mk _,_,h=>h
 | .rc _ _,_,⟨t,u,e,et,eu⟩=>⟨t,u,e,k _ _ et,k _ _ eu⟩
 | .tx _,_,h=>h
theorem LaidA.keep{n r c w:Nat}{H H':Hp}{cs:List Ch}{as:List AC}(k:EU H H')(h:LaidA n r c w H cs as):LaidA n r c w H' cs as:=by
 induction h with
 | nil=>exact .nil
 | snoc _ e1 e2 e3 e4 e5 e6 ih=>exact ih.snoc e1 e2 (e3.keep k) e4 e5 e6
theorem SM.same{H H':Hp}{S:SA}{n r c w:Nat}{rows:List (List V)}{nn:Nat}{cs:List Ch}{outs:Int->Bool}{tks:List (AH × V)}{M:Hs}(I:SM a H S n r c w rows nn cs outs tks M)(s:Same H H'):SM a H' S n r c w rows nn cs outs tks M:=by
 obtain⟨⟨dx,e1⟩,e2,e3,e4,e5,e6,e7,e8,e9,e10,e11,e12⟩:=I
 exact⟨⟨dx,s _ _ e1⟩,e2.same s,e3.same s,s _ _ e4,e5,e6,e7,e8,e9.keep s.tk,λkind k v h1 h2 hv=>(e10 kind k v h1 h2 hv).keep s.tk,e11,e12.keep s.tk⟩
theorem za7(h:HE K a vs H Q E):VQ K a (λ_=>E) (A8 Q) (start ["self"] vs) H:=by
 obtain⟨x,dx,lp,b,tk,rfl,T,e,q⟩:=h
 push_cast[VQ,↓Hl]
 exact⟨_,_,_,e,T.cl,T.n2,_,HG,q⟩
theorem BookAt.ins1{C:Addr}{H H':Hp}{A:BA}{w:Nat}{rows:List (List V)}{n:Nat}{cs:List Ch}{outs:Int->Bool}{x C' dx:Addr}{fs:List (Str × V)}(B:BookAt a C H A w rows n cs outs)(s:SameBut (· =x) H H')(hx:H x=some (.ins C' dx fs))(hf:fs.length<=2):BookAt a C H' A w rows n cs outs:=by
 obtain⟨⟨⟨d1,e1⟩,⟨chs,e2,e3⟩,e4,e5,e6,⟨kvs,e7,e8⟩,⟨C0,e9,e10⟩,r1,r2,r3,r4,r5⟩,⟨⟨d2,f1⟩,⟨ts,f2,f3⟩,f4,f5,f6⟩,nb⟩:=B
 have o:∀ {y:Addr} {o:HO},H y=some o->(∀ C'' d'' ,o≠.ins C'' d'' fs)->H' y=some o:=λe h=>s _ _ e (BF e hx (h _ _))
 have oi:∀ {y:Addr} {C'' d'':Addr} {gs:List (Str × V)},H y=some (.ins C'' d'' gs)->2<gs.length->H' y=some (.ins C'' d'' gs):=λe h=>o e λ_ _ z=>by injection z with _ _ z;rw[z]at h;omega
 have ol:∀ {y:Addr} {o':HO},H y=some o'->(∀ C'' d'' gs,o'≠.ins C'' d'' gs)->H' y=some o':=λe h=>o e λ_ _=>h _ _ _
 exact⟨⟨⟨d1,oi e1 (by simp[bf])⟩,⟨chs,ol e2 (by intros;simp),Paired.mapP e3 λy c ⟨d,pl,nt,g1,g2,g3⟩=>⟨d,pl,nt,oi g1 (by simp[FG]),ol g2 (by intros;simp),ol g3 (by intros;simp)⟩⟩,ol e4 (by intros;simp),λi l h=>ol (e5 i l h) (by intros;simp),e6,⟨kvs,ol e7 (by intros;simp),e8⟩,⟨C0,ol e9 (by intros;simp),e10⟩,r1,r2,r3,r4,r5⟩,⟨⟨d2,oi f1 (by simp[pf])⟩,⟨ts,ol f2 (by intros;simp),Paired.mapP f3 λt r z=>ol z (by intros;simp)⟩,f4,f5,f6⟩,nb⟩
theorem za8(h:Q4 K a vs H Q E):W1 K a (λ_=>E) (A8 Q) (start ["self","layout","plank"] vs) H:=by
 obtain⟨x,dx,lp,gp,cl,n,r,c,w,rows,nn,M,rfl,⟨T,TP,TL,TS⟩,hx,L,P,sz,g,hrp,hok,q⟩:=h
 push_cast[W1,↓Py,↓Pz,↓Qb]
 refine⟨_,_,_,hx,TS.cl,TS.n1,by decide,?_⟩
 have e1:upd H x (.ins (a "Store") dx (A7 "plan" (.ref lp) [])) x=some (.ins (a "Store") dx (A7 "plan" (.ref lp) [])):=AE
 have s1:SameBut (· =x) H (upd H x (.ins (a "Store") dx (A7 "plan" (.ref lp) []))):=λy o e n=>by rw[AG n];exact e
 revert e1 s1
 generalize upd H x (.ins (a "Store") dx (A7 "plan" (.ref lp) []))=H1
 intro e1 s1
 have P1:PlankAt a H1 gp cl w rows nn:=by
  obtain⟨⟨dx',f1⟩,⟨ts,f2,f3⟩,r1,r2,r3⟩:=P
  exact⟨⟨dx',s1 _ _ f1 (BF f1 hx (L9 (by simp[pf])))⟩,⟨ts,s1 _ _ f2 (BF f2 hx (by intro z;cases z)),Paired.mapP f3 λt r z=>s1 _ _ z (BF z hx (by intro z;cases z))⟩,r1,r2,r3⟩
 have ncl:cl≠x:=by obtain⟨ts,z,_⟩:=P.ls;exact BF z hx (by intro z;cases z)
 refine Zm T TP P1 λA H2 eg ec off B s2=> ?_
 have hx2:=s2 _ _ e1
 refine⟨_,_,_,hx2,TS.cl,TS.n2,FA (n:=999) (by decide),λp hp=> ?_⟩
 have np:x≠p:=BN AE hp
 rw[AG np.symm]at hp
 refine⟨_,_,_,by rw[AG np,AE],TS.cl,TS.n3,FA (n:=999) (FA (n:=998) (by decide)),?_⟩
 rw[za4]
 have s3:SameBut (· =x) H2 (upd (upd (upd H2 x (.ins (a "Store") dx (A7 "book" (.ref A.b) (A7 "plan" (.ref lp) [])))) p (.dK [])) x (.ins (a "Store") dx (sf lp A.b p))):=λy o e n=>by
  rw[AG n,AG (BN e hp),AG n];exact e
 have e3:upd (upd (upd H2 x (.ins (a "Store") dx (A7 "book" (.ref A.b) (A7 "plan" (.ref lp) [])))) p (.dK [])) x (.ins (a "Store") dx (sf lp A.b p)) x=some (.ins (a "Store") dx (sf lp A.b p)):=AE
 have p3:upd (upd (upd H2 x (.ins (a "Store") dx (A7 "book" (.ref A.b) (A7 "plan" (.ref lp) [])))) p (.dK [])) x (.ins (a "Store") dx (sf lp A.b p)) p=some (.dK []):=by rw[AG np.symm,AE]
 revert s3 e3 p3
 generalize upd (upd (upd H2 x (.ins (a "Store") dx (A7 "book" (.ref A.b) (A7 "plan" (.ref lp) [])))) p (.dK [])) x (.ins (a "Store") dx (sf lp A.b p))=H3
 intro s3 e3 p3
 have B3:=B.ins1 s3 hx2 (Nat.le_trans (NC _ _ _) (by simp))
 have sb:SameBut (· =x) H H3:=(s1.trans (Same.sb s2)).trans s3
 have tk:EU H H3:=λb xs e=>sb _ _ e (BF e hx (by intro z;cases z))
 have hpH:H p=none:=s1.none (by rw[e1];intro z;cases z) (s2.free hp)
 obtain⟨dl,el⟩:=L.ob
 refine q ⟨A,x,lp,p⟩ H3 rfl rfl eg ec (λy o e=> ?_) hpH ⟨⟨dx,e3⟩,L.sb sb (BF el hx (L9 (by simp[lf]))),B3,p3,Nat.le_refl _,λz v h=>by simp[BJ]at h,B.off hp,sz,⟨λr hr v hv=>(g r hr v hv).keep tk,λc hc=>by cases hc⟩,λkind k v h1 h2 hv=>(hrp kind k v h1 h2 hv).keep tk,hok,.nil⟩ sb
 by_cases hy:y=x
 ·subst hy
  exact(off _ _ e1).imp id id
 ·exact off y o (s1 _ _ e hy)
section
variable{X:SX}{cs:List Ch}{tks:List (AH × V)}{M:Hs}
theorem YB{n r c w kind kind' k k':Nat}(h1:kind<5)(h2:kind'<5)(hk:k<AX n r c w kind)(hk':k'<AX n r c w kind')(e1:A5 n r c w kind k=A5 n r c w kind' k')(e2:k % w=k' % w):kind=kind'/\k=k':=by
 unfold AX at hk hk'
 unfold A5 at e1
 have d1:k / w<(if kind=0 then n else if kind=1 then r else if kind=2 then c else if kind=3 then r else c):=Nat.div_lt_of_lt_mul (by rw[Nat.mul_comm];exact hk)
 have d2:k' / w<(if kind'=0 then n else if kind'=1 then r else if kind'=2 then c else if kind'=3 then r else c):=Nat.div_lt_of_lt_mul (by rw[Nat.mul_comm];exact hk')
 have key:kind=kind'/\k / w=k' / w:=by
  generalize k / w=x at *
  generalize k' / w=y at *
  clear hk hk' e2
  rcases(by omega:kind=0\/kind=1\/kind=2\/kind=3\/kind=4)with z | z | z | z | z<;>rcases(by omega:kind'=0\/kind'=1\/kind'=2\/kind'=3\/kind'=4)with y | y | y | y | y<;>subst z<;>subst y<;>simp at d1 d2 e1 ⊢ <;>omega
 exact⟨key.1,za5 key.2 e2⟩
theorem LaidA.newest{n r c w:Nat}{H:Hp}{cs:List Ch}{as:List AC}(h:LaidA n r c w H cs as){kind k:Nat}(h1:kind<5)(hk:k<AX n r c w kind):D3 cs (A5 n r c w kind k:Nat) (k % w:Nat)=HC kind k as/\cs.length=as.length:=by
 induction h with
 | nil=>exact⟨rfl,rfl⟩
 | @snoc cs as ch x _ e1 e2 e3 e4 e5 e6 ih =>
  refine⟨?_,by rw[List.length_append,ih.2];rfl⟩
  rw[UT,ih.1,ih.2]
  show _=(if x.kind=kind/\x.k=k then some as.length else HC kind k as)
  by_cases e:x.kind=kind/\x.k=k
  ·rw[if_pos e,if_pos ⟨by rw[e1,e.1,e.2],by rw[e2,e.2]⟩]
  ·rw[if_neg e,if_neg λz=>e (YB e5 h1 e6 hk (by have:=z.1;rw[e1]at this;omega) (by have:=z.2;rw[e2]at this;omega))]
theorem SM.on(I:X.at a H cs tks M){kind k:Nat}(h1:kind<5)(hk:k<AX X.n X.r X.c X.w kind):A5 X.n X.r X.c X.w kind k<X.rows.length/\k % X.w<X.w:=by
 refine⟨?_,Nat.mod_lt _ (by have:=rA hk;omega)⟩
 rw[I.sz.2.2.2.2]
 unfold AX at hk
 unfold A5
 have hd:k / X.w<(if kind=0 then X.n else if kind=1 then X.r else if kind=2 then X.c else if kind=3 then X.r else X.c):=Nat.div_lt_of_lt_mul (by rw[Nat.mul_comm];exact hk)
 generalize k / X.w=x at *
 clear hk
 rcases(by omega:kind=0\/kind=1\/kind=2\/kind=3\/kind=4)with z | z | z | z | z<;>subst z<;>simp at hd ⊢ <;>omega
theorem SM.onPl(I:X.at a H cs tks M){kind k:Nat}(h1:kind<5)(hk:k<AX X.n X.r X.c X.w kind):onPl X.rows X.w (A5 X.n X.r X.c X.w kind k:Nat) (k % X.w:Nat):=by
 have:=I.on h1 hk
 exact⟨Int.natCast_nonneg _,by omega,Int.natCast_nonneg _,by omega⟩
theorem SM.val(I:X.at a H cs tks M){kind k:Nat}(h1:kind<5)(hk:k<AX X.n X.r X.c X.w kind):∃ v,D5 cs X.rows (A5 X.n X.r X.c X.w kind k:Nat) (k % X.w:Nat)=some v/\RepC H (M kind k) v:=by
 obtain⟨b1,b2⟩:=I.on h1 hk
 obtain⟨v,ev⟩:=qZ (λr' hr'=>I.bk.pk.wd r' hr') b1 b2 cs
 exact⟨v,ev,I.rp kind k v h1 hk ev⟩
theorem SM.snoc{H':Hp}{kind k:Nat}{v:V}{x:CV}{nd:List Int}{nd':List Nat}(hd:∀ y:Int,y∈nd↔(∃ j∈nd',y=(j:Nat))\/gU cs (A5 X.n X.r X.c X.w kind k:Nat) (k % X.w:Nat) y)(I:X.at a H cs tks M)(h1:kind<5)(hk:k<AX X.n X.r X.c X.w kind)(B:D4 a H' X.S.A X.w X.rows X.nn (cs++[⟨A5 X.n X.r X.c X.w kind k,k % X.w,v,nd⟩]) X.outs)(s:SameBut X.S.A.F H H')(g:GoodV 4 H' v)(rx:RepC H' x v)(ox:EB kind x):X.at a H' (cs++[⟨A5 X.n X.r X.c X.w kind k,k % X.w,v,nd⟩]) tks (M.put kind k x nd'):=by
 have lo:∀ x,X.S.A.F x->EE (H x):=λx hx=>I.bk.loose hx
 have tk:EU H H':=JC s lo
 obtain⟨⟨dx,e1⟩,e2,e3,e4,e5,e6,e7,e8,e9,e10,e11,e12⟩:=I
 obtain⟨dl,el⟩:=e2.ob
 refine⟨⟨dx,s _ _ e1 λz=>(lo _ z).2 _ _ _ e1⟩,e2.sb s λz=>(lo _ z).2 _ _ _ el,B,s _ _ e4 e7,by rw[List.length_append];omega,λz v h=> ?_,e7,e8,⟨(e9.keep tk).1,λc hc=> ?_⟩,λkind' k' v' h1' hk' hv=> ?_,λkind' k' h1' hk'=> ?_,(e12.keep tk).snoc rfl rfl rx (λy=>by rw[hd];unfold gU;rw[(e12.newest h1 hk).1]) h1 hk⟩
 ·obtain⟨k,ek,hk⟩:=e6 z v h
  exact⟨k,ek,by rw[List.length_append];omega⟩
 ·rcases List.mem_append.mp hc with y | y
  ·exact(e9.keep tk).2 c y
  ·rw[List.mem_singleton.mp y];exact g
 ·rw[zav]at hv
  rw[Hs.put_at]
  by_cases hp:kind'=kind/\k'=k
  ·obtain⟨rfl,rfl⟩:=hp
   rw[if_pos ⟨rfl,rfl⟩]at hv ⊢
   cases hv
   exact rx
  ·rw[if_neg λy=>hp (by
    have:=YB h1 h1' hk hk' (by omega) (by omega)
    exact⟨this.1.symm,this.2.symm⟩)]at hv
   rw[if_neg hp]
   exact(e10 kind' k' v' h1' hk' hv).keep tk
 ·rw[Hs.put_at]
  split
  ·rename_i y
   rw[y.1];exact ox
  ·exact e11 kind' k' h1' hk'
theorem HH{kind k:Nat}{v:V}{x:CV}{u nl:Addr}{ns:List Int}(T4:CO K a)(I:X.at a H cs tks M)(h1:kind<5)(hk:k<AX X.n X.r X.c X.w kind)(hu:H u=some (.tup [.int (A5 X.n X.r X.c X.w kind k:Nat),.int (k % X.w:Nat)]))(hn:H nl=some (.lst (ns.map V.int)))(hl:ns.length<=60)(hcs:cs.length<990)(kn:∀ x∈ns,known cs x)(g:GoodV 4 H v)(rx:RepC H x v)(ox:EB kind x)
  (q:∀ ch H',X.at a H' (cs++[ch]) tks (M.put kind k x (JB ns))->SameBut X.S.A.F H H'->Q (.int cs.length) H'):DZ K a [.ref X.S.A.b,.ref u,v,.ref nl] H Q E:=by
 obtain⟨T,TP,TL,TS⟩:=T4
 refine⟨X.S.A,X.w,X.rows,X.nn,cs,X.outs,u,nl,v,ns,_,_,rfl,T,TP,I.bk,hu,SqL.of hn,hl,hcs,λ_ _ nd H5 pw mem B5 JJ=> ?_,λy=>absurd (I.onPl h1 hk) y,λ_ ⟨x,hx,hk⟩=>absurd (kn x hx) hk⟩
 rw[Int.toNat_natCast,Int.toNat_natCast]at B5
 have tk:=JC JJ λx hx=>I.bk.loose hx
 refine q _ H5 (I.snoc (λy=> ?_) h1 hk B5 JJ (g.keep tk) (rx.keep tk) ox) JJ
 rw[mem]
 refine or_congr ⟨λh=>⟨y.toNat,List.mem_map.mpr ⟨y,h,rfl⟩,by have:=(kn y h).1;omega⟩,λhzz=> ?_⟩ Iff.rfl
 obtain⟨j,hj,e⟩:=hzz
 obtain⟨x,hx,rfl⟩:=List.mem_map.mp hj
 have:=(kn x hx).1
 rw[show y=x by omega]
 exact hx
end
def NmV(H:Hp)(v:V):Option (Str × Nat)->Prop
 | none=>v=.non
 | some (z,k)=>∃ t,v=.ref t/\H t=some (.tup [.str z,.int k])
theorem NmV.keep{H H':Hp}{v:V}{x:Option (Str × Nat)}(h:NmV H v x)(k:EU H H'):NmV H' v x:=by
 cases x with
 | none=>exact h
 | some p=>obtain⟨t,e,et⟩:=h;exact⟨t,e,k _ _ et⟩
theorem RepC.nmv{M:Hs}{k:Nat}{v:V}(h:RepC H (M 0 k) v)(ok:EB 0 (M 0 k)):NmV H v (F6 M k):=by
 unfold F6
 cases e:M 0 k with
 | no=>rw[e]at h;exact h
 | nm z r=>rw[e]at h;exact h
 | mk i=>rw[e]at ok;exact ok.elim
 | rc m ps=>rw[e]at ok;exact ok.elim
 | tx z=>rw[e]at ok;exact ok.elim
theorem za9(h:MI K a vs H Q E):W4 K a (λ_=>E) (A8 Q) (start ["self"] vs) H:=by
 obtain⟨X,cs,tks,M,rfl,⟨T,TP,TL,TS⟩,I,q⟩:=h
 obtain⟨S,n,r,c,w,rows,nn,outs⟩:=X
 dsimp only at *
 have I0:(SX.mk S n r c w rows nn outs).at a H cs tks M:=I
 obtain⟨dx,ho⟩:=I.ob
 obtain⟨dl,el⟩:=I.ly.ob
 obtain⟨db,eb⟩:=I.bk.bk.ob
 have hz:=I.sz
 have hkm:n * w<=36:=Nat.mul_le_mul hz.1 hz.2.2.2.1
 push_cast[W4,↓Qk]
 refine⟨_,_,_,ho,TS.cl,TS.n1,_,HF,S.lp,rfl,_,_,el,CA (by decide +kernel),S.lp,n,r,c,w,rfl,TL,I.ly,λt ht=> ?_⟩
 have s1:=AQ (o:=.tup [V.int ((n:Int) * w),V.int ((r:Int) * w),V.int ((c:Int) * w)]) ht
 refine C8 AE (n:=0) rfl rfl ?_
 revert s1
 generalize upd H t (.tup [V.int ((n:Int) * w),V.int ((r:Int) * w),V.int ((c:Int) * w)])=H1
 intro s1
 have em:(n:Int) * w=(n * w:Nat):=by simp
 rw[em]
 push_cast[]
 refine⟨by omega,by omega,NL (CT _ (by omega)) (λi ys H'=>Same H H'/\ys.length=i/\∀ k v,ys[k]? =some v->D5 cs rows (A5 n r c w 0 k:Nat) (k % w:Nat)=some v) ⟨s1,rfl,λk v h=>by simp at h⟩ (λi ys H' hi hl hzz=> ?_) (λys H' hl ⟨s,_,al⟩ p hp=> ?_)⟩
 ·obtain⟨s,_,al⟩:=hzz
  push_cast[D8]
  refine⟨_,_,_,s _ _ ho,TS.cl,TS.n2,_,HG,S.A.b,rfl,_,_,s _ _ eb,DN (by decide +kernel),_,_,_,s _ _ ho,TS.cl,TS.n1,_,HF,S.lp,rfl,_,_,s _ _ el,CA (by decide +kernel),S.lp,n,r,c,w,i,by simp,TL,I.ly.same s,λu hu=> ?_⟩
  have s2:=s.trans (AQ (o:=.tup [.int (0+(i:Int) / w),.int ((i:Int) % w)]) hu)
  have hm0:i<AX n r c w 0:=by simpa [AX]using hi
  refine⟨S.A,w,rows,nn,cs,outs,u,(A5 n r c w 0 i:Nat),(i % w:Nat),rfl,T,TP,I.bk.same s2,by rw[AE];simp[A5],λ_ v H3 ev s3=>⟨s2.trans s3,by simp[hl],λk v' hk=> ?_⟩,λz=>absurd (SM.onPl I0 (kind:=0) (by decide) hm0) z⟩
  rcases Nat.lt_or_ge k ys.length with z | z
  ·rw[List.getElem?_append_left z]at hk;exact al k v' hk
  ·rw[List.getElem?_append_right z]at hk
   have:k=i:=by
    rcases Nat.eq_or_lt_of_le z with y | y
    ·omega
    ·rw[List.getElem?_eq_none (by simp;omega)]at hk;cases hk
   subst this
   rw[hl,Nat.sub_self]at hk
   cases hk
   exact ev
 ·have sp:=AQ (o:=.lst ys) hp
  have s3:=s.trans sp
  refine q p ys _ s3 AE hl λk v hk=> ?_
  have hkl:=(List.getElem?_eq_some_iff.mp hk).1
  exact(I.rp 0 k v (by decide) (by simp[AX];omega) (al k v hk)).keep s3.tk
theorem zba{M:Hs}{m i:Nat}{z:Str}(hi:i<m)(h:(F6 M i).any (λp=>decide (p.1=z))=true)(hl:∀ j<i,(F6 M j).any (λp=>decide (p.1=z))=false):cellOf M m z=some i:=by
 unfold cellOf
 rw[List.find?_eq_some_iff_append]
 refine⟨h,List.range i,(List.range (m - i - 1)).map (i+1+·),?_,λj hj=>by rw[hl j (List.mem_range.mp hj)];rfl⟩
 have e1:m=i+(1+(m - i - 1)):=by omega
 conv=>lhs;rw[e1]
 rw[List.range_add,List.range_add]
 simp[Nat.add_assoc,Function.comp_def]
theorem zbb{M:Hs}{m:Nat}{z:Str}(hl:∀ j<m,(F6 M j).any (λp=>decide (p.1=z))=false):cellOf M m z=none:=by
 unfold cellOf
 exact List.find?_eq_none.mpr λj hj=>by rw[hl j (List.mem_range.mp hj)];exact Bool.false_ne_true
theorem zbc(h:KD K a vs H Q E):XI K a (λ_=>E) (A8 Q) (start ["self","name","cell","value"] vs) H:=by
 obtain⟨X,cs,tks,M,z,rfl,T4,I,q⟩:=h
 obtain⟨dx,ho⟩:=I.ob
 push_cast[XI,↓Sq]
 refine⟨_,_,ho,B2 (by decide +kernel),X,cs,tks,M,rfl,T4,I,λl xs H1 s1 el hl hx=> ?_⟩
 refine⟨l,rfl,⟨_,SqL.of el⟩,fV (xs:=xs) (λi σ H'=>(Same H H'/\Same H1 H'/\∀ j<i,(F6 M j).any (λp=>decide (p.1=z))=false)/\∃ x y,σ=[some (.ref X.S.st),some (.str z),x,y]) ⟨⟨s1,Same.refl _,λj hj=>absurd hj (Nat.not_lt_zero _)⟩,_,_,rfl⟩ (λi σ H' _ ⟨⟨_,s,_⟩,_⟩=>SqL.of (s _ _ el)) (λi x σ H' t hxi ⟨⟨sH,s,lo⟩,y1,y2,ez⟩ ht=> ?_) (λσ H' ⟨⟨sH,s,lo⟩,y1,y2,ez⟩=> ?_)⟩
 ·subst ez
  have hi:=(List.getElem?_eq_some_iff.mp hxi).1
  have s2:=s.trans (AQ (o:=.tup [.int (i:Int),x]) ht)
  have sH2:=sH.trans (AQ (o:=.tup [.int (i:Int),x]) ht)
  have nx:=((hx i x hxi).nmv (I.ok 0 i (by decide) (by rw[hl]at hi;simpa [AX]using hi))).keep s2.tk
  push_cast[]
  refine⟨_,SqT.of AE,rfl,_,_,rfl,_,_,rfl,rfl,?_⟩
  revert s2 sH2 nx
  generalize upd H' t (.tup [.int (i:Int),x])=H2
  intro s2 sH2 nx
  have next:(F6 M i).any (λp=>decide (p.1=z))=false->Same H H2/\Same H1 H2/\∀ j<i+1,(F6 M j).any (λp=>decide (p.1=z))=false:=λh=>⟨sH2,s2,λj hj=>by
   rcases Nat.lt_or_ge j i with y | y
   ·exact lo j y
   ·rw[show j=i by omega];exact h⟩
  push_cast[↓Sm,↓Sl]
  cases en:F6 M i with
  | none =>
   rw[en]at nx next
   rw[show x=.non from nx]
   push_cast[]
   exact next rfl
  | some p =>
   rw[en]at nx next
   obtain⟨u,rfl,eu⟩:=nx
   rw[if_pos (by simp)]
   refine C8 eu (n:=0) rfl rfl ?_
   push_cast[]
   by_cases hz:p.1=z
   ·rw[if_pos hz]
    have:=q _ sH2
    rw[zba (i:=i) (by omega) (by rw[en];simpa using hz) lo]at this
    exact this
   ·rw[if_neg hz]
    exact next (by simpa using hz)
 ·subst ez
  push_cast[↓Sv]
  have:=q _ sH
  rw[zbb (by rw[<-hl];exact lo)]at this
  exact this
theorem zbd(h:MJ K a vs H Q E):XN K a (λ_=>E) (A8 Q) (start ["self","new","given"] vs) H:=by
 obtain⟨X,cs,tks,M,z,gl,zs,rfl,T4,I,eg,hl,hy,q,q1,q2⟩:=h
 obtain⟨dx,ho⟩:=I.ob
 push_cast[XN,↓Tk]
 refine .inl ⟨⟨_,SqL.of eg⟩,z9 (xs:=zs.map V.str) (CT _ (by rw[List.length_map];omega)) (λi ys H'=>Same H H'/\ys=((zs.take i).map BM).map V.bl) ⟨Same.refl _,rfl⟩ (λi ys H' _ ⟨s,_⟩=>SqL.of (s _ _ eg)) (λi x ys H' hxi hyl ⟨s,ey⟩=> ?_) (λys H' hyl ⟨s,ey⟩ p hp=> ?_)⟩
 ·rw[List.getElem?_map,Option.map_eq_some_iff]at hxi
  obtain⟨x',hx',rfl⟩:=hxi
  push_cast[D8]
  refine⟨x',rfl,hy x' (List.mem_of_getElem? hx'),λH2 s2=>⟨s.trans s2,?_⟩⟩
  rw[List.take_add_one,hx',ey]
  simp
 ·rw[List.length_map,List.take_length]at ey
  have sp:=AQ (o:=.lst ys) hp
  have s2:=s.trans sp
  refine⟨p,zs.map BM,rfl,by rw[<-ey];exact SqL.of AE,?_⟩
  rw[List.all_map,Function.id_comp]
  revert s2
  generalize upd H' p (.lst ys)=H2
  intro s2
  cases hb:zs.all BM with
  | false =>
   push_cast[↓Tj]
   exact⟨by decide,q1 hb _ s2⟩
  | true =>
   push_cast[↓Tm]
   refine⟨_,_,s2 _ _ ho,B2 (by decide +kernel),X,cs,tks,M,z,rfl,T4,I.same s2,λH3 s3=> ?_⟩
   have s4:=s2.trans s3
   cases hc:cellOf M X.m0 z with
   | none =>
    push_cast[HD]
    exact q hb hc _ s4
   | some k =>
    push_cast[HD,↓Tl]
    exact⟨by decide,q2 hb ⟨k,hc⟩ _ s4⟩
theorem JD{S:SA}{dx db gp mm mi lt ou:Addr}{mth:Str}{P:V->Prop}(TS:NX K a)(ho:H S.st=some (.ins (a "Store") dx (sf S.lp S.A.b S.tk)))(eb:H S.A.b=some (.ins (a "Hold") db (bf gp mm mi lt ou)))(hm:(bf gp mm mi lt ou).lookup mth=none)(p:P (.ref S.A.b)) :
  ∃ x x1 x2,H S.st=some (.ins x x1 x2)/\Cls K x/\NoAttr K x "book"/\∃ v,x2.lookup ("book":Str)=some v/\∃ b,v=.ref b/\∃ y y1,H b=some (.ins (a "Hold") y y1)/\y1.lookup mth=none/\P v:=⟨_,_,_,ho,TS.cl,TS.n2,_,HG,_,rfl,_,_,eb,hm,p⟩
theorem ID{S:SA}{dx dl:Addr}{n r c w:Int}{mth:Str}{P:V->Prop}(TS:NX K a)(ho:H S.st=some (.ins (a "Store") dx (sf S.lp S.A.b S.tk)))(el:H S.lp=some (.ins (a "Layout") dl (lf n r c w)))(hm:(lf n r c w).lookup mth=none)(p:P (.ref S.lp)) :
  ∃ x x1 x2,H S.st=some (.ins x x1 x2)/\Cls K x/\NoAttr K x "plan"/\∃ v,x2.lookup ("plan":Str)=some v/\∃ b,v=.ref b/\∃ y y1,H b=some (.ins (a "Layout") y y1)/\y1.lookup mth=none/\P v:=⟨_,_,_,ho,TS.cl,TS.n1,_,HF,_,rfl,_,_,el,hm,p⟩
section
variable{p:Addr}{n r c w k:Nat}
theorem YC(TL:DX K a)(L:LayAt a H p n r c w)(q:GQ (0+k / w) (k % w) Q H):FH K a [.ref p,.int k] H Q E:=⟨p,n,r,c,w,k,rfl,TL,L,q⟩
theorem MS(TL:DX K a)(L:LayAt a H p n r c w)(q:GQ (n+k / w) (k % w) Q H):FI K a [.ref p,.int k] H Q E:=⟨p,n,r,c,w,k,rfl,TL,L,q⟩
theorem lPA(TL:DX K a)(L:LayAt a H p n r c w)(q:GQ (n+r+k / w) (k % w) Q H):NU K a [.ref p,.int k] H Q E:=⟨p,n,r,c,w,k,rfl,TL,L,q⟩
theorem rG(TL:DX K a)(L:LayAt a H p n r c w)(q:GQ (n+r+c+k / w) (k % w) Q H):IY K a [.ref p,.int k] H Q E:=⟨p,n,r,c,w,k,rfl,TL,L,q⟩
theorem lPM(TL:DX K a)(L:LayAt a H p n r c w)(q:GQ (n+r+c+r+k / w) (k % w) Q H):HB K a [.ref p,.int k] H Q E:=⟨p,n,r,c,w,k,rfl,TL,L,q⟩
end
theorem YD{f g:Nat->Bool}:∀ {l:List Nat},(∀ k∈l,f k=g k)->l.find? f=l.find? g
 | [],_=>rfl
 | k::l,h=>by
  rw[List.find?_cons,List.find?_cons,h k List.mem_cons_self,YD λk' hk'=>h k' (List.mem_cons_of_mem _ hk')]
theorem zbg{f g:Nat->Bool}{m:Nat}(h:∀ k<m,f k=g k):EH f m=EH g m:=by
 unfold EH
 rw[YD λk hk=>h k (List.mem_range.mp hk)]
section
variable{X:SX}{cs:List Ch}{tks:List (AH × V)}{M:Hs}
theorem SM.free(I:X.at a H cs tks M){kind:Nat}(hk:kind<3):EH (KC cs X.rows X.n X.r X.c X.w kind) (AX X.n X.r X.c X.w kind)=F7 M kind (AX X.n X.r X.c X.w kind):=zbg λk hkm=>by
 obtain⟨v,ev,rv⟩:=I.val (by omega:kind<5) hkm
 have ok:=I.ok kind k (by omega) hkm
 unfold KC
 rw[ev]
 show IZ kind v=FJ kind (M kind k)
 cases e:M kind k with
 | no=>rw[e]at rv;rw[show v=.non from rv];simp[IZ,FJ]
 | nm z r=>rw[e]at rv;obtain⟨t,rfl,_⟩:=rv;simp[IZ,FJ]
 | mk i =>
  rw[e]at rv;rw[show v=.int i from rv]
  simp[IZ,FJ]
 | rc m ps=>rw[e]at rv;obtain⟨t,u,rfl,_⟩:=rv;simp[IZ,FJ]
 | tx z=>rw[e]at rv;rw[show v=.str z from rv];simp[IZ,FJ]
theorem zbh{m cell:Nat}{z:Str}(h:cellOf M m z=some cell):cell<m/\∃ k,M 0 cell=.nm z k:=by
 unfold cellOf at h
 have h1:=List.mem_range.mp (List.mem_of_find?_eq_some h)
 have h2:=List.find?_some h
 unfold F6 at h2
 refine⟨h1,?_⟩
 cases e:M 0 cell with
 | nm z' k =>
  rw[e]at h2
  simp at h2
  exact⟨k,by rw[h2]⟩
 | _=>rw[e]at h2;simp at h2
theorem RP{kind:Nat}(T4:CO K a)(I:X.at a H cs tks M)(hk:kind<3)(q:∀ k:Nat,F7 M kind (AX X.n X.r X.c X.w kind)=k->k<AX X.n X.r X.c X.w kind->∀ H',Same H H'->Q (.int k) H')(qe:F7 M kind (AX X.n X.r X.c X.w kind)= -1->ES a H "NoRoom" E):QY kind K a X.S.lp X.S.A.b H Q E:=by
 obtain⟨T,TP,TL,TS⟩:=T4
 obtain⟨z1,z2,z3,z4,z5⟩:=I.sz
 refine⟨X.S.A,X.n,X.r,X.c,X.w,X.rows,X.nn,cs,X.outs,rfl,T,TP,TL,I.ly,z1,z2,z3,z4,I.bk,z5,λi j v hv=>rB I.gd hv,λk e H' s=> ?_,λe H' s=> ?_⟩
 ·rw[I.free hk]at e
  exact q k e (za6 e) H' s
 ·rw[I.free hk]at e
  exact qe e H' s
end
theorem zbi(h:FW K a vs H Q E):W5 K a (λ_=>E) (A8 Q) (start ["self","record"] vs) H:=by
 obtain⟨X,cs,tks,M,rec,rfl,⟨T,TP,TL,TS⟩,I,hr,q⟩:=h
 obtain⟨dx,ho⟩:=I.ob
 obtain⟨dl,el⟩:=I.ly.ob
 obtain⟨db,eb⟩:=I.bk.bk.ob
 have hm:rec<AX X.n X.r X.c X.w 3:=by simpa [AX]using hr
 push_cast[W5,↓Ql]
 refine JD TS (ho) (eb) (DN (by decide +kernel)) (ID TS (ho) (el) (CA (by decide +kernel)) (MS TL (I.ly) λu hu=> ?_))
 have s2:=AQ (o:=.tup [.int (X.n+(rec:Int) / X.w),.int ((rec:Int) % X.w)]) hu
 refine⟨X.S.A,X.w,X.rows,X.nn,cs,X.outs,u,(A5 X.n X.r X.c X.w 3 rec:Nat),(rec % X.w:Nat),rfl,T,TP,I.bk.same s2,by rw[AE];simp[A5],λ_ v H3 ev s3=> ?_,λz=>absurd (I.onPl (kind:=3) (by decide) hm) z⟩
 have s4:=s2.trans s3
 exact q v H3 ((I.rp 3 rec v (by decide) hm ev).keep s4.tk) s4
theorem zbj(h:GT K a vs H Q E):XO K a (λ_=>E) (A8 Q) (start ["self","name","cell"] vs) H:=by
 obtain⟨X,cs,tks,M,z,rfl,T4,I,q,qe⟩:=h
 obtain⟨dx,ho⟩:=I.ob
 push_cast[XO,↓Tp]
 refine⟨_,_,ho,B2 (by decide +kernel),X,cs,tks,M,z,rfl,T4,I,λH1 s1=> ?_⟩
 push_cast[↓Tv]
 cases e:cellOf M X.m0 z with
 | none =>
  push_cast[HD,↓Tq]
  exact⟨by decide,qe e _ s1⟩
 | some cell =>
  push_cast[HD,↓Tw]
  obtain⟨hc,k,ek⟩:=zbh e
  refine⟨_,_,s1 _ _ ho,B2 (by decide +kernel),X,cs,tks,M,rfl,T4,I.same s1,λl xs H2 s2 el hl hx=> ?_⟩
  have BH:cell<xs.length:=by rw[hl];exact hc
  have ex:=List.getElem?_eq_getElem BH
  have rx:=hx cell _ ex
  rw[ek]at rx
  obtain⟨t,et,et2⟩:=rx
  exact FR (SqL.of el) rfl ex (by rw[et];exact C8 et2 (n:=1) rfl rfl (q cell k e hc ek _ (s1.trans s2)))
theorem rH{X:SX}{cs:List Ch}{tks:List (AH × V)}{M:Hs}{cell rec need:Nat}{z:Str}{nl:Addr}{ns:List Int}{H2:Hp}(T4:CO K a)(I:X.at a H cs tks M)(hc:cell<X.m0)(hcs:cs.length<980)(hz:PyData.strOk z=true)(s:Same H H2)(en:H2 nl=some (.lst (ns.map V.int)))(hl:ns.length<=60)(kn:∀ x∈ns,known cs x)
  (q:Q5 X a H cs tks (M.put 0 cell (.nm z rec) (JB ns)) Q) :
  W6 K a (λ_=>E) (λ_=>E) (A8 Q) [some (.ref X.S.st),some (.int cell),some (.str z),some (.int rec),some (.int need),some (.ref nl)] H2:=by
 have T4':=T4
 obtain⟨T,TP,TL,TS⟩:=T4
 obtain⟨dx,ho⟩:=I.ob
 obtain⟨dl,el⟩:=I.ly.ob
 obtain⟨db,eb⟩:=I.bk.bk.ob
 have hm:cell<AX X.n X.r X.c X.w 0:=by simpa [AX]using hc
 push_cast[↓Qv]
 refine JD TS (s _ _ ho) (s _ _ eb) (DN (by decide +kernel)) (ID TS (s _ _ ho) (s _ _ el) (CA (by decide +kernel)) (YC TL (I.ly.same s) λu hu=> ?_))
 have s2:=s.trans (AQ (o:=.tup [.int (0+(cell:Int) / X.w),.int ((cell:Int) % X.w)]) hu)
 have eu:upd H2 u (.tup [.int (0+(cell:Int) / X.w),.int ((cell:Int) % X.w)]) u=some (.tup [.int (A5 X.n X.r X.c X.w 0 cell:Nat),.int (cell % X.w:Nat)]):=by rw[AE];simp[A5]
 have en2:=AQ (o:=.tup [.int (0+(cell:Int) / X.w),.int ((cell:Int) % X.w)]) hu _ _ en
 revert s2 eu en2
 generalize upd H2 u (.tup [.int (0+(cell:Int) / X.w),.int ((cell:Int) % X.w)])=H3
 intro s2 eu en2
 push_cast[]
 refine⟨by decide,λt ht=> ?_⟩
 have st:=AQ (o:=.tup [V.str z,V.int rec]) ht
 have s4:=s2.trans st
 have et:upd H3 t (.tup [V.str z,V.int rec]) t=some (.tup [V.str z,V.int rec]):=AE
 refine HH T4' (I.same s4) (kind:=0) (x:=.nm z rec) (by decide) hm (st _ _ eu) (st _ _ en2) hl (by omega) kn ⟨_,et,by simp,λv hv=> ?_⟩ ⟨t,rfl,et⟩ trivial λch H' I' sb=>q ch H' I' λb o e n=>sb _ _ (s4 _ _ e) n
 simp only[List.mem_cons,List.not_mem_nil,or_false]at hv
 rcases hv with rfl | rfl
 ·exact hz
 ·trivial
theorem zbk(h:MK K a vs H Q E):W7 K a (λ_=>E) (A8 Q) (start ["self","cell","name","record","need","needs"] vs) H:=by
 obtain⟨X,cs,tks,M,cell,rec,need,z,rfl,T4,I,hc,hn,hcs,hz,q⟩:=h
 obtain⟨T,TP,TL,TS⟩:=T4
 obtain⟨dx,ho⟩:=I.ob
 push_cast[W7,↓Qm,↓Qq]
 refine⟨by decide,λnl hnl=> ?_⟩
 have s1:=AQ (o:=.lst [V.int need]) hnl
 refine⟨_,_,_,s1 _ _ ho,TS.cl,TS.n3,_,YA,X.S.tk,rfl,_,dS (s1 _ _ I.tk),?_⟩
 have e1:upd H nl (.lst [V.int need]) nl=some (.lst [V.int need]):=AE
 have kn:known cs (need:Int):=⟨by omega,by omega⟩
 cases hv:BJ tks (.inr z)with
 | none =>
  rw[show EI tks z=[] by unfold EI;rw[hv]]at q
  rw[if_neg (by simp)]
  exact rH (ns:=[(need:Int)]) ⟨T,TP,TL,TS⟩ I hc hcs hz s1 e1 (by simp) (λx hx=>by rw[List.mem_singleton.mp hx];exact kn) q
 | some v =>
  obtain⟨k,rfl,hk⟩:=I.tv z v hv
  rw[show EI tks z=[k] by unfold EI;rw[hv];rfl]at q
  rw[if_pos (by simp)]
  push_cast[↓Qp]
  refine⟨.inl ⟨rfl,_,SqL.of e1⟩,_,_,_,s1 _ _ ho,TS.cl,TS.n3,_,YA,X.S.tk,rfl,_,Dk (s1 _ _ I.tk) hv,nl,_,_,rfl,rfl,e1,(by show 1<sizeLine;decide),?_⟩
  rw[G1]
  refine rH (ns:=[(need:Int),(k:Int)]) ⟨T,TP,TL,TS⟩ I hc hcs hz (AQ hnl) AE (by simp) (λx hx=> ?_) q
  simp only[List.mem_cons,List.not_mem_nil,or_false]at hx
  rcases hx with rfl | rfl
  ·exact kn
  ·exact⟨by omega,by omega⟩
theorem zbl{n:Nat}{H:Hp}(ps:List Nat):∀ v∈BE ps,GoodV (n+1) H v:=λv hv=>by
 obtain⟨p,_,rfl⟩:=List.mem_map.mp hv
 trivial
theorem YE{H:Hp}{t u:Addr}{m:Nat}{ps:List Nat}(h1:H t=some (.tup [.int m,.ref u]))(h2:H u=some (.tup (BE ps)))(hl:ps.length<=100):GoodV 4 H (.ref t):=⟨_,h1,by simp,λv hv=>by
 simp only[List.mem_cons,List.not_mem_nil,or_false]at hv
 rcases hv with rfl | rfl
 ·trivial
 ·exact⟨_,h2,by simp[BE];exact hl,zbl ps⟩⟩
theorem zbm(h:KG K a vs H Q E):XJ K a (λ_=>E) (A8 Q) (start ["self","record","more","needs","value"] vs) H:=by
 obtain⟨X,cs,tks,M,rec,m,m',more,ps,nl,ns,rfl,T4,I,hr,eM,hm',hps,en,hl,kn,hcs,q⟩:=h
 have T4':=T4
 obtain⟨T,TP,TL,TS⟩:=T4
 obtain⟨dx,ho⟩:=I.ob
 obtain⟨dl,el⟩:=I.ly.ob
 obtain⟨db,eb⟩:=I.bk.bk.ob
 have hm:rec<AX X.n X.r X.c X.w 3:=by simpa [AX]using hr
 push_cast[XJ,↓Sw]
 refine⟨_,_,ho,B2 (by decide +kernel),X,cs,tks,M,rec,rfl,T4',I,hr,λv H1 rv s=> ?_⟩
 rw[eM]at rv
 obtain⟨t0,u0,rfl,EJ,GY⟩:=rv
 push_cast[↓Sx]
 refine JD TS (s _ _ ho) (s _ _ eb) (DN (by decide +kernel)) (ID TS (s _ _ ho) (s _ _ el) (CA (by decide +kernel)) (MS TL (I.ly.same s) λu hu=> ?_))
 have sa:=AQ (o:=.tup [.int (X.n+(rec:Int) / X.w),.int ((rec:Int) % X.w)]) hu
 have eu:upd H1 u (.tup [.int (X.n+(rec:Int) / X.w),.int ((rec:Int) % X.w)]) u=some (.tup [.int (A5 X.n X.r X.c X.w 3 rec:Nat),.int (rec % X.w:Nat)]):=by rw[AE];simp[A5]
 revert sa eu
 generalize upd H1 u (.tup [.int (X.n+(rec:Int) / X.w),.int ((rec:Int) % X.w)])=H2
 intro sa eu
 refine C8 (sa _ _ EJ) (n:=0) rfl rfl ?_
 push_cast[]
 refine C8 (sa _ _ EJ) (n:=1) rfl rfl ⟨by decide,λt ht=> ?_⟩
 rw[hm']
 have st:=AQ (o:=.tup [V.int m',V.ref u0]) ht
 have s4:=(s.trans sa).trans st
 have e1:upd H2 t (.tup [V.int m',V.ref u0]) t=some (.tup [V.int m',V.ref u0]):=AE
 have e2:=st _ _ (sa _ _ GY)
 exact HH T4' (I.same s4) (kind:=3) (x:=.rc m' ps) (by decide) hm (st _ _ eu) (s4 _ _ en) hl (by omega) kn (YE e1 e2 hps) ⟨t,u0,rfl,e1,e2⟩ trivial λch H' I' sb=>q ch H' I' λb o e n=>sb _ _ (s4 _ _ e) n
theorem zbn(h:ML K a vs H Q E):XL K a (λ_=>E) (A8 Q) (start ["self","record","pieces","needs"] vs) H:=by
 obtain⟨X,cs,tks,M,rec,m,ps,ps',pl,nl,ns,rfl,T4,I,hr,eM,epl,hps,en,hl,kn,hcs,q⟩:=h
 have T4':=T4
 obtain⟨T,TP,TL,TS⟩:=T4
 obtain⟨dx,ho⟩:=I.ob
 obtain⟨dl,el⟩:=I.ly.ob
 obtain⟨db,eb⟩:=I.bk.bk.ob
 have hm:rec<AX X.n X.r X.c X.w 3:=by simpa [AX]using hr
 push_cast[XL,↓Sy]
 refine JD TS (ho) (eb) (DN (by decide +kernel)) (ID TS (ho) (el) (CA (by decide +kernel)) (MS TL (I.ly) λu hu=> ?_))
 have sa:=AQ (o:=.tup [.int (X.n+(rec:Int) / X.w),.int ((rec:Int) % X.w)]) hu
 have eu:upd H u (.tup [.int (X.n+(rec:Int) / X.w),.int ((rec:Int) % X.w)]) u=some (.tup [.int (A5 X.n X.r X.c X.w 3 rec:Nat),.int (rec % X.w:Nat)]):=by rw[AE];simp[A5]
 revert sa eu
 generalize upd H u (.tup [.int (X.n+(rec:Int) / X.w),.int ((rec:Int) % X.w)])=H2
 intro sa eu
 push_cast[]
 refine⟨_,_,sa _ _ ho,B2 (by decide +kernel),X,cs,tks,M,rec,rfl,T4',I.same sa,hr,λv H3 rv s3=> ?_⟩
 rw[eM]at rv
 obtain⟨t0,u0,rfl,EJ,GY⟩:=rv
 refine C8 EJ (n:=0) rfl rfl ?_
 push_cast[]
 refine⟨by decide,λt ht=> ?_⟩
 have st:=AQ (o:=.tup [V.int m,V.ref pl]) ht
 have s4:=(sa.trans s3).trans st
 have e1:upd H3 t (.tup [V.int m,V.ref pl]) t=some (.tup [V.int m,V.ref pl]):=AE
 have e2:=s4 _ _ epl
 exact HH T4' (I.same s4) (kind:=3) (x:=.rc m ps') (by decide) hm (st _ _ (s3 _ _ eu)) (s4 _ _ en) hl (by omega) kn (YE e1 e2 hps) ⟨t,pl,rfl,e1,e2⟩ trivial λch H' I' sb=>q ch H' I' λb o e n=>sb _ _ (s4 _ _ e) n
theorem rJ{α β γ :Type}{F: α -> β ->Prop}{G: α -> γ ->Prop}{f: β -> γ}:∀ {l:List α} {m:List β},Paired F l m->(∀ x y,F x y->G x (f y))->Paired G l (m.map f)
 | _,_,.nil,_=>.nil
 | _,_,.cons h t,k=>.cons (k _ _ h) (rJ t k)
theorem zbo{te:TE}{cap:List Nat}{σ:St}{b:Addr}{xs:List V}(hn:xs.length<=sizeLine)(Pv:Nat->List V->Hp->Prop)(h0:Pv 0 [] H)(hq:∀ i ys H,i<=xs.length->Pv i ys H->SqT K H b xs)
  (hs:∀ i x ys H,xs[i]? =some x->ys.length=i->Pv i ys H->te (some x::D8 cap σ) H λy H2=>Pv (i+1) (ys++[y]) H2)
  (hd:∀ ys H,ys.length=xs.length->Pv xs.length ys H->∀ p,H p=none->Q (.ref p) (upd H p (.lst ys))) :
  G8 (IK K b) (AM 0) DV te 1 cap σ H Q:=by
 refine⟨λi m σ' ys H=>m=xs.length - i/\i<=xs.length/\ys.length=i/\(∃ x0,σ'=x0::D8 cap σ)/\Pv i ys H,⟨xs.length,by simp,Nat.zero_le _,rfl,⟨none,rfl⟩,h0⟩,?_⟩
 rintro i m σ' ys H ⟨rfl,hi,hl,⟨x0,rfl⟩,p⟩
 have q:=hq i ys H hi p
 by_cases BC:i<xs.length
 ·refine .inr ⟨⟨xs,xs[i],q,by simp[BC]⟩,by omega,λx H' y=> ?_⟩
  obtain⟨e,y⟩:=y
  subst e
  have hx:=y xs q
  simp only[AM,DV,if_true]
  refine⟨_,λy H4 q=>⟨xs.length - (i+1),by omega,rfl,BC,?_,⟨_,rfl⟩,q⟩,hs i x ys _ hx hl p⟩
  rw[List.length_append,List.length_singleton,hl]
 ·have e:i=xs.length:=by omega
  subst e
  exact .inl ⟨⟨xs,q,Nat.le_refl _⟩,hd ys H hl p⟩
section
variable{X:SX}{cs:List Ch}{tks:List (AH × V)}{M:Hs}
theorem SM.lput{l:Addr}{xs ys:List V}(I:X.at a H cs tks M)(e:H l=some (.lst xs))(f:¬ X.S.A.F l):X.at a (upd H l (.lst ys)) cs tks M:=by
 have s:SameBut (· =l) H (upd H l (.lst ys)):=λy o ey n=>by rw[AG n];exact ey
 have g:∀ x,x=l->EE (H x):=λx hx=>by rw[hx];exact MC e
 have tk:EU H (upd H l (.lst ys)):=JC s g
 obtain⟨⟨dx,e1⟩,e2,e3,e4,e5,e6,e7,e8,e9,e10,e11,e12⟩:=I
 obtain⟨dl,el⟩:=e2.ob
 exact⟨⟨dx,s _ _ e1 (BF e1 e (by intro z;cases z))⟩,e2.sb s (BF el e (by intro z;cases z)),e3.sb s g λx hx=>by rw[hx];exact f,s _ _ e4 (BF e4 e (by intro z;cases z)),e5,e6,e7,e8,e9.keep tk,λkind k v h1 h2 hv=>(e10 kind k v h1 h2 hv).keep tk,e11,e12.keep tk⟩
theorem SM.taken{z:Str}{k:Nat}(I:X.at a H cs tks M)(hk:k<cs.length)(hl:tks.length<cs.length):X.at a (upd H X.S.tk (.dK (CB tks (.inr z) (.int k)))) cs (CB tks (.inr z) (.int k)) M:=by
 have s:SameBut (· =X.S.tk) H (upd H X.S.tk (.dK (CB tks (.inr z) (.int k)))):=λy o ey n=>by rw[AG n];exact ey
 have g:∀ x,x=X.S.tk->EE (H x):=λx hx=>by rw[hx];exact NR I.tk
 have tk:EU H (upd H X.S.tk (.dK (CB tks (.inr z) (.int k)))):=JC s g
 obtain⟨⟨dx,e1⟩,e2,e3,e4,e5,e6,e7,e8,e9,e10,e11,e12⟩:=I
 obtain⟨dl,el⟩:=e2.ob
 refine⟨⟨dx,s _ _ e1 (BF e1 e4 (by intro z;cases z))⟩,e2.sb s (BF el e4 (by intro z;cases z)),e3.sb s g λx hx=>by rw[hx];exact e7,AE,Nat.le_trans (LU ..) (by omega),λy v h=> ?_,e7,e8,e9.keep tk,λkind k v h1 h2 hv=>(e10 kind k v h1 h2 hv).keep tk,e11,e12.keep tk⟩
 rw[JQ]at h
 split at h
 ·cases h
  exact⟨k,rfl,hk⟩
 ·exact e6 y v h
end
theorem zbp(h:MM K a vs H Q E):XQ K a (λ_=>E) (A8 Q) (start ["self","name","needs","gone"] vs) H:=by
 obtain⟨X,cs,tks,M,cell,z,nl,ns,rfl,T4,I,ec,hc,en,hl,kn,hcs,q⟩:=h
 have T4':=T4
 obtain⟨T,TP,TL,TS⟩:=T4
 obtain⟨dx,ho⟩:=I.ob
 obtain⟨dl,el⟩:=I.ly.ob
 obtain⟨db,eb⟩:=I.bk.bk.ob
 have hm:cell<AX X.n X.r X.c X.w 0:=by simpa [AX]using hc
 push_cast[XQ,↓Tx]
 refine⟨_,_,_,ho,TS.cl,TS.n2,_,HG,X.S.A.b,rfl,_,_,eb,DN (by decide +kernel),_,_,_,ho,TS.cl,TS.n1,_,HF,X.S.lp,rfl,_,_,el,CA (by decide +kernel),_,_,ho,B2 (by decide +kernel),X,cs,tks,M,z,rfl,T4',I,λH1 s1=> ?_⟩
 rw[ec]
 refine⟨X.S.lp,X.n,X.r,X.c,X.w,cell,rfl,TL,I.ly.same s1,λu hu=> ?_⟩
 have sa:=AQ (o:=.tup [.int (0+(cell:Int) / X.w),.int ((cell:Int) % X.w)]) hu
 have eu:upd H1 u (.tup [.int (0+(cell:Int) / X.w),.int ((cell:Int) % X.w)]) u=some (.tup [.int (A5 X.n X.r X.c X.w 0 cell:Nat),.int (cell % X.w:Nat)]):=by rw[AE];simp[A5]
 have s2:=s1.trans sa
 revert eu s2
 generalize upd H1 u (.tup [.int (0+(cell:Int) / X.w),.int ((cell:Int) % X.w)])=H2
 intro eu s2
 refine HH T4' (I.same s2) (kind:=0) (x:=.no) (by decide) hm eu (s2 _ _ en) hl (by omega) kn trivial rfl trivial λch H3 I3 sb=> ?_
 obtain⟨dx3,ho3⟩:=I3.ob
 push_cast[↓Ty,↓Tz]
 have tl:=I.tl
 refine⟨_,_,_,ho3,TS.cl,TS.n3,_,YA,X.S.tk,rfl,_,pS I3.tk (by omega),?_⟩
 refine q ch _ (I3.taken (by simp) (by simp;omega)) λy o e n=> ?_
 rw[AG λy=>n (.inr y)]
 exact sb _ _ (s2 _ _ e) λy=>n (.inl y)
def drI(a:Ad)(X:SX)(cs:List Ch)(tks:List (AH × V))(M:Hs)(rec gone:Nat)(u0 ml:Addr)(pls:List (Nat × Nat))(H6:Hp)(i:Nat)(σ:St)(H':Hp):Prop:=(∃ ex,ex.length=i+1/\X.at a H' (cs++ex) tks ((pls.take i).foldl (λ(M:Hs) (y:Nat × Nat)=>M.put y.1 y.2 (.mk 0) [cs.length]) (M.put 3 rec .no [gone]))/\H' ml=some (.lst (BE ((List.range (i+1)).map (cs.length+·))))/\SameBut (λx=>X.S.A.F x\/x=ml) H6 H')/\∃ y6,σ=[some (.ref X.S.st),some (.int rec),some (.int gone),some (.ref u0),some (.int cs.length),some (.ref ml),y6]
theorem zbr(h:Q6 K a vs H Q E):XM K a (λ_=>E) (A8 Q) (start ["self","record","gone","pieces","dropped","made","mark"] vs) H:=by
 obtain⟨X,cs,tks,M,rec,m,gone,ps,rfl,T4,I,hr,eM,hg,hps,CJ,hcs,q⟩:=h
 have T4':=T4
 obtain⟨T,TP,TL,TS⟩:=T4
 obtain⟨dx,ho⟩:=I.ob
 have hm:rec<AX X.n X.r X.c X.w 3:=by simpa [AX]using hr
 push_cast[XM,↓Sz]
 refine⟨_,_,ho,B2 (by decide +kernel),X,cs,tks,M,rec,rfl,T4',I,hr,λv H1 rv s=> ?_⟩
 rw[eM]at rv
 obtain⟨t0,u0,rfl,EJ,GY⟩:=rv
 refine C8 EJ (n:=1) rfl rfl ?_
 have I1:=I.same s
 obtain⟨dx1,ho1⟩:=I1.ob
 obtain⟨dl1,el1⟩:=I1.ly.ob
 obtain⟨db1,eb1⟩:=I1.bk.bk.ob
 push_cast[↓Tb]
 refine JD TS (ho1) (eb1) (DN (by decide +kernel)) (ID TS (ho1) (el1) (CA (by decide +kernel)) (MS TL (I1.ly) λu hu=>⟨by decide,λnl hnl=> ?_⟩))
 have sa:=AQ (o:=.tup [.int (X.n+(rec:Int) / X.w),.int ((rec:Int) % X.w)]) hu
 have sb:=AQ (o:=.lst [V.int gone]) hnl
 have eu:=sb _ _ (show upd H1 u (.tup [.int (X.n+(rec:Int) / X.w),.int ((rec:Int) % X.w)]) u=some (.tup [.int (A5 X.n X.r X.c X.w 3 rec:Nat),.int (rec % X.w:Nat)]) by rw[AE];simp[A5])
 have en:upd (upd H1 u (.tup [.int (X.n+(rec:Int) / X.w),.int ((rec:Int) % X.w)])) nl (.lst [V.int gone]) nl=some (.lst ([(gone:Int)].map V.int)):=AE
 have s2:=sa.trans sb
 revert eu en s2
 generalize upd (upd H1 u (.tup [.int (X.n+(rec:Int) / X.w),.int ((rec:Int) % X.w)])) nl (.lst [V.int gone])=H2
 clear sa sb
 intro eu en s2
 refine HH T4' (I1.same s2) (kind:=3) (x:=.no) (by decide) hm eu en (by simp) (by omega) (λx hx=>by rw[List.mem_singleton.mp hx];exact⟨by omega,by omega⟩) trivial rfl trivial λch H3 I3 OL=> ?_
 push_cast[↓Tc]
 refine⟨by decide,λml hml=> ?_⟩
 have k3:EU H2 H3:=JC OL λx hx=>(I1.same s2).bk.loose hx
 have fml:¬ X.S.A.F ml:=I3.bk.off hml
 have sm:=AQ (o:=.lst [V.int cs.length]) hml
 have I4:=I3.same sm
 have eu4:=sm _ _ (k3 _ _ (s2 _ _ GY))
 have em4:upd H3 ml (.lst [V.int cs.length]) ml=some (.lst [V.int cs.length]):=AE
 have sb4:SameBut X.S.A.F H (upd H3 ml (.lst [V.int cs.length])):=λy o e n=>sm _ _ (OL _ _ (s2 _ _ (s _ _ e)) n)
 have hmlH:H ml=none:=by
  cases e:H ml with
  | none=>rfl
  | some o=>have:=OL _ _ (s2 _ _ (s _ _ e)) fml;rw[hml]at this;cases this
 revert I4 eu4 em4 sb4
 clear sm k3 en eu
 generalize upd H3 ml (.lst [V.int cs.length])=H4
 intro I4 eu4 em4 sb4
 obtain⟨dx4,ho4⟩:=I4.ob
 obtain⟨dl4,el4⟩:=I4.ly.ob
 have BV:(cs++[ch]).length=cs.length+1:=by simp
 push_cast[↓Tg]
 refine .inr ⟨⟨_,SqT.of eu4⟩,zbo (xs:=BE ps) (CT _ (by simp[BE];omega)) (λi ys H'=>Same H4 H'/\∃ us:List Addr,ys=us.map V.ref/\Paired (λu p=>H' u=some (.tup [.int (A5 X.n X.r X.c X.w 2 p:Nat),.int (p % X.w:Nat)])) us (ps.take i)) ⟨Same.refl _,[],rfl,.nil⟩ (λi ys H' _ ⟨s',_⟩=>SqT.of (s' _ _ eu4)) (λi x ys H' hx hyl hzz=> ?_) (λys H' hyl ⟨s',us,ey,pu⟩ lc hlc=> ?_)⟩
 ·obtain⟨s',us,ey,pu⟩:=hzz
  unfold BE at hx
  rw[List.getElem?_map,Option.map_eq_some_iff]at hx
  obtain⟨p,ep,rfl⟩:=hx
  push_cast[D8]
  refine⟨_,_,_,s' _ _ ho4,TS.cl,TS.n1,_,HF,X.S.lp,rfl,_,_,s' _ _ el4,CA (by decide +kernel),X.S.lp,X.n,X.r,X.c,X.w,p,rfl,TL,I4.ly.same s',λu' hu'=> ?_⟩
  have su:=AQ (o:=.tup [.int (X.n+X.r+X.c+X.r+(p:Int) / X.w),.int ((p:Int) % X.w)]) hu'
  refine⟨s'.trans su,us++[u'],by rw[ey,List.map_append];rfl,?_⟩
  rw[List.take_add_one,ep]
  exact Paired.snoc (Paired.mapP pu λt r z=>su _ _ z) (by rw[AE];simp[A5])
 ·rw[show(BE ps).length=ps.length by simp[BE],List.take_length]at pu
  subst ey
  have sc:=AQ (o:=.lst (us.map V.ref)) hlc
  have s5:=s'.trans sc
  refine ID TS (s5 _ _ ho4) (s5 _ _ el4) (CA (by decide +kernel)) (rG TL (I4.ly.same s5) λur hur=>⟨by decide,λlr hlr=>.inl ?_⟩)
  have sd:=AQ (o:=.tup [.int (X.n+X.r+X.c+(rec:Int) / X.w),.int ((rec:Int) % X.w)]) hur
  have se:=AQ (o:=.lst [V.ref ur]) hlr
  refine⟨lc,lr,_,_,rfl,rfl,se _ _ (sd _ _ AE),AE,CT _ (by have:=pu.length;simp;omega),λl2 IE=> ?_⟩
  have sf':=AQ (o:=.lst (us.map V.ref++[V.ref ur])) IE
  have sg:=(sd.trans se).trans sf'
  have er:upd (upd (upd (upd H' lc (.lst (us.map V.ref))) ur (.tup [.int (X.n+X.r+X.c+(rec:Int) / X.w),.int ((rec:Int) % X.w)])) lr (.lst [V.ref ur])) l2 (.lst (us.map V.ref++[V.ref ur])) ur=some (.tup [.int (A5 X.n X.r X.c X.w 1 rec:Nat),.int (rec % X.w:Nat)]):=(se.trans sf') _ _ (by rw[AE];simp[A5])
  have el2:upd (upd (upd (upd H' lc (.lst (us.map V.ref))) ur (.tup [.int (X.n+X.r+X.c+(rec:Int) / X.w),.int ((rec:Int) % X.w)])) lr (.lst [V.ref ur])) l2 (.lst (us.map V.ref++[V.ref ur])) l2=some (.lst ((us++[ur]).map V.ref)):=by rw[AE];simp
  have hl2F:¬ X.S.A.F l2:=by
   have:=((I4.same s5).same (sd.trans se)).bk.off IE
   exact this
  have nlm:l2≠ml:=(BN (se _ _ (sd _ _ (s5 _ _ em4))) IE).symm
  have s6:=s5.trans sg
  have PP:Paired (λu (y:Nat × Nat)=>upd (upd (upd (upd H' lc (.lst (us.map V.ref))) ur (.tup [.int (X.n+X.r+X.c+(rec:Int) / X.w),.int ((rec:Int) % X.w)])) lr (.lst [V.ref ur])) l2 (.lst (us.map V.ref++[V.ref ur])) u=some (.tup [.int (A5 X.n X.r X.c X.w y.1 y.2:Nat),.int (y.2 % X.w:Nat)])) (us++[ur]) (ps.map (λp=>(2,p))++[(1,rec)]) :=
   Paired.snoc (rJ pu λu p z=>sg _ _ (sc _ _ z)) er
  revert s6 el2 PP
  clear er sg sf' se sd s5
  generalize upd (upd (upd (upd H' lc (.lst (us.map V.ref))) ur (.tup [.int (X.n+X.r+X.c+(rec:Int) / X.w),.int ((rec:Int) % X.w)])) lr (.lst [V.ref ur])) l2 (.lst (us.map V.ref++[V.ref ur]))=H6
  intro el2 s6 PP
  generalize us++[ur]=vs at el2 PP
  have hall:∀ y∈ps.map (λp=>(2,p))++[(1,rec)],(y.1=1\/y.1=2)/\y.2<AX X.n X.r X.c X.w y.1:=λy hy=>by
   rcases List.mem_append.mp hy with hy | hy
   ·obtain⟨p,hp,rfl⟩:=List.mem_map.mp hy
    exact⟨.inr rfl,by simpa [AX]using hps p hp⟩
   ·rw[List.mem_singleton.mp hy]
    exact⟨.inl rfl,by simpa [AX]using hr⟩
  have hyl:(ps.map (λp=>((2:Nat),p))++[(1,rec)]).length=ps.length+1:=by simp
  have hfin:(ps.map (λp=>(2,p))++[(1,rec)]).foldl (λ(M:Hs) (y:Nat × Nat)=>M.put y.1 y.2 (.mk 0) [cs.length]) (M.put 3 rec .no [gone])=((M.put 3 rec .no [gone]).unmark cs.length ps).put 1 rec (.mk 0) [cs.length]:=by
   rw[List.foldl_append,List.foldl_map];rfl
  revert hall hyl hfin PP
  generalize ps.map (λp=>((2:Nat),p))++[(1,rec)]=pls
  intro PP hall hyl hfin
  refine⟨l2,rfl,.inl ⟨⟨_,SqL.of el2⟩,K3 (xs:=vs.map V.ref) (drI a X cs tks M rec gone u0 ml pls H6)
   ⟨⟨[ch],rfl,I4.same s6,by rw[s6 _ _ em4];simp[BE,List.range_succ],λy o e _=>e⟩,_,rfl⟩ (λi σ H' _ ⟨⟨_,_,_,_,sb'⟩,_⟩=>SqL.of (sb' _ _ el2 ?_)) (λi x σ H7 hx ⟨⟨ex,KL,I7,em7,sb7⟩,y6,ez⟩=> ?_) (λσ H7 ⟨⟨ex,KL,I7,em7,sb7⟩,y6,ez⟩=> ?_)⟩⟩
  ·rintro (y | y)
   ·exact hl2F y
   ·exact nlm y
  ·subst ez
   have hi:=(List.getElem?_eq_some_iff.mp hx).1
   rw[List.length_map]at hi
   have hip:i<pls.length:=by rw[<-PP.length];exact hi
   have ey:=List.getElem?_eq_getElem hip
   obtain⟨u',eu',hu'⟩:=JZ PP ey
   rw[List.getElem?_map,eu']at hx
   cases hx
   obtain⟨hk12,hky⟩:=hall _ (List.mem_of_getElem? ey)
   have etk:pls.take (i+1)=pls.take i++[pls[i]]:=by rw[List.take_add_one,ey];rfl
   revert etk hk12 hky hu'
   generalize pls[i]=y
   intro hu' hk12 hky etk
   obtain⟨dx7,ho7⟩:=I7.ob
   obtain⟨db7,eb7⟩:=I7.bk.bk.ob
   push_cast[↓Td]
   have k67:∀ b xs,H6 b=some (.tup xs)->H7 b=some (.tup xs):=λb xs e=>sb7 _ _ e λz=>z.elim (λz=>((I4.same s6).bk.loose z).1 _ e) λz=>by rw[z,s6 _ _ em4]at e;cases e
   refine⟨.inl ⟨rfl,_,SqL.of em7⟩,_,_,_,ho7,TS.cl,TS.n2,_,HG,X.S.A.b,rfl,_,_,eb7,DN (by decide +kernel),by decide,λn8 hn8=> ?_⟩
   have s8:=AQ (o:=.lst [V.int cs.length]) hn8
   refine HH (ns:=[(cs.length:Int)]) T4' (I7.same s8) (kind:=y.1) (x:=.mk 0) (by omega) hky (s8 _ _ (k67 _ _ hu')) AE (by simp) (by simp;omega) (λx hx=>by rw[List.mem_singleton.mp hx];exact⟨by omega,by simp;omega⟩) trivial rfl (by rcases hk12 with z | z<;>rw[z]<;>exact Nat.zero_le _) λch9 H9 I9 MZ=> ?_
   have em9:=MZ _ _ (s8 _ _ em7) fml
   refine⟨ml,_,_,rfl,rfl,em9,Nat.lt_of_lt_of_le (show(BE ((List.range (i+1)).map (cs.length+·))).length<1000 by simp[BE];omega) (by decide),?_⟩
   refine⟨⟨ex++[ch9],by simp[KL],by have:=I9.lput (ys:=BE ((List.range (i+1)).map (cs.length+·))++[V.int ((cs++ex).length:Nat)]) em9 fml;rw[etk,List.foldl_append,<-List.append_assoc];exact this,by rw[AE];simp[BE,List.range_succ,KL],λb o e n=> ?_⟩,_,rfl⟩
   rw[AG λz=>n (.inr z)]
   exact MZ _ _ (s8 _ _ (sb7 _ _ e n)) λz=>n (.inl z)
  ·subst ez
   push_cast[↓Th]
   have hvl:=PP.length
   rw[List.length_map,hvl,hyl]at KL em7
   rw[List.length_map,hvl,List.take_length,hfin]at I7
   refine q ex ml H7 hmlH em7 KL I7 λy o e n=> ?_
   exact sb7 _ _ (s6 _ _ (sb4 _ _ e n)) λy'=>y'.elim n λz=>by rw[z,hmlH]at e;cases e
theorem LD{X:SX}{cs:List Ch}{tks:List (AH × V)}{M:Hs}{H':Hp}{l:Addr}(I:X.at a H' cs tks M)(sb:SameBut (λx=>X.S.A.F x\/x=X.S.tk) H H')(hl:H' l=none):H l=none:=by
 cases e:H l with
 | none=>rfl
 | some o =>
  have:=sb _ _ e λz=>z.elim (I.bk.off hl) λz=>by rw[z,I.tk]at hl;cases hl
  rw[hl]at this
  cases this
theorem zbs(h:Q7 K a vs H Q E):XR K a (λ_=>E) (A8 Q) (start ["self","name","record","cell","mark","stands"] vs) H:=by
 obtain⟨X,cs,tks,M,z,rfl,T4,I,hzl,hcs,q,q1,q2,q3⟩:=h
 have T4':=T4
 obtain⟨dx,ho⟩:=I.ob
 have hm1:AX X.n X.r X.c X.w 1=X.r * X.w:=by simp[AX]
 have hm0:AX X.n X.r X.c X.w 0=X.m0:=by simp[AX]
 have hm3:AX X.n X.r X.c X.w 3=X.r * X.w:=by simp[AX]
 push_cast[XR,↓Ub]
 refine⟨_,_,ho,B2 (by decide +kernel),by decide,λgl hgl=> ?_⟩
 have s1:=AQ (o:=.lst [V.str z]) hgl
 refine⟨X,cs,tks,M,z,gl,[z],rfl,T4,I.same s1,AE,by simp,λy hy=>by rw[List.mem_singleton.mp hy];exact hzl,λhb hc H2 s2=> ?_,λhb H2 s2=>q1 (by simpa using hb) _ (s1.trans s2),λhb hc H2 s2=>q2 (by simpa using hb) hc _ (s1.trans s2)⟩
 have hb:BM z=true:=by simpa using hb
 have CU:=s1.trans s2
 clear s1 s2 hgl
 obtain⟨T,TP,TL,TS⟩:=T4
 push_cast[↓Uc]
 refine⟨_,_,_,CU _ _ ho,TS.cl,TS.n1,_,HF,_,_,_,CU _ _ ho,TS.cl,TS.n2,_,HG,X.S.lp,X.S.A.b,rfl,RP T4' (I.same CU) (by decide) (λrec er OJ H3 s3=> ?_) λer H3 s3=>q3 hb hc (.inl (by rw[<-hm1];exact er)) _ (CU.trans s3)⟩
 rw[hm1]at er OJ
 have s13:=CU.trans s3
 clear CU s3
 push_cast[↓Ud]
 refine⟨_,_,_,s13 _ _ ho,TS.cl,TS.n1,_,HF,_,_,_,s13 _ _ ho,TS.cl,TS.n2,_,HG,X.S.lp,X.S.A.b,rfl,RP T4' (I.same s13) (by decide) (λcell ec BH H4 s4=> ?_) λer H3 s3=>q3 hb hc (.inr (by rw[<-hm0];exact er)) _ (s13.trans s3)⟩
 rw[hm0]at ec BH
 have s14:=s13.trans s4
 have I4:=I.same s14
 clear s13 s4
 obtain⟨dx4,ho4⟩:=I4.ob
 obtain⟨dl4,el4⟩:=I4.ly.ob
 obtain⟨db4,eb4⟩:=I4.bk.bk.ob
 push_cast[↓Ug]
 refine JD TS (ho4) (eb4) (DN (by decide +kernel)) (ID TS (ho4) (el4) (CA (by decide +kernel)) (rG TL (I4.ly) λu hu=>⟨by decide,λl0 hl0=> ?_⟩))
 have sa:=AQ (o:=.tup [.int (X.n+X.r+X.c+(rec:Int) / X.w),.int ((rec:Int) % X.w)]) hu
 have sb:=AQ (o:=.lst []) hl0
 have eu:=sb _ _ (show upd H4 u (.tup [.int (X.n+X.r+X.c+(rec:Int) / X.w),.int ((rec:Int) % X.w)]) u=some (.tup [.int (A5 X.n X.r X.c X.w 1 rec:Nat),.int (rec % X.w:Nat)]) by rw[AE];simp[A5])
 have el0:upd (upd H4 u (.tup [.int (X.n+X.r+X.c+(rec:Int) / X.w),.int ((rec:Int) % X.w)])) l0 (.lst []) l0=some (.lst (([]:List Int).map V.int)):=AE
 have s5:=sa.trans sb
 revert eu el0 s5
 clear sa sb
 generalize upd (upd H4 u (.tup [.int (X.n+X.r+X.c+(rec:Int) / X.w),.int ((rec:Int) % X.w)])) l0 (.lst [])=H5
 intro eu el0 s5
 refine HH T4' (I4.same s5) (kind:=1) (x:=.mk 1) (by decide) (by rw[hm1];exact OJ) eu el0 (by simp) (by omega) (λx hx=>by cases hx) trivial rfl (Nat.le_refl _) λc1 H6 I6 sb6=> ?_
 obtain⟨dx6,ho6⟩:=I6.ob
 obtain⟨dl6,el6⟩:=I6.ly.ob
 obtain⟨db6,eb6⟩:=I6.bk.bk.ob
 push_cast[↓Uh]
 refine JD TS (ho6) (eb6) (DN (by decide +kernel)) (ID TS (ho6) (el6) (CA (by decide +kernel)) (MS TL (I6.ly) λu2 hu2=> ?_))
 push_cast[]
 refine⟨by decide,λe6 he6=>⟨by decide,λt6 ht6=>⟨by decide,λl6 hl6=> ?_⟩⟩⟩
 have sa:=AQ (o:=.tup [.int (X.n+(rec:Int) / X.w),.int ((rec:Int) % X.w)]) hu2
 have sb:=AQ (o:=.tup []) he6
 have sc:=AQ (o:=.tup [.int 1,.ref e6]) ht6
 have sd:=AQ (o:=.lst [.int cs.length]) hl6
 have s67:=((sa.trans sb).trans sc).trans sd
 have f1:=sd _ _ (sc _ _ (sb _ _ (show upd H6 u2 (.tup [.int (X.n+(rec:Int) / X.w),.int ((rec:Int) % X.w)]) u2=some (.tup [.int (A5 X.n X.r X.c X.w 3 rec:Nat),.int (rec % X.w:Nat)]) by rw[AE];simp[A5])))
 have f2:=sd _ _ (sc _ _ (AE (H:=upd H6 u2 (.tup [.int (X.n+(rec:Int) / X.w),.int ((rec:Int) % X.w)])) (a:=e6) (o:=.tup [])))
 have f3:=sd _ _ (AE (H:=upd (upd H6 u2 (.tup [.int (X.n+(rec:Int) / X.w),.int ((rec:Int) % X.w)])) e6 (.tup [])) (a:=t6) (o:=.tup [.int 1,.ref e6]))
 have f4:=AE (H:=upd (upd (upd H6 u2 (.tup [.int (X.n+(rec:Int) / X.w),.int ((rec:Int) % X.w)])) e6 (.tup [])) t6 (.tup [.int 1,.ref e6])) (a:=l6) (o:=.lst [.int cs.length])
 revert s67 f1 f2 f3 f4
 generalize upd (upd (upd (upd H6 u2 (.tup [.int (X.n+(rec:Int) / X.w),.int ((rec:Int) % X.w)])) e6 (.tup [])) t6 (.tup [.int 1,.ref e6])) l6 (.lst [.int cs.length])=H7
 clear sa sb sc sd
 intro s67 f1 f2 f3 f4
 refine HH (ns:=[(cs.length:Int)]) T4' (I6.same s67) (kind:=3) (x:=.rc 1 []) (by decide) (by rw[hm3];exact OJ) f1 f4 (by simp) (by simp;omega) (λx hx=>by rw[List.mem_singleton.mp hx];exact⟨by omega,by simp;omega⟩) (YE (ps:=[]) f3 f2 (by simp)) ⟨t6,e6,rfl,f3,f2⟩ trivial λc2 H8 I8 sb8=> ?_
 obtain⟨dx8,ho8⟩:=I8.ob
 push_cast[↓Uj]
 have BV:(cs++[c1]).length=cs.length+1:=by simp
 rw[BV]
 refine⟨_,_,ho8,B2 (by decide +kernel),X,_,tks,_,cell,rec,cs.length+1,z,rfl,T4',I8,BH,by simp,by simp;omega,rF hb,λc3 H9 I9 MZ=>⟨by decide,λl hl=> ?_⟩⟩
 have sl:=AQ (o:=.lst [V.int cs.length,V.int (cs.length+1:Nat),V.int ((cs++[c1]++[c2]).length:Nat)]) hl
 have sbH:SameBut (λx=>X.S.A.F x\/x=X.S.tk) H H9:=λy o e n=>MZ _ _ (sb8 _ _ (s67 _ _ (sb6 _ _ (s5 _ _ (s14 _ _ e)) λz=>n (.inl z))) λz=>n (.inl z)) λz=>n (.inl z)
 exact q hb hc rec cell er ec OJ BH [c1,c2,c3] l _ rfl (LD I9 sbH hl) (by rw[AE];simp[BE,List.range_succ]) (by have:=I9.same sl;simpa using this) λy o e n=>sl _ _ (sbH _ _ e n)
theorem zbt(h:MN K a vs H Q E):XS K a (λ_=>E) (A8 Q) (start ["self","old","new","record","cell","more"] vs) H:=by
 obtain⟨X,cs,tks,M,y,z,rfl,T4,I,hyl,hzl,hcs,q,q1,q2,q3,q4⟩:=h
 have T4':=T4
 obtain⟨dx,ho⟩:=I.ob
 have hm0:AX X.n X.r X.c X.w 0=X.m0:=by simp[AX]
 push_cast[XS,↓Uk]
 refine⟨_,_,ho,B2 (by decide +kernel),by decide,λgl hgl=> ?_⟩
 have s1:=AQ (o:=.lst [V.str y,V.str z]) hgl
 refine⟨X,cs,tks,M,z,gl,[y,z],rfl,T4,I.same s1,AE,by simp,λx hx=> ?_,λhb hc H2 s2=> ?_,λhb H2 s2=>q1 (by simpa using hb) _ (s1.trans s2),λhb hc H2 s2=> ?_⟩
 ·simp only[List.mem_cons,List.not_mem_nil,or_false]at hx
  rcases hx with rfl | rfl
  ·exact hyl
  ·exact hzl
 ·have hb:BM y=true/\BM z=true:=by simpa using hb
  have CU:=s1.trans s2
  clear s1 s2 hgl
  obtain⟨T,TP,TL,TS⟩:=T4
  push_cast[↓Ul]
  refine⟨_,_,CU _ _ ho,B2 (by decide +kernel),X,cs,tks,M,y,rfl,T4',I.same CU,λold rec eo hol eM H3 s3=> ?_,λeo H3 s3=>q3 hb.1 hb.2 hc eo _ (CU.trans s3)⟩
  have s13:=CU.trans s3
  clear CU s3
  push_cast[↓Um]
  refine⟨_,_,_,s13 _ _ ho,TS.cl,TS.n1,_,HF,_,_,_,s13 _ _ ho,TS.cl,TS.n2,_,HG,X.S.lp,X.S.A.b,rfl,RP T4' (I.same s13) (by decide) (λcell ec BH H4 s4=> ?_) λer H3 s3=>q4 hb.1 hb.2 hc ⟨old,eo⟩ (by rw[<-hm0];exact er) _ (s13.trans s3)⟩
  rw[hm0]at ec BH
  obtain⟨hr,m,ps,eR,hps,q⟩:=q hb.1 hb.2 hc old rec cell eo hol eM
  have s14:=s13.trans s4
  have I4:=I.same s14
  push_cast[↓Up]
  refine⟨_,_,s14 _ _ ho,B2 (by decide +kernel),by decide,λl0 hl0=> ?_⟩
  have s5:=AQ (o:=.lst []) hl0
  refine⟨X,cs,tks,M,rec,m,m+1,1,ps,l0,[],rfl,T4',I4.same s5,hr,eR,by omega,hps,AE,by simp,(λx hx=>by cases hx),by omega,λc1 H6 I6 sb6=> ?_⟩
  obtain⟨dx6,ho6⟩:=I6.ob
  push_cast[↓Uq]
  refine⟨_,_,ho6,B2 (by decide +kernel),X,_,tks,_,cell,rec,cs.length,z,rfl,T4',I6,BH,by simp,by simp;omega,rF hb.2,λc2 H7 I7 sb7=>⟨by decide,λl hl=> ?_⟩⟩
  have sl:=AQ (o:=.lst [V.int cs.length,V.int ((cs++[c1]).length:Nat)]) hl
  have sbH:SameBut (λx=>X.S.A.F x\/x=X.S.tk) H H7:=λy o e n=>sb7 _ _ (sb6 _ _ (s5 _ _ (s14 _ _ e)) λz=>n (.inl z)) λz=>n (.inl z)
  exact q ec BH [c1,c2] l _ rfl (LD I7 sbH hl) (by rw[AE];simp[BE,List.range_succ]) (by have:=I7.same sl;simpa using this) λy o e n=>sl _ _ (sbH _ _ e n)
 ·have hb:BM y=true/\BM z=true:=by simpa using hb
  exact q2 hb.1 hb.2 hc _ (s1.trans s2)
theorem zbu(n d:Nat):BE ((List.range (d+1)).map (n+·))=[V.int n]++BE ((List.range d).map (n+1+·)):=by
 rw[List.range_succ_eq_map]
 simp[BE,Nat.add_assoc,Nat.add_comm 1]
theorem zbv(h:Q8 K a vs H Q E):XT K a (λ_=>E) (A8 Q) (start ["self","name","record","gone"] vs) H:=by
 obtain⟨X,cs,tks,M,z,rfl,T4,I,hcs,q,q1⟩:=h
 obtain⟨dx,ho⟩:=I.ob
 push_cast[XT,↓Uv]
 refine⟨_,_,ho,B2 (by decide +kernel),X,cs,tks,M,z,rfl,T4,I,λcell rec ec BH eM H1 s1=> ?_,λeo H3 s3=>q1 eo _ s3⟩
 obtain⟨hr,m,ps,eR,hps,CJ,q2,q3⟩:=q cell rec ec BH eM
 have I1:=I.same s1
 push_cast[↓Uw]
 refine⟨_,_,s1 _ _ ho,B2 (by decide +kernel),by decide,λl0 hl0=> ?_⟩
 have s2:=AQ (o:=.lst []) hl0
 refine⟨X,cs,tks,M,cell,z,l0,[],rfl,T4,I1.same s2,ec,BH,AE,by simp,(λx hx=>by cases hx),by omega,λc1 H3 I3 OL=> ?_⟩
 obtain⟨dx3,ho3⟩:=I3.ob
 have sb:SameBut (λx=>X.S.A.F x\/x=X.S.tk) H H3:=λy o e n=>OL _ _ (s2 _ _ (s1 _ _ e)) n
 have eR':(M.put 0 cell .no (JB [])) 3 rec=.rc m ps:=by rw[Hs.put_at,if_neg (by omega)];exact eR
 push_cast[↓Uy]
 refine⟨_,_,ho3,B2 (by decide +kernel),X,_,_,_,rec,rfl,T4,I3,hr,λv H4 rv s4=> ?_⟩
 rw[eR']at rv
 obtain⟨t0,u0,rfl,EJ,GY⟩:=rv
 have I4:=I3.same s4
 refine C8 EJ (n:=0) rfl rfl ?_
 push_cast[]
 split
 ·rename_i hm
  push_cast[↓Ux]
  refine⟨_,_,s4 _ _ ho3,B2 (by decide +kernel),by decide,λl5 hl5=> ?_⟩
  have s5:=AQ (o:=.lst [V.int cs.length]) hl5
  refine⟨X,_,_,_,rec,m,m - 1,-1,ps,l5,[(cs.length:Int)],rfl,T4,I4.same s5,hr,eR',by omega,by omega,AE,by simp,(λx hx=>by rw[List.mem_singleton.mp hx];exact⟨by omega,by simp;omega⟩),by simp;omega,λc2 H6 I6 sb6=>⟨by decide,λl hl=> ?_⟩⟩
  have sl:=AQ (o:=.lst [V.int cs.length,V.int ((cs++[c1]).length:Nat)]) hl
  have sbH:SameBut (λx=>X.S.A.F x\/x=X.S.tk) H H6:=λy o e n=>sb6 _ _ (s5 _ _ (s4 _ _ (sb _ _ e n))) λz=>n (.inl z)
  exact q2 (by omega) [c1,c2] l _ rfl (LD I6 sbH hl) (by rw[AE];simp[BE,List.range_succ]) (by have:=I6.same sl;simpa using this) λy o e n=>sl _ _ (sbH _ _ e n)
 ·rename_i hm
  push_cast[↓Uz]
  refine⟨by decide,λl5 hl5=> ?_⟩
  have s5:=AQ (o:=.lst [V.int cs.length]) hl5
  have I5:=I4.same s5
  refine⟨_,_,s5 _ _ (s4 _ _ ho3),B2 (by decide +kernel),X,_,_,_,rec,m,cs.length,ps,rfl,T4,I5,hr,eR',by simp,hps,CJ,by simp;omega,λex l H6 hl6 el6 hex I6 sb6=>.inl ?_⟩
  have f5:¬ X.S.A.F l5:=I4.bk.off hl5
  refine⟨l5,l,_,_,rfl,rfl,sb6 _ _ AE f5,el6,CT _ (by simp[BE];omega),λl7 hl7=> ?_⟩
  have sl:=AQ (o:=.lst ([V.int cs.length]++BE ((List.range (ps.length+2)).map ((cs++[c1]).length+·)))) hl7
  have sbH:SameBut (λx=>X.S.A.F x\/x=X.S.tk) H H6:=λy o e n=>sb6 _ _ (s5 _ _ (s4 _ _ (sb _ _ e n))) λz=>n (.inl z)
  exact q3 (by omega) (c1::ex) l7 _ (by simp[hex]) (LD I6 sbH hl7) (by rw[AE,zbu cs.length (ps.length+2)];simp) (by have:=I6.same sl;simpa using this) λy o e n=>sl _ _ (sbH _ _ e n)
theorem cat_tup{b d:Addr}{xs ys:List V}(h1:H b=some (.tup xs))(h2:H d=some (.tup ys))(hy:ys≠[])(hl:xs.length+ys.length<=1000)(q:∀ p H',Same H H'->H' p=some (.tup (xs++ys))->Q (.ref p) H'):BO K (.ref b) (.ref d) H Q:=by
 rw[T2]
 by_cases hx:xs=[]
 ·subst hx
  exact .inr (.inr ⟨b,d,ys,rfl,rfl,SqT.of h1,SqT.of h2,q d H (Same.refl _) h2⟩)
 ·exact .inr (.inl ⟨b,d,xs,ys,rfl,rfl,SqT.of h1,SqT.of h2,hx,CT _ (by omega),λe=>absurd e hy,λ_ p hp=>q p _ (AQ hp) AE⟩)
theorem zbw(h:Q9 K a vs H Q E):XU K a (λ_=>E) (A8 Q) (start ["self","name","text","record","piece","mark","filled"] vs) H:=by
 obtain⟨X,cs,tks,M,z,t,rfl,T4,I,htl,hts,hcs,q,q1,q2,q3⟩:=h
 have T4':=T4
 obtain⟨dx,ho⟩:=I.ob
 have hm2:AX X.n X.r X.c X.w 2=X.c * X.w:=by simp[AX]
 have hm4:AX X.n X.r X.c X.w 4=X.c * X.w:=by simp[AX]
 push_cast[XU,↓Vb]
 refine⟨_,_,ho,B2 (by decide +kernel),X,cs,tks,M,z,rfl,T4,I,λcell rec ec BH eM H1 s1=> ?_,λeo H3 s3=>q1 eo _ s3⟩
 obtain⟨T,TP,TL,TS⟩:=T4
 push_cast[↓Vd]
 refine⟨t,rfl,htl,λH2 s2=> ?_⟩
 have CU:=s1.trans s2
 cases hb:MH t with
 | false =>
  push_cast[↓Vc]
  exact⟨by decide,q2 ⟨cell,ec⟩ hb _ CU⟩
 | true =>
  push_cast[↓Vg]
  refine⟨_,_,_,CU _ _ ho,TS.cl,TS.n1,_,HF,_,_,_,CU _ _ ho,TS.cl,TS.n2,_,HG,X.S.lp,X.S.A.b,rfl,RP T4' (I.same CU) (by decide) (λp ep CJ H4 s4=> ?_) λer H3 s3=>q3 ⟨cell,ec⟩ hb (by rw[<-hm2];exact er) _ (CU.trans s3)⟩
  rw[hm2]at ep CJ
  obtain⟨hr,m,ps,eR,hps,q⟩:=q cell rec ec BH eM hb p ep CJ
  have s14:=CU.trans s4
  have I4:=I.same s14
  clear s1 s2 CU s4
  obtain⟨dx4,ho4⟩:=I4.ob
  obtain⟨dl4,el4⟩:=I4.ly.ob
  obtain⟨db4,eb4⟩:=I4.bk.bk.ob
  push_cast[↓Vh]
  refine JD TS (ho4) (eb4) (DN (by decide +kernel)) (ID TS (ho4) (el4) (CA (by decide +kernel)) (lPM TL (I4.ly) λu hu=>⟨by decide,λl0 hl0=> ?_⟩))
  have sa:=AQ (o:=.tup [.int (X.n+X.r+X.c+X.r+(p:Int) / X.w),.int ((p:Int) % X.w)]) hu
  have sb:=AQ (o:=.lst []) hl0
  have eu:=sb _ _ (show upd H4 u (.tup [.int (X.n+X.r+X.c+X.r+(p:Int) / X.w),.int ((p:Int) % X.w)]) u=some (.tup [.int (A5 X.n X.r X.c X.w 2 p:Nat),.int (p % X.w:Nat)]) by rw[AE];simp[A5])
  have el0:upd (upd H4 u (.tup [.int (X.n+X.r+X.c+X.r+(p:Int) / X.w),.int ((p:Int) % X.w)])) l0 (.lst []) l0=some (.lst (([]:List Int).map V.int)):=AE
  have s5:=sa.trans sb
  revert eu el0 s5
  clear sa sb
  generalize upd (upd H4 u (.tup [.int (X.n+X.r+X.c+X.r+(p:Int) / X.w),.int ((p:Int) % X.w)])) l0 (.lst [])=H5
  intro eu el0 s5
  refine HH T4' (I4.same s5) (kind:=2) (x:=.mk 1) (by decide) (by rw[hm2];exact CJ) eu el0 (by simp) (by omega) (λx hx=>by cases hx) trivial rfl (Nat.le_refl _) λc1 H6 I6 sb6=> ?_
  obtain⟨dx6,ho6⟩:=I6.ob
  obtain⟨dl6,el6⟩:=I6.ly.ob
  obtain⟨db6,eb6⟩:=I6.bk.bk.ob
  push_cast[↓Vj]
  refine JD TS (ho6) (eb6) (DN (by decide +kernel)) (ID TS (ho6) (el6) (CA (by decide +kernel)) (lPA TL (I6.ly) λu2 hu2=>⟨by decide,λl6 hl6=> ?_⟩))
  have sa:=AQ (o:=.tup [.int (X.n+X.r+(p:Int) / X.w),.int ((p:Int) % X.w)]) hu2
  have sb:=AQ (o:=.lst [.int cs.length]) hl6
  have f1:=sb _ _ (show upd H6 u2 (.tup [.int (X.n+X.r+(p:Int) / X.w),.int ((p:Int) % X.w)]) u2=some (.tup [.int (A5 X.n X.r X.c X.w 4 p:Nat),.int (p % X.w:Nat)]) by rw[AE];simp[A5])
  have f4:=AE (H:=upd H6 u2 (.tup [.int (X.n+X.r+(p:Int) / X.w),.int ((p:Int) % X.w)])) (a:=l6) (o:=.lst [.int cs.length])
  have s67:=sa.trans sb
  revert s67 f1 f4
  generalize upd (upd H6 u2 (.tup [.int (X.n+X.r+(p:Int) / X.w),.int ((p:Int) % X.w)])) l6 (.lst [.int cs.length])=H7
  clear sa sb
  intro f1 f4 s67
  refine HH (ns:=[(cs.length:Int)]) T4' (I6.same s67) (kind:=4) (x:=.tx t) (by decide) (by rw[hm4];exact CJ) f1 f4 (by simp) (by simp;omega) (λx hx=>by rw[List.mem_singleton.mp hx];exact⟨by omega,by simp;omega⟩) hts rfl trivial λc2 H8 I8 sb8=> ?_
  obtain⟨dx8,ho8⟩:=I8.ob
  have eR':((M.put 2 p (.mk 1) (JB [])).put 4 p (.tx t) (JB [(cs.length:Int)])) 3 rec=.rc m ps:=by rw[Hs.put_at,if_neg (by omega),Hs.put_at,if_neg (by omega)];exact eR
  push_cast[↓Vk]
  refine⟨_,_,ho8,B2 (by decide +kernel),_,_,ho8,B2 (by decide +kernel),X,_,tks,_,rec,rfl,T4',I8,hr,λv H9 rv s9=> ?_⟩
  rw[eR']at rv
  obtain⟨t0,u0,rfl,EJ,GY⟩:=rv
  have BV:(cs++[c1]).length=cs.length+1:=by simp
  refine C8 EJ (n:=1) rfl rfl ⟨by decide,λt9 ht9=> ?_⟩
  have sa:=AQ (o:=.tup [V.int p]) ht9
  refine cat_tup (sa _ _ GY) AE (by simp) (by simp[BE];omega) λpp H10 s10 epp=>⟨by decide,λl10 hl10=> ?_⟩
  have s11:=(s9.trans sa).trans s10
  have sc:=AQ (o:=.lst [V.int ((cs++[c1]).length:Nat)]) hl10
  have CU:=s11.trans sc
  refine⟨X,_,tks,_,rec,m,ps,ps++[p],pp,l10,[((cs++[c1]).length:Int)],rfl,T4',I8.same CU,hr,eR',sc _ _ (by rw[epp];simp[BE]),by simp;omega,AE,by simp,(λx hx=>by rw[List.mem_singleton.mp hx];exact⟨by omega,by simp⟩),by simp;omega,λc3 H13 I13 sb13=>⟨by decide,λl hl=> ?_⟩⟩
  have sl:=AQ (o:=.lst [V.int cs.length,V.int ((cs++[c1]).length:Nat),V.int ((cs++[c1]++[c2]).length:Nat)]) hl
  have sbH:SameBut (λx=>X.S.A.F x\/x=X.S.tk) H H13:=λy o e n=>sb13 _ _ (CU _ _ (sb8 _ _ (s67 _ _ (sb6 _ _ (s5 _ _ (s14 _ _ e)) λz=>n (.inl z))) λz=>n (.inl z))) λz=>n (.inl z)
  exact q [c1,c2,c3] l _ rfl (LD I13 sbH hl) (by rw[AE];simp[BE,List.range_succ]) (by have:=I13.same sl;simpa using this) λy o e n=>sl _ _ (sbH _ _ e n)
theorem zbx{b d:Addr}{xs ys:List V}(h1:H b=some (.tup xs))(h2:H d=some (.tup ys))(hl:xs.length+ys.length<=1000)(q:∀ p H',Same H H'->H' p=some (.tup (xs++ys))->Q (.ref p) H'):BO K (.ref b) (.ref d) H Q:=by
 by_cases hy:ys=[]
 ·subst hy
  rw[T2]
  by_cases hx:xs=[]
  ·subst hx
   exact .inr (.inr ⟨b,d,[],rfl,rfl,SqT.of h1,SqT.of h2,q d H (Same.refl _) h2⟩)
  ·exact .inr (.inl ⟨b,d,xs,[],rfl,rfl,SqT.of h1,SqT.of h2,hx,CT _ (by omega),λ_=>q b H (Same.refl _) (by rw[h1];simp),λe=>absurd rfl e⟩)
 ·exact cat_tup h1 h2 hy hl q
theorem zby(h:RA K a vs H Q E):XV K a (λ_=>E) (A8 Q) (start ["self","name","at","record","pieces","without"] vs) H:=by
 obtain⟨X,cs,tks,M,z,x,rfl,T4,I,hcs,q,q1⟩:=h
 have T4':=T4
 obtain⟨dx,ho⟩:=I.ob
 push_cast[XV,↓Vl]
 refine⟨_,_,ho,B2 (by decide +kernel),X,cs,tks,M,z,rfl,T4,I,λcell rec ec BH eM H1 s1=> ?_,λeo H3 s3=>q1 eo _ s3⟩
 obtain⟨hr,m,ps,eR,hps,q2,q3⟩:=q cell rec ec BH eM
 push_cast[↓Vm]
 refine⟨_,_,s1 _ _ ho,B2 (by decide +kernel),X,cs,tks,M,rec,rfl,T4,I.same s1,hr,λv H2 rv s2=> ?_⟩
 rw[eR]at rv
 obtain⟨t0,u0,rfl,EJ,GY⟩:=rv
 refine C8 EJ (n:=1) rfl rfl ?_
 have CU:=s1.trans s2
 push_cast[↓Vq,↓Vp]
 split
 ·rename_i h0
  refine⟨ps.length,.inr ⟨_,SqT.of GY,by simp[BE]⟩,?_⟩
  split
  ·exact⟨by decide,q2 (by omega) _ CU⟩
  ·obtain⟨k,rfl⟩:∃ k:Nat,x=k:=⟨x.toNat,by omega⟩
   have hk:k<ps.length:=by omega
   have ek:=List.getElem?_eq_getElem hk
   obtain⟨hp,q3⟩:=q3 k _ rfl ek
   push_cast[↓Vv]
   refine⟨_,_,CU _ _ ho,B2 (by decide +kernel),?_⟩
   have e1:HT.sIx (BE ps).length (BE ps).length (some (k:Int))=k:=by
    show(if(k:Int)<0 then((k:Int)+((BE ps).length:Int)).toNat else min (k:Int).toNat (BE ps).length)=_
    rw[if_neg (by omega)]
    simp[BE]
    omega
   have e2:HT.sIx (BE ps).length 0 (some ((k:Int)+1))=k+1:=by
    show(if((k:Int)+1)<0 then((k:Int)+1+((BE ps).length:Int)).toNat else min ((k:Int)+1).toNat (BE ps).length)=_
    rw[if_neg (by omega)]
    simp[BE]
    omega
   have hnl:(BE ps).length=ps.length:=by simp[BE]
   refine .inr ⟨u0,_,rfl,SqT.of GY,λy=>by rw[e1]at y;omega,λp1 MY=> ?_⟩
   have sa:=AQ (o:=.tup (EX (BE ps) none (some (k:Int)))) MY
   refine .inr ⟨u0,_,rfl,SqT.of (sa _ _ GY),λy=>by rw[e2]at y;omega,λp2 HP=> ?_⟩
   have sb:=AQ (o:=.tup (EX (BE ps) (some ((k:Int)+1)) none)) HP
   have c1:EX (BE ps) none (some (k:Int))=BE (ps.take k):=by rw[Fg _ (by omega),Int.toNat_natCast];simp[BE]
   have c2:EX (BE ps) (some ((k:Int)+1)) none=BE (ps.drop (k+1)):=by rw[Fh _ (by omega),show((k:Int)+1).toNat=k+1 by omega];simp[BE]
   rw[c1,c2]at sb
   rw[c1]at sa
   rw[c1,c2]
   have F9:(BE (ps.take k)).length+(BE (ps.drop (k+1))).length<=1000:=by simp[BE];omega
   refine zbx (sb _ _ AE) AE F9 λpp H5 s5 epp=>⟨by decide,λl5 hl5=> ?_⟩
   have sc:=AQ (o:=.lst []) hl5
   have s6:=(((CU.trans sa).trans sb).trans s5).trans sc
   have epp':H5 pp=some (.tup (BE (ps.eraseIdx k))):=by rw[epp,List.eraseIdx_eq_take_drop_succ];simp[BE]
   have hel:(ps.eraseIdx k).length<=100:=by rw[List.length_eraseIdx];split<;>omega
   refine⟨X,cs,tks,M,rec,m,ps,ps.eraseIdx k,pp,l5,[],rfl,T4',I.same s6,hr,eR,sc _ _ epp',hel,AE,by simp,(λx hx=>by cases hx),by omega,λc1' H7 I7 sb7=> ?_⟩
   obtain⟨T,TP,TL,TS⟩:=T4
   obtain⟨dx7,ho7⟩:=I7.ob
   obtain⟨dl7,el7⟩:=I7.ly.ob
   obtain⟨db7,eb7⟩:=I7.bk.bk.ob
   have k7:EU _ H7:=JC sb7 λx hx=>(I.same s6).bk.loose hx
   have eu7:=k7 _ _ ((((sa.trans sb).trans s5).trans sc) _ _ GY)
   push_cast[↓Vw]
   refine⟨_,_,_,ho7,TS.cl,TS.n2,_,HG,X.S.A.b,rfl,_,_,eb7,DN (by decide +kernel),_,_,_,ho7,TS.cl,TS.n1,_,HF,X.S.lp,rfl,_,_,el7,CA (by decide +kernel),C8 eu7 (n:=k) rfl (by unfold BE;rw[List.getElem?_map,ek];rfl) ?_⟩
   refine⟨X.S.lp,X.n,X.r,X.c,X.w,ps[k],rfl,TL,I7.ly,λu hu=>⟨by decide,λl8 hl8=> ?_⟩⟩
   have hm2:AX X.n X.r X.c X.w 2=X.c * X.w:=by simp[AX]
   have sd:=AQ (o:=.tup [.int (X.n+X.r+X.c+X.r+(ps[k]:Int) / X.w),.int ((ps[k]:Int) % X.w)]) hu
   have se:=AQ (o:=.lst [.int cs.length]) hl8
   have f1:=se _ _ (show upd H7 u (.tup [.int (X.n+X.r+X.c+X.r+(ps[k]:Int) / X.w),.int ((ps[k]:Int) % X.w)]) u=some (.tup [.int (A5 X.n X.r X.c X.w 2 ps[k]:Nat),.int (ps[k] % X.w:Nat)]) by rw[AE];simp[A5])
   refine HH (ns:=[(cs.length:Int)]) T4' (I7.same (sd.trans se)) (kind:=2) (x:=.mk 0) (by decide) (by rw[hm2];exact hp) f1 AE (by simp) (by simp;omega) (λx hx=>by rw[List.mem_singleton.mp hx];exact⟨by omega,by simp;omega⟩) trivial rfl (Nat.zero_le _) λc2' H9 I9 MZ=>⟨by decide,λl hl=> ?_⟩
   have sl:=AQ (o:=.lst [V.int cs.length,V.int ((cs++[c1']).length:Nat)]) hl
   have sbH:SameBut (λx=>X.S.A.F x\/x=X.S.tk) H H9:=λy o e n=>MZ _ _ ((sd.trans se) _ _ (sb7 _ _ (s6 _ _ e) λz=>n (.inl z))) λz=>n (.inl z)
   exact q3 [c1',c2'] l _ rfl (LD I9 sbH hl) (by rw[AE];simp[BE,List.range_succ]) (by have:=I9.same sl;simpa using this) λy o e n=>sl _ _ (sbH _ _ e n)
 ·exact⟨by decide,q2 (by omega) _ CU⟩
theorem JE{f:Nat->Bool}{m k:Nat}(h:EH f m=k):f k=true:=by
 unfold EH at h
 cases e:(List.range m).find? f with
 | none=>rw[e]at h;simp at h
 | some k' =>
  rw[e]at h
  have:=List.find?_some e
  have:k'=k:=by simp at h;omega
  subst this
  assumption
theorem zbz{M:Hs}{m cell rec:Nat}{x:CV}{y z:Str}{n1 n2:List Nat}(hyz:y≠z)(fc:FJ 0 (M 0 cell)=true):cellOf ((M.put 3 rec x n1).put 0 cell (.nm z rec) n2) m y=cellOf M m y:=by
 unfold cellOf
 refine YD λk _=> ?_
 unfold F6
 by_cases hk:k=cell
 ·subst hk
  rw[Hs.put_at,if_pos ⟨rfl,rfl⟩]
  cases e:M 0 k with
  | nm z' r'=>rw[e]at fc;simp[FJ]at fc
  | _=>simp;exact λh=>hyz h.symm
 ·rw[Hs.put_at,if_neg (by omega),Hs.put_at,if_neg (by omega)]
theorem zb0(h:RB K a vs H Q E):XW K a (λ_=>E) (A8 Q) (start ["self","old","new","linked","record","gone"] vs) H:=by
 obtain⟨X,cs,tks,M,y,z,rfl,T4,I,hyl,hzl,hcs,q,q1,q2,q3,q4⟩:=h
 obtain⟨dx,ho⟩:=I.ob
 push_cast[XW,↓Vx]
 refine⟨_,_,ho,B2 (by decide +kernel),X,cs,tks,M,y,z,rfl,T4,I,hyl,hzl,by omega,λhy hz hc old rec cell eo hol e0=> ?_,q1,q2,q3,q4⟩
 obtain⟨hr,m,ps,e3,hps,q⟩:=q hy hz hc old rec cell eo hol e0
 refine⟨hr,m,ps,e3,hps,λec BH ex l1 H1 hex F9 el1 I1 sb1=> ?_⟩
 have q:=q ec BH
 have hyz:y≠z:=λh=>by rw[h,hc]at eo;cases eo
 have fc:FJ 0 (M 0 cell)=true:=JE ec
 have hco:old≠cell:=λh=>by rw[<-h,e0]at fc;simp[FJ]at fc
 have ec1:cellOf ((M.put 3 rec (.rc (m+1) ps) []).put 0 cell (.nm z rec) (cs.length::EI tks z)) X.m0 y=some old:=by rw[zbz hyz fc];exact eo
 have e01:((M.put 3 rec (.rc (m+1) ps) []).put 0 cell (.nm z rec) (cs.length::EI tks z)) 0 old=.nm y rec:=by rw[Hs.put_at,if_neg (by omega),Hs.put_at,if_neg (by omega)];exact e0
 obtain⟨dx1,ho1⟩:=I1.ob
 have fl1:¬ X.S.A.F l1/\l1≠X.S.tk:=⟨λz=>by
  have:=I.bk.off F9
  exact this z,λz=>by rw[z,I.tk]at F9;cases F9⟩
 push_cast[↓Vy]
 refine⟨_,_,ho1,B2 (by decide +kernel),X,_,tks,_,y,rfl,T4,I1,λcell' k' ec' hc' eM' H2 s2=> ?_,λe=>by rw[ec1]at e;cases e⟩
 rw[ec1]at ec'
 cases ec'
 rw[e01]at eM'
 cases eM'
 have I2:=I1.same s2
 push_cast[↓Vz]
 refine⟨_,_,s2 _ _ ho1,B2 (by decide +kernel),FR (SqL.of (s2 _ _ el1)) (n:=1) (v:=.int (cs.length+1:Nat)) rfl (by simp[BE,List.range_succ]) ⟨by decide,λl3 hl3=> ?_⟩⟩
 have s3:=AQ (o:=.lst [V.int (cs.length+1:Nat)]) hl3
 have I3:=I2.same s3
 have e33:((M.put 3 rec (.rc (m+1) ps) []).put 0 cell (.nm z rec) (cs.length::EI tks z)) 3 rec=.rc (m+1) ps:=by rw[Hs.put_at,if_neg (by omega),Hs.put_at,if_pos ⟨rfl,rfl⟩]
 refine⟨X,_,tks,_,old,y,l3,[((cs.length+1:Nat):Int)],rfl,T4,I3,ec1,hol,AE,by simp,(λx hx=>by rw[List.mem_singleton.mp hx];exact⟨by omega,by simp[hex]⟩),by simp[hex];omega,λc3 H4 I4 sb4=> ?_⟩
 obtain⟨dx4,ho4⟩:=I4.ob
 have BV:(cs++ex).length=cs.length+2:=by simp[hex]
 rw[BV]
 have el4:=sb4 _ _ (s3 _ _ (s2 _ _ el1)) λz=>z.elim fl1.1 fl1.2
 push_cast[↓Wb]
 refine⟨_,_,ho4,B2 (by decide +kernel),by decide,λl5 hl5=> ?_⟩
 have s5:=AQ (o:=.lst [V.int (cs.length+2:Nat)]) hl5
 have e34:(((M.put 3 rec (.rc (m+1) ps) []).put 0 cell (.nm z rec) (cs.length::EI tks z)).put 0 old .no (JB [((cs.length+1:Nat):Int)])) 3 rec=.rc (m+1) ps:=by rw[Hs.put_at,if_neg (by omega)];exact e33
 refine⟨X,_,_,_,rec,m+1,m,-1,ps,l5,[((cs.length+2:Nat):Int)],rfl,T4,I4.same s5,hr,e34,by omega,hps,AE,by simp,(λx hx=>by rw[List.mem_singleton.mp hx];exact⟨by omega,by simp[hex]⟩),by simp[hex];omega,λc4 H6 I6 sb6=>⟨by decide,λl6 hl6=>.inl ?_⟩⟩
 have el6:=sb6 _ _ (s5 _ _ el4) fl1.1
 have s6:=AQ (o:=.lst [V.int (cs.length+2:Nat),V.int ((cs++ex++[c3]).length:Nat)]) hl6
 refine⟨l1,l6,_,_,rfl,rfl,s6 _ _ el6,AE,CT _ (by simp[BE]),λl hl=> ?_⟩
 have sl:=AQ (o:=.lst (BE ((List.range 2).map (cs.length+·))++[V.int (cs.length+2:Nat),V.int ((cs++ex++[c3]).length:Nat)])) hl
 have sbH:SameBut (λx=>X.S.A.F x\/x=X.S.tk) H (upd H6 l6 (.lst [V.int (cs.length+2:Nat),V.int ((cs++ex++[c3]).length:Nat)])):=λb o e n=>s6 _ _ (sb6 _ _ (s5 _ _ (sb4 _ _ (s3 _ _ (s2 _ _ (sb1 _ _ e n))) n)) λz=>n (.inl z))
 have h2:((cs.length:Int)+2).toNat=cs.length+2:=by omega
 exact q (ex++[c3]++[c4]) l _ (by simp[hex]) (LD (I6.same s6) sbH hl) (by rw[AE];simp[BE,List.range_succ,hex]) (by have:=(I6.same s6).same sl;simpa [List.append_assoc,hex,h2]using this) λb o e n=>sl _ _ (sbH _ _ e n)
theorem rK(C C':Nat->Bool)(hC:∀ j,C j=true->C' j=true)(kind k:Nat):∀ as:List AC,(∃ x,∀ M,sh M C' as kind k=x)\/((∀ M,sh M C' as kind k=M kind k)/\∀ M,sh M C as kind k=M kind k)
 | []=>.inr ⟨λ_=>rfl,λ_=>rfl⟩
 | b::r=>by
  have ih:=rK C C' hC kind k r
  by_cases e:kind=b.kind/\k=b.k
  ·obtain⟨rfl,rfl⟩:=e
   by_cases c:C' r.length=true
   ·exact .inl ⟨b.x,λM=>by rw[CD c,CM]⟩
   ·have c0:¬ C r.length=true:=λz=>c (hC _ z)
    rcases ih with⟨x,h⟩ | ⟨h1,h2⟩
    ·exact .inl ⟨x,λM=>by rw[DY c];exact h M⟩
    ·exact .inr ⟨λM=>by rw[DY c];exact h1 M,λM=>by rw[DY c0];exact h2 M⟩
  ·have far:∀ (D:Nat->Bool) (M:Md),sh M D (b::r) kind k=sh M D r kind k:=λD M=>by
    by_cases c:D r.length=true
    ·rw[CD c];exact if_neg e
    ·rw[DY c]
   rcases ih with⟨x,h⟩ | ⟨h1,h2⟩
   ·exact .inl ⟨x,λM=>by rw[far];exact h M⟩
   ·exact .inr ⟨λM=>by rw[far];exact h1 M,λM=>by rw[far];exact h2 M⟩
theorem zb1{C C':Nat->Bool}(hC:∀ j,C j=true->C' j=true){M:Md}{as:List AC}{kind k:Nat}:sh (sh M C as) C' as kind k=sh M C' as kind k:=by
 rcases rK C C' hC kind k as with⟨x,h⟩ | ⟨h1,h2⟩
 ·rw[h,h]
 ·rw[h1,h1,h2]
theorem zb2{cs:List Ch}{ch:Ch}{O:Int->Bool}{b:Nat}{row:List V}:EF (cs++[ch]) O b row=if ch.blk=b/\O cs.length=true then(EF cs O b row).set ch.cell ch.val else EF cs O b row:=by
 have ib:CI (cs++[ch]) b=if ch.blk=b then CI cs b++[cs.length]else CI cs b:=by simp[CI,F5]
 have st:∀ (l:List Nat) (row:List V),(∀ k∈l,k<cs.length)->l.foldl (FS (cs++[ch]) O) row=l.foldl (FS cs O) row:=by
  intro l
  induction l with
  | nil=>intro _ _;rfl
  | cons k l ih =>
   intro row h
   rw[List.foldl_cons,List.foldl_cons,ih _ λj hj=>h j (List.mem_cons_of_mem _ hj)]
   congr 1
   unfold FS
   rw[List.getElem?_append_left (h k List.mem_cons_self)]
 have lt:∀ k∈CI cs b,k<cs.length:=λk hk=>by
  obtain⟨c,e,_⟩:=QE.mp hk
  exact(List.getElem?_eq_some_iff.mp e).1
 unfold EF
 rw[ib]
 by_cases e:ch.blk=b
 ·rw[if_pos e,List.foldl_append,st _ _ lt]
  simp only[List.foldl_cons,List.foldl_nil]
  unfold FS
  rw[List.getElem?_append_right (Nat.le_refl _),Nat.sub_self]
  by_cases o:O cs.length=true
  ·rw[if_pos o,if_pos ⟨e,o⟩];rfl
  ·rw[if_neg o,if_neg λz=>o z.2]
 ·rw[if_neg e,if_neg λz=>e z.1,st _ _ lt]
section
variable{n r c w:Nat}{cs:List Ch}{as:List AC}
theorem LaidA.len(h:LaidA n r c w H cs as):cs.length=as.length:=by
 induction h with
 | nil=>rfl
 | snoc _ _ _ _ _ _ _ ih=>rw[List.length_append,ih];rfl
theorem LaidA.cut(h:LaidA n r c w H cs as){outs:Int->Bool}(hc:QI cs outs):E9 (λj=>outs (j:Nat)) as:=by
 induction h with
 | nil=>trivial
 | @snoc cs as ch x l e1 e2 e3 e4 e5 e6 ih =>
  refine⟨ih λk c ec=>hc k c (by rw[List.getElem?_append_left (List.getElem?_eq_some_iff.mp ec).1];exact ec),λo=> ?_⟩
  have o:outs (cs.length:Nat)=true:=by rw[l.len];exact o
  have nd:=hc cs.length ch (by rw[List.getElem?_append_right (Nat.le_refl _),Nat.sub_self];rfl) o
  exact⟨λy hy=>nd _ ((e4 _).mpr (.inl ⟨y,hy,rfl⟩)),λj hj=>nd _ ((e4 _).mpr (.inr ⟨j,hj,rfl⟩))⟩
theorem LaidA.far(h:LaidA n r c w H cs as){C C':Int->Bool}{b:Nat}(hC:∀ (j:Nat) (ch:Ch),cs[j]? =some ch->ch.blk≠b->C' j=C j){M:Md}{kind k:Nat}(hb:A5 n r c w kind k≠b):sh M (λj=>C' (j:Nat)) as kind k=sh M (λj=>C (j:Nat)) as kind k:=by
 induction h with
 | nil=>rfl
 | @snoc cs as ch x l e1 e2 e3 e4 e5 e6 ih =>
  have ih:=ih λj c ec=>hC j c (by rw[List.getElem?_append_left (List.getElem?_eq_some_iff.mp ec).1];exact ec)
  by_cases e:kind=x.kind/\k=x.k
  ·have cc:=hC cs.length ch (by rw[List.getElem?_append_right (Nat.le_refl _),Nat.sub_self];rfl) (by rw[e1,<-e.1,<-e.2];exact hb)
   rw[l.len]at cc
   by_cases o:C as.length=true
   ·rw[CD (C:=λj=>C (j:Nat)) o,CD (C:=λj=>C' (j:Nat)) (cc.trans o),e.1,e.2,CM,CM]
   ·rw[DY (C:=λj=>C (j:Nat)) o,DY (C:=λj=>C' (j:Nat)) (by rw[cc];exact o)];exact ih
  ·have far:∀ D:Nat->Bool,sh M D (x::as) kind k=sh M D as kind k:=λD=>by
    by_cases o:D as.length=true
    ·rw[CD o];exact if_neg e
    ·rw[DY o]
   rw[far,far];exact ih
theorem LaidA.laid(h:LaidA n r c w H cs as){O:Int->Bool}{b:Nat}{row:List V}{S:Md}(hr:∀ kind k v,kind<5->k<AX n r c w kind->A5 n r c w kind k=b->row[k % w]? =some v->RepC H (S kind k) v):∀ kind k v,kind<5->k<AX n r c w kind->A5 n r c w kind k=b->(EF cs O b row)[k % w]? =some v->RepC H (sh S (λj=>O (j:Nat)) as kind k) v:=by
 induction h with
 | nil=>exact hr
 | @snoc cs as ch x l e1 e2 e3 e4 e5 e6 ih =>
  intro kind k v h1 hk hb hv
  rw[zb2]at hv
  have ih:=ih kind k v h1 hk hb
  by_cases e:kind=x.kind/\k=x.k
  ·obtain⟨rfl,rfl⟩:=e
   rw[e1,hb]at hv
   by_cases o:O as.length=true
   ·rw[CD (C:=λj=>O (j:Nat)) o,CM]
    rw[if_pos ⟨rfl,by rw[l.len];exact o⟩,e2]at hv
    have hl:=(List.getElem?_eq_some_iff.mp hv).1
    rw[List.length_set]at hl
    rw[List.getElem?_set_self hl]at hv
    cases hv
    exact e3
   ·rw[DY (C:=λj=>O (j:Nat)) o]
    rw[if_neg λz=>o (by rw[<-l.len];exact z.2)]at hv
    exact ih hv
  ·have far:sh S (λj=>O (j:Nat)) (x::as) kind k=sh S (λj=>O (j:Nat)) as kind k:=by
    by_cases o:O as.length=true
    ·rw[CD (C:=λj=>O (j:Nat)) o];exact if_neg e
    ·rw[DY (C:=λj=>O (j:Nat)) o]
   rw[far]
   refine ih ?_
   split at hv
   ·rename_i z
    have:ch.cell≠k % w:=λy=>e (by
     have:=YB (n:=n) (r:=r) (c:=c) (w:=w) h1 e5 hk e6 (by rw[hb,<-e1];exact z.1.symm) (by rw[<-y,e2])
     exact this)
    rw[List.getElem?_set_ne this]at hv
    exact hv
   ·exact hv
end
theorem RowsAre.keep{n r c w:Nat}{rows:List (List V)}{S:Md}{H':Hp}(h:RowsAre H n r c w rows S)(k:EU H H'):RowsAre H' n r c w rows S:=λkind i v h1 h2 h3=>(h kind i v h1 h2 h3).keep k
theorem RowsAre.write{n r c w b:Nat}{cs:List Ch}{as:List AC}{rows:List (List V)}{row:List V}{B:Md}{outs:Int->Bool}(h:RowsAre H n r c w rows (sh B (λj=>outs (j:Nat)) as))(l:LaidA n r c w H cs as)(er:rows[b]? =some row) :
  RowsAre H n r c w (rows.set b (EF cs (EA cs outs b) b row)) (sh B (λj=>EA cs outs b (j:Nat)) as):=λkind k v h1 hk hv=>by
 have hb:=(List.getElem?_eq_some_iff.mp er).1
 have up:∀ j:Nat,outs j=true->EA cs outs b j=true:=λj e=>by unfold EA;rw[e];rfl
 by_cases e:A5 n r c w kind k=b
 ·rw[e,List.getElem?_set_self hb]at hv
  have:=l.laid (O:=EA cs outs b) (b:=b) (row:=row) (S:=sh B (λj=>outs (j:Nat)) as) (λkind k v h1 hk e hv=>h kind k v h1 hk (by rw[e,er];exact hv)) kind k v h1 hk e hv
  rw[zb1 (C:=λj=>outs (j:Nat)) (C':=λj=>EA cs outs b (j:Nat)) up]at this
  exact this
 ·rw[List.getElem?_set_ne (λz=>e z.symm)]at hv
  rw[l.far (C:=outs) (C':=EA cs outs b) (b:=b) (λj ch ej nb=> ?_) e]
  ·exact h kind k v h1 hk hv
  ·unfold EA
   have:(outcome cs outs (λ_=>false) b).out.any (λ(i:Nat)=>(j:Int) ==(i:Int))=false:=by
    rw[Bool.eq_false_iff]
    intro z
    obtain⟨i,hi,ei⟩:=List.any_eq_true.mp z
    have ei:i=j:=by have:=beq_iff_eq.mp ei;omega
    subst ei
    obtain⟨c',ec',eb⟩:=QE.mp ((U0.2.1 i hi).2)
    rw[ej]at ec'
    cases ec'
    exact nb eb
   rw[this,Bool.or_false]
theorem zb3:∀ i:Fin 26,(Str.ofString "abcdefghijklmnopqrstuvwxyz").cps.toList[i.val]? =some (97+i.val):=by decide +kernel
theorem zb4{i:Int}{n:Nat}{Q:VK}(hi:i=n)(hn:n<26)(q:Q (.str ⟨#[97+n]⟩) H):CY K (.str (Str.ofString "abcdefghijklmnopqrstuvwxyz")) (.int i) H Q:=rC hi (by decide +kernel) (zb3 ⟨n,hn⟩) q
theorem RQ{x:Int}{Q:VK}(q:∀ n:Nat,n<26->Q (.str ⟨#[97+n]⟩) H):CY K (.str (Str.ofString "abcdefghijklmnopqrstuvwxyz")) (.int (x % 26)) H Q:=by
 obtain⟨b,eb,hb⟩:=X9 x (n:=26) (by omega)
 rw[show((26:Nat):Int)=26 from rfl]at eb
 rw[eb]
 exact zb4 rfl hb (q b hb)
theorem zb5(x y:Str):(x++y).cps.toList=x.cps.toList++y.cps.toList:=by
 show(x.cps++y.cps).toList=_
 simp
theorem RR(z:Str):z.cps.toList.length=z.length:=by simp[Str.length]
theorem zb6{z:Str}{k:Nat}(h:k<=z.length):(Txt.slice z none (some (k:Int))).cps.toList=z.cps.toList.take k:=by
 rw[eq_of_beq (slice_closes_to (x:=z) (j:=(k:Int)) ⟨by omega,by rw[RR];omega⟩)]
 simp
theorem zb7{z:Str}{k:Nat}(h:k<=z.length):(Txt.slice z (some (k:Int)) none).cps.toList=z.cps.toList.drop k:=by
 rw[eq_of_beq (slice_closes_from (x:=z) (i:=(k:Int)) ⟨by omega,by rw[RR];omega⟩)]
 have:((z.cps.toList.length:Int) - k).toNat=(z.cps.toList.drop k).length:=by rw[List.length_drop];omega
 simp only[Int.toNat_natCast,this,List.take_length]
def Lts(z:Str)(n:Nat):Prop:=z.cps.toList.length=n/\z.cps.toList.all NW=true
theorem Lts.len{z:Str}{n:Nat}(h:Lts z n):z.length=n:=by rw[<-RR];exact h.1
theorem Lts.cat{x y:Str}{n m:Nat}(h:Lts x n)(h':Lts y m):Lts (x++y) (n+m):=by
 unfold Lts
 rw[zb5,List.length_append,List.all_append,h.1,h'.1,h.2,h'.2]
 exact⟨rfl,rfl⟩
theorem Lts.one{n:Nat}(h:n<26):Lts ⟨#[97+n]⟩ 1:=⟨rfl,by simp[NW];omega⟩
theorem Lts.to{z:Str}{n k:Nat}(h:Lts z n)(hk:k<=n):Lts (Txt.slice z none (some (k:Int))) k:=by
 unfold Lts
 rw[zb6 (by rw[h.len];exact hk)]
 refine⟨by rw[List.length_take,h.1];omega,?_⟩
 rw[List.all_eq_true]
 exact λc hc=>List.all_eq_true.mp h.2 c (List.mem_of_mem_take hc)
theorem Lts.from{z:Str}{n k:Nat}(h:Lts z n)(hk:k<=n):Lts (Txt.slice z (some (k:Int)) none) (n - k):=by
 unfold Lts
 rw[zb7 (by rw[h.len];exact hk)]
 refine⟨by rw[List.length_drop,h.1],?_⟩
 rw[List.all_eq_true]
 exact λc hc=>List.all_eq_true.mp h.2 c (List.mem_of_mem_drop hc)
theorem Lts.name{z:Str}{n:Nat}(h:Lts z n)(h1:1<=n)(h8:n<=8):BM z=true:=by
 unfold BM
 rw[h.len,h.2]
 simp
 omega
theorem rM{z:Str}(h:BM z=true):Lts z z.length/\1<=z.length/\z.length<=8:=by
 unfold BM at h
 simp only[Bool.and_eq_true,decide_eq_true_eq]at h
 exact⟨⟨RR z,h.2⟩,h.1.1,h.1.2⟩
theorem zb8(h:RC K a vs H Q E):V0 K a (λ_=>E) (A8 Q) (start ["cell","letters","base","rest","k","at","first","last","turned"] vs) H:=by
 obtain⟨x,rfl,q⟩:=h
 push_cast[V0,↓Jq,↓Jv,↓Jw,↓Jz]
 obtain⟨m,em,hm⟩:∃ m:Nat,1+x % 6=m/\1<=m/\m<=6:=⟨(1+x % 6).toNat,by omega,by omega⟩
 rw[em,Int.toNat_natCast]
 refine⟨⟨by decide,by decide⟩,by omega,by omega,K4 (λi σ H'=>∃ (p:Str) (rest:Int),H'=H/\Lts p i/\∃ y,σ=[some (.int x),some (.str (Str.ofString "abcdefghijklmnopqrstuvwxyz")),some (.str p),some (.int rest),y,none,none,none,none]) ⟨Str.ofString "",_,rfl,⟨by decide +kernel,by decide +kernel⟩,_,rfl⟩ (λi σ H' hi hzz=> ?_) (λσ H' hzz=> ?_)⟩
 ·obtain⟨p,rest,e,hp,y,ez⟩:=hzz
  subst e ez
  push_cast[↓Jx,↓Jy]
  have:=hp.len
  refine⟨.inl ⟨by omega,by omega⟩,⟨by decide,by decide⟩,.inl ⟨by omega,by omega⟩,RQ λn hn=> ?_⟩
  push_cast[]
  have h1:=(Lts.one hn).len
  exact⟨CT _ (by omega),⟨by decide,by decide⟩,.inl ⟨by omega,by omega⟩,_,hp.cat (Lts.one hn),rfl⟩
 ·obtain⟨p,rest,e,hp,y,ez⟩:=hzz
  subst e ez
  have CJ:=hp.len
  push_cast[↓Kb]
  refine⟨⟨by decide,by decide⟩,m,⟨CT _ (by omega),CJ.symm⟩,by omega,?_⟩
  obtain⟨at',eat,hat⟩:=X9 (x / 7) (n:=m) (by omega)
  rw[eat]
  push_cast[↓Kc]
  refine⟨⟨by decide,by decide⟩,RQ λn1 hn1=> ?_⟩
  push_cast[↓Kd]
  refine⟨⟨by decide,by decide⟩,⟨by decide,by decide⟩,RQ λn2 hn2=> ?_⟩
  push_cast[↓Kg]
  refine⟨rfl,za3 (n:=at') rfl (by omega) (by omega) λc=>⟨_,_,rfl,rfl,?_⟩⟩
  push_cast[]
  refine⟨⟨by decide,by decide⟩,RQ λn3 hn3=> ?_⟩
  push_cast[↓Kh]
  have l1:=Lts.one hn1
  have l2:=Lts.one hn2
  have l3:=Lts.one hn3
  have lt:=hp.to (k:=at') (by omega)
  have lf:=hp.from (k:=at'+1) (by omega)
  have d1:=l1.len
  have d2:=l2.len
  have d3:=l3.len
  have d4:=lt.len
  have d5:=lf.len
  have ea:((at':Nat):Int)+1=((at'+1:Nat):Int):=by omega
  rw[ea]
  have e1:=hp.cat l2
  have e2:=l1.cat hp
  have e3:=(lt.cat l3).cat lf
  have e4:=(hp.cat l2).cat l1
  refine⟨CT _ (by omega),CT _ (by omega),CT _ (by omega),CT _ (by omega),CT _ (by omega),CT _ (by rw[rE];omega),CT _ (by omega),CT _ (by rw[rE];omega),by decide,λl hl=> ?_⟩
  refine q l [p,p++(⟨#[97+n2]⟩:Str),(⟨#[97+n1]⟩:Str)++p,Txt.slice p none (some (at':Int))++(⟨#[97+n3]⟩:Str)++Txt.slice p (some ((at'+1:Nat):Int)) none,p++(⟨#[97+n2]⟩:Str)++(⟨#[97+n1]⟩:Str)] _ hl (AQ hl) (by rw[AE];rfl) rfl λz hz=> ?_
  simp only[List.mem_cons,List.not_mem_nil,or_false]at hz
  rcases hz with rfl | rfl | rfl | rfl | rfl
  ·exact hp.name (by omega) (by omega)
  ·exact e1.name (by omega) (by omega)
  ·exact e2.name (by omega) (by omega)
  ·exact e3.name (by omega) (by omega)
  ·exact e4.name (by omega) (by omega)
def N6:Str:=Str.ofString " !\"#$&'()*+,-./0123456789:;<=>?@ABCDEFGHIJKLMNOPQRSTUVWXYZ[\\]^_`"++Str.ofString "abcdefghijklmnopqrstuvwxyz{|}~"
theorem zb9:∀ i:Fin 94,∃ c,N6.cps.toList[i.val]? =some c/\c<1114112:=by
 have h:∀ i:Fin 94,N6.cps.toList[i.val]? =some (N6.cps.toList[i.val]!)/\N6.cps.toList[i.val]! <1114112:=by decide +kernel
 exact λi=>⟨_,(h i).1,(h i).2⟩
theorem zca(h:RE K a vs H Q E):V5 K a (λ_=>E) (A8 Q) (start ["cell"] vs) H:=by
 obtain⟨x,rfl,q⟩:=h
 push_cast[V5,↓Ky,↓Kz,↓Lb]
 refine⟨⟨by decide,by decide⟩,?_⟩
 split
 ·exact q _
 ·exact q _
theorem rN:∀ l:List Str,(∀ x∈l,x.length=1)->(l.map (·.length)).sum=l.length
 | [],_=>rfl
 | x::r,h=>by
  rw[List.map_cons,List.sum_cons,rN r λy hy=>h y (List.mem_cons_of_mem _ hy),h x List.mem_cons_self,List.length_cons]
  omega
theorem rO{g:Str}(hg:PyData.strOk g=true):∀ (l:List Str) (B0:Array Nat),(B0.all λx=>decide (x<1114112))=true->(∀ z∈l,PyData.strOk z=true)->((l.foldl (λB0 p=>B0++g.cps++p.cps) B0).all λx=>decide (x<1114112))=true
 | [],B0,h,_=>h
 | z::l,B0,h,hz=>by
  rw[List.foldl_cons]
  refine rO hg l _ ?_ λy hy=>hz y (List.mem_cons_of_mem _ hy)
  have h1:(g.cps.all λx=>decide (x<1114112))=true:=hg
  have h2:(z.cps.all λx=>decide (x<1114112))=true:=hz z List.mem_cons_self
  rw[Array.all_append,Array.all_append,h,h1,h2,Bool.true_and,Bool.true_and]
theorem zcb{g:Str}{l:List Str}(hg:PyData.strOk g=true)(h:∀ z∈l,PyData.strOk z=true):PyData.strOk (Txt.join g l)=true:=by
 unfold PyData.strOk Txt.join Builtin.Str.glued
 cases l with
 | nil=>show((Str.empty.cps).all λx=>decide (x<1114112))=true;decide +kernel
 | cons z l=>exact rO hg l z.cps (h z List.mem_cons_self) λy hy=>h y (List.mem_cons_of_mem _ hy)
theorem zcc(h:RD K a vs H Q E):V4 K a (λ_=>E) (A8 Q) (start ["cell","signs","many","step","wide"] vs) H:=by
 obtain⟨x,rfl,q⟩:=h
 have tail:∀ m:Nat,m<=40->V1 K a (λ_=>E) (λ_=>E) { nx:=AL (V2 K a (λ_=>E) (λ_=>E)) (V3 K a (λ_=>E) (λ_=>E)) (A8 Q),rt:=Q } [some (.int x),some (.str N6),some (.int m),none,none] H:=λm hm=>by
  push_cast[↓Kv,↓Kw,↓Kx]
  refine⟨⟨by decide,by decide⟩,⟨by decide,by decide⟩,rfl,by omega,by omega,?_⟩
  refine NL (CT _ (by omega)) (λi ys H'=>H'=H/\∃ zs:List Str,ys=zs.map V.str/\∀ z∈zs,z.length=1/\PyData.strOk z=true) ⟨rfl,[],rfl,by simp⟩ (λi ys H' hi hl hzz=> ?_) (λys H' hl ⟨e1,zs,e2,e3⟩ p hp=> ?_)
  ·obtain⟨e1,zs,e2,e3⟩:=hzz
   subst e1
   push_cast[D8]
   obtain⟨b,eb,hb⟩:=X9 (x / 3+(1+x / 19 % 93) * ((0+(i:Int)) / (1+x / 7 % 3))) (n:=94) (by omega)
   obtain⟨c,hc,hco⟩:=zb9 ⟨b,hb⟩
   have hd:(0+(i:Int)) / (1+x / 7 % 3)<=40/\0<=(0+(i:Int)) / (1+x / 7 % 3):=by
    have h1:0<1+x / 7 % 3:=by omega
    refine⟨?_,Int.ediv_nonneg (by omega) (by omega)⟩
    exact Int.le_trans (Int.ediv_le_self _ (by omega)) (by omega)
   refine⟨⟨by decide,by decide⟩,⟨by omega,by omega⟩,.inl ⟨by omega,by omega⟩,?_⟩
   rw[show((94:Nat):Int)=94 from rfl]at eb
   rw[eb]
   refine rC rfl (by decide +kernel) hc ⟨rfl,zs++[⟨#[c]⟩],by rw[e2,List.map_append];rfl,λz hz=> ?_⟩
   rcases List.mem_append.mp hz with hz | hz
   ·exact e3 z hz
   ·rw[List.mem_singleton.mp hz]
    exact⟨rfl,by simp[PyData.strOk];exact hco⟩
  ·subst e1
   have IE:zs.length=m:=by rw[<-hl,e2,List.length_map]
   refine⟨_,p,zs,rfl,rfl,by rw[<-e2];exact SqL.of AE,by decide,by rw[rN zs λz hz=>(e3 z hz).1];omega,q _ _ ?_ ?_ (AQ hp)⟩
   ·rw[W.KT.join_ones zs λz hz=>(e3 z hz).1,IE];exact hm
   ·exact zcb (by decide +kernel) λz hz=>(e3 z hz).2
 push_cast[V4,↓Kj,↓Kk,↓Kl,↓Kq,↓Km]
 refine⟨by decide +kernel,⟨by decide,by decide⟩,?_⟩
 split
 ·obtain⟨m,em,hm⟩:∃ m:Nat,40 - x / 40 % 2=m/\m<=40:=⟨(40 - x / 40 % 2).toNat,by omega,by omega⟩
  rw[em]
  exact⟨⟨by decide,by decide⟩,tail m hm⟩
 ·obtain⟨m,em,hm⟩:∃ m:Nat,1+x % 5=m/\m<=40:=⟨(1+x % 5).toNat,by omega,by omega⟩
  rw[em]
  exact tail m hm
theorem HI{c A B:Prop}[Decidable c](h:c)(x:A):if c then A else B:=by rw[if_pos h];exact x
theorem F8{c A B:Prop}[Decidable c](h:¬ c)(x:B):if c then A else B:=by rw[if_neg h];exact x
theorem rP{M:Md}{C:Nat->Bool}{as:List AC}:∀ {es:List AC},(∀ j,as.length<=j->C j=false)->sh M C (es++as)=sh M C as
 | [],_=>rfl
 | e::es,h=>by
  rw[List.cons_append,DY (by rw[h _ (by simp)];exact Bool.false_ne_true)]
  exact rP h
theorem YF{tks:List (AH × V)}{z:Str}{k:Nat}:LB (CB tks (.inr z) (.int (k:Nat)))=EG (LB tks) z k:=by
 funext y
 unfold LB EI EG
 rw[JQ]
 by_cases e:y=z
 ·subst e;rw[if_pos rfl,if_pos rfl];rfl
 ·rw[if_neg (λh=>e (Sum.inr.inj h)),if_neg e]
theorem YG{tks:List (AH × V)}{z:Str}{j:Nat}(h:LB tks z=some j):j∈EI tks z:=List.mem_of_mem_head? h
theorem LaidA.off{n r c w:Nat}{cs:List Ch}{as:List AC}(h:LaidA n r c w H cs as){C:Nat->Bool}{kind k:Nat}(hk:¬ k<AX n r c w kind):sh (λ_ _=>.no) C as kind k=.no:=by
 induction h with
 | nil=>rfl
 | @snoc cs as ch x l e1 e2 e3 e4 e5 e6 ih =>
  have e:¬ (kind=x.kind/\k=x.k):=λe=>hk (by rw[e.1,e.2];exact e6)
  by_cases c:C as.length=true
  ·rw[CD c];unfold Md.put;rw[if_neg e];exact ih
  ·rw[DY c];exact ih
section
variable{X:SX}{cs:List Ch}{tks:List (AH × V)}{M:Hs}
theorem C45.more{H':Hp}{ex:List Ch}{tks':List (AH × V)}{M':Hs}(I:C45 a H X cs tks M)(I':X.at a H' (cs++ex) tks' M')(sb:SameBut (λx=>X.S.A.F x\/x=X.S.tk) H H')(hH:∃ o,Hist X.m0 M'.b M'.as (LB tks') o)(hb:M'.b=M.b)(hs:∃ es,M'.as=es++M.as/\∀ x∈es,EB x.kind x.x):C45 a H' X (cs++ex) tks' M':=by
 obtain⟨es,he,ho⟩:=hs
 have tk:EU H H':=JC sb λx hx=>hx.elim (λh=>I.st.bk.loose h) λh=>by rw[h];exact NR I.st.tk
 have out:∀ j:Nat,cs.length<=j->X.outs j=false:=λj hj=>by
  obtain⟨C0,e,hv,ks⟩:=I.st.bk.bk.out
  cases eo:X.outs j with
  | false=>rfl
  | true =>
   exfalso
   rw[<-hv,<-IQ]at eo
   obtain⟨p,hp,ep⟩:=List.any_eq_true.mp eo
   have ep:p.1=.inl (j:Int):=by simpa using ep
   have:=ks.2 p hp
   rw[ep]at this
   obtain⟨k,e1,e2⟩:=this
   have:=Sum.inl.inj e1
   omega
 refine⟨I',hH,hb.trans I.b0,λk c ec o=> ?_,?_,I.few,λx hx=> ?_⟩
 ·by_cases hk:k<cs.length
  ·rw[List.getElem?_append_left hk]at ec
   exact I.cut k c ec o
  ·rw[out k (by omega)]at o;cases o
 ·rw[hb,he,rP λj hj=>out j (by rw[I.st.la.len];exact hj)]
  exact I.rows.keep tk
 ·rw[he]at hx
  rcases List.mem_append.mp hx with h | h
  ·exact ho x h
  ·exact I.ok x h
theorem YH{m:Nat}{z:Str}(h:cellOf M m z=none):∀ j r,j<m->M 0 j≠.nm z r:=λj r hj e=>by
 have:=List.find?_eq_none.mp h j (List.mem_range.mpr hj)
 unfold F6 at this
 rw[e]at this
 simp at this
theorem MT{cell:Nat}(ok:EB 0 (M 0 cell))(h:FJ 0 (M 0 cell)=true):M 0 cell=.no:=by
 cases e:M 0 cell with
 | no=>rfl
 | _=>rw[e]at h;simp[FJ]at h
theorem rQ{kind k:Nat}(h:FJ kind (M kind k)=true):M kind k≠.mk 1:=λe=>by
 rw[e]at h
 simp[FJ]at h
theorem C45.ps(I:C45 a H X cs tks M){r m:Nat}{ps:List Nat}(h:M 3 r=.rc m ps):(∀ p∈ps,p<X.c * X.w)/\ps.length<=12:=by
 obtain⟨o,hi⟩:=I.hi
 have lt:∀ p∈ps,p<X.c * X.w:=λp hp=>by
  have e:=(hi.now.pm r m ps h p hp).1
  rcases Nat.lt_or_ge p (X.c * X.w)with z | z
  ·exact z
  ·exfalso
   have:M 2 p=.no:=by
    show BP M.b M.as 2 p=.no
    rw[I.b0]
    have la:=I.st.la
    revert la
    generalize M.as=as
    intro la
    exact la.off λhk=>by simp[AX]at hk;omega
   rw[show BP M.b M.as 2 p=.no from this]at e
   cases e
 have:=List.Nodup.length_le_of_subset (hi.now.nd r m ps h) (l₂:=List.range (X.c * X.w)) λp hp=>List.mem_range.mpr (lt p hp)
 rw[List.length_range]at this
 have:=I.few
 exact⟨lt,by omega⟩
end
theorem RS{a b:Str}(h:E3 a b=false):a≠b:=λe=>by subst e;simp[E3]at h
theorem LE{d:Nat}:∀ {ps:List Nat} {M:Hs},(M.unmark d ps).as=(ps.map λp=>(⟨2,p,.mk 0,[d]⟩:AC)).reverse++M.as/\(M.unmark d ps).b=M.b
 | [],_=>⟨rfl,rfl⟩
 | p::ps,M=>by
  have:=LE (d:=d) (ps:=ps) (M:=M.put 2 p (.mk 0) [d])
  refine⟨?_,this.2⟩
  rw[List.map_cons,List.reverse_cons,List.append_assoc]
  exact this.1
theorem zcd(h:NY K a vs H Q E):X1 K a (λ_=>E) (A8 Q) (start ["store","kind","one","other","cell","refused"] vs) H:=by
 obtain⟨X,cs,tks,M,kind,y,z,x,rfl,T4,TD,I,hcs,hk,hy,hz,q1,q⟩:=h
 obtain⟨dx,ho⟩:=I.st.ob
 obtain⟨ly,_,hy8⟩:=rM hy
 obtain⟨lz,_,hz8⟩:=rM hz
 obtain⟨o,hi⟩:=I.hi
 have len:=I.st.la.len
 have sd:=hi.now
 have few:=I.few
 have ok0:∀ {cell},cell<X.m0->EB 0 (M 0 cell):=λh=>I.st.ok 0 _ (by decide) (by simpa [AX]using h)
 have rl:∀ {k z rec},k<X.m0->M 0 k=.nm z rec->∃ m ps,rec<X.r * X.w/\M 3 rec=.rc m ps:=λ{k z rec} hk e=>by
  obtain⟨m,ps,e3⟩:=sd.nl k z rec hk e
  refine⟨m,ps,?_,e3⟩
  rcases Nat.lt_or_ge rec (X.r * X.w)with h | h
  ·exact h
  ·exfalso
   have e3':sh M.b (λ_=>true) M.as 3 rec=.rc m ps:=e3
   rw[I.b0,I.st.la.off (C:=λ_=>true) (kind:=3) (k:=rec) (λhk=>by simp[AX]at hk;omega)]at e3'
   cases e3'
 push_cast[X1,↓Wc,↓Xc]
 have fin:∀ (v:String) (H':Hp),Str.ofString v≠Str.ofString ""->Same H H'->N5 K a (λ_=>E) (λ_=>E) (A8 Q) [some (.ref X.S.st),some (.int kind),some (.str y),some (.str z),some (.int x),some (.str (Str.ofString v))] H':=λv H' hv s=>by
  push_cast[↓qE]
  exact q1 _ H' hv s
 have bad:∀ c:String,(c="NoName"\/c="Twice"\/c="NoPiece"\/c="NoRoom")->∀ H',Same H H'->IW (λcls=>W.exmOne K cls (.ref (a "NoName"))) (X0 K a (λ_=>E) λ_=>E) (IW (λcls=>W.exmOne K cls (.ref (a "Twice"))) (XZ K a (λ_=>E) λ_=>E) (IW (λcls=>W.exmOne K cls (.ref (a "NoPiece"))) (XY K a (λ_=>E) λ_=>E) (IW (λcls=>W.exmOne K cls (.ref (a "NoRoom"))) (XX K a (λ_=>E) λ_=>E) TN))) (.ref (a c)) { nx:=N5 K a (λ_=>E) (λ_=>E) (A8 Q),rt:=Q } [some (.ref X.S.st),some (.int kind),some (.str y),some (.str z),some (.int x),some (.str (Str.ofString ""))] H':=λc hc H' s=>by
  rcases hc with rfl | rfl | rfl | rfl
  ·refine .inl ⟨TD.n1,?_⟩
   push_cast[↓Xb]
   exact fin _ _ (RS (by decide +kernel)) s
  ·refine .inr ⟨TD.t1,.inl ⟨TD.t2,?_⟩⟩
   push_cast[↓Wz]
   exact fin _ _ (RS (by decide +kernel)) s
  ·refine .inr ⟨TD.p1,.inr ⟨TD.p2,.inl ⟨TD.p3,?_⟩⟩⟩
   push_cast[↓Wy]
   exact fin _ _ (RS (by decide +kernel)) s
  ·refine .inr ⟨TD.r1,.inr ⟨TD.r2,.inr ⟨TD.r3,.inl ⟨TD.r4,?_⟩⟩⟩⟩
   push_cast[↓Wx]
   exact fin _ _ (RS (by decide +kernel)) s
 have good:∀ {ex:List Ch} {tks':List (AH × V)} {M':Hs} {H':Hp} {d:Nat},ex.length=d->d<=15->X.at a H' (cs++ex) tks' M'->(∃ o,Hist X.m0 M'.b M'.as (LB tks') o)->M'.b=M.b->(∃ es,M'.as=es++M.as/\∀ x∈es,EB x.kind x.x)->SameBut (λx=>X.S.A.F x\/x=X.S.tk) H H'->IB X.m0 kind y z M.b M.as M'.b M'.as->N5 K a (λ_=>E) (λ_=>E) (A8 Q) [some (.ref X.S.st),some (.int kind),some (.str y),some (.str z),some (.int x),some (.str (Str.ofString ""))] H':=λ{ex tks' M' H' d} h1 h2 I' h3 h4 h5 sb hp=>by
  push_cast[↓qE]
  exact q (cs++ex) tks' M' H' (I.more I' sb h3 h4 h5) (by simp;omega) sb hp
 have noY:BM y=false->False:=λh=>by rw[hy]at h;cases h
 have noZ:(BM y && BM z)=false->False:=λh=>by rw[hy,hz]at h;cases h
 push_cast[↓Ww]
 by_cases k1:kind<2
 ·refine HI (by omega) ?_
  push_cast[↓Wd]
  refine⟨_,_,ho,B2 (by decide +kernel),X,cs,tks,M,y,rfl,T4,I.st,by omega,by omega,λ_ hc rec cell er ec hr BH ex v H' hl _ _ I' sb=> ?_,λh=>(noY h).elim,λ_ ⟨k,hc⟩ H' s=>bad _ (.inr (.inl rfl)) H' s,λ_ hc h H' s=>bad _ (.inr (.inr (.inr rfl))) H' s⟩
  refine good hl (by omega) I' ?_ rfl ⟨[_,_,_],rfl,by simp[EB]⟩ sb ?_
  rotate_left
  ·exact Gm k1 (MT (ok0 BH) (JE ec))
  have:=hi.make (z:=y) (nd:=(cs.length+1)::EI tks y) BH (MT (ok0 BH) (JE ec)) (YH hc) (rQ (kind:=1) (JE er)) (by rw[len];simp) λj h=>List.mem_cons_of_mem _ (YG h)
  rw[<-len]at this
  exact⟨_,this⟩
 refine F8 (by omega) ?_
 push_cast[↓Wv]
 by_cases k2:kind=2
 ·subst k2
  refine HI (by decide) ?_
  push_cast[↓Wg]
  refine⟨_,_,ho,B2 (by decide +kernel),X,cs,tks,M,y,z,rfl,T4,I.st,by omega,by omega,by omega,λ_ _ hc old rec cell eo hol e0=> ?_,λh=>(noZ h).elim,λ_ _ ⟨k,hc⟩ H' s=>bad _ (.inr (.inl rfl)) H' s,λ_ _ _ _ H' s=>bad _ (.inl rfl) H' s,λ_ _ _ _ _ H' s=>bad _ (.inr (.inr (.inr rfl))) H' s⟩
  obtain⟨m,ps,hr,e3⟩:=rl hol e0
  refine⟨hr,m,ps,e3,by have:=(I.ps e3).2;omega,λec BH ex v H' hl _ _ I' sb=>good hl (by omega) I' ?_ rfl ⟨[_,_],rfl,by simp[EB]⟩ sb ?_⟩
  rotate_left
  ·exact Gp rfl (MT (ok0 BH) (JE ec))
  have:=hi.link (z:=z) (nd:=cs.length::EI tks z) BH (MT (ok0 BH) (JE ec)) (YH hc) e3 (by rw[len];simp) λj h=>List.mem_cons_of_mem _ (YG h)
  exact⟨_,this⟩
 refine F8 (by omega) ?_
 push_cast[↓Wq]
 by_cases k3:kind=3
 ·subst k3
  refine HI (by decide) ?_
  push_cast[↓Wh]
  refine⟨_,_,ho,B2 (by decide +kernel),X,cs,tks,M,y,rfl,T4,I.st,by omega,λcell rec ec BH e0=> ?_,λhc H' s=>bad _ (.inl rfl) H' s⟩
  obtain⟨m,ps,hr,e3⟩:=rl BH e0
  obtain⟨p1,p2⟩:=I.ps e3
  refine⟨hr,m,ps,e3,p1,by omega,λhm ex v H' hl _ _ I' sb=>good hl (by omega) I' ?_ rfl ⟨[_,_],rfl,by simp[EB]⟩ sb ?_,λhm ex v H' hl _ _ I' sb=>good hl (by omega) I' ?_ ?_ ?_ sb ?_⟩
  ·obtain⟨m',rfl⟩:∃ m',m=m'+1:=⟨m - 1,by omega⟩
   have:=hi.unlead (nd:=[]) BH e0 e3
   rw[<-len]at this
   rw[YF]
   exact⟨_,this⟩
  ·exact Gq rfl e0
  ·have:=hi.dropped (nd:=[]) BH e0 e3 hm
   rw[<-len]at this
   rw[YF]
   refine⟨EG o y cs.length,?_⟩
   show Hist X.m0 (Hs.unmark _ _ _).b (⟨1,rec,.mk 0,[cs.length+1]⟩::(Hs.unmark _ _ _).as) _ _
   rw[LE.1,LE.2]
   exact this
  ·exact LE.2
  ·refine⟨⟨1,rec,.mk 0,[cs.length+1]⟩::((ps.map λp=>(⟨2,p,.mk 0,[cs.length+1]⟩:AC)).reverse++[⟨3,rec,.no,[cs.length]⟩,⟨0,cell,.no,[]⟩]),?_,λx hx=> ?_⟩
   ·show⟨1,rec,.mk 0,[cs.length+1]⟩::(Hs.unmark _ _ _).as=_
    rw[LE.1]
    simp[Hs.put]
   ·simp only[List.mem_cons,List.mem_append,List.mem_reverse,List.mem_map,List.not_mem_nil,or_false]at hx
    rcases hx with rfl | ⟨p,_,rfl⟩ | rfl | rfl<;>simp[EB]
  ·show IB X.m0 3 y z M.b M.as (Hs.unmark _ _ _).b (⟨1,rec,.mk 0,[cs.length+1]⟩::(Hs.unmark _ _ _).as)
   rw[LE.1,LE.2]
   exact Gv rfl e0
 refine F8 (by omega) ?_
 push_cast[↓Wp]
 by_cases k4:kind<6
 ·refine HI (by omega) ?_
  push_cast[↓Wj]
  refine⟨_,_,ho,B2 (by decide +kernel),x,rfl,λt H1 tl tst s1=> ?_⟩
  refine⟨X,cs,tks,M,y,t,rfl,T4,I.st.same s1,by omega,tst,by omega,λcell rec ec BH e0 _ p ep hp=> ?_,λhc H' s=>bad _ (.inl rfl) H' (s1.trans s),λ_ _ H' s=>bad _ (.inr (.inr (.inl rfl))) H' (s1.trans s),λ_ _ _ H' s=>bad _ (.inr (.inr (.inr rfl))) H' (s1.trans s)⟩
  obtain⟨m,ps,hr,e3⟩:=rl BH e0
  have p2:=(I.ps e3).2
  refine⟨hr,m,ps,e3,by omega,λex v H' hl _ _ I' sb=>good hl (by omega) I' ?_ rfl ⟨[_,_,_],rfl,by simp[EB]⟩ (λb o e n=>sb _ _ (s1 _ _ e) n) ?_⟩
  rotate_left
  ·exact Gw ⟨by omega,by omega⟩ (by simp) (by simp) (by simp)
  have:=hi.put (x:=t) (rQ (kind:=2) (JE ep)) e3
  rw[<-len]at this
  exact⟨_,this⟩
 refine F8 (by omega) ?_
 push_cast[↓Wm]
 by_cases k6:kind=6
 ·subst k6
  refine HI (by decide) ?_
  push_cast[↓Wk]
  refine⟨_,_,ho,B2 (by decide +kernel),x,rfl,λu=>⟨X,cs,tks,M,y,u,rfl,T4,I.st,by omega,λcell rec ec BH e0=> ?_,λhc H' s=>bad _ (.inl rfl) H' s⟩⟩
  obtain⟨m,ps,hr,e3⟩:=rl BH e0
  obtain⟨p1,p2⟩:=I.ps e3
  refine⟨hr,m,ps,e3,by omega,λhx H' s=>bad _ (.inr (.inr (.inl rfl))) H' s,λk p ek ep=>⟨p1 p (List.mem_of_getElem? ep),λex v H' hl _ _ I' sb=>good hl (by omega) I' ?_ rfl ⟨[_,_],rfl,by simp[EB]⟩ sb ?_⟩⟩
  rotate_left
  ·exact Gx ⟨by omega,by omega⟩ (by simp) (by simp)
  have:=hi.take e3 ep
  rw[<-len]at this
  exact⟨_,this⟩
 refine F8 (by omega) ?_
 have k7:kind=7:=by omega
 subst k7
 push_cast[↓Wl]
 refine⟨_,_,ho,B2 (by decide +kernel),X,cs,tks,M,y,z,rfl,T4,I.st,by omega,by omega,by omega,λ_ _ hc old rec cell eo hol e0=> ?_,λh=>(noZ h).elim,λ_ _ ⟨k,hc⟩ H' s=>bad _ (.inr (.inl rfl)) H' s,λ_ _ _ _ H' s=>bad _ (.inl rfl) H' s,λ_ _ _ _ _ H' s=>bad _ (.inr (.inr (.inr rfl))) H' s⟩
 obtain⟨m,ps,hr,e3⟩:=rl hol e0
 refine⟨hr,m,ps,e3,by have:=(I.ps e3).2;omega,λec BH ex v H' hl _ _ I' sb=>good hl (by omega) I' ?_ rfl ⟨[_,_,_,_],rfl,by simp[EB]⟩ sb ?_⟩
 rotate_left
 ·exact Gy rfl BH (MT (ok0 BH) (JE ec)) e0 (by rw[len];simp)
 have f0:=MT (ok0 BH) (JE ec)
 have noc:old≠cell:=λe=>by rw[e,f0]at e0;cases e0
 have l1:=hi.link (z:=z) (nd:=cs.length::EI tks z) BH f0 (YH hc) e3 (by rw[len];simp) λj h=>List.mem_cons_of_mem _ (YG h)
 have l2:=l1.unlead (z:=y) (nd:=[cs.length+1]) (m:=m) (ps:=ps) hol (by rw[DA,DG noc,DA,DF (by simp)];exact e0) (by rw[DA,DF (by simp),DA,CM])
 have l3:(⟨0,cell,.nm z rec,cs.length::EI tks z⟩::⟨3,rec,.rc (m+1) ps,[]⟩::M.as:List AC).length=cs.length+2:=by rw[len];rfl
 rw[l3]at l2
 rw[YF]
 exact⟨_,l2⟩
theorem zce{cs:List Ch}{O:Int->Bool}{b j:Nat}{row:List V}(hn:D3 cs (b:Nat) (j:Nat)=none):(EF cs O b row)[j]? =row[j]? :=by
 rw[Fz,gO]
 cases el:HY cs ((CI cs b).filter λ(k:Nat)=>O k) j with
 | none=>simp
 | some c =>
  exfalso
  obtain⟨k,hk,ec,ecell,_⟩:=gP el
  obtain⟨c',ec',eb⟩:=QE.mp (List.mem_filter.mp hk).1
  rw[ec]at ec'
  cases ec'
  obtain⟨j0,c0,hn0,_⟩:=Gb ec
  rw[eb,ecell,hn]at hn0
  cases hn0
theorem zcf{cs:List Ch}{O:Int->Bool}{b:Nat}{row:List V}{v:V}(h:v∈EF cs O b row):v∈row\/∃ c∈cs,v=c.val:=by
 unfold EF at h
 revert h
 generalize CI cs b=l
 induction l generalizing row with
 | nil=>exact .inl
 | cons k l ih =>
  intro h
  rw[List.foldl_cons]at h
  rcases ih h with h | h
  ·unfold FS at h
   split at h
   ·split at h
    ·rename_i c ec
     rcases List.mem_or_eq_of_mem_set h with h | h
     ·exact .inl h
     ·exact .inr ⟨c,List.mem_of_getElem? ec,h⟩
    ·exact .inl h
   ·exact .inl h
  ·exact .inr h
theorem zcg(h:KH K a vs H Q E):W2 K a (λ_=>E) (A8 Q) (start ["self","block"] vs) H:=by
 obtain⟨X,cs,tks,M,b,row,rfl,⟨T,TP,TL,TS⟩,I,er,q⟩:=h
 obtain⟨dx,ho⟩:=I.ob
 obtain⟨db,eb⟩:=I.bk.bk.ob
 obtain⟨dp,ep⟩:=I.bk.pk.ob
 have hb:=(List.getElem?_eq_some_iff.mp er).1
 push_cast[W2,↓Qc]
 refine⟨_,_,_,ho,TS.cl,TS.n2,_,HG,X.S.A.b,rfl,_,_,eb,DN (by decide +kernel),X.S.A,X.w,X.rows,X.nn,cs,X.outs,b,rfl,T,TP,I.bk,λb' row' t ol hl H' eb' er' _ _ _ _ B' sb=> ?_,λz=>by omega⟩
 obtain rfl:b=b':=by omega
 rw[er]at er'
 cases er'
 have lo:∀ x,X.S.A.F x->EE (H x):=λx hx=>I.bk.loose hx
 have tk:EU H H':=λy ys e=>sb _ _ e λz=>z.elim (λz=>(lo _ z).1 _ e) λz=>by rw[z,ep]at e;cases e
 obtain⟨⟨dx,e1⟩,e2,e3,e4,e5,e6,e7,e8,e9,e10,e11,e12⟩:=I
 obtain⟨dl,el⟩:=e2.ob
 refine q t H' ⟨⟨dx,sb _ _ e1 λz=>z.elim (λz=>(lo _ z).2 _ _ _ e1) λz=> ?_⟩,e2.sb sb λz=>z.elim (λz=>(lo _ z).2 _ _ _ el) λz=> ?_,B',sb _ _ e4 λz=>z.elim e7 λz=> ?_,e5,e6,e7,⟨e8.1,e8.2.1,e8.2.2.1,e8.2.2.2.1,by show(X.rows.set b _).length=X.n+X.r+X.c+X.r+X.c;rw[List.length_set];exact e8.2.2.2.2⟩,⟨λq hq v hv=> ?_,(e9.keep tk).2⟩,λkind k v h1 hk hv=> ?_,e11,e12.keep tk⟩ sb
 ·rw[show X.S.st=X.S.A.gp from z,ep]at e1
  injection e1 with e1
  injection e1 with _ _ e1
  have:=congrArg (·.lookup ("plan":Str)) e1
  simp only[HF]at this
  rw[L7 _ _ _ (by decide +kernel) (by decide +kernel) (by decide +kernel)]at this
  cases this
 ·rw[show X.S.lp=X.S.A.gp from z,ep]at el
  injection el with el
  injection el with _ _ el
  exact absurd (congrArg List.length el) (by simp[pf,lf])
 ·rw[show X.S.tk=X.S.A.gp from z,ep]at e4;cases e4
 ·have g:=e9.keep tk
  rcases List.mem_or_eq_of_mem_set hq with hq | hq
  ·exact g.1 q hq v hv
  ·rw[hq]at hv
   rcases zcf hv with hv | ⟨c,hc,rfl⟩
   ·exact g.1 row (List.mem_of_getElem? er) v hv
   ·exact g.2 c hc
 ·have hv:D5 cs (X.rows.set b (EF cs (EA cs X.outs b) b row)) (A5 X.n X.r X.c X.w kind k:Nat) (k % X.w:Nat)=some v:=hv
  refine(e10 kind k v h1 hk ?_).keep tk
  rw[<-hv]
  unfold D5
  cases en:D3 cs (A5 X.n X.r X.c X.w kind k:Nat) (k % X.w:Nat)with
  | some j=>rfl
  | none =>
   show(X.rows[((A5 X.n X.r X.c X.w kind k:Nat):Int).toNat]?).bind _=((X.rows.set b _)[((A5 X.n X.r X.c X.w kind k:Nat):Int).toNat]?).bind _
   rw[Int.toNat_natCast]
   by_cases e:A5 X.n X.r X.c X.w kind k=b
   ·rw[e]at en ⊢
    rw[er,List.getElem?_set_self hb]
    show row[_]? =(EF cs _ b row)[_]?
    rw[Int.toNat_natCast,zce en]
   ·rw[List.getElem?_set_ne (λz=>e z.symm)]
theorem C45.write{X:SX}{cs:List Ch}{tks:List (AH × V)}{M:Hs}{b:Nat}{row:List V}{H':Hp}(I:C45 a H X cs tks M)(er:X.rows[b]? =some row)(I':(X.wr cs b row).at a H' cs tks M)(sb:SameBut (λx=>X.S.A.F x\/x=X.S.A.gp) H H'):C45 a H' (X.wr cs b row) cs tks M:=by
 obtain⟨dp,ep⟩:=I.st.bk.pk.ob
 have tk:EU H H':=λy ys e=>sb _ _ e λz=>z.elim (λz=>(I.st.bk.loose z).1 _ e) λz=>by rw[z,ep]at e;cases e
 exact⟨I',I.hi,I.b0,Gd I.cut b,(I.rows.write I.st.la er).keep tk,I.few,I.ok⟩
theorem C45.snd{X:SX}{cs:List Ch}{tks:List (AH × V)}{M:Hs}(I:C45 a H X cs tks M):Snd X.m0 (sh M.b (λj=>X.outs (j:Nat)) M.as):=by
 obtain⟨o,hi⟩:=I.hi
 exact hi.sd _ (I.st.la.cut I.cut)
theorem rR{κ :Type}[DecidableEq κ]{kvs:List (κ × V)}{k: κ}{v:V}{kv: κ × V}(h:kv∈CB kvs k v):kv.1=k\/kv∈kvs:=by
 unfold CB at h
 split at h
 ·obtain⟨p,hp,e⟩:=List.mem_map.mp h
  split at e
  ·rename_i z
   exact .inl (by rw[<-e];exact z)
  ·exact .inr (e ▸ hp)
 ·rcases List.mem_append.mp h with h | h
  ·exact .inr h
  ·exact .inl (by rw[List.mem_singleton.mp h])
structure rS(H:Hp)(d:Addr)(rows:List (List V))(w b j:Nat)(kvs:List (List AH × V)):Prop where
 e:H d=some (.dT kvs)
 l:kvs.length<=b * w+j
 ks:∀ kv∈kvs,∃ x y:Nat,x<rows.length/\y<w/\kv.1=[.inl (x:Int),.inl (y:Int)]
 v:∀ x y:Nat,(x<b\/x=b/\y<j)->y<w->BJ kvs [.inl (x:Int),.inl (y:Int)]=(rows[x]?).bind λq=>q[y]?
theorem zch(h:LC K a vs H Q E):WX K a (λ_=>E) (A8 Q) (start ["layout","plank","there","block","values","k"] vs) H:=by
 obtain⟨ly,gp,cl,n,r,c,w,rows,m,rfl,TL,TP,L,P,rl,r30,w6,q⟩:=h
 obtain⟨dl,el⟩:=L.ob
 push_cast[WX,↓Nd]
 intro d hd
 have s1:=AQ (o:=.dT []) hd
 have e1:upd H d (.dT []) d=some (.dT []):=AE
 revert s1 e1
 generalize upd H d (.dT [])=H1
 intro s1 e1
 push_cast[↓Nk]
 refine⟨_,_,s1 _ _ el,CA (by decide +kernel),ly,n,r,c,w,rfl,TL,L.same s1,(n+r+c+r+c:Nat),by simp,by omega,by omega,?_⟩
 rw[Int.toNat_natCast,<-rl]
 refine K4 (λi σ H'=>(Same H H'/\∃ kvs,rS H' d rows w i 0 kvs)/\∃ y3 y4 y5,σ=[some (.ref ly),some (.ref gp),some (.ref d),y3,y4,y5]) ⟨⟨s1,[],e1,Nat.zero_le _,λkv h=>(by cases h),λx y h=>by omega⟩,_,_,_,rfl⟩ (λi σ H' hi ⟨⟨s,kvs,T⟩,y3,y4,y5,es⟩=> ?_) (λσ H' ⟨⟨s,kvs,T⟩,y3,y4,y5,es⟩=> ?_)
 ·subst es
  have P':=P.same s
  obtain⟨dp,ep⟩:=P'.ob
  push_cast[↓Ng,Int.zero_add]
  refine⟨_,_,ep,X4 _ _ _,gp,cl,w,rows,m,i,rfl,TP,P',λb' row eb er vl hvl=> ?_,λz=>by omega⟩
  obtain rfl:i=b':=by omega
  have rw1:=P'.wd row (List.mem_of_getElem? er)
  have s2:=AQ (o:=.lst row) hvl
  have e2:upd H' vl (.lst row) vl=some (.lst row):=AE
  revert s2 e2
  generalize upd H' vl (.lst row)=H2
  intro s2 e2
  have ndv:vl≠d:=λz=>by rw[z,T.e]at hvl;cases hvl
  push_cast[↓Nj]
  refine⟨row.length,.inl ⟨_,SqL.of e2,rfl⟩,by omega,by omega,?_⟩
  rw[rw1]
  refine K4 (λj σ H'=>(Same H H'/\H' vl=some (.lst row)/\∃ kvs,rS H' d rows w i j kvs)/\∃ y5,σ=[some (.ref ly),some (.ref gp),some (.ref d),some (.int i),some (.ref vl),y5]) ⟨⟨s.trans s2,e2,kvs,s2 _ _ T.e,T.l,T.ks,T.v⟩,_,rfl⟩ (λj σ H3 hj ⟨⟨s3,ev,kv3,T3⟩,y5,es⟩=> ?_) (λσ H3 ⟨⟨s3,ev,kv3,T3⟩,y5,es⟩=> ?_)
  ·subst es
   have ej:=List.getElem?_eq_getElem (show j<row.length by omega)
   push_cast[↓Nh,Int.zero_add]
   refine FR (SqL.of ev) rfl ej ⟨by decide,λp hp=> ?_⟩
   have sp:=AQ (o:=.tup [V.int (i:Int),V.int (j:Int)]) hp
   have l3:=T3.l
   have l4:i * w<=30 * 6:=Nat.mul_le_mul (by omega) w6
   refine⟨_,DPut.t (k:=[.inl (i:Int),.inl (j:Int)]) (sp _ _ T3.e) AE (CT _ (by omega)),λb o e=> ?_,?_,_,AE,?_,λkv hkv=> ?_,λx y hxy hy=> ?_⟩
   ·rw[AG (BN e hd)];exact sp _ _ (s3 _ _ e)
   ·rw[AG ndv];exact sp _ _ ev
   ·exact Nat.le_trans (LU ..) (by omega)
   ·rcases rR hkv with h | h
    ·exact⟨i,j,hi,hj,h⟩
    ·exact T3.ks kv h
   ·rw[JQ]
    by_cases z:x=i/\y=j
    ·obtain⟨rfl,rfl⟩:=z
     rw[if_pos rfl,er];exact ej.symm
    ·rw[if_neg λe=>z (by
      simp only[List.cons.injEq,Sum.inl.injEq,and_true]at e
      omega)]
     exact T3.v x y (by omega) hy
  ·subst es
   push_cast[]
   exact⟨s3,kv3,T3.e,(by have:=T3.l;rw[Nat.add_mul];omega),T3.ks,λx y h hy=>T3.v x y (by omega) hy⟩
 ·subst es
  push_cast[↓Nl]
  exact q d kvs H' hd s T.e (λb k hb hk=>T.v b k (.inl hb) hk) T.ks
section
variable{ly d:Addr}{n r c w:Nat}{S:Md}
theorem There.same{H':Hp}(I:There K a H ly d n r c w S)(s:Same H H'):There K a H' ly d n r c w S:=by
 obtain⟨kvs,e,v⟩:=I.e
 exact⟨I.tl,I.la.same s,⟨kvs,s _ _ e,λkind k h1 h2=>by obtain⟨x,e1,e2⟩:=v kind k h1 h2;exact⟨x,e1,e2.keep s.tk⟩⟩,I.sd,I.ok,I.ps,I.rr,I.w1,I.w6,I.n6,I.r6,I.c6⟩
theorem There.get{kind k:Nat}{t:Addr}{H':Hp}{P:V->Prop}(I:There K a H ly d n r c w S)(s:Same H H')(h1:kind<5)(hk:k<AX n r c w kind)(et:H' t=some (.tup [.int (A5 n r c w kind k:Nat),.int (k % w:Nat)]))(q:∀ v,RepC H' (S kind k) v->P v):∃ v,DGet H' d (.ref t) (some v)/\P v:=by
 obtain⟨kvs,e,v⟩:=(I.same s).e
 obtain⟨x,e1,e2⟩:=v kind k h1 hk
 exact⟨x,Dl e et e1,q x e2⟩
end
theorem zci{C:Nat->Bool}{as:List AC}(h:∀ x∈as,EB x.kind x.x)(kind k:Nat):EB kind (sh (λ_ _=>.no) C as kind k):=by
 induction as with
 | nil=>cases kind<;>trivial
 | cons x r ih =>
  have ih:=ih λy hy=>h y (List.mem_cons_of_mem _ hy)
  by_cases c:C r.length=true
  ·rw[CD c]
   unfold Md.put
   split
   ·rename_i z
    rw[z.1];exact h x List.mem_cons_self
   ·exact ih
  ·rw[DY c];exact ih
theorem C45.there{X:SX}{cs:List Ch}{tks:List (AH × V)}{M:Hs}{d:Addr}{kvs:List (List AH × V)}(I:C45 a H X cs tks M)(TL:DX K a)(w1:1<=X.w)(ed:H d=some (.dT kvs))(hv:∀ b k:Nat,b<X.rows.length->k<X.w->BJ kvs [.inl (b:Int),.inl (k:Int)]=(X.rows[b]?).bind λq=>q[k]?) :
  There K a H X.S.lp d X.n X.r X.c X.w (sh M.b (λj=>X.outs (j:Nat)) M.as):=by
 have sd:=I.snd
 have out:∀ {kind k:Nat},¬ k<AX X.n X.r X.c X.w kind->sh M.b (λj=>X.outs (j:Nat)) M.as kind k=.no:=λh=>by rw[I.b0];exact I.st.la.off h
 obtain⟨z1,z2,z3,z4,z5⟩:=I.st.sz
 refine⟨TL,I.st.ly,⟨kvs,ed,λkind k h1 hk=> ?_⟩,sd,λkind k h1 hk=>by rw[I.b0];exact zci I.ok kind k,λq m ps e=> ?_,λk z q hk e=> ?_,w1,z4,z1,z2,z3⟩
 ·obtain⟨b1,b2⟩:=I.st.on h1 hk
  have er:=List.getElem?_eq_getElem b1
  have wl:=I.st.bk.pk.wd _ (List.mem_of_getElem? er)
  obtain⟨v,ev⟩:∃ v,(X.rows[A5 X.n X.r X.c X.w kind k])[k % X.w]? =some v:=⟨_,List.getElem?_eq_getElem (by rw[wl];exact b2)⟩
  have e:(X.rows[A5 X.n X.r X.c X.w kind k]?).bind (λq=>q[k % X.w]?)=some v:=by rw[er];exact ev
  exact⟨v,by rw[hv _ _ b1 b2];exact e,I.rows kind k v h1 hk e⟩
 ·have lt:∀ p∈ps,p<X.c * X.w:=λp hp=>by
   have e2:=(sd.pm q m ps e p hp).1
   rcases Nat.lt_or_ge p (X.c * X.w)with z | z
   ·exact z
   ·rw[out (kind:=2) (k:=p) (λh=>by simp[AX]at h;omega)]at e2
    cases e2
  have:=List.Nodup.length_le_of_subset (sd.nd q m ps e) (l₂:=List.range (X.c * X.w)) λp hp=>List.mem_range.mpr (lt p hp)
  rw[List.length_range]at this
  have:=I.few
  exact⟨lt,by omega⟩
 ·obtain⟨m,ps,e3⟩:=sd.nl k z q hk e
  rcases Nat.lt_or_ge q (X.r * X.w)with z | z
  ·exact z
  ·rw[out (kind:=3) (k:=q) (λh=>by simp[AX]at h;omega)]at e3
   cases e3
section
variable{κ :Type}[DecidableEq κ]
theorem zcj{kvs:List (κ × V)}{k: κ}{v:V}(h:(kvs.map (·.1)).Nodup):((CB kvs k v).map (·.1)).Nodup:=by
 cases e:BJ kvs k with
 | none =>
  rw[SW v e,List.map_append]
  refine List.nodup_append.mpr ⟨h,by simp,λx hx y hy z=> ?_⟩
  have:y=k:=by simpa using hy
  exact S9 e (by rw[<-this,<-z];exact hx)
 | some w =>
  unfold CB
  split
  ·rw[List.map_map]
   rw[show((λx: κ × V=>x.1) ∘ λkv: κ × V=>if kv.1=k then(kv.1,v)else kv)=(·.1) by funext kv;simp only[Function.comp];split<;>rfl]
   exact h
  ·rename_i z
   rw[IQ,e]at z
   simp at z
theorem zck{kvs:List (κ × V)}(h:(kvs.map (·.1)).Nodup){i:Nat}{k: κ}{v:V}(e:kvs[i]? =some (k,v)):BJ kvs k=some v:=by
 induction kvs generalizing i with
 | nil=>simp at e
 | cons p r ih =>
  rw[List.map_cons,List.nodup_cons]at h
  cases i with
  | zero =>
   rw[List.getElem?_cons_zero]at e
   cases e
   exact FO rfl
  | succ i =>
   rw[List.getElem?_cons_succ]at e
   have hm:k∈r.map (·.1):=List.mem_map.mpr ⟨_,List.mem_of_getElem? e,rfl⟩
   rw[FE λz=>h.1 (z ▸ hm)]
   exact ih h.2 e
theorem YI{k j: κ}:∀ {kvs:List (κ × V)},BJ (E6 kvs k) j=if j=k then none else BJ kvs j
 | []=>by split<;>rfl
 | p::r=>by
  have ih:=YI (k:=k) (j:=j) (kvs:=r)
  by_cases e:p.1=k
  ·rw[dO e,ih]
   by_cases z:j=k
   ·rw[if_pos z,if_pos z]
   ·rw[if_neg z,if_neg z,FE λ(y:p.1=j)=>z (y.symm.trans e)]
  ·rw[dP e]
   by_cases z:p.1=j
   ·rw[FO z,FO z,if_neg λy=>e (z.trans y)]
   ·rw[FE z,FE z,ih]
end
section
variable{X:SX}{cs:List Ch}{tks:List (AH × V)}{M:Hs}
theorem SM.sbG{G:Addr->Prop}{H':Hp}(I:X.at a H cs tks M)(s:SameBut G H H')(g:∀ x,G x->EE (H x))(f:∀ x,G x->¬ X.S.A.F x/\x≠X.S.tk):X.at a H' cs tks M:=by
 have tk:EU H H':=JC s g
 obtain⟨⟨dx,e1⟩,e2,e3,e4,e5,e6,e7,e8,e9,e10,e11,e12⟩:=I
 obtain⟨dl,el⟩:=e2.ob
 exact⟨⟨dx,s _ _ e1 λz=>(g _ z).2 _ _ _ e1⟩,e2.sb s λz=>(g _ z).2 _ _ _ el,e3.sb s g λx hx=>(f x hx).1,s _ _ e4 λz=>(f _ z).2 rfl,e5,e6,e7,e8,e9.keep tk,λkind k v h1 h2 hv=>(e10 kind k v h1 h2 hv).keep tk,e11,e12.keep tk⟩
theorem C45.sbG{G:Addr->Prop}{H':Hp}(I:C45 a H X cs tks M)(s:SameBut G H H')(g:∀ x,G x->EE (H x))(f:∀ x,G x->¬ X.S.A.F x/\x≠X.S.tk):C45 a H' X cs tks M:=⟨I.st.sbG s g f,I.hi,I.b0,I.cut,I.rows.keep (JC s g),I.few,I.ok⟩
theorem C45.same{H':Hp}(I:C45 a H X cs tks M)(s:Same H H'):C45 a H' X cs tks M:=⟨I.st.same s,I.hi,I.b0,I.cut,I.rows.keep s.tk,I.few,I.ok⟩
theorem C45.put1{l:Addr}{o:HO}(I:C45 a H X cs tks M)(g:EE (H l))(f:¬ X.S.A.F l/\l≠X.S.tk):C45 a (upd H l o) X cs tks M:=I.sbG (G:=(· =l)) (λy o' e n=>by rw[AG n];exact e) (λx hx=>by rw[hx];exact g) λx hx=>by rw[hx];exact f
theorem C45.rl(I:C45 a H X cs tks M){k rec:Nat}{z:Str}(hk:k<X.m0)(e:M 0 k=.nm z rec):∃ m ps,rec<X.r * X.w/\M 3 rec=.rc m ps:=by
 obtain⟨o,hi⟩:=I.hi
 obtain⟨m,ps,e3⟩:=hi.now.nl k z rec hk e
 refine⟨m,ps,?_,e3⟩
 rcases Nat.lt_or_ge rec (X.r * X.w)with h | h
 ·exact h
 ·exfalso
  have e3':sh M.b (λ_=>true) M.as 3 rec=.rc m ps:=e3
  rw[I.b0,I.st.la.off (C:=λ_=>true) (kind:=3) (k:=rec) (λhk=>by simp[AX]at hk;omega)]at e3'
  cases e3'
end
section
variable{B:Addr->Prop}{kvs:List (AH × V)}{KF:Nat->Option (List Str)}{N:Nat}
theorem KvOk.keep{H':Hp}(I:KvOk B H kvs KF N)(s:∀ x (xs:List V),H x=some (.lst xs)->¬ B x->H' x=some (.lst xs)):KvOk B H' kvs KF N:=⟨I.nd,I.ks,I.v0,λr L e=>by
 obtain⟨x,h1,h2,h3,h4⟩:=I.v1 r L e
 exact⟨x,h1,s _ _ h2 h3,h3,h4⟩⟩
theorem KvOk.le{N':Nat}(I:KvOk B H kvs KF N)(h:N<=N'):KvOk B H kvs KF N':=⟨I.nd,I.ks,I.v0,λr L e=>by
 obtain⟨x,h1,h2,h3,h4⟩:=I.v1 r L e
 exact⟨x,h1,h2,h3,Nat.le_trans h4 h⟩⟩
theorem KvOk.set{B':Addr->Prop}(I:KvOk B H kvs KF N)(h:∀ x,¬ B x->¬ B' x):KvOk B' H kvs KF N:=⟨I.nd,I.ks,I.v0,λr L e=>by
 obtain⟨x,h1,h2,h3,h4⟩:=I.v1 r L e
 exact⟨x,h1,h2,h x h3,h4⟩⟩
theorem KvOk.len(I:KvOk B H kvs KF N):kvs.length<=40:=by
 have:=List.Nodup.length_le_of_subset I.nd (l₂:=(List.range 40).map λ(r:Nat)=>(Sum.inl (r:Int):AH)) λk hk=>by
  obtain⟨kv,h,e⟩:=List.mem_map.mp hk
  obtain⟨r,hr,e'⟩:=I.ks kv h
  exact List.mem_map.mpr ⟨r,List.mem_range.mpr hr,by rw[<-e,e']⟩
 simpa using this
theorem KvOk.at(I:KvOk B H kvs KF N){i:Nat}{k:AH}{v:V}(e:kvs[i]? =some (k,v)):∃ r L x,k=.inl ((r:Nat):Int)/\r<40/\KF r=some L/\v=.ref x/\BJ kvs (.inl (r:Int))=some (.ref x)/\H x=some (.lst (L.map V.str))/\¬ B x/\L.length<=N:=by
 obtain⟨r,hr,ek⟩:=I.ks _ (List.mem_of_getElem? e)
 have hv:=zck I.nd e
 have ek:k=.inl (r:Int):=ek
 rw[ek]at hv
 cases eF:KF r with
 | none=>rw[I.v0 r eF]at hv;cases hv
 | some L =>
  obtain⟨x,h1,h2,h3,h4⟩:=I.v1 r L eF
  rw[hv]at h1
  cases h1
  exact⟨r,L,x,ek,hr,eF,rfl,hv,h2,h3,h4⟩
theorem KvOk.put{r:Nat}{L:List Str}{x:Addr}(I:KvOk B H kvs KF N)(hr:r<40)(hx:H x=some (.lst (L.map V.str)))(nb:¬ B x)(hl:L.length<=N):KvOk B H (CB kvs (.inl (r:Int)) (.ref x)) (λq=>if q=r then some L else KF q) N:=by
 refine⟨zcj I.nd,λkv h=> ?_,λq e=> ?_,λq L' e=> ?_⟩
 ·rcases rR h with h | h
  ·exact⟨r,hr,h⟩
  ·exact I.ks kv h
 ·by_cases c:q=r
  ·rw[if_pos c]at e;cases e
  ·rw[if_neg c]at e
   rw[JQ,if_neg λz=>c (by have:=Sum.inl.inj z;omega)]
   exact I.v0 q e
 ·by_cases c:q=r
  ·rw[if_pos c]at e
   cases e
   exact⟨x,by rw[JQ,if_pos (by rw[c])],hx,nb,hl⟩
  ·rw[if_neg c]at e
   rw[JQ,if_neg λz=>c (by have:=Sum.inl.inj z;omega)]
   exact I.v1 q L' e
theorem KvOk.drop{r:Nat}(I:KvOk B H kvs KF N):KvOk B H (E6 kvs (.inl (r:Int))) (λq=>if q=r then none else KF q) N:=by
 refine⟨TC I.nd,λkv h=>I.ks kv (dQ h),λq e=> ?_,λq L' e=> ?_⟩
 ·rw[YI]
  by_cases c:q=r
  ·rw[if_pos (by rw[c])]
  ·rw[if_neg c]at e
   rw[if_neg λz=>c (by have:=Sum.inl.inj z;omega)]
   exact I.v0 q e
 ·by_cases c:q=r
  ·rw[if_pos c]at e;cases e
  ·rw[if_neg c]at e
   rw[YI,if_neg λz=>c (by have:=Sum.inl.inj z;omega)]
   exact I.v1 q L' e
theorem KvOk.congr{KF':Nat->Option (List Str)}(I:KvOk B H kvs KF N)(h:∀ r,KF r=KF' r):KvOk B H kvs KF' N:=by
 have:KF=KF':=funext h
 rw[<-this];exact I
end
theorem rT{p:Addr}{y:Str}{L:List Str}{Q:VK}(h:H p=some (.lst (L.map V.str)))(q:Q (.bl (decide (y∈L))) H):K6 K (.str y) (.ref p) H Q:=by
 refine⟨p,_,rfl,.inl (SqL.of h),rfl,?_,?_⟩
 ·rw[List.all_eq_true]
  intro v hv
  obtain⟨z,_,rfl⟩:=List.mem_map.mp hv
  rfl
 ·have:IP (.str y) (L.map V.str)=decide (y∈L):=by
   unfold IP
   rw[List.any_map,Bool.eq_iff_iff,List.any_eq_true,decide_eq_true_eq]
   constructor
   ·rintro ⟨z,hz,e⟩
    have:z=y:=by simpa [FY]using e
    exact this ▸ hz
   ·intro hy
    exact⟨y,hy,by simp[FY]⟩
  simp only[Bool.false_eq_true,if_false]
  rw[this]
  exact q
theorem zcl(h:N1 K a vs H Q E):WY K a (λ_=>E) (A8 Q) (start ["layout","there","kept","number","found","k","cell"] vs) H:=by
 obtain⟨ly,d,kd,n,r,c,w,S,kvs,KF,B,N,rfl,I,ek,G,hN,hT,q⟩:=h
 have TL:=I.tl
 have L:=I.la
 obtain⟨dl,el⟩:=L.ob
 have bnw:n * w<=36:=Nat.mul_le_mul I.n6 I.w6
 push_cast[WY,↓Pb]
 refine⟨kvs,ek,λo=> ?_⟩
 have s0:SameBut (· =kd) H (upd H kd (.frz o (.dK kvs))):=λy u e n=>by rw[AG n];exact e
 have e0:upd H kd (.frz o (.dK kvs)) kd=some (.frz o (.dK kvs)):=AE
 obtain⟨kt,et,vt⟩:=I.e
 have nkd:∀ {x o'},H x=some o'->(∀ kv,o'≠.dK kv)->x≠kd:=λe h z=>by rw[z,ek]at e;cases e;exact h _ rfl
 have I0:There K a (upd H kd (.frz o (.dK kvs))) ly d n r c w S:=⟨TL,L.sb s0 (nkd el (by intro kv z;cases z)),⟨kt,s0 _ _ et (nkd et (by intro kv z;cases z)),λkind k h1 h2=>by
  obtain⟨v,e1,e2⟩:=vt kind k h1 h2
  exact⟨v,e1,e2.keep λy ys e=>s0 _ _ e (nkd e (by intro kv z;cases z))⟩⟩,I.sd,I.ok,I.ps,I.rr,I.w1,I.w6,I.n6,I.r6,I.c6⟩
 have el0:=s0 _ _ el (nkd el (by intro kv z;cases z))
 have G0:=G.keep (H':=upd H kd (.frz o (.dK kvs))) λx xs e _=>s0 _ _ e (nkd e (by intro kv z;cases z))
 revert s0 e0 I0 el0 G0
 generalize upd H kd (.frz o (.dK kvs))=H0
 intro s0 e0 I0 el0 G0
 refine Ev (λi σ H'=>Same H0 H'/\∃ y3 y4 y5 y6,σ=[some (.ref ly),some (.ref d),some (.ref kd),y3,y4,y5,y6]) ⟨Same.refl _,_,_,_,_,rfl⟩ (λi σ H' _ ⟨s,_⟩=>s _ _ e0) (λi k v σ H' ekv hzz=> ?_) (λσ H' hzz=> ?_)
 ·obtain⟨s,y3,y4,y5,y6,es⟩:=hzz
  subst es
  obtain⟨p,Ls,x,rfl,hp,hF,rfl,hv,hx,_,hll⟩:=G0.at ekv
  obtain⟨kw,zw,hkw,ew,hzw⟩:=hT p Ls hF
  have L0:=I0.la
  push_cast[kV,↓Nm,↓Nx]
  refine⟨_,_,s _ _ el0,CA (by decide +kernel),ly,n,r,c,w,rfl,TL,L0.same s,λt ht=> ?_⟩
  have s2:=AQ (o:=.tup [V.int ((n:Int) * w),V.int ((r:Int) * w),V.int ((c:Int) * w)]) ht
  refine C8 AE (n:=0) rfl rfl ?_
  revert s2
  generalize upd H' t (.tup [V.int ((n:Int) * w),V.int ((r:Int) * w),V.int ((c:Int) * w)])=H2
  intro s2
  have em:(n:Int) * w=(n * w:Nat):=by simp
  rw[em]
  push_cast[]
  refine⟨by omega,by omega,?_⟩
  refine K4 (λj σ H'=>Same H0 H'/\∃ b:Bool,(kw<j->b=true)/\∃ y5 y6,σ=[some (.ref ly),some (.ref d),some (.ref kd),some (.int p),some (.bl b),y5,y6]) ⟨s.trans s2,false,λh=>by omega,_,_,rfl⟩ (λj σ H' hj hzz=> ?_) (λσ H' hzz=> ?_)
  ·obtain⟨s,b,hb,y5,y6,es⟩:=hzz
   subst es
   push_cast[↓Np,Int.zero_add]
   refine⟨_,_,s _ _ el0,CA (by decide +kernel),YC TL (L0.same s) λu hu=> ?_⟩
   have su:=AQ (o:=.tup [.int (0+(j:Int) / w),.int ((j:Int) % w)]) hu
   have eu:upd H' u (.tup [.int (0+(j:Int) / w),.int ((j:Int) % w)]) u=some (.tup [.int (A5 n r c w 0 j:Nat),.int (j % w:Nat)]):=by rw[AE];simp[A5]
   revert su eu
   generalize upd H' u (.tup [.int (0+(j:Int) / w),.int ((j:Int) % w)])=H3
   intro su eu
   have s3:=s.trans su
   have hk0:j<AX n r c w 0:=by simpa [AX]using hj
   refine I0.get s3 (kind:=0) (by decide) hk0 eu λv rv=> ?_
   have ok0:=I.ok 0 j (by decide) hk0
   push_cast[↓Nv]
   cases e1:S 0 j with
   | no =>
    rw[e1]at rv
    rw[show v=.non from rv]
    push_cast[]
    exact⟨s3,b,λh=>hb (Nat.lt_of_le_of_ne (Nat.le_of_lt_succ h) λz=>by rw[z,e1]at ew;cases ew),rfl⟩
   | nm z q' =>
    rw[e1]at rv
    obtain⟨t0,rfl,EJ⟩:=rv
    rw[if_pos (by simp)]
    refine C8 EJ (n:=1) rfl rfl ?_
    push_cast[]
    have kwj:∀ {b':Bool},(kw<j->b'=true)->(kw=j->False)->kw<j+1->b'=true:=λh1 h2 h=>h1 (Nat.lt_of_le_of_ne (Nat.le_of_lt_succ h) λz=>h2 z)
    by_cases hq:q'=p
    ·subst hq
     refine HI rfl (C8 EJ (n:=0) rfl rfl ⟨_,.inl ⟨kvs,.inl (q':Int),.inr ⟨o,s3 _ _ e0⟩,rfl,hv.symm⟩,rT (s3 _ _ hx) ?_⟩)
     push_cast[]
     by_cases hz:z∈Ls
     ·refine HI hz ?_
      push_cast[↓Nq]
      exact⟨s3,true,λ_=>rfl,rfl⟩
     ·exact F8 hz ⟨s3,b,kwj hb λh=>by rw[h,e1]at ew;cases ew;exact hz hzw,rfl⟩
    ·exact F8 (by omega) ⟨s3,b,kwj hb λh=>by rw[h,e1]at ew;cases ew;exact hq rfl,rfl⟩
   | _=>rw[e1]at ok0;exact ok0.elim
  ·obtain⟨s,b,hb,y5,y6,es⟩:=hzz
   subst es
   have hbt:b=true:=hb hkw
   subst hbt
   push_cast[↓Nz]
   refine⟨_,_,s _ _ el0,CA (by decide +kernel),MS TL (L0.same s) λu hu=> ?_⟩
   have su:=AQ (o:=.tup [.int (n+(p:Int) / w),.int ((p:Int) % w)]) hu
   have eu:upd H' u (.tup [.int (n+(p:Int) / w),.int ((p:Int) % w)]) u=some (.tup [.int (A5 n r c w 3 p:Nat),.int (p % w:Nat)]):=by rw[AE];simp[A5]
   revert su eu
   generalize upd H' u (.tup [.int (n+(p:Int) / w),.int ((p:Int) % w)])=H3
   intro su eu
   refine I0.get (s.trans su) (kind:=3) (by decide) (by simpa [AX]using I.rr kw zw p hkw ew) eu λv rv=> ?_
   obtain⟨m,ps,e3⟩:=I.sd.nl kw zw p hkw ew
   rw[e3]at rv
   obtain⟨t1,u1,rfl,_⟩:=rv
   exact F8 (by simp) (s.trans su)
 ·obtain⟨s,y3,y4,y5,y6,es⟩:=hzz
  subst es
  refine⟨s _ _ e0,?_⟩
  push_cast[↓Pc]
  refine q _ λy u e=> ?_
  by_cases c:y=kd
  ·subst c
   rw[AE,<-ek];exact e
  ·rw[AG c];exact s _ _ (s0 _ _ e c)
theorem rV{p b:Addr}{L:List Str}{z:Str}{Q:VK}(h1:H p=some (.lst (L.map V.str)))(h2:H b=some (.lst [.str z]))(hl:L.length<=2000)(q:∀ l,H l=none->Q (.ref l) (upd H l (.lst ((L++[z]).map V.str)))):BO K (.ref p) (.ref b) H Q :=
 .inl ⟨p,b,_,_,rfl,rfl,h1,h2,CT _ (by simp;omega),λl hl=>by rw[List.map_append]at q;exact q l hl⟩
theorem zcm{p:Addr}{x:Nat}{Q:VK}(h:H p=some (.tup [.int 2,.int 7]))(q:Q (.bl (decide (x=2\/x=7))) H):K6 K (.int x) (.ref p) H Q:=by
 refine⟨p,_,rfl,.inr (SqT.of h),rfl,rfl,?_⟩
 have:IP (.int (x:Nat)) [.int 2,.int 7]=decide (x=2\/x=7):=by
  simp only[IP,List.any_cons,List.any_nil,Bool.or_false,FY]
  rw[Bool.eq_iff_iff]
  simp
  omega
 simp only[Bool.false_eq_true,if_false]
 rw[this]
 exact q
theorem rW:∀ {kvs:List (AH × V)},(∀ kv∈kvs,∃ r:Nat,r<40/\kv.1=.inl (r:Int))->∃ ks:List Nat,kvs.map (·.1)=ks.map (λ(r:Nat)=>(Sum.inl (r:Int):AH))
 | [],_=>⟨[],rfl⟩
 | kv::kvs,h=>by
  obtain⟨ks,e⟩:=rW λx hx=>h x (List.mem_cons_of_mem _ hx)
  obtain⟨r,_,er⟩:=h kv List.mem_cons_self
  exact⟨r::ks,by rw[List.map_cons,List.map_cons,e,er]⟩
def JF(KF:Nat->Option (List Str))(kind:Nat)(y z:Str)(ks:List Nat)(i:Nat):Nat->Option (List Str):=λr=>if r∈ks.take i then KI KF kind y z r else KF r
theorem YJ{KF:Nat->Option (List Str)}{kind i r:Nat}{y z:Str}{ks:List Nat}(hr:ks[i]? =some r)(q:Nat):JF KF kind y z ks (i+1) q=if q=r then KI KF kind y z r else JF KF kind y z ks i q:=by
 unfold JF
 rw[List.take_add_one,hr]
 by_cases c:q=r
 ·subst c
  rw[if_pos (by simp),if_pos rfl]
 ·rw[if_neg c]
  by_cases h:q∈ks.take i
  ·rw[if_pos (List.mem_append_left _ h),if_pos h]
  ·rw[if_neg (by simp[h,c]),if_neg h]
theorem zcn(h:N0 K a vs H Q E):V6 K a (λ_=>E) (A8 Q) (start ["kept","kind","one","other","number"] vs) H:=by
 obtain⟨kd,kvs,KF,B,N,kind,y,z,rfl,ek,G,hN,hB,q⟩:=h
 obtain⟨ks,eks⟩:=rW G.ks
 have ndk:ks.Nodup:=by
  have:=G.nd
  rw[eks]at this
  exact(List.pairwise_map.mp this).imp λh e=>h (by rw[e])
 have hin:∀ r L,KF r=some L->r∈ks:=λr L e=>by
  obtain⟨x,hv,_⟩:=G.v1 r L e
  have:=wQ hv
  rw[eks]at this
  obtain⟨r',h1,h2⟩:=List.mem_map.mp this
  have:=Sum.inl.inj h2
  have:r'=r:=by omega
  exact this ▸ h1
 have hout:∀ r,r∈ks->∃ L,KF r=some L:=λr h=>by
  cases e:KF r with
  | some L=>exact⟨L,rfl⟩
  | none =>
   exact absurd (by rw[eks];exact List.mem_map.mpr ⟨r,h,rfl⟩) (S9 (G.v0 r e))
 have hl40:∀ r,r∈ks->r<40:=λr h=>by
  have:(Sum.inl (r:Int):AH)∈kvs.map (·.1):=by rw[eks];exact List.mem_map.mpr ⟨r,h,rfl⟩
  obtain⟨kv,h1,h2⟩:=List.mem_map.mp this
  obtain⟨r',h3,h4⟩:=G.ks kv h1
  have:=Sum.inl.inj (h2.symm.trans h4)
  omega
 have kl:=G.len
 push_cast[V6,↓Lk]
 refine⟨kvs,ek,λl hl=> ?_⟩
 have exs:(kvs.map λp=>kV p.1)=ks.map λ(r:Nat)=>V.int (r:Int):=by
  have:(kvs.map λp=>kV p.1)=(kvs.map (·.1)).map kV:=by rw[List.map_map];rfl
  rw[this,eks,List.map_map]
  rfl
 rw[exs]
 have s0:=AQ (o:=.lst (ks.map λ(r:Nat)=>V.int (r:Int))) hl
 have e0:upd H l (.lst (ks.map λ(r:Nat)=>V.int (r:Int))) l=some (.lst (ks.map λ(r:Nat)=>V.int (r:Int))):=AE
 revert s0 e0
 generalize upd H l (.lst (ks.map λ(r:Nat)=>V.int (r:Int)))=H0
 intro s0 e0
 refine .inl ⟨⟨_,SqL.of e0⟩,K3 (xs:=ks.map λ(r:Nat)=>V.int (r:Int)) (λi σ H'=>(SameBut (· =kd) H0 H'/\∃ kv',H' kd=some (.dK kv')/\KvOk B H' kv' (JF KF kind y z ks i) (N+1))/\∃ y4,σ=[some (.ref kd),some (.int kind),some (.str y),some (.str z),y4]) ⟨⟨λ_ _ e _=>e,kvs,s0 _ _ ek,((G.keep λx xs e _=>s0 _ _ e).le (Nat.le_succ _)).congr λr=>by simp[JF]⟩,_,rfl⟩ (λi σ H' _ ⟨⟨sb,_⟩,_⟩=>SqL.of (sb _ _ e0 (BF e0 (s0 _ _ ek) (by intro z;cases z)))) (λi v σ H' ev ⟨⟨sb,kv',ek',G'⟩,y4,es⟩=> ?_) (λσ H' ⟨⟨sb,kv',ek',G'⟩,y4,es⟩=> ?_)⟩
 ·subst es
  rw[List.getElem?_map,Option.map_eq_some_iff]at ev
  obtain⟨r,er,rfl⟩:=ev
  have hrm:=List.mem_of_getElem? er
  obtain⟨L,eL⟩:=hout r hrm
  have nin:r∉ks.take i:=λh=>by
   obtain⟨j,hj,ej⟩:=List.mem_iff_getElem.mp h
   rw[List.getElem_take]at ej
   rw[List.length_take]at hj
   have:=(List.getElem?_inj (i:=j) (j:=i) (by omega) ndk).mp (by rw[er,List.getElem?_eq_getElem (by omega),ej])
   omega
  have ecur:JF KF kind y z ks i r=some L:=by unfold JF;rw[if_neg nin];exact eL
  obtain⟨x,hv,hx,hxB,KL⟩:=G'.v1 r L ecur
  have kl':=G'.len
  have eF:KI KF kind y z r=if y∈L then(if kind=3 then none else if kind=2\/kind=7 then some (L++[z])else some L)else some L:=by unfold KI;rw[eL];rfl
  have keep:KI KF kind y z r=some L->(SameBut (· =kd) H0 H'/\∃ kv',H' kd=some (.dK kv')/\KvOk B H' kv' (JF KF kind y z ks (i+1)) (N+1)):=λh=>⟨sb,kv',ek',G'.congr λq=>by
   rw[YJ er]
   by_cases c:q=r
   ·rw[if_pos c,c,h,ecur]
   ·rw[if_neg c]⟩
  push_cast[↓Lj]
  refine⟨_,fN ek' hv,rT hx ?_⟩
  push_cast[]
  by_cases hy:y∈L
  ·refine HI hy ?_
   rw[if_pos hy]at eF
   push_cast[↓Lh]
   by_cases k3:kind=3
   ·refine HI (by omega) ?_
    rw[if_pos k3]at eF
    push_cast[↓Lc,S6]
    refine⟨.inl ⟨_,.inl ek'⟩,_,ek',.inl (r:Int),rfl,⟨_,hv⟩,λb o e n=>by rw[AG n];exact sb _ _ e n,_,AE,?_⟩
    refine((G'.drop (r:=r)).congr λq=> ?_).keep λb xs e _=> ?_
    ·rw[YJ er,eF]
    ·rw[AG (BF e ek' (by intro z;cases z))];exact e
   ·refine F8 (by omega) ?_
    rw[if_neg k3]at eF
    push_cast[↓Lg]
    refine⟨by decide,λp hp=>zcm AE ?_⟩
    have s1:=AQ (o:=.tup [V.int 2,V.int 7]) hp
    revert s1
    generalize upd H' p (.tup [V.int 2,V.int 7])=H1
    intro s1
    push_cast[]
    by_cases k27:kind=2\/kind=7
    ·refine HI k27 ?_
     rw[if_pos k27]at eF
     push_cast[↓Ld]
     refine⟨_,fN (s1 _ _ ek') hv,by decide,λb hb=> ?_⟩
     have s2:=AQ (o:=.lst [V.str z]) hb
     have eb:upd H1 b (.lst [V.str z]) b=some (.lst [V.str z]):=AE
     revert s2 eb
     generalize upd H1 b (.lst [V.str z])=H2
     intro s2 eb
     have CU:=s1.trans s2
     refine rV (CU _ _ hx) eb (by omega) λl2 IE=> ?_
     have s3:=AQ (o:=.lst ((L++[z]).map V.str)) IE
     have el2:upd H2 l2 (.lst ((L++[z]).map V.str)) l2=some (.lst ((L++[z]).map V.str)):=AE
     revert s3 el2
     generalize upd H2 l2 (.lst ((L++[z]).map V.str))=H3
     intro s3 el2
     have s13:=CU.trans s3
     have hfree:H l2=none:=by
      have h1:=CU.free IE
      cases e:H l2 with
      | none=>rfl
      | some o =>
       by_cases c:l2=kd
       ·rw[c,ek']at h1;cases h1
       ·rw[sb _ _ (s0 _ _ e) c]at h1;cases h1
     refine⟨_,pI (s13 _ _ ek') (by omega),λb' o e n=>by rw[AG n];exact s13 _ _ (sb _ _ e n),_,AE,?_⟩
     refine(((G'.keep λb xs e _=>s13 _ _ e).put (r:=r) (hl40 r hrm) el2 (hB l2 hfree) ?_).congr λq=> ?_).keep λb xs e _=> ?_
     ·obtain⟨_,_,_,_,h⟩:=G.v1 r L eL
      rw[List.length_append]
      exact Nat.succ_le_succ h
     ·rw[YJ er,eF]
     ·rw[AG (BF e (s13 _ _ ek') (by intro z;cases z))];exact e
    ·refine F8 k27 ?_
     rw[if_neg k27]at eF
     obtain⟨h1,kv,h2,h3⟩:=keep eF
     exact⟨λb o e n=>s1 _ _ (h1 _ _ e n),kv,s1 _ _ h2,h3.keep λx xs e _=>s1 _ _ e⟩
  ·rw[if_neg hy]at eF
   exact F8 hy (keep eF)
 ·subst es
  push_cast[]
  refine q kv' H' (λb o e n=>sb _ _ (s0 _ _ e) n) ek' (G'.congr λr=> ?_)
  unfold JF
  rw[List.length_map,List.take_length]
  by_cases c:r∈ks
  ·rw[if_pos c]
  ·rw[if_neg c]
   cases e:KF r with
   | none=>unfold KI;rw[e];rfl
   | some L=>exact absurd (hin r L e) c
def KIv(H:Hp)(M:Hs)(kd:Addr)(i:Nat)(H':Hp):Prop:=Same H H'/\∃ kvs KF,H' kd=some (.dK kvs)/\KvOk (λx=>H x≠none) H' kvs KF i/\∀ r L,KF r=some L->∃ k z,k<i/\M 0 k=.nm z r/\z∈L
theorem zcp(h:NZ K a vs H Q E):XD K a (λ_=>E) (A8 Q) (start ["layout","store","kept","k","cell","some"] vs) H:=by
 obtain⟨X,cs,tks,M,rfl,T4,I,q⟩:=h
 obtain⟨T,TP,TL,TS⟩:=T4
 obtain⟨dx,ho⟩:=I.st.ob
 obtain⟨dl,el⟩:=I.st.ly.ob
 obtain⟨db,eb⟩:=I.st.bk.bk.ob
 obtain⟨z1,z2,z3,z4,z5⟩:=I.st.sz
 have bnw:X.n * X.w<=36:=Nat.mul_le_mul z1 z4
 have brw:X.r * X.w<=36:=Nat.mul_le_mul z2 z4
 push_cast[XD,↓Rq]
 intro kd hkd
 have s1:=AQ (o:=.dK []) hkd
 have e1:upd H kd (.dK []) kd=some (.dK []):=AE
 revert s1 e1
 generalize upd H kd (.dK [])=H1
 intro s1 e1
 push_cast[↓Rz]
 refine⟨_,_,s1 _ _ el,CA (by decide +kernel),X.S.lp,X.n,X.r,X.c,X.w,rfl,TL,I.st.ly.same s1,λt ht=> ?_⟩
 have s2:=AQ (o:=.tup [V.int ((X.n:Int) * X.w),V.int ((X.r:Int) * X.w),V.int ((X.c:Int) * X.w)]) ht
 refine C8 AE (n:=0) rfl rfl ?_
 have e2:=s2 _ _ e1
 revert s2 e2
 generalize upd H1 t (.tup [V.int ((X.n:Int) * X.w),V.int ((X.r:Int) * X.w),V.int ((X.c:Int) * X.w)])=H2
 intro s2 e2
 have em:(X.n:Int) * X.w=(X.n * X.w:Nat):=by simp
 rw[em]
 push_cast[]
 refine⟨by omega,by omega,?_⟩
 refine K4 (λi σ H'=>KIv H M kd i H'/\∃ y3 y4 y5,σ=[some (.ref X.S.lp),some (.ref X.S.st),some (.ref kd),y3,y4,y5]) ⟨⟨s1.trans s2,[],λ_=>none,e2,⟨by simp,λkv h=>(by cases h),λ_ _=>rfl,λ_ _ h=>(by cases h)⟩,λ_ _ h=>(by cases h)⟩,_,_,_,rfl⟩ (λi σ H' hi ⟨⟨s,kvs,KF,ek,G,hK⟩,y3,y4,y5,es⟩=> ?_) (λσ H' ⟨⟨s,kvs,KF,ek,G,hK⟩,y3,y4,y5,es⟩=> ?_)
 ·subst es
  have I':=I.same s
  have kl:=G.len
  have hm:i<AX X.n X.r X.c X.w 0:=by simpa [AX]using hi
  push_cast[↓Rv,Int.zero_add]
  refine⟨_,_,s _ _ ho,B2 (by decide +kernel),_,_,_,_,_,rfl,TS,s _ _ ho,X.S.A.b,rfl,_,_,s _ _ eb,DN (by decide +kernel),_,_,s _ _ el,CA (by decide +kernel),YC TL (I'.st.ly) λu hu=> ?_⟩
  have su:=AQ (o:=.tup [.int (0+(i:Int) / X.w),.int ((i:Int) % X.w)]) hu
  refine⟨X.S.A,X.w,X.rows,X.nn,cs,X.outs,u,(A5 X.n X.r X.c X.w 0 i:Nat),(i % X.w:Nat),rfl,T,TP,I'.st.bk.same su,by rw[AE];simp[A5],λ_ v H3 ev s3=> ?_,λz=>absurd (I.st.onPl (kind:=0) (by decide) hm) z⟩
  have s3':=su.trans s3
  revert s3'
  clear s3
  intro s3
  have sH:=s.trans s3
  have rv:=(I.st.rp 0 i v (by decide) hm ev).keep sH.tk
  have ok0:=I.st.ok 0 i (by decide) hm
  have e3:=s3 _ _ ek
  have G3:=(G.keep λx xs e _=>s3 _ _ e).le (Nat.le_succ i)
  have up:∀ {r:Nat} {L:List Str},(∃ k z,k<i/\M 0 k=.nm z r/\z∈L)->∃ k z,k<i+1/\M 0 k=.nm z r/\z∈L:=λ⟨k,z,h1,h2⟩=>⟨k,z,by omega,h2⟩
  push_cast[↓Ry]
  cases e0:M 0 i with
  | no =>
   rw[e0]at rv
   rw[show v=.non from rv]
   push_cast[]
   exact⟨sH,kvs,KF,e3,G3,λr L h=>up (hK r L h)⟩
  | nm z p =>
   rw[e0]at rv
   obtain⟨t0,rfl,EJ⟩:=rv
   rw[if_pos (by simp)]
   obtain⟨m,ps,hp,_⟩:=I.rl hi e0
   push_cast[↓Rw]
   refine⟨.inl ⟨_,.inl e3⟩,C8 EJ (n:=1) rfl rfl ⟨by decide,λl0 hl0=> ?_⟩⟩
   have s4:=AQ (o:=.lst []) hl0
   have e4:upd H3 l0 (.lst []) l0=some (.lst (([]:List Str).map V.str)):=AE
   have hn0:H l0=none:=sH.free hl0
   revert s4 e4
   generalize upd H3 l0 (.lst [])=H4
   intro s4 e4
   have s34:=s3.trans s4
   obtain⟨L,x,eo,hx,hxn,KL,hLK⟩:∃ (L:List Str) (x:Addr),(BJ kvs (.inl (p:Int))).getD (.ref l0)=.ref x/\H4 x=some (.lst (L.map V.str))/\H x=none/\L.length<=i/\(KF p=some L\/KF p=none/\L=[]):=by
    cases eF:KF p with
    | none=>exact⟨[],l0,by rw[G.v0 p eF];rfl,e4,hn0,Nat.zero_le _,.inr ⟨rfl,rfl⟩⟩
    | some L =>
     obtain⟨x,h1,h2,h3,h4⟩:=G.v1 p L eF
     exact⟨L,x,by rw[h1];rfl,s34 _ _ h2,Classical.not_not.mp h3,h4,.inl rfl⟩
   refine⟨_,dI (s4 _ _ e3),?_⟩
   rw[eo]
   push_cast[↓Rx]
   refine C8 (s4 _ _ EJ) (n:=0) rfl rfl ⟨by decide,λl5 hl5=> ?_⟩
   have s5:=AQ (o:=.lst [V.str z]) hl5
   have e5:upd H4 l5 (.lst [V.str z]) l5=some (.lst [V.str z]):=AE
   revert s5 e5
   generalize upd H4 l5 (.lst [V.str z])=H5
   intro s5 e5
   refine rV (s5 _ _ hx) e5 (by omega) λl6 hl6=> ?_
   have s6:=AQ (o:=.lst ((L++[z]).map V.str)) hl6
   have e6:upd H5 l6 (.lst ((L++[z]).map V.str)) l6=some (.lst ((L++[z]).map V.str)):=AE
   revert s6 e6
   generalize upd H5 l6 (.lst ((L++[z]).map V.str))=H6
   intro s6 e6
   have OI:=(s4.trans s5).trans s6
   have sH6:=sH.trans OI
   refine C8 (OI _ _ EJ) (n:=1) rfl rfl ⟨_,pI (OI _ _ e3) (by omega),λb o e=> ?_,_,_,AE,((G3.keep λb xs e _=>OI _ _ e).put (r:=p) (by omega) e6 (λh=>h ((sH.trans (s4.trans s5)).free hl6)) (by rw[List.length_append];exact Nat.succ_le_succ KL)).keep λb xs e _=> ?_,λr L' h=> ?_⟩
   ·rw[AG (BN e hkd)];exact sH6 _ _ e
   ·rw[AG (BF e (OI _ _ e3) (by intro z;cases z))];exact e
   ·by_cases c:r=p
    ·rw[if_pos c]at h
     cases h
     exact⟨i,z,by omega,by rw[e0,c],by simp⟩
    ·rw[if_neg c]at h
     exact up (hK r L' h)
  | _=>rw[e0]at ok0;exact ok0.elim
 ·subst es
  push_cast[↓Sb]
  exact q kd kvs KF H' hkd s ek (G.le bnw) hK
theorem zcq{n r c w b y:Nat}(hb:b<n+r+c+r+c)(hy:y<w):∃ kind k,kind<5/\k<AX n r c w kind/\A5 n r c w kind k=b/\k % w=y:=by
 have key:∀ s t:Nat,s<=b->b<s+t->((b - s) * w+y) / w=b - s/\((b - s) * w+y) % w=y/\(b - s) * w+y<t * w:=λs t h1 h2=>by
  refine⟨?_,?_,?_⟩
  ·rw[Nat.mul_comm,Nat.mul_add_div (by omega),Nat.div_eq_of_lt hy];rfl
  ·rw[Nat.mul_comm,Nat.mul_add_mod,Nat.mod_eq_of_lt hy]
  ·have:(b - s+1) * w<=t * w:=Nat.mul_le_mul_right w (by omega)
   rw[Nat.add_mul]at this
   omega
 by_cases h0:b<n
 ·obtain⟨a1,a2,a3⟩:=key 0 n (by omega) (by omega)
  exact⟨0,_,by decide,by simpa [AX]using a3,by simp only[A5,if_true];omega,a2⟩
 by_cases h1:b<n+r
 ·obtain⟨a1,a2,a3⟩:=key n r (by omega) (by omega)
  exact⟨3,_,by decide,by simpa [AX]using a3,by simp[A5];omega,a2⟩
 by_cases h2:b<n+r+c
 ·obtain⟨a1,a2,a3⟩:=key (n+r) c (by omega) (by omega)
  exact⟨4,_,by decide,by simpa [AX]using a3,by simp[A5];omega,a2⟩
 by_cases h3:b<n+r+c+r
 ·obtain⟨a1,a2,a3⟩:=key (n+r+c) r (by omega) (by omega)
  exact⟨1,_,by decide,by simpa [AX]using a3,by simp[A5];omega,a2⟩
 ·obtain⟨a1,a2,a3⟩:=key (n+r+c+r) c (by omega) (by omega)
  exact⟨2,_,by decide,by simpa [AX]using a3,by simp[A5];omega,a2⟩
theorem zcr(ps:List Nat):BE ps=(ps.map λ(k:Nat)=>(k:Int)).map V.int:=by rw[List.map_map];rfl
theorem zcs{x:CV}{v v':V}{Q:VK}(h:RepC H x v)(h':RepC H x v')(g:GoodV 4 H v)(q:Q (.bl false) H):EC K v v' H Q:=by
 cases x with
 | no=>rw[show v'=.non from h',<-show v=.non from h];exact X8 g q
 | mk i=>rw[show v'=.int i from h',<-show v=.int i from h];exact X8 g q
 | tx z=>rw[show v'=.str z from h',<-show v=.str z from h];exact X8 g q
 | nm z k =>
  obtain⟨t,rfl,et⟩:=h
  obtain⟨t',rfl,et'⟩:=h'
  obtain⟨xs,ex,_,gx⟩:=g
  rw[et]at ex
  cases ex
  obtain⟨ds,D⟩:=zau (K:=K) gx
  exact UG (n:=4) (by decide) (Dat.tup (SqT.of et) D) (Dat.tup (SqT.of et') D) q
 | rc m ps =>
  obtain⟨t,u,rfl,et,eu⟩:=h
  obtain⟨t',u',rfl,et',eu'⟩:=h'
  rw[zcr]at eu eu'
  have D:∀ {u:Addr},H u=some (.tup ((ps.map λ(k:Nat)=>(k:Int)).map V.int))->Dat K H 2 (.ref u) (.tuple ((ps.map λ(k:Nat)=>(k:Int)).map PyData.int)):=λe=>Dat.tup (n:=1) (SqT.of e) (UF _)
  exact UG (n:=3) (by decide) (Dat.tup (SqT.of et) (.cons (.int _) (.cons (D eu) .nil))) (Dat.tup (SqT.of et') (.cons (.int _) (.cons (D eu') .nil))) q
theorem rX{α :Type}{p q: α ->Bool}(hpq:∀ x,q x=true->p x=true):∀ l:List α,(l.filter q).length<=(l.filter p).length
 | []=>Nat.le_refl _
 | y::l=>by
  have ih:=rX hpq l
  by_cases hq:q y=true
  ·rw[List.filter_cons_of_pos hq,List.filter_cons_of_pos (hpq y hq)]
   exact Nat.succ_le_succ ih
  ·rw[List.filter_cons_of_neg hq]
   by_cases hp:p y=true
   ·rw[List.filter_cons_of_pos hp];exact Nat.le_succ_of_le ih
   ·rw[List.filter_cons_of_neg hp];exact ih
theorem rY{α :Type}{p q: α ->Bool}(hpq:∀ x,q x=true->p x=true):∀ {l:List α},(∃ x∈l,p x=true/\q x=false)->(l.filter q).length<(l.filter p).length
 | [],⟨x,h,_⟩=>by cases h
 | y::l,⟨x,hx,h1,h2⟩=>by
  have le:=rX hpq l
  rcases List.mem_cons.mp hx with rfl | hx
  ·rw[List.filter_cons_of_pos h1,List.filter_cons_of_neg (by rw[h2];exact Bool.false_ne_true)]
   exact Nat.lt_succ_of_le le
  ·have:=rY hpq ⟨x,hx,h1,h2⟩
   by_cases hq:q y=true
   ·rw[List.filter_cons_of_pos hq,List.filter_cons_of_pos (hpq y hq)]
    exact Nat.succ_lt_succ this
   ·rw[List.filter_cons_of_neg hq]
    by_cases hp:p y=true
    ·rw[List.filter_cons_of_pos hp];exact Nat.lt_succ_of_lt this
    ·rw[List.filter_cons_of_neg hp];exact this
structure AW(a:Ad)(H:Hp)(X:SX)(cs:List Ch)(tks:List (AH × V))(M:Hs)(P:(Int->Bool)->Prop)(H':Hp):Prop where
 e:∃ rows nn outs,C45 a H' { X with rows:=rows,nn:=nn,outs:=outs } cs tks M/\P outs
 s:SameBut (λx=>X.S.A.F x\/x=X.S.A.gp) H H'
section
variable{X:SX}{cs:List Ch}{tks:List (AH × V)}{M:Hs}{P P':(Int->Bool)->Prop}{H':Hp}
theorem AW.same{H2:Hp}(J:AW a H X cs tks M P H')(s:Same H' H2):AW a H X cs tks M P H2:=by
 obtain⟨⟨rows,nn,outs,I,h⟩,sb⟩:=J
 exact⟨⟨rows,nn,outs,I.same s,h⟩,λb o e n=>s _ _ (sb _ _ e n)⟩
theorem AW.imp(J:AW a H X cs tks M P H')(h:∀ o,P o->P' o):AW a H X cs tks M P' H':=by
 obtain⟨⟨rows,nn,outs,I,hp⟩,sb⟩:=J
 exact⟨⟨rows,nn,outs,I,h _ hp⟩,sb⟩
theorem AW.obs(J:AW a H X cs tks M P H'):(∃ dx,H' X.S.st=some (.ins (a "Store") dx (sf X.S.lp X.S.A.b X.S.tk)))/\LayAt a H' X.S.lp X.n X.r X.c X.w/\∃ db,H' X.S.A.b=some (.ins (ER a) db (bf X.S.A.gp X.S.A.m X.S.A.mi X.S.A.lt X.S.A.ou)):=by
 obtain⟨⟨rows,nn,outs,I,hp⟩,sb⟩:=J
 exact⟨I.st.ob,I.st.ly,I.st.bk.bk.ob⟩
theorem AW.go{b:Nat}{Q:VK}(T4:CO K a)(J:AW a H X cs tks M P H')(hb:b<X.n+X.r+X.c+X.r+X.c)(h:∀ o,P o->P' (EA cs o b))(q:∀ t H2,AW a H X cs tks M P' H2->Q (.ref t) H2):KH K a [.ref X.S.st,.int (b:Nat)] H' Q E:=by
 obtain⟨⟨rows,nn,outs,I,hp⟩,sb⟩:=J
 have hr:b<rows.length:=by rw[I.st.sz.2.2.2.2];exact hb
 have er:=List.getElem?_eq_getElem hr
 exact⟨{ X with rows:=rows,nn:=nn,outs:=outs },cs,tks,M,b,_,rfl,T4,I.st,er,λt H2 I' LI=>q t H2 ⟨⟨_,_,_,I.write er I' LI,h _ hp⟩,λy o e n=>LI _ _ (sb _ _ e n) n⟩⟩
theorem AW.wt{Q:VK}(T4:CO K a)(J:AW a H X cs tks M P H')(q:∀ o,P o->∀ l H2,H' l=none->Same H' H2->H2 l=some (.lst (BE (FV cs.length o)))->AW a H X cs tks M (· =o) H2->Q (.ref l) H2):∃ x x1,H' X.S.st=some (.ins (a "Store") x x1)/\x1.lookup (Str.ofString "hold")=none/\HE K a [.ref X.S.st] H' (λv H2=>∃ p,v=.ref p/\∃ x x1,H2 p=some (.ins (a "Hold") x x1)/\x1.lookup (Str.ofString "waiting")=none/\KB K a [v] H2 Q E) E:=by
 obtain⟨⟨dx,ho⟩,_,db,eb⟩:=J.obs
 obtain⟨⟨rows,nn,outs,I,hp⟩,sb⟩:=J
 refine⟨_,_,ho,B2 (by decide +kernel),_,_,_,_,_,rfl,T4.2.2.2,ho,X.S.A.b,rfl,_,_,eb,DN (by decide +kernel),X.S.A,X.w,rows,nn,cs,outs,rfl,T4.1,I.st.bk,λl H2 hl s el=> ?_⟩
 exact q outs hp l H2 hl s el ⟨⟨rows,nn,outs,I.same s,rfl⟩,λb o e n=>s _ _ (sb _ _ e n)⟩
end
theorem zct{n:Nat}{o:Int->Bool}(h:FV n o=[]):∀ j:Nat,j<n->o (j:Int)=true:=λj hj=>by
 have:=List.filter_eq_nil_iff.mp h j (List.mem_range.mpr hj)
 simpa using this
theorem zcu{n:Nat}{o:Int->Bool}(h:FV n o≠[]):∃ j0:Nat,j0<n/\o (j0:Int)=false/\∀ j:Nat,j<j0->o (j:Int)=true:=by
 cases e:(List.range n).find? λ(k:Nat)=> !o k with
 | none =>
  exact absurd (List.filter_eq_nil_iff.mpr λk hk=>by have:=List.find?_eq_none.mp e k hk;simpa using this) h
 | some j0 =>
  have h1:=List.find?_some e
  have h2:=List.mem_range.mp (List.mem_of_find?_eq_some e)
  refine⟨j0,h2,by simpa using h1,λj hj=> ?_⟩
  obtain⟨_,i,hi,e1,e2⟩:=List.find?_eq_some_iff_getElem.mp e
  rw[List.length_range]at hi
  rw[List.getElem_range]at e1
  have:=e2 j (by omega)
  rw[List.getElem_range]at this
  simpa using this
theorem zcv{X:SX}{cs:List Ch}{tks:List (AH × V)}{M:Hs}{o:Int->Bool}{nn:Nat}{rows:List (List V)}{x y:Nat}{v v':V}{Q:VK}(I:C45 a H { X with rows:=rows,nn:=nn,outs:=o } cs tks M)(all:∀ j:Nat,j<cs.length->o (j:Int)=true)(hx:x<rows.length)(hy:y<X.w)(h1:D5 cs rows (x:Nat) (y:Nat)=some v)(h2:(rows[x]?).bind (λq=>q[y]?)=some v')(q:Q (.bl false) H):EC K v v' H Q:=by
 have hx':x<X.n+X.r+X.c+X.r+X.c:=by have:=I.st.sz.2.2.2.2;exact this ▸ hx
 obtain⟨kind,k,hk5,hk,e1,e2⟩:=zcq (n:=X.n) (r:=X.r) (c:=X.c) hx' hy
 subst e1 e2
 have r1:=I.st.rp kind k v hk5 hk h1
 have r2:=I.rows kind k v' hk5 hk h2
 have es:sh M.b (λj=>o (j:Nat)) M.as=BP M.b M.as:=U4 λj hj=>all j (by rw[I.st.la.len];exact hj)
 rw[show({ X with rows:=rows,nn:=nn,outs:=o }:SX).outs=o from rfl,es]at r2
 exact zcs r1 r2 (rB I.st.gd h1) q
theorem zcw(h:MO K a vs H Q E):XC K a (λ_=>E) (A8 Q) (start ["layout","plank","store","turn","block","there","place"] vs) H:=by
 obtain⟨X,cs,tks,M,rfl,T4,I,w1,hcs,q⟩:=h
 have T4':=T4
 obtain⟨T,TP,TL,TS⟩:=T4
 have need:∀ (k:Nat) c,cs[k]? =some c->∀ x∈c.nd,0<=x/\x<k:=λk c e=>(I.st.bk.bk.need k c e).1
 have wl:∀ o:Int->Bool,(FV cs.length o).length<=940:=λo=>Nat.le_trans (List.length_filter_le _ _) (by rw[List.length_range];exact hcs)
 have J0:AW a H X cs tks M (λ_=>True) H:=⟨⟨X.rows,X.nn,X.outs,I,trivial⟩,λ_ _ e _=>e⟩
 have blkLt:∀ (k:Nat) (c:Ch),cs[k]? =some c->c.blk<X.n+X.r+X.c+X.r+X.c:=λk c e=>by
  have:=(I.st.bk.bk.inn c (List.mem_of_getElem? e)).1
  rw[I.st.bk.nb,I.st.sz.2.2.2.2]at this
  exact this
 have fin:∀ {H':Hp} {y3 y4 y5 y6:Option V},AW a H X cs tks M (λo=>FV cs.length o=[]) H'->AL (W8 K a (λ_=>E) λ_=>E) (AL (W9 K a (λ_=>E) λ_=>E) (AL (XA K a (λ_=>E) λ_=>E) (XB K a (λ_=>E) λ_=>E))) (A8 Q) [some (.ref X.S.lp),some (.ref X.S.A.gp),some (.ref X.S.st),y3,y4,y5,y6] H':=λ{H' y3 y4 y5 y6} J=>by
  push_cast[↓Rh]
  refine J.wt T4' λo ho l H1 hl s1 el J1=>⟨by decide,λl' hl'=> ?_⟩
  have all:=zct ho
  rw[ho]at el
  have s2:=AQ (o:=.lst []) hl'
  have e2:upd H1 l' (.lst []) l'=some (.lst []):=AE
  revert s2 e2
  generalize upd H1 l' (.lst [])=H2
  intro s2 e2
  refine Dp (n:=1) (by decide) (SqL.of (s2 _ _ el)) .nil (SqL.of e2) ?_
  push_cast[]
  push_cast[↓Rj]
  obtain⟨⟨rows,nn,o',I2,rfl⟩,LI⟩:=J1.same s2
  obtain⟨z1,z2,z3,z4,z5⟩:=I2.st.sz
  refine⟨X.S.lp,X.S.A.gp,X.S.A.cl,X.n,X.r,X.c,X.w,rows,nn,rfl,TL,TP,I2.st.ly,I2.st.bk.pk,z5,?_,z4,λd kvs H5 hd s5 ed hv hks=> ?_⟩
  ·have z5:rows.length=X.n+X.r+X.c+X.r+X.c:=z5
   have z1:X.n<=6:=z1
   have z2:X.r<=6:=z2
   have z3:X.c<=6:=z3
   omega
  push_cast[↓Rm]
  refine⟨kvs,ed,λob=> ?_⟩
  have I5:C45 a (upd H5 d (.frz ob (.dT kvs))) { X with rows:=rows,nn:=nn,outs:=o' } cs tks M:=(I2.same s5).put1 ⟨λxs e=>(by rw[ed]at e;cases e),λC dx fs e=>(by rw[ed]at e;cases e)⟩ ⟨I2.st.bk.off hd,λz=>by rw[show d=X.S.tk from z,I2.st.tk]at hd;cases hd⟩
  have JJ:SameBut (λx=>X.S.A.F x\/x=X.S.A.gp) H (upd H5 d (.frz ob (.dT kvs))):=λy u e n=>by
   have h2:=LI _ _ e n
   rw[AG (BN h2 hd)];exact s5 _ _ h2
  have e5:upd H5 d (.frz ob (.dT kvs)) d=some (.frz ob (.dT kvs)):=AE
  revert I5 JJ e5
  generalize upd H5 d (.frz ob (.dT kvs))=H6
  intro I5 JJ e5
  refine Dx (λi σ H'=>Same H6 H'/\∃ y6,σ=[some (.ref X.S.lp),some (.ref X.S.A.gp),some (.ref X.S.st),y3,y4,some (.ref d),y6]) ⟨Same.refl _,_,rfl⟩ (λi σ H' _ ⟨s,_⟩=>s _ _ e5) (λi b k v σ H' ekv hb hzz=> ?_) (λσ H' hzz=> ?_)
  ·obtain⟨s,y6,es⟩:=hzz
   subst es
   obtain⟨x,y,hx,hy,ek⟩:=hks _ (List.mem_of_getElem? ekv)
   have ek:k=[.inl (x:Int),.inl (y:Int)]:=ek
   subst ek
   have hb:H' b=some (.tup [.int (x:Int),.int (y:Int)]):=hb
   have I7:=I5.same s
   obtain⟨dx,ho⟩:=I7.st.ob
   obtain⟨db,eb⟩:=I7.st.bk.bk.ob
   push_cast[↓Rl]
   refine⟨_,_,ho,B2 (by decide +kernel),_,_,_,_,_,rfl,TS,ho,X.S.A.b,rfl,_,_,eb,DN (by decide +kernel),X.S.A,X.w,rows,nn,cs,o',b,(x:Nat),(y:Nat),rfl,T,TP,I7.st.bk,hb,λ_ v1 H7 ev1 s7=> ?_,λz=>absurd ⟨by omega,by omega,by omega,by omega⟩ z⟩
   have hrow:∃ v2,(rows[x]?).bind (λq=>q[y]?)=some v2:=by
    have er:=List.getElem?_eq_getElem hx
    have wd:=I7.st.bk.pk.wd _ (List.mem_of_getElem? er)
    exact⟨_,by rw[er];exact List.getElem?_eq_getElem (by rw[wd];exact hy)⟩
   obtain⟨v2,ev2⟩:=hrow
   refine⟨v2,.inr ⟨kvs,[.inl (x:Int),.inl (y:Int)],b,.inr ⟨ob,s7 _ _ (s _ _ e5)⟩,rfl,s7 _ _ hb,?_⟩,zcv (I7.same s7) all hx hy ev1 ev2 ?_⟩
   ·rw[hv x y hx hy,ev2]
   ·push_cast[]
    exact s.trans s7
  ·obtain⟨s,y6,es⟩:=hzz
   subst es
   push_cast[↓Rp]
   exact q rows nn o' H' all (I5.same s) λb o e n=>s _ _ (JJ _ _ e n)
 push_cast[XC,↓Qw]
 refine J0.wt T4' λo _ l H1 hl s1 el J1=>⟨.inl ⟨rfl,_,SqL.of el⟩,l,_,rfl,rfl,el,?_⟩
 have J2:AW a H X cs tks M (λ_=>True) (upd H1 l (.lst [])):=by
  obtain⟨⟨rows,nn,o',I1,_⟩,sb1⟩:=J1
  exact⟨⟨rows,nn,o',I1.put1 (MC el) ⟨I.st.bk.off hl,λz=>by rw[show l=X.S.tk from z,I.st.tk]at hl;cases hl⟩,trivial⟩,λy u e n=>by rw[AG (BN e hl)];exact sb1 _ _ e n⟩
 revert J2
 generalize upd H1 l (.lst [])=H2
 intro J2
 push_cast[↓Rc]
 refine J2.wt T4' λo2 _ l2 H3 IE s3 el2 J3=> ?_
 have hm:=wl o2
 refine⟨(BE (FV cs.length o2)).length,.inl ⟨_,SqL.of el2,rfl⟩,by omega,by rw[BE,List.length_map];omega,?_⟩
 rw[show(BE (FV cs.length o2)).length=(FV cs.length o2).length from List.length_map _]
 refine K4 (λt σ H'=>AW a H X cs tks M (λo=>(FV cs.length o).length+t<=(FV cs.length o2).length) H'/\∃ y3 y4,σ=[some (.ref X.S.lp),some (.ref X.S.A.gp),some (.ref X.S.st),y3,y4,none,none]) ⟨J3.imp λo e=>by rw[e];exact Nat.le_refl _,_,_,rfl⟩ (λt σ H' ht hzz=> ?_) (λσ H' hzz=> ?_)
 ·obtain⟨J,y3,y4,es⟩:=hzz
  subst es
  push_cast[↓Qy]
  refine J.wt T4' λo3 ho3 l4 H4 hl4 s4 el4 J4=>⟨by decide,λl5 hl5=> ?_⟩
  have s5:=AQ (o:=.lst []) hl5
  have e5:upd H4 l5 (.lst []) l5=some (.lst []):=AE
  revert s5 e5
  generalize upd H4 l5 (.lst [])=H5
  intro s5 e5
  have J5:=J4.same s5
  have el5:=s5 _ _ el4
  rw[Zl]at el5
  refine Dq (n:=1) (by decide) (SqL.of el5) (UF _) (SqL.of e5) ?_
  push_cast[]
  by_cases hw:FV cs.length o3=[]
  ·refine HI (by rw[hw];rfl) ?_
   push_cast[↓Qx]
   exact fin (J5.imp λo e=>by rw[e];exact hw)
  ·refine F8 (λz=>hw (by
    rw[List.map_eq_nil_iff,List.map_eq_nil_iff]at z
    exact z)) ?_
   obtain⟨j0,hj0,oj0,low⟩:=zcu hw
   have ec:=List.getElem?_eq_getElem hj0
   have hblk:=blkLt j0 _ ec
   have hL:=J5.obs.2.1
   obtain⟨dl,el⟩:=hL.ob
   push_cast[↓Rb]
   refine⟨_,_,el,CA (by decide +kernel),X.S.lp,X.n,X.r,X.c,X.w,rfl,TL,hL,(X.n+X.r+X.c+X.r+X.c:Nat),by simp,by omega,?_,?_⟩
   ·obtain⟨z1,z2,z3,z4,z5⟩:=I.st.sz
    omega
   rw[Int.toNat_natCast]
   refine K4 (λb σ H'=>AW a H X cs tks M (λo=>(∀ j:Nat,o3 (j:Int)=true->o (j:Int)=true)/\(cs[j0].blk<b->o (j0:Int)=true)) H'/\∃ y4,σ=[some (.ref X.S.lp),some (.ref X.S.A.gp),some (.ref X.S.st),some (.int (0+(t:Nat))),y4,none,none]) ⟨J5.imp λo e=>⟨λj h=>by rw[e];exact h,λh=>by omega⟩,_,rfl⟩ (λb σ H' hb hzz=> ?_) (λσ H' hzz=> ?_)
   ·obtain⟨J,y4,es⟩:=hzz
    subst es
    obtain⟨⟨dx,ho⟩,_⟩:=J.obs
    push_cast[↓Qz,Int.zero_add]
    refine⟨_,_,ho,B2 (by decide +kernel),J.go T4' (P':=λo=>(∀ j:Nat,o3 (j:Int)=true->o (j:Int)=true)/\(cs[j0].blk<b+1->o (j0:Int)=true)) hb (λo ⟨h1,h2⟩=>⟨λj hj=>NS.mpr (.inl (h1 j hj)),λhbb=> ?_⟩) λt' H7 J7=>J7⟩
    by_cases BC:cs[j0].blk<b
    ·exact NS.mpr (.inl (h2 BC))
    ·have hbe:cs[j0].blk=b:=by omega
     by_cases hoj:o (j0:Int)=true
     ·exact NS.mpr (.inl hoj)
     ·obtain⟨r,er⟩:=Gg ec (by simpa using hoj) (λk hk=>h1 k (low k hk)) (need j0 _ ec)
      rw[hbe]at er
      exact NS.mpr (.inr (by rw[er];simp))
   ·obtain⟨J,y4,es⟩:=hzz
    subst es
    push_cast[]
    refine J.imp λo ⟨h1,h2⟩=> ?_
    have BC:(FV cs.length o).length<(FV cs.length o3).length:=rY (λx hx=>by
     cases e:o3 (x:Int)with
     | false=>rfl
     | true=>rw[h1 x e]at hx;cases hx) ⟨j0,List.mem_range.mpr hj0,by rw[oj0];rfl,by rw[h2 hblk];rfl⟩
    omega
 ·obtain⟨J,y3,y4,es⟩:=hzz
  subst es
  exact fin (J.imp λo h=>List.eq_nil_of_length_eq_zero (by omega))
theorem zcx(ns:List Int):∃ ms:List Int,EX (ns.map V.int) (some 1) (some 121)=ms.map V.int/\ms.length<=ns.length - 1:=by
 refine⟨(ns.drop (HT.sIx ns.length 0 (some 1))).take (HT.sIx ns.length ns.length (some 121) - HT.sIx ns.length 0 (some 1)),?_,?_⟩
 ·unfold EX
  rw[List.length_map,<-List.map_drop,<-List.map_take]
 ·rw[List.length_take,List.length_drop]
  have:HT.sIx ns.length 0 (some 1)=min 1 ns.length:=by
   unfold HT.sIx
   simp
   try omega
  omega
abbrev Bs(S:SA)(x:Addr):Prop:=S.A.F x\/x=S.tk\/x=S.A.gp
structure S47(a:Ad)(H:Hp)(S:SA)(n r c w:Nat)(nl rr kd:Addr)(zs:List Str)(ms:List Int)(i:Nat):Prop where
 c:∃ (X:SX) (cs:List Ch) (tks:List (AH × V)) (M:Hs) (kvs:List (AH × V)) (KF:Nat->Option (List Str)) (b0:Nat),X.S=S/\X.n=n/\X.r=r/\X.c=c/\X.w=w/\C45 a H X cs tks M/\cs.length<=15 * i/\H kd=some (.dK kvs)/\KvOk (Bs S) H kvs KF (36+i)/\(∀ j:Nat,j<b0->X.outs (j:Int)=true)/\∀ r L,KF r=some L->Kp X.m0 M.b M.as b0 r L
 enl:H nl=some (.lst (zs.map V.str))
 err:H rr=some (.lst (ms.map V.int))
 f1:¬ Bs S nl
 f2:¬ Bs S rr
 f3:¬ Bs S kd
section
variable{S:SA}{n r c w i:Nat}{nl rr kd:Addr}{zs:List Str}{ms:List Int}{P:V->Hp->Prop}
theorem S47.same{H':Hp}(J:S47 a H S n r c w nl rr kd zs ms i)(s:Same H H'):S47 a H' S n r c w nl rr kd zs ms i:=by
 obtain⟨⟨X,cs,tks,M,kvs,KF,b0,a1,a2,a3,a4,a5,I,l,ek,G,ob,hk⟩,e1,e2,f1,f2,f3⟩:=J
 exact⟨⟨X,cs,tks,M,kvs,KF,b0,a1,a2,a3,a4,a5,I.same s,l,s _ _ ek,G.keep λx xs e _=>s _ _ e,ob,hk⟩,s _ _ e1,s _ _ e2,f1,f2,f3⟩
theorem S47.obs(J:S47 a H S n r c w nl rr kd zs ms i):(∃ dx,H S.st=some (.ins (a "Store") dx (sf S.lp S.A.b S.tk)))/\LayAt a H S.lp n r c w:=by
 obtain⟨⟨X,cs,tks,M,kvs,KF,b0,rfl,rfl,rfl,rfl,rfl,I,_⟩,_⟩:=J
 exact⟨I.st.ob,I.st.ly⟩
theorem S47.up(J:S47 a H S n r c w nl rr kd zs ms i):S47 a H S n r c w nl rr kd zs ms (i+1):=by
 obtain⟨⟨X,cs,tks,M,kvs,KF,b0,a1,a2,a3,a4,a5,I,l,ek,G,ob,hk⟩,e1,e2,f1,f2,f3⟩:=J
 exact⟨⟨X,cs,tks,M,kvs,KF,b0,a1,a2,a3,a4,a5,I,by omega,ek,G.le (by omega),ob,hk⟩,e1,e2,f1,f2,f3⟩
theorem S47.go{b:Nat}(T4:CO K a)(J:S47 a H S n r c w nl rr kd zs ms i)(hb:b<n+r+c+r+c)(q:∀ t H',S47 a H' S n r c w nl rr kd zs ms i->P (.ref t) H'):KH K a [.ref S.st,.int (b:Nat)] H P E:=by
 obtain⟨⟨X,cs,tks,M,kvs,KF,b0,rfl,rfl,rfl,rfl,rfl,I,l,ek,G,ob,hk⟩,e1,e2,f1,f2,f3⟩:=J
 have hr:b<X.rows.length:=by rw[I.st.sz.2.2.2.2];exact hb
 have er:=List.getElem?_eq_getElem hr
 refine⟨X,cs,tks,M,b,_,rfl,T4,I.st,er,λt H' I' sb=> ?_⟩
 have k:∀ x o,H x=some o->¬ Bs X.S x->H' x=some o:=λx o e h=>sb _ _ e λz=>h (z.elim .inl λz=>.inr (.inr z))
 exact q t H' ⟨⟨X.wr cs b _,cs,tks,M,kvs,KF,b0,rfl,rfl,rfl,rfl,rfl,I.write er I' sb,l,k _ _ ek f3,G.keep λx xs e h=>k _ _ e h,λj hj=>NS.mpr (.inl (ob j hj)),hk⟩,k _ _ e1 f1,k _ _ e2 f2,f1,f2,f3⟩
theorem S47.right(T4:CO K a)(J:S47 a H S n r c w nl rr kd zs ms i)(hl:i<=62)(w1:1<=w)(q:∀ H',S47 a H' S n r c w nl rr kd zs ms i->P (.bl true) H'):LC K a [.ref S.lp,.ref S.A.gp] H (λv H1=>N1 K a [.ref S.lp,v,.ref kd] H1 P E) E:=by
 have J':=J
 obtain⟨⟨X,cs,tks,M,kvs,KF,b0,rfl,rfl,rfl,rfl,rfl,I,l,ek,G,ob,hk⟩,e1,e2,f1,f2,f3⟩:=J
 obtain⟨z1,z2,z3,z4,z5⟩:=I.st.sz
 refine⟨X.S.lp,X.S.A.gp,X.S.A.cl,X.n,X.r,X.c,X.w,X.rows,X.nn,rfl,T4.2.2.1,T4.2.1,I.st.ly,I.st.bk.pk,z5,by omega,z4,λd kv1 H1 hd s1 ed hv hks=> ?_⟩
 exact⟨X.S.lp,d,kd,X.n,X.r,X.c,X.w,_,kvs,KF,_,36+i,rfl,(I.same s1).there T4.2.2.1 w1 ed hv,s1 _ _ ek,G.keep (λx xs e _=>s1 _ _ e),by omega,λr L e=>hk r L e _ (I.st.la.cut I.cut) ob,λH2 s2=>q H2 (J'.same (s1.trans s2))⟩
theorem S47.all(T4:CO K a)(J:S47 a H S n r c w nl rr kd zs ms i)(hl:i<=62)(w1:1<=w)(q:∀ H',(∃ (X:SX) (cs:List Ch) (tks:List (AH × V)) (M:Hs),X.S=S/\X.n=n/\X.r=r/\X.c=c/\X.w=w/\C45 a H' X cs tks M/\cs.length<=15 * i/\∀ j:Nat,j<cs.length->X.outs (j:Int)=true)->H' nl=some (.lst (zs.map V.str))->H' rr=some (.lst (ms.map V.int))->P (.bl true) H'):MO K a [.ref S.lp,.ref S.A.gp,.ref S.st] H P E:=by
 obtain⟨⟨X,cs,tks,M,kvs,KF,b0,rfl,rfl,rfl,rfl,rfl,I,l,ek,G,ob,hk⟩,e1,e2,f1,f2,f3⟩:=J
 refine⟨X,cs,tks,M,rfl,T4,I,w1,by omega,λrows nn outs H' all I' sb=> ?_⟩
 have k:∀ x o,H x=some o->¬ Bs X.S x->H' x=some o:=λx o e h=>sb _ _ e λz=>h (z.elim .inl λz=>.inr (.inr z))
 exact q H' ⟨{ X with rows:=rows,nn:=nn,outs:=outs },cs,tks,M,rfl,rfl,rfl,rfl,rfl,I',l,all⟩ (k _ _ e1 f1) (k _ _ e2 f2)
theorem S47.anew(T4:CO K a)(J:∃ (X:SX) (cs:List Ch) (tks:List (AH × V)) (M:Hs),X.S=S/\X.n=n/\X.r=r/\X.c=c/\X.w=w/\C45 a H X cs tks M/\cs.length<=15 * i/\∀ j:Nat,j<cs.length->X.outs (j:Int)=true)(e1:H nl=some (.lst (zs.map V.str)))(e2:H rr=some (.lst (ms.map V.int)))(f1:¬ Bs S nl)(f2:¬ Bs S rr)(q:∀ kd H',S47 a H' S n r c w nl rr kd zs ms i->P (.ref kd) H'):NZ K a [.ref S.lp,.ref S.st] H P E:=by
 obtain⟨X,cs,tks,M,rfl,rfl,rfl,rfl,rfl,I,l,all⟩:=J
 refine⟨X,cs,tks,M,rfl,T4,I,λkd kvs KF H' hkd s ek G hK=>q kd H' ?_⟩
 have off:∀ {x:Addr},H x=none->¬ Bs X.S x:=λhx z=>by
  rcases z with z | z | z
  ·exact I.st.bk.off hx z
  ·rw[z,I.st.tk]at hx;cases hx
  ·obtain⟨dp,ep⟩:=I.st.bk.pk.ob
   rw[z,ep]at hx;cases hx
 refine⟨⟨X,cs,tks,M,kvs,KF,cs.length,rfl,rfl,rfl,rfl,rfl,I.same s,l,ek,(G.set λx hx=>off (Classical.not_not.mp hx)).le (by omega),all,λr L e=> ?_⟩,s _ _ e1,s _ _ e2,f1,f2,off hkd⟩
 rw[I.st.la.len]
 exact Kp.start (hK r L e)
theorem S47.deed{kind:Nat}{y z:Str}{x:Int}(T4:CO K a)(TDk:TD K a)(J:S47 a H S n r c w nl rr kd zs ms i)(hl:i<=61)(hk:kind<8)(hy:BM y=true)(hz:BM z=true)(q0:∀ v H',v≠Str.ofString ""->S47 a H' S n r c w nl rr kd zs ms i->P (.str v) H')(q:∀ H',(∀ {P':VK},(∀ H2,S47 a H2 S n r c w nl rr kd zs ms (i+1)->P' .non H2)->N0 K a [.ref kd,.int (kind:Nat),.str y,.str z] H' P' E)->P (.str (Str.ofString "")) H'):NY K a [.ref S.st,.int (kind:Nat),.str y,.str z,.int x] H P E:=by
 have J':=J
 obtain⟨⟨X,cs,tks,M,kvs,KF,b0,rfl,rfl,rfl,rfl,rfl,I,l,ek,G,ob,hkp⟩,e1,e2,f1,f2,f3⟩:=J
 refine⟨X,cs,tks,M,kind,y,z,x,rfl,T4,TDk,I,by omega,hk,hy,hz,λv H' hv s=>q0 v H' hv (J'.same s),λcs' tks' M' H' I' l' sb st=>q H' λ{P'} q'=> ?_⟩
 have k:∀ x o,H x=some o->¬ Bs X.S x->H' x=some o:=λx o e h=>sb _ _ e λz=>h (z.elim .inl λz=>.inr (.inl z))
 have ek':=k _ _ ek f3
 have off:∀ x,H' x=none->¬ Bs X.S x:=λx hx z=>by
  rcases z with z | z | z
  ·exact I'.st.bk.off hx z
  ·rw[z,I'.st.tk]at hx;cases hx
  ·obtain⟨dp,ep⟩:=I'.st.bk.pk.ob
   rw[z,ep]at hx;cases hx
 refine⟨kd,kvs,KF,Bs X.S,36+i,kind,y,z,rfl,ek',G.keep (λx xs e h=>k _ _ e h),by omega,off,λkv2 H2 s2 ek2 G2=>q' H2 ?_⟩
 refine⟨⟨X,cs',tks',M',kv2,_,b0,rfl,rfl,rfl,rfl,rfl,I'.sbG s2 (λx hx=>by rw[hx];exact NR ek') (λx hx=>by rw[hx];exact⟨λz=>f3 (.inl z),λz=>f3 (.inr (.inl z))⟩),by omega,ek2,G2,ob,λr L e=> ?_⟩,s2 _ _ (k _ _ e1 f1) (BF (k _ _ e1 f1) ek' (by intro z;cases z)),s2 _ _ (k _ _ e2 f2) (BF (k _ _ e2 f2) ek' (by intro z;cases z)),f1,f2,f3⟩
 unfold KI at e
 obtain⟨L0,eL,e⟩:=Option.bind_eq_some_iff.mp e
 have h1:=st b0 r L0 (hkp r L0 eL)
 by_cases hyL:y∈L0
 ·rw[if_pos hyL]at e
  by_cases k3:kind=3
  ·rw[if_pos k3]at e;cases e
  ·rw[if_neg k3]at e h1
   by_cases k27:kind=2\/kind=7
   ·rw[if_pos k27]at e
    rw[if_pos ⟨k27,hyL⟩]at h1
    cases e
    exact h1
   ·rw[if_neg k27]at e
    rw[if_neg λz=>k27 z.1]at h1
    cases e
    exact h1
 ·rw[if_neg hyL]at e
  cases e
  by_cases k3:kind=3
  ·rw[if_pos k3]at h1;exact h1 hyL
  ·rw[if_neg k3,if_neg λz=>hyL z.2]at h1;exact h1
end
def rZ(a:Ad)(S:SA)(n r c w:Nat)(nl rr s gp:Addr)(zs:List Str)(ms:List Int)(i:Nat)(σ:St)(H:Hp):Prop:=∃ kd,S47 a H S n r c w nl rr kd zs ms i/\∃ y1 y7 y8 y9,σ=[some (.ref s),y1,some (.ref S.lp),some (.ref gp),some (.ref S.st),some (.ref nl),some (.ref kd),y7,y8,y9]
theorem RU{D:Ends}{S:SA}{n r c w i:Nat}{nl rr kd s:Addr}{zs:List Str}{ms:List Int}{y1 y7 y8 y9:Option V}(T4:CO K a)(J:S47 a H S n r c w nl rr kd zs ms i)(hl:i<=62)(w1:1<=w)(hD:∀ H',S47 a H' S n r c w nl rr kd zs ms i->D.nx [some (.ref s),y1,some (.ref S.lp),some (.ref S.A.gp),some (.ref S.st),some (.ref nl),some (.ref kd),y7,y8,y9] H'):X2 K a (λ_=>E) (λ_=>E) D [some (.ref s),y1,some (.ref S.lp),some (.ref S.A.gp),some (.ref S.st),some (.ref nl),some (.ref kd),y7,y8,y9] H:=by
 push_cast[↓Yh]
 refine J.right T4 hl w1 λH12 J12=> ?_
 push_cast[]
 exact hD _ J12
theorem zcy(h:gW K a vs H Q E):X3 K a (λ_=>E) (A8 Q) (start ["script","cell","layout","plank","store","names","kept","kind","one","other"] vs) H:=by
 obtain⟨s,ns,rfl,T4,TDk,hs,hl,q⟩:=h
 have T4':=T4
 obtain⟨T,TP,TL,TS⟩:=T4
 push_cast[X3,↓Xd,↓Gz]
 refine⟨ns,0,rfl,hs,by omega,?_⟩
 generalize K9 ns 0=x
 obtain⟨n,en,hn⟩:∃ n:Nat,1+x % 3=n/\1<=n/\n<=3:=⟨(1+x % 3).toNat,by omega,by omega⟩
 obtain⟨r,er,hr⟩:∃ n:Nat,1+x / 3 % 3=n/\1<=n/\n<=3:=⟨(1+x / 3 % 3).toNat,by omega,by omega⟩
 obtain⟨c,ec,hc⟩:∃ n:Nat,1+x / 9 % 3=n/\1<=n/\n<=3:=⟨(1+x / 9 % 3).toNat,by omega,by omega⟩
 obtain⟨w,ew,hw⟩:∃ n:Nat,1+x / 27 % 4=n/\1<=n/\n<=4:=⟨(1+x / 27 % 4).toNat,by omega,by omega⟩
 push_cast[↓Xg,en,er,ec,ew]
 refine⟨⟨by decide,by decide⟩,⟨by decide,by decide⟩,⟨by decide,by decide⟩,λlp dl hlp hdl ndl=> ?_⟩
 have s0:Same H (upd (upd H dl (.own lp)) lp (.ins (a "Layout") dl [])):=(AQ hdl).trans (AQ (by rw[AG ndl.symm];exact hlp))
 refine⟨lp,dl,n,r,c,w,rfl,TL,AE,by omega,by omega,by omega,hw.1,by omega,λH2 L2 LI=>⟨rfl,?_⟩⟩
 have s2:Same H H2:=λy o e=>LI _ _ (s0 _ _ e) (BN e hlp)
 clear s0 LI hlp hdl ndl
 replace hs:=s2.seq hs
 clear s2
 obtain⟨dl2,el⟩:=L2.ob
 push_cast[↓Xh]
 refine⟨_,_,el,CA (by decide +kernel),lp,n,r,c,w,rfl,TL,TP,L2,λgp cl H3 hgp BH P3 s3=> ?_⟩
 push_cast[↓Xj]
 intro st dst hst hdst ndst
 have s4:Same H3 (upd (upd H3 dst (.own st)) st (.ins (a "Store") dst [])):=(AQ hdst).trans (AQ (by rw[AG ndst.symm];exact hst))
 have hN:∀ r'∈List.replicate (n+r+c+r+c) (List.replicate w V.non),∀ v∈r',v=.non:=λr' hr' v hv=>by
  rw[List.eq_of_mem_replicate hr']at hv
  exact List.eq_of_mem_replicate hv
 have hB:∀ {kind k:Nat} {v:V},((List.replicate (n+r+c+r+c) (List.replicate w V.non))[A5 n r c w kind k]?).bind (λq=>q[k % w]?)=some v->v=.non:=λhv=>by
  obtain⟨r',er',ev⟩:=Option.bind_eq_some_iff.mp hv
  exact hN r' (List.mem_of_getElem? er') _ (List.mem_of_getElem? ev)
 refine⟨st,dst,lp,gp,cl,n,r,c,w,_,0,λ_ _=>.no,rfl,T4',AE,(L2.same s3).same s4,P3.same s4,⟨by omega,by omega,by omega,by omega,by simp⟩,(λr' hr' v hv=>by rw[hN r' hr' v hv];trivial),λkind k v h1 hk hv=> ?_,λ_ _ _ _=>trivial,λS H5 e1 e2 e3 e4 off htk I JJ=>⟨rfl,?_⟩⟩
 ·unfold D5 at hv
  have:D3 [] (A5 n r c w kind k:Nat) (k % w:Nat)=none:=rfl
  rw[this]at hv
  exact hB hv
 subst e1 e2
 have s35:Same H3 H5:=λy o e=>JJ _ _ (s4 _ _ e) (BN e hst)
 have s25:Same H2 H5:=s3.trans s35
 have fw:c * w<=12:=Nat.le_trans (Nat.mul_le_mul hc.2 hw.2) (by decide)
 obtain⟨X,eX⟩:∃ X:SX,X=⟨S,n,r,c,w,List.replicate (n+r+c+r+c) (List.replicate w V.non),0,λ_=>false⟩:=⟨_,rfl⟩
 have I5:C45 a H5 X [] [] ⟨λ_ _=>.no,[]⟩:=by
  subst eX
  refine⟨I,⟨λ_=>none,λC _=>⟨λ_ _ _ _ e=>(by cases e),λ_ _ _ e=>(by cases e),λ_ _ _ e=>(by cases e),λ_ _ _ e=>(by cases e),λ_ _ _ e=>(by cases e),λ_ _ _ _ _ _ _ e=>(by cases e),λ_ _ _ _ _ _ _ e=>(by cases e)⟩,λ_ _ _ _ e=>(by cases e),λ_ _=>rfl,λ_ _ _ _ _ _ _=>Iff.rfl⟩,rfl,λk c e=>(by simp at e),λkind k v h1 hk hv=>hB hv,fw,λx hx=>(by cases hx)⟩
 push_cast[↓Xk]
 refine⟨⟨by decide,by decide⟩,_,rfl,λnl zs H6 hnl s6 enl hzl hzn=> ?_⟩
 obtain⟨ms,ems,hms⟩:=zcx ns
 have egp:∃ dp fs,H5 gp=some (.ins (a "Plank") dp fs):=by
  obtain⟨dp,e⟩:=I.bk.pk.ob
  exact⟨_,_,e3 ▸ e⟩
 obtain⟨dgp,fgp,egp⟩:=egp
 have offB:∀ {x:Addr},H5 x=none->¬ S.A.F x/\x≠S.tk/\x≠S.A.gp:=λhx=>⟨I.bk.off hx,λz=>(by rw[z,I.tk]at hx;cases hx),λz=>(by rw[z,e3,egp]at hx;cases hx)⟩
 push_cast[↓Xl]
 intro kd hkd
 have s7:=AQ (o:=.dK []) hkd
 have e7:upd H6 kd (.dK []) kd=some (.dK []):=AE
 revert s7 e7
 generalize upd H6 kd (.dK [])=H7
 intro s7 e7
 push_cast[↓Yj]
 refine Fj (s7.seq (s6.seq (s25.seq hs))) λrr hrr=> ?_
 rw[ems]
 have s10:=AQ (o:=.lst (ms.map V.int)) hrr
 have e10:upd H7 rr (.lst (ms.map V.int)) rr=some (.lst (ms.map V.int)):=AE
 revert s10 e10
 generalize upd H7 rr (.lst (ms.map V.int))=H10
 intro s10 e10
 have nB:∀ {y:Addr},H5 y=none->¬ Bs S y:=λh z=>by
  obtain⟨o1,o2,o3⟩:=offB h
  rcases z with z | z | z
  ·exact o1 z
  ·exact o2 z
  ·exact o3 z
 have J10:S47 a H10 S n r c w nl rr kd zs ms 0:=⟨⟨X,[],[],⟨λ_ _=>.no,[]⟩,[],λ_=>none,0,by rw[eX],by rw[eX],by rw[eX],by rw[eX],by rw[eX],I5.same ((s6.trans s7).trans s10),Nat.zero_le _,s10 _ _ e7,⟨by simp,λkv h=>(by cases h),λ_ _=>rfl,λ_ _ h=>(by cases h)⟩,λj h=>(by omega),λ_ _ h=>(by cases h)⟩,(s7.trans s10) _ _ enl,e10,nB hnl,nB ((s6.trans s7).free hrr),nB (s6.free hkd)⟩
 refine⟨rr,rfl,.inl ⟨⟨_,SqL.of e10⟩,K3 (xs:=ms.map V.int) (rZ a S n r c w nl rr s gp zs ms) ⟨kd,J10,_,_,_,_,rfl⟩ (λi σ H' _ ⟨_,J,_⟩=>SqL.of J.err) (λi v σ H' ev hzz=> ?_) (λσ H' hzz=> ?_)⟩⟩
 ·obtain⟨kd,J,y1,y7,y8,y9,es⟩:=hzz
  subst es
  rw[List.getElem?_map,Option.map_eq_some_iff]at ev
  obtain⟨y,ey,rfl⟩:=ev
  have hi:=(List.getElem?_eq_some_iff.mp ey).1
  obtain⟨⟨dxs,ho⟩,L'⟩:=J.obs
  obtain⟨dl',el'⟩:=L'.ob
  rw[<-e3]
  have fin:∀ {kd:Addr} {H':Hp} {y7 y8 y9:Option V},S47 a H' S n r c w nl rr kd zs ms (i+1)->rZ a S n r c w nl rr s S.A.gp zs ms (i+1) [some (.ref s),some (.int y),some (.ref S.lp),some (.ref S.A.gp),some (.ref S.st),some (.ref nl),some (.ref kd),y7,y8,y9] H':=λJ=>⟨_,J,_,_,_,_,rfl⟩
  push_cast[↓Yd]
  split
  ·push_cast[↓Xp]
   refine J.all T4' (by omega) hw.1 λH11 JX en er=> ?_
   push_cast[]
   push_cast[↓Xq]
   exact S47.anew T4' JX en er J.f1 J.f2 λkd' H12 J12=>RU T4' J12.up (by omega) hw.1 λH13 J13=>fin J13
  ·push_cast[↓Yc]
   split
   ·push_cast[↓Xv]
    obtain⟨b,eb,hb⟩:∃ b:Nat,y / 4 % ((n+r+c+r+c:Nat):Int)=b/\b<n+r+c+r+c:=⟨(y / 4 % ((n+r+c+r+c:Nat):Int)).toNat,by
     have:=Int.emod_nonneg (y / 4) (show((n+r+c+r+c:Nat):Int)≠0 by omega)
     omega,by
     have:=Int.emod_lt_of_pos (y / 4) (show 0<((n+r+c+r+c:Nat):Int) by omega)
     have:=Int.emod_nonneg (y / 4) (show((n+r+c+r+c:Nat):Int)≠0 by omega)
     omega⟩
    refine⟨_,_,ho,B2 (by decide +kernel),⟨by decide,by decide⟩,_,_,el',CA (by decide +kernel),S.lp,n,r,c,w,rfl,TL,L',?_⟩
    simp only[eA]
    refine⟨by omega,?_⟩
    rw[show((n:Int)+r+c+r+c)=((n+r+c+r+c:Nat):Int) by omega,eb]
    exact J.go T4' hb λt H11 J11=>RU T4' J11.up (by omega) hw.1 λH13 J13=>fin J13
   ·push_cast[↓Xw,↓Xx,↓Xy]
    have nm:∀ {i:Int} {H9:Hp} {QV:VK},H9 nl=some (.lst (zs.map V.str))->(∀ z,BM z=true->QV (.str z) H9)->CY K (.ref nl) (.int (i % 5)) H9 QV:=λ{i H9 QV} e9 qv=>by
     have h5:(i % 5).toNat<zs.length:=by omega
     refine FR (n:=(i % 5).toNat) (v:=.str (zs[(i % 5).toNat]'h5)) (SqL.of e9) (by omega) ?_ (qv _ (hzn _ (List.getElem_mem h5)))
     rw[List.getElem?_map,List.getElem?_eq_getElem h5]
     rfl
    refine⟨⟨by decide,by decide⟩,⟨by decide,by decide⟩,nm J.enl λz1 hz1=>⟨⟨by decide,by decide⟩,nm J.enl λz2 hz2=> ?_⟩⟩
    obtain⟨kk,ek,hk⟩:∃ b:Nat,y / 12 % 8=b/\b<8:=⟨(y / 12 % 8).toNat,by omega,by omega⟩
    rw[ek]
    push_cast[↓Yb]
    refine⟨⟨by decide,by decide⟩,J.deed T4' TDk (by omega) hk hz1 hz2 (λv H11 hv J11=> ?_) λH11 hf=> ?_⟩
    ·push_cast[]
     exact F8 hv (RU T4' J11.up (by omega) hw.1 λH13 J13=>fin J13)
    ·push_cast[]
     push_cast[↓Xz]
     exact hf λH2 J2=>RU T4' J2 (by omega) hw.1 λH13 J13=>fin J13
 ·obtain⟨kd,J,y1,y7,y8,y9,es⟩:=hzz
  subst es
  push_cast[]
  push_cast[↓Yk]
  rw[<-e3]
  exact J.all T4' (by rw[List.length_map];omega) hw.1 λH11 _ _ _=>q _
end
end L2
namespace L2
def BG(i:Nat):Stmt:=PySem.Challenge.pw_holdback_k47_whole_swept_and_moved.main.body.getD i (.Pass ⟨0,0,0,0⟩)
structure Txt(K:W.Frag)(mg:Str->Option Value)(a:Ad):Prop where
 zgv:Cls K (a "Change")
 C6:Cls K (a "Hold")
 B7:Cls K (a "Layout")
 IG:Cls K (a "Plank")
 BW:Cls K (a "Store")
 zgw:GV mg "MOST_LETTERS" (.int 8)
 zgx:GV mg "MOST_PIECE_SIGNS" (.int 40)
 bF:mg "NoBlock"=some (.ref (a "NoBlock"))
 zg8:GV mg "NoBlock" (.ref (a "NoBlock"))
 bI:Exc K (a "NoBlock")
 zgz:mg "NoChange"=some (.ref (a "NoChange"))
 zg9:GV mg "NoChange" (.ref (a "NoChange"))
 zg0:Exc K (a "NoChange")
 bG:mg "NoName"=some (.ref (a "NoName"))
 zha:GV mg "NoName" (.ref (a "NoName"))
 sW:Exc K (a "NoName")
 bH:mg "NoPiece"=some (.ref (a "NoPiece"))
 zhb:GV mg "NoPiece" (.ref (a "NoPiece"))
 sX:Exc K (a "NoPiece")
 sU:mg "NoRoom"=some (.ref (a "NoRoom"))
 zhc:GV mg "NoRoom" (.ref (a "NoRoom"))
 zg1:Exc K (a "NoRoom")
 zgy:GV mg "PERCENT" (.int 37)
 sV:mg "Twice"=some (.ref (a "Twice"))
 zhd:GV mg "Twice" (.ref (a "Twice"))
 zg2:Exc K (a "Twice")
 bD:mg "all"=none
 zgt:mg "dict"=none
 sR:mg "enumerate"=none
 GA:mg "len"=none
 R3:mg "list"=none
 zgu:mg "ord"=none
 FM:mg "range"=none
 sS:mg "set"=none
 sT:mg "sorted"=none
 bE:mg "tuple"=none
section
variable(P:Program)(w:World){K:W.Frag}{mg:Str->Option Value}(base:Heap){a:Ad}{f:Addr}{fd:FuncData}
seal wpAny
abbrev YK:Stmt:=BQ (BG 10) 0
theorem zcz:FnScope ["self","place","value","needs"] ["self","place","value","needs"] (A0 YK):=.go
theorem zc0(T:Txt K mg a) (F:Fun K "__init__" "Change.__init__" YK f fd) :
  FP P w K mg base 1 f fd ["self","place","value","needs"] (QN K a) :=
 F.okL (U9 K a) zcz Yz λ_ _ _ _ _ E hr hx=>(AN (EM (AB 0) (AB 1) rfl) (AN (EM (AB 0) (AB 2) rfl) (AI (EM (AB 0) (AB 3) rfl))))
abbrev YL:Stmt:=BQ (BG 11) 4
theorem r8:FnScope ["self"] ["self"] (A0 YL):=.go
theorem zc1:(["number","self"]:List Str).Nodup:=by decide +kernel
theorem zc2(T:Txt K mg a) (F:Fun K "waiting" "Book.waiting" YL f fd) :
  FP P w K mg base 1 f fd ["self"] (KB K a) :=
 F.okL (VA K a) r8 Zj λ_ _ _ _ _ E hr hx=>(AI (BD (IV (tn:=["number"]) (cn:=["self"]) (cap:=[0]) r8.cp rfl (FC rfl T.FM (AJ (EO F4 rfl T.GA (by rfl) (AJ (AZ (AB 0) rfl))))) (λ_ _ _ _ _ _=>(CN 0 zc1)) (λ_ _ _ _ _ _=>(wS (KO (NF (DU hr) (AB 0) (AZ (AB 1) rfl)) (by with_unfolding_all rfl)))) (λ_ _ _ _ _ _=>(AB 0)))))
abbrev YM:Stmt:=BQ (BG 11) 10
theorem sA:FnScope ["self","numbers","number"] ["self","numbers"] (A0 YM):=.go
theorem zc3(T:Txt K mg a) (F:Fun K "ask_for_changes" "Book.ask_for_changes" YM f fd) :
  FP P w K mg base 1 f fd ["self","numbers"] (QR K a) :=
 F.okL (VB K a) sA Zh λ_ _ _ _ _ E hr hx=>(AI (EL hx.po rfl (HW (AB 1)) (CN 2 sA.nd) (AI (BY (HQ (NA F2 JW AS (AB 2) (EO F4 rfl T.GA (by rfl) (AJ (AZ (AB 0) rfl))))) (AI (HV hx T.zg0 rfl T.zgz (AJ DK))) CP))))
abbrev YN:Stmt:=BG 12
theorem zc4:FnScope ["needs","ahead"] ["needs","ahead"] (A0 YN):=.go
theorem zc5(T:Txt K mg a) (F:Fun K "needs_with" "needs_with" YN f fd) :
  FP P w K mg base 1 f fd ["needs","ahead"] (QP K a) :=
 F.okL (RH K a) zc4 Zc λ_ _ _ _ _ E hr hx=>(AN (BY (CS M9 (AB 1) EW (C3 _)) (AI (BD (IL TY rfl T.bE (by rfl) (AJ (fK rfl rfl T.sT rfl T.sS (AB 0)))))) CP) (AI (BD (IL TY rfl T.bE (by rfl) (AJ (fK rfl rfl T.sT rfl T.sS (AV BZ (IL TX rfl T.R3 (by rfl) (AJ (AB 0))) (CC (AJ (AB 1))))))))))
abbrev YO:Stmt:=BQ (BG 14) 2
theorem sB:FnScope ["self","number","gone","need"] ["self","number","gone"] (A0 YO):=.go
theorem zc6(T:Txt K mg a) (F:Fun K "lack_of" "Hold.lack_of" YO f fd) :
  FP P w K mg base 1 f fd ["self","number","gone"] (QS K a) :=
 F.okL (VG K a) sB Zq λ_ _ _ _ _ E hr hx=>(AN (EL hx.po rfl (HW (AZ (CG CH (AZ (AB 0) rfl) (AB 1) (λ_ _=>rfl)) rfl)) (CN 3 sB.nd) (AI (BY (PW.pt (M6 (KO (NF (DU hr) (AB 3) (AZ (AB 0) rfl)) (by with_unfolding_all rfl)) (OP (KO (NF (DU hr) (AB 3) (AB 2)) (by with_unfolding_all rfl))))) (AI (BD (AB 3))) CP))) (AI (BD EW)))
abbrev YQ:Stmt:=BQ (BG 14) 3
theorem YR:FnScope ["self","values","block","laid","number"] ["self","values","block"] (A0 YQ):=.go
theorem zc7(T:Txt K mg a) (F:Fun K "laid_over" "Hold.laid_over" YQ f fd) :
  FP P w K mg base 1 f fd ["self","values","block"] (QU K a) :=
 F.okL (VN K a) YR Zx λ_ _ _ _ _ E hr hx=>(AN (A9 3 YR.nd (IL TX rfl T.R3 (by rfl) (AJ (AB 1)))) (AN (EL hx.po rfl (HW (CG CH (AZ (AB 0) rfl) (AB 2) (λ_ _=>rfl))) (CN 4 YR.nd) (AI (BY (KO (dH (DU hr) (AB 4) (AZ (AB 0) rfl)) (by with_unfolding_all rfl)) (AI (bS (AZ (CG CH (AZ (AB 0) rfl) (AB 4) (λ_ _=>rfl)) rfl) (bR (AB 3) (CG CH (AZ (CG CH (AZ (AB 0) rfl) (AB 4) (λ_ _=>rfl)) rfl) AS (λ_ _=>rfl)) d8))) CP))) (AI (BD (AB 3)))))
abbrev YS:Stmt:=BG 17
theorem zc8:FnScope ["sign"] ["sign"] (A0 YS):=.go
theorem zc9(T:Txt K mg a) (F:Fun K "is_sign" "is_sign" YS f fd) :
  FP P w K mg base 1 f fd ["sign"] (Q1 K a) :=
 F.okL (VO K a) zc8 za0 λ_ _ _ _ _ E hr hx=>(AI (BD (R7 (OY F2 F2 DK (AB 0) DK) (R6 (uL (O9 hr.units) (EO Aj rfl T.zgu (by rfl) (AJ (AB 0))) (TM T.zgy rfl) (C3 _))))))
abbrev YT:Stmt:=BG 21
theorem sC:FnScope ["thing"] ["thing"] (A0 YT):=.go
theorem sD:(["sign"]:List Str).Nodup:=by decide +kernel
theorem zda(T:Txt K mg a) (F:Fun K "is_name" "is_name" YT f fd) :
  FP P w K mg base 1 f fd ["thing"] (Q2 K a) :=
 F.okL (VP K a) sC za1 λ_ _ _ _ _ E hr hx=>(AI (BD (R7 (OY F2 F2 AS (EO F4 rfl T.GA (by rfl) (AJ (AB 0))) (TM T.zgw rfl)) (R6 (EO (T6 rfl) rfl T.bD (by rfl) (AJ (IV (tn:=["sign"]) (cn:=[]) (cap:=[]) sC.cp rfl (eP (AB 0)) (λ_ _ _ _ _ _=>(CN 0 sD)) (λ_ _ _ _ _ _=>G7) (λ_ _ _ _ _ _=>(OY F2 F2 DK (AB 0) DK)))))))))
abbrev YU:Stmt:=BQ (BG 28) 12
theorem zdb:FnScope ["self"] ["self"] (A0 YU):=.go
theorem zdc(T:Txt K mg a) (F:Fun K "hold" "Store.hold" YU f fd) :
  FP P w K mg base 1 f fd ["self"] (HE K a) :=
 F.okL (VQ K a) zdb za7 λ_ _ _ _ _ E hr hx=>(AI (BD (AZ (AB 0) rfl)))
abbrev YV:Stmt:=BQ (BG 30) 0
theorem sE:FnScope ["self","blocks","cells"] ["self","blocks","cells"] (A0 YV):=.go
theorem zdd:(["block","cells"]:List Str).Nodup:=by decide +kernel
theorem zde(T:Txt K mg a) (F:Fun K "__init__" "Plank.__init__" YV f fd) :
  FP P w K mg base 1 f fd ["self","blocks","cells"] (P8 K a) :=
 F.okL (VR K a) sE Ym λ_ _ _ _ _ E hr hx=>(AN (EM (AB 0) (IV (tn:=["block"]) (cn:=["cells"]) (cap:=[2]) sE.cp rfl (FC rfl T.FM (AJ (AB 1))) (λ_ _ _ _ _ _=>(CN 0 zdd)) (λ_ _ _ _ _ _=>G7) (λ_ _ _ _ _ _=>(AV JV (E5 (AJ EW)) (AB 1)))) rfl) (AN (EM (AB 0) (AB 2) rfl) (AI (EM (AB 0) AS rfl))))
abbrev YW:Stmt:=BQ (BG 30) 1
theorem zdf:FnScope ["self"] ["self"] (A0 YW):=.go
theorem zdg(T:Txt K mg a) (F:Fun K "blocks" "Plank.blocks" YW f fd) :
  FP P w K mg base 1 f fd ["self"] (L8 K a) :=
 F.okL (VS K a) zdf Yp λ_ _ _ _ _ E hr hx=>(AI (BD (EO F4 rfl T.GA (by rfl) (AJ (AZ (AB 0) rfl)))))
abbrev YX:Stmt:=BQ (BG 30) 2
theorem zdh:FnScope ["self"] ["self"] (A0 YX):=.go
theorem zdi(T:Txt K mg a) (F:Fun K "cells" "Plank.cells" YX f fd) :
  FP P w K mg base 1 f fd ["self"] (P9 K a) :=
 F.okL (VT K a) zdh Yq λ_ _ _ _ _ E hr hx=>(AI (BD (AZ (AB 0) rfl)))
abbrev YY:Stmt:=BQ (BG 30) 6
theorem zdj:FnScope ["self","block"] ["self","block"] (A0 YY):=.go
theorem zdk(T:Txt K mg a) (F:Fun K "ask_for_block" "Plank.ask_for_block" YY f fd) :
  FP P w K mg base 1 f fd ["self","block"] (J6 K a) :=
 F.okL (VU K a) zdj Yv λ_ _ _ _ _ E hr hx=>(AI (BY (HQ (NA F2 JW AS (AB 1) (EO F4 rfl T.GA (by rfl) (AJ (AZ (AB 0) rfl))))) (AI (HV hx T.bI rfl T.bF (AJ DK))) CP))
abbrev YZ:Stmt:=BQ (BG 32) 0
theorem zdl:FnScope ["self","names","records","pieces","cells"] ["self","names","records","pieces","cells"] (A0 YZ):=.go
theorem zdm(T:Txt K mg a) (F:Fun K "__init__" "Layout.__init__" YZ f fd) :
  FP P w K mg base 1 f fd ["self","names","records","pieces","cells"] (QK K a) :=
 F.okL (VV K a) zdl Zz λ_ _ _ _ _ E hr hx=>(AN (EM (AB 0) (AB 1) rfl) (AN (EM (AB 0) (AB 2) rfl) (AN (EM (AB 0) (AB 3) rfl) (AI (EM (AB 0) (AB 4) rfl)))))
abbrev Y0:Stmt:=BQ (BG 32) 6
theorem zdn:FnScope ["self"] ["self"] (A0 Y0):=.go
theorem zdo(T:Txt K mg a) (F:Fun K "counts" "Layout.counts" Y0 f fd) :
  FP P w K mg base 1 f fd ["self"] (FT K a) :=
 F.okL (VW K a) zdn zai λ_ _ _ _ _ E hr hx=>(AI (BD (E5 (DE (AV JV (AZ (AB 0) rfl) (AZ (AB 0) rfl)) (AV JV (AZ (AB 0) rfl) (AZ (AB 0) rfl)) (AV JV (AZ (AB 0) rfl) (AZ (AB 0) rfl))))))
abbrev Y1:Stmt:=BQ (BG 32) 9
theorem zdp:FnScope ["self"] ["self"] (A0 Y1):=.go
theorem zdq(T:Txt K mg a) (F:Fun K "blocks_ahead_of_marks" "Layout.blocks_ahead_of_marks" Y1 f fd) :
  FP P w K mg base 1 f fd ["self"] (KA K a) :=
 F.okL (VX K a) zdp zag λ_ _ _ _ _ E hr hx=>(AI (BD (AV BZ (AV BZ (AZ (AB 0) rfl) (AZ (AB 0) rfl)) (AZ (AB 0) rfl))))
abbrev Y2:Stmt:=BQ (BG 32) 10
theorem zdr:FnScope ["self","block","k"] ["self","block","k"] (A0 Y2):=.go
theorem zds(T:Txt K mg a) (F:Fun K "place_from" "Layout.place_from" Y2 f fd) :
  FP P w K mg base 1 f fd ["self","block","k"] (GR K a) :=
 F.okL (VY K a) zdr zaa λ_ _ _ _ _ E hr hx=>(AI (BD (E5 (BR (AV BZ (AB 1) (AV DL (AB 2) (AZ (AB 0) rfl))) (AV C2 (AB 2) (AZ (AB 0) rfl))))))
abbrev Y3:Stmt:=BG 34
theorem zdt:FnScope ["script","k"] ["script","k"] (A0 Y3):=.go
theorem zdu(T:Txt K mg a) (F:Fun K "_law_cell_at" "_law_cell_at" Y3 f fd) :
  FP P w K mg base 1 f fd ["script","k"] (ME K a) :=
 F.okL (VZ K a) zdt Yl λ_ _ _ _ _ E hr hx=>(AN (BY (CS JW (AB 1) (EO F4 rfl T.GA (by rfl) (AJ (AB 0))) (C3 _)) (AI (BD (CG CH (AB 0) (AB 1) (λ_ _=>rfl)))) CP) (AI (BD AS)))
abbrev Y4:Stmt:=BG 35
theorem HJ:FnScope ["cell","letters","base","rest","k","at","first","last","turned"] ["cell"] (A0 Y4):=.go
theorem zdv(T:Txt K mg a) (F:Fun K "_law_names" "_law_names" Y4 f fd) :
  FP P w K mg base 1 f fd ["cell"] (RC K a) :=
 F.okL (V0 K a) HJ zb8 λ_ _ _ _ _ E hr hx=>(AN (A9 1 HJ.nd DK) (AN (A9 2 HJ.nd DK) (AN (A9 3 HJ.nd (AV DL (AB 0) AS)) (AN (EL hx.po rfl (FC rfl T.FM (AJ (AV BZ AS (AV C2 (AB 0) AS)))) (CN 4 HJ.nd) (AN (A9 2 HJ.nd (AV BZ (AB 2) (CG CH (AB 1) (AV C2 (AV BZ (AB 3) (AV JV (AV JV AS (AB 4)) (AV C2 (AV DL (AB 3) AS) AS))) AS) (λ_ _=>rfl)))) (AI (A9 3 HJ.nd (AV BZ (AV DL (AB 3) AS) (AV JV AS (AB 4))))))) (AN (A9 5 HJ.nd (AV C2 (AV DL (AB 0) AS) (EO F4 rfl T.GA (by rfl) (AJ (AB 2))))) (AN (A9 6 HJ.nd (CG CH (AB 1) (AV C2 (AV DL (AB 0) AS) AS) (λ_ _=>rfl))) (AN (A9 7 HJ.nd (CG CH (AB 1) (AV C2 (AV BZ (AV BZ (AV DL (AB 0) AS) AS) (AV C2 (AV DL (AB 0) AS) AS)) AS) (λ_ _=>rfl))) (AN (A9 8 HJ.nd (CG CH (AB 1) (AV C2 (AV BZ (AV BZ (JP PySem.F.plainAttrs_str PySem.F.slot_str_find PySem.F.type_str_find Ek (AB 1) (AJ (CG CH (AB 2) (AB 5) (λ_ _=>rfl)))) AS) (AV C2 (AV DL (AB 0) AS) AS)) AS) (λ_ _=>rfl))) (AI (BD (CC (JM (AB 2) (L6 (AV BZ (AB 2) (AB 7)) (AV BZ (AB 6) (AB 2)) (AV BZ (AV BZ (ND NK (AB 2) O1 (LS (AB 5))) (AB 8)) (ND NK (AB 2) (LS (AV BZ (AB 5) AS)) O1)) (AV BZ (AV BZ (AB 2) (AB 7)) (AB 6)))))))))))))))
abbrev Y5:Stmt:=BG 36
theorem KJ:FnScope ["cell","signs","many","step","wide"] ["cell"] (A0 Y5):=.go
theorem zdw:(["j","signs","cell","step","wide"]:List Str).Nodup:=by decide +kernel
theorem zdx(T:Txt K mg a) (F:Fun K "_law_text" "_law_text" Y5 f fd) :
  FP P w K mg base 1 f fd ["cell"] (RD K a) :=
 F.okL (V4 K a) KJ zcc λ_ _ _ _ _ E hr hx=>(AN (M8 (i:=1) KJ.nd rfl (Or.inr rfl) DK) (AN (M8 (i:=1) KJ.nd rfl (Or.inr rfl) (AV BZ (AB 1) DK)) (AN (A9 2 KJ.nd (AV BZ AS (AV C2 (AB 0) AS))) (AN (BY (CS (GO hr.units) (AV C2 (AV DL (AB 0) AS) AS) AS (C3 _)) (AI (A9 2 KJ.nd (AV SH AS (AV C2 (AV DL (AB 0) AS) AS)))) CP) (AN (M8 (i:=3) KJ.nd rfl (Or.inr rfl) (AV BZ AS (AV C2 (AV DL (AB 0) AS) AS))) (AN (M8 (i:=4) KJ.nd rfl (Or.inr rfl) (AV BZ AS (AV C2 (AV DL (AB 0) AS) AS))) (AI (BD (JP PySem.F.plainAttrs_str PySem.F.slot_str_join PySem.F.type_str_join Dz DK (AJ (IV (tn:=["j"]) (cn:=["signs","cell" ,"step" ,"wide" ]) (cap:=[1,0,3,4]) KJ.cp rfl (FC rfl T.FM (AJ (AB 2))) (λ_ _ _ _ _ _=>(CN 0 zdw)) (λ_ _ _ _ _ _=>G7) (λ_ _ _ _ _ _=>(CG CH (AB 1) (AV C2 (AV BZ (AV DL (AB 2) AS) (AV JV (AB 3) (AV DL (AB 0) (AB 4)))) AS) (λ_ _=>rfl))))))))))))))
abbrev Y6:Stmt:=BG 37
theorem zdy:FnScope ["cell"] ["cell"] (A0 Y6):=.go
theorem zdz(T:Txt K mg a) (F:Fun K "_law_at" "_law_at" Y6 f fd) :
  FP P w K mg base 1 f fd ["cell"] (RE K a) :=
 F.okL (V5 K a) zdy zca λ_ _ _ _ _ E hr hx=>(AN (BY (CS (GO hr.units) (AV C2 (AV DL (AB 0) AS) AS) AS (C3 _)) (AI (BD (AV SH (AV C2 (AB 0) AS) AS))) CP) (AI (BD (AV SH (AV C2 (AB 0) AS) AS))))
abbrev Y7:Stmt:=BG 42
theorem sF:FnScope ["kept","kind","one","other","number"] ["kept","kind","one","other"] (A0 Y7):=.go
theorem zd0(T:Txt K mg a) (F:Fun K "_law_followed" "_law_followed" Y7 f fd) :
  FP P w K mg base 1 f fd ["kept","kind","one","other"] (N0 K a) :=
 F.okL (V6 K a) sF zcn λ_ _ _ _ _ E hr hx=>(AI (EL hx.po rfl (HW (IL (Ey rfl) rfl T.R3 (by rfl) (AJ (AB 0)))) (CN 4 sF.nd) (AI (BY (CS (PR hr.units) (AB 2) (KW (DU hr) (AB 0) (AB 4) (λ_ _=>rfl)) (by with_unfolding_all rfl)) (AI (BY (CS (GO hr.units) (AB 1) AS (C3 _)) (AI (DQ (wK (AB 0) (AB 4) ⟨rfl,rfl,rfl,rfl⟩))) (AI (BY (CS (PR hr.units) (AB 1) (E5 (BR AS AS)) (by with_unfolding_all rfl)) (AI (KY (DU hr) (AB 0) (AB 4) (AV BZ (KW (DU hr) (AB 0) (AB 4) (λ_ _=>rfl)) (CC (AJ (AB 3)))) rfl)) CP)))) CP))))
abbrev Y8:Stmt:=BQ (BG 11) 0
theorem sG:FnScope ["self","plank"] ["self","plank"] (A0 Y8):=.go
theorem zd1:(["block"]:List Str).Nodup:=by decide +kernel
theorem zd2(T:Txt K mg a)(aU:AT P w K mg base (a "Plank") 1 "blocks" ["self"] (L8 K a))(F:Fun K "__init__" "Book.__init__" Y8 f fd) :
  FP P w K mg base 2 f fd ["self","plank"] (NV K a) :=
 F.okL (V7 K a) sG Zb λ_ _ _ _ _ E hr hx=>(AN (EM (AB 0) (AB 1) rfl) (AN (EM (AB 0) (CC E4) rfl) (AN (EM (AB 0) (IV (tn:=["block"]) (cn:=[]) (cap:=[]) sG.cp rfl (FC rfl T.FM (AJ (C4 (AB 1) T.IG aU hr hx))) (λ_ _ _ _ _ _=>(CN 0 zd1)) (λ_ _ _ _ _ _=>G7) (λ_ _ _ _ _ _=>(CC E4))) rfl) (AN (EM (AB 0) dJ rfl) (AI (EM (AB 0) NG rfl))))))
abbrev Y9:Stmt:=BQ (BG 11) 9
theorem zd3:FnScope ["self","place"] ["self","place"] (A0 Y9):=.go
theorem zd4(T:Txt K mg a)(zgg:AT P w K mg base (a "Plank") 1 "cells" ["self"] (P9 K a))(aU:AT P w K mg base (a "Plank") 1 "blocks" ["self"] (L8 K a))(F:Fun K "ask_for_place" "Book.ask_for_place" Y9 f fd) :
  FP P w K mg base 2 f fd ["self","place"] (QQ K a) :=
 F.okL (V8 K a) zd3 Zd λ_ _ _ _ _ E hr hx=>(AI (BY (PW.pt (bN (HQ (NA F2 JW AS (FF (AB 1)) (C4 (AZ (AB 0) rfl) T.IG aU hr hx))) (bM (HQ (NA F2 JW AS (FF (AB 1)) (C4 (AZ (AB 0) rfl) T.IG zgg hr hx)))))) (AI (HV hx T.bI rfl T.bF (AJ DK))) CP))
abbrev ZA:Stmt:=BQ (BG 14) 1
theorem MU:FnScope ["self","block","taken","gone","out","held","number","lack"] ["self","block","taken"] (A0 ZA):=.go
theorem zd5(T:Txt K mg a)(zga:AT P w K mg base (a "Hold") 1 "lack_of" ["self","number","gone"] (QS K a))(F:Fun K "outcome" "Hold.outcome" ZA f fd) :
  FP P w K mg base 2 f fd ["self","block","taken"] (QT K a) :=
 F.okL (WK K a) MU Zw λ_ _ _ _ _ E hr hx=>(AN (A9 3 MU.nd (IL Cp rfl T.zgt (by rfl) (AJ (AB 2)))) (AN (A9 4 MU.nd (CC E4)) (AN (A9 5 MU.nd (CC E4)) (AN (EL hx.po rfl (HW (CG CH (AZ (AB 0) rfl) (AB 1) (λ_ _=>rfl))) (CN 6 MU.nd) (AI (BY (PW.pt (M6 (KO (NF (DU hr) (AB 6) (AZ (AB 0) rfl)) (by with_unfolding_all rfl)) (OP (KO (NF (DU hr) (AB 6) (AB 3)) (by with_unfolding_all rfl))))) (AN (A9 7 MU.nd (A6 (AB 0) T.C6 zga hr hx (BR (AB 6) (AB 3)))) (AI (BY (CS M9 (AB 7) EW (C3 _)) (AN (KY (DU hr) (AB 3) (AB 6) G4 rfl) (AI (DQ (JP PySem.F.plainAttrs_list PySem.F.slot_list_append PySem.F.type_list_append LT (AB 4) (AJ (AB 6)))))) (AI (DQ (JP PySem.F.plainAttrs_list PySem.F.slot_list_append PySem.F.type_list_append LT (AB 5) (AJ (E5 (BR (AB 6) (AB 7)))))))))) CP))) (AI (BD (E5 (BR (AB 4) (AB 5)))))))))
abbrev ZB:Stmt:=BG 22
theorem sI:FnScope ["thing"] ["thing"] (A0 ZB):=.go
theorem zd6(T:Txt K mg a)(zfy:DM P w K mg base (1) "is_sign" ["sign"] (Q1 K a))(F:Fun K "is_piece" "is_piece" ZB f fd) :
  FP P w K mg base 2 f fd ["thing"] (Q3 K a) :=
 F.okL (WL K a) sI za2 λ_ _ _ _ _ E hr hx=>(AI (BD (R7 (OY F2 F2 AS (EO F4 rfl T.GA (by rfl) (AJ (AB 0))) (TM T.zgx rfl)) (R6 (EO (T6 rfl) rfl T.bD (by rfl) (AJ (IV (tn:=["sign"]) (cn:=[]) (cap:=[]) sI.cp rfl (eP (AB 0)) (λ_ _ _ _ _ _=>(CN 0 sD)) (λ_ _ _ _ _ _=>G7) (λ_ _ _ _ _ _=>(NI zfy hr.m JU rfl (AJ (AB 0)))))))))))
abbrev ZC:Stmt:=BQ (BG 30) 4
theorem zd7:FnScope ["self","block"] ["self","block"] (A0 ZC):=.go
theorem zd8(T:Txt K mg a)(aT:AT P w K mg base (a "Plank") 1 "ask_for_block" ["self","block"] (J6 K a))(F:Fun K "read" "Plank.read" ZC f fd) :
  FP P w K mg base 2 f fd ["self","block"] (J8 K a) :=
 F.okL (WM K a) zd7 Yw λ_ _ _ _ _ E hr hx=>(AN (DQ (A6 (AB 0) T.IG aT hr hx (AJ (AB 1)))) (AI (BD (IL TX rfl T.R3 (by rfl) (AJ (CG CH (AZ (AB 0) rfl) (AB 1) (λ_ _=>rfl)))))))
abbrev ZD:Stmt:=BQ (BG 30) 5
theorem zd9:FnScope ["self","block","values"] ["self","block","values"] (A0 ZD):=.go
theorem zea(T:Txt K mg a)(aT:AT P w K mg base (a "Plank") 1 "ask_for_block" ["self","block"] (J6 K a))(F:Fun K "write" "Plank.write" ZD f fd) :
  FP P w K mg base 2 f fd ["self","block","values"] (QC K a) :=
 F.okL (WN K a) zd9 Yx λ_ _ _ _ _ E hr hx=>(AN (DQ (A6 (AB 0) T.IG aT hr hx (AJ (AB 1)))) (AN (BY (CS (O9 hr.units) (EO F4 rfl T.GA (by rfl) (AJ (AB 2))) (AZ (AB 0) rfl) (C3 _)) (AI (HV hx T.bI rfl T.bF (AJ DK))) CP) (AN (bS (IL TY rfl T.bE (by rfl) (AJ (AB 2))) (bR (AZ (AB 0) rfl) (AB 1) d8)) (AI (uY (AB 0) AS uZ)))))
abbrev ZE:Stmt:=BQ (BG 32) 1
theorem zeb:FnScope ["self","k"] ["self","k"] (A0 ZE):=.go
theorem zec(T:Txt K mg a)(JH:AT P w K mg base (a "Layout") 1 "place_from" ["self","block","k"] (GR K a))(F:Fun K "name_at" "Layout.name_at" ZE f fd) :
  FP P w K mg base 2 f fd ["self","k"] (FH K a) :=
 F.okL (WO K a) zeb zab λ_ _ _ _ _ E hr hx=>(AI (BD (A6 (AB 0) T.B7 JH hr hx (BR AS (AB 1)))))
abbrev ZF:Stmt:=BQ (BG 32) 2
theorem zed:FnScope ["self","k"] ["self","k"] (A0 ZF):=.go
theorem zee(T:Txt K mg a)(JH:AT P w K mg base (a "Layout") 1 "place_from" ["self","block","k"] (GR K a))(F:Fun K "record_at" "Layout.record_at" ZF f fd) :
  FP P w K mg base 2 f fd ["self","k"] (FI K a) :=
 F.okL (WP K a) zed zac λ_ _ _ _ _ E hr hx=>(AI (BD (A6 (AB 0) T.B7 JH hr hx (BR (AZ (AB 0) rfl) (AB 1)))))
abbrev ZG:Stmt:=BQ (BG 32) 3
theorem zef:FnScope ["self","k"] ["self","k"] (A0 ZG):=.go
theorem zeg(T:Txt K mg a)(JH:AT P w K mg base (a "Layout") 1 "place_from" ["self","block","k"] (GR K a))(F:Fun K "piece_at" "Layout.piece_at" ZG f fd) :
  FP P w K mg base 2 f fd ["self","k"] (NU K a) :=
 F.okL (WQ K a) zef zad λ_ _ _ _ _ E hr hx=>(AI (BD (A6 (AB 0) T.B7 JH hr hx (BR (AV BZ (AZ (AB 0) rfl) (AZ (AB 0) rfl)) (AB 1)))))
abbrev ZH:Stmt:=BQ (BG 32) 4
theorem zeh:FnScope ["self","k"] ["self","k"] (A0 ZH):=.go
theorem zei(T:Txt K mg a)(OD:AT P w K mg base (a "Layout") 1 "blocks_ahead_of_marks" ["self"] (KA K a))(JH:AT P w K mg base (a "Layout") 1 "place_from" ["self","block","k"] (GR K a))(F:Fun K "record_mark" "Layout.record_mark" ZH f fd) :
  FP P w K mg base 2 f fd ["self","k"] (IY K a) :=
 F.okL (WR K a) zeh zae λ_ _ _ _ _ E hr hx=>(AI (BD (A6 (AB 0) T.B7 JH hr hx (BR (C4 (AB 0) T.B7 OD hr hx) (AB 1)))))
abbrev ZI:Stmt:=BQ (BG 32) 5
theorem zej:FnScope ["self","k"] ["self","k"] (A0 ZI):=.go
theorem zek(T:Txt K mg a)(OD:AT P w K mg base (a "Layout") 1 "blocks_ahead_of_marks" ["self"] (KA K a))(JH:AT P w K mg base (a "Layout") 1 "place_from" ["self","block","k"] (GR K a))(F:Fun K "piece_mark" "Layout.piece_mark" ZI f fd) :
  FP P w K mg base 2 f fd ["self","k"] (HB K a) :=
 F.okL (WS K a) zej zaf λ_ _ _ _ _ E hr hx=>(AI (BD (A6 (AB 0) T.B7 JH hr hx (BR (AV BZ (C4 (AB 0) T.B7 OD hr hx) (AZ (AB 0) rfl)) (AB 1)))))
abbrev ZJ:Stmt:=BQ (BG 32) 7
theorem zel:FnScope ["self"] ["self"] (A0 ZJ):=.go
theorem zem(T:Txt K mg a)(OD:AT P w K mg base (a "Layout") 1 "blocks_ahead_of_marks" ["self"] (KA K a))(F:Fun K "blocks" "Layout.blocks" ZJ f fd) :
  FP P w K mg base 2 f fd ["self"] (HZ K a) :=
 F.okL (WT K a) zel zah λ_ _ _ _ _ E hr hx=>(AI (BD (AV BZ (AV BZ (C4 (AB 0) T.B7 OD hr hx) (AZ (AB 0) rfl)) (AZ (AB 0) rfl))))
abbrev ZK:Stmt:=BQ (BG 11) 3
theorem zen:FnScope ["self","place"] ["self","place"] (A0 ZK):=.go
theorem zeo(T:Txt K mg a)(zf9:AT P w K mg base (a "Hold") 2 "ask_for_place" ["self","place"] (QQ K a))(F:Fun K "newest" "Book.newest" ZK f fd) :
  FP P w K mg base 3 f fd ["self","place"] (MF K a) :=
 F.okL (WU K a) zen Zg λ_ _ _ _ _ E hr hx=>(AN (DQ (A6 (AB 0) T.C6 zf9 hr hx (AJ (AB 1)))) (AI (BD (wI (DU hr) (AZ (AB 0) rfl) (AB 1) ⟨rfl,rfl,rfl,rfl⟩))))
abbrev ZL:Stmt:=BQ (BG 14) 0
theorem RV:FnScope ["self","block","values","told","number"] ["self","block"] (A0 ZL):=.go
theorem zep(T:Txt K mg a)(OF:AT P w K mg base (a "Plank") 2 "read" ["self","block"] (J8 K a))(zgc:AT P w K mg base (a "Hold") 2 "outcome" ["self","block","taken"] (QT K a))(zgb:AT P w K mg base (a "Hold") 1 "laid_over" ["self","values","block"] (QU K a))(zgh:AT P w K mg base (a "Plank") 2 "write" ["self","block","values"] (QC K a))(F:Fun K "write" "Hold.write" ZL f fd) :
  FP P w K mg base 3 f fd ["self","block"] (QW K a) :=
 F.okL (WV K a) RV Zy λ_ _ _ _ _ E hr hx=>(AN (A9 2 RV.nd (A6 (AZ (AB 0) rfl) T.IG OF hr hx (AJ (AB 1)))) (AN (A9 3 RV.nd (A6 (AB 0) T.C6 zgc hr hx (BR (AB 1) NG))) (AN (EL hx.po rfl (HW (FF (AB 3))) (CN 4 RV.nd) (AI (KY (DU hr) (AZ (AB 0) rfl) (AB 4) G4 rfl))) (AN (DQ (A6 (AZ (AB 0) rfl) T.IG zgh hr hx (BR (AB 1) (A6 (AB 0) T.C6 zgb hr hx (BR (AB 2) (AB 1)))))) (AI (BD (AB 3)))))))
abbrev ZM:Stmt:=BQ (BG 32) 8
theorem zeq:FnScope ["self"] ["self"] (A0 ZM):=.go
theorem zer(T:Txt K mg a)(LF:AT P w K mg base (a "Layout") 2 "blocks" ["self"] (HZ K a))(zgr:K0 P w K mg base (a "Plank") 1 "Plank" ["self","blocks","cells"] (P8 K a))(F:Fun K "plank" "Layout.plank" ZM f fd) :
  FP P w K mg base 3 f fd ["self"] (QL K a) :=
 F.okL (WW K a) zeq zaj λ_ _ _ _ _ E hr hx=>(AI (BD (NJ zgr hr.m hx.passes rfl (BR (C4 (AB 0) T.B7 LF hr hx) (AZ (AB 0) rfl)))))
abbrev ZN:Stmt:=BG 39
theorem N7:FnScope ["layout","plank","there","block","values","k"] ["layout","plank"] (A0 ZN):=.go
theorem zes(T:Txt K mg a)(LF:AT P w K mg base (a "Layout") 2 "blocks" ["self"] (HZ K a))(OF:AT P w K mg base (a "Plank") 2 "read" ["self","block"] (J8 K a))(F:Fun K "_law_plank" "_law_plank" ZN f fd) :
  FP P w K mg base 3 f fd ["layout","plank"] (LC K a) :=
 F.okL (WX K a) N7 zch λ_ _ _ _ _ E hr hx=>(AN (A9 2 N7.nd dJ) (AN (EL hx.po rfl (FC rfl T.FM (AJ (C4 (AB 0) T.B7 LF hr hx))) (CN 3 N7.nd) (AN (A9 4 N7.nd (A6 (AB 1) T.IG OF hr hx (AJ (AB 3)))) (AI (EL hx.po rfl (FC rfl T.FM (AJ (EO F4 rfl T.GA (by rfl) (AJ (AB 4))))) (CN 5 N7.nd) (AI (KY (DU hr) (AB 2) (E5 (BR (AB 3) (AB 5))) (CG CH (AB 4) (AB 5) (λ_ _=>rfl)) rfl)))))) (AI (BD (AB 2)))))
abbrev ZO:Stmt:=BG 43
theorem MV:FnScope ["layout","there","kept","number","found","k","cell"] ["layout","there","kept"] (A0 ZO):=.go
theorem zet(T:Txt K mg a)(HK:AT P w K mg base (a "Layout") 1 "counts" ["self"] (FT K a))(HL:AT P w K mg base (a "Layout") 2 "name_at" ["self","k"] (FH K a))(HM:AT P w K mg base (a "Layout") 2 "record_at" ["self","k"] (FI K a))(F:Fun K "_law_there" "_law_there" ZO f fd) :
  FP P w K mg base 3 f fd ["layout","there","kept"] (N1 K a) :=
 F.okL (WY K a) MV zcl λ_ _ _ _ _ E hr hx=>(AN (Ex hx.po rfl (AB 2) (CN 3 MV.nd) (AN (A9 4 MV.nd G4) (AN (EL hx.po rfl (FC rfl T.FM (AJ (CG CH (C4 (AB 0) T.B7 HK hr hx) AS (λ_ _=>rfl)))) (CN 5 MV.nd) (AN (A9 6 MV.nd (KW (DU hr) (AB 1) (A6 (AB 0) T.B7 HL hr hx (AJ (AB 5))) (λ_ _=>rfl))) (AI (BY (PW.pt (M6 (CS OX (AB 6) EW (C3 _)) (M6 (CS (GO hr.units) (FF (AB 6)) (AB 3) (C3 _)) (OP (CS (PR hr.units) (FF (AB 6)) (KW (DU hr) (AB 2) (AB 3) (λ_ _=>rfl)) (by with_unfolding_all rfl)))))) (AI (A9 4 MV.nd G4)) CP)))) (AI (BY (PW.pt (bN (HQ (NB (AB 4) (λ_=>rfl))) (bM (CS M9 (KW (DU hr) (AB 1) (A6 (AB 0) T.B7 HM hr hx (AJ (AB 3))) (λ_ _=>rfl)) EW (C3 _))))) (AI (BD G4)) CP))))) (AI (BD G4)))
abbrev ZP:Stmt:=BQ (BG 11) 1
theorem ZQ:FnScope ["self","place","value","needs","ahead","number"] ["self","place","value","needs"] (A0 ZP):=.go
theorem zeu(T:Txt K mg a)(aS:AT P w K mg base (a "Hold") 3 "newest" ["self","place"] (MF K a))(zf8:AT P w K mg base (a "Hold") 1 "ask_for_changes" ["self","numbers"] (QR K a))(zf7:DM P w K mg base (1) "needs_with" ["needs","ahead"] (QP K a))(zgo:K0 P w K mg base (a "Change") 1 "Change" ["self","place","value","needs"] (QN K a))(F:Fun K "change" "Book.change" ZP f fd) :
  FP P w K mg base 4 f fd ["self","place","value","needs"] (DZ K a) :=
 F.okL (WZ K a) ZQ Zk λ_ _ _ _ _ E hr hx=>(AN (A9 4 ZQ.nd (A6 (AB 0) T.C6 aS hr hx (AJ (AB 1)))) (AN (DQ (A6 (AB 0) T.C6 zf8 hr hx (AJ (AB 3)))) (AN (A9 5 ZQ.nd (EO F4 rfl T.GA (by rfl) (AJ (AZ (AB 0) rfl)))) (AN (DQ (JP PySem.F.plainAttrs_list PySem.F.slot_list_append PySem.F.type_list_append LT (AZ (AB 0) rfl) (AJ (NJ zgo hr.m hx.passes rfl (DE (AB 1) (AB 2) (ED zf7 hr hx (BR (AB 3) (AB 4)))))))) (AN (DQ (JP PySem.F.plainAttrs_list PySem.F.slot_list_append PySem.F.type_list_append LT (CG CH (AZ (AB 0) rfl) (FF (AB 1)) (λ_ _=>rfl)) (AJ (AB 5)))) (AN (KY (DU hr) (AZ (AB 0) rfl) (AB 1) (AB 5) rfl) (AI (BD (AB 5)))))))))
abbrev ZR:Stmt:=BQ (BG 11) 2
theorem sJ:FnScope ["self","place","number"] ["self","place"] (A0 ZR):=.go
theorem zev(T:Txt K mg a)(aS:AT P w K mg base (a "Hold") 3 "newest" ["self","place"] (MF K a))(OF:AT P w K mg base (a "Plank") 2 "read" ["self","block"] (J8 K a))(F:Fun K "in_hand" "Book.in_hand" ZR f fd) :
  FP P w K mg base 4 f fd ["self","place"] (GS K a) :=
 F.okL (W0 K a) sJ Zp λ_ _ _ _ _ E hr hx=>(AN (A9 2 sJ.nd (A6 (AB 0) T.C6 aS hr hx (AJ (AB 1)))) (AN (BY (CS M9 (AB 2) EW (C3 _)) (AI (BD (CG CH (A6 (AZ (AB 0) rfl) T.IG OF hr hx (AJ (FF (AB 1)))) (FF (AB 1)) (λ_ _=>rfl)))) CP) (AI (BD (AZ (CG CH (AZ (AB 0) rfl) (AB 2) (λ_ _=>rfl)) rfl)))))
abbrev ZS:Stmt:=BQ (BG 28) 0
theorem zew:FnScope ["self","layout","plank"] ["self","layout","plank"] (A0 ZS):=.go
theorem zex(T:Txt K mg a)(zgp:K0 P w K mg base (a "Hold") 2 "Hold" ["self","plank"] (NV K a))(F:Fun K "__init__" "Store.__init__" ZS f fd) :
  FP P w K mg base 4 f fd ["self","layout","plank"] (Q4 K a) :=
 F.okL (W1 K a) zew za8 λ_ _ _ _ _ E hr hx=>(AN (EM (AB 0) (AB 1) rfl) (AN (EM (AB 0) (NJ zgp hr.m hx.passes rfl (AJ (AB 2))) rfl) (AI (EM (AB 0) NG rfl))))
abbrev ZT:Stmt:=BQ (BG 28) 10
theorem zey:FnScope ["self","block"] ["self","block"] (A0 ZT):=.go
theorem zez(T:Txt K mg a)(zgd:AT P w K mg base (a "Hold") 3 "write" ["self","block"] (QW K a))(F:Fun K "write" "Store.write" ZT f fd) :
  FP P w K mg base 4 f fd ["self","block"] (KH K a) :=
 F.okL (W2 K a) zey zcg λ_ _ _ _ _ E hr hx=>(AI (BD (A6 (AZ (AB 0) rfl) T.C6 zgd hr hx (AJ (AB 1)))))
abbrev ZU:Stmt:=BG 26
theorem ZV:FnScope ["hold","places","values","k","place"] ["hold","places","values"] (A0 ZU):=.go
theorem ze0(T:Txt K mg a)(JG:AT P w K mg base (a "Hold") 4 "in_hand" ["self","place"] (GS K a))(F:Fun K "lowest_with" "lowest_with" ZU f fd) :
  FP P w K mg base 5 f fd ["hold","places","values"] (JA K a) :=
 F.okL (W3 K a) ZV zao λ_ _ _ _ _ E hr hx=>(AN (EL hx.po rfl (fU rfl T.sR (AJ (AB 1))) (bQ rfl (OT (CN 3 ZV.nd) (OT (CN 4 ZV.nd) bP))) (AI (BY (CS (Ej hr.units) (A6 (AB 0) T.C6 JG hr hx (AJ (AB 4))) (AB 2) (by with_unfolding_all rfl)) (AI (BD (AB 3))) CP))) (AI (HV hx T.zg1 rfl T.sU (AJ DK))))
abbrev ZW:Stmt:=BQ (BG 28) 16
theorem sK:FnScope ["self"] ["self"] (A0 ZW):=.go
theorem ze1:(["k","self"]:List Str).Nodup:=by decide +kernel
theorem ze2(T:Txt K mg a)(HK:AT P w K mg base (a "Layout") 1 "counts" ["self"] (FT K a))(HL:AT P w K mg base (a "Layout") 2 "name_at" ["self","k"] (FH K a))(JG:AT P w K mg base (a "Hold") 4 "in_hand" ["self","place"] (GS K a))(F:Fun K "name_cells" "Store.name_cells" ZW f fd) :
  FP P w K mg base 5 f fd ["self"] (MI K a) :=
 F.okL (W4 K a) sK za9 λ_ _ _ _ _ E hr hx=>(AI (BD (IV (tn:=["k"]) (cn:=["self"]) (cap:=[0]) sK.cp rfl (FC rfl T.FM (AJ (CG CH (C4 (AZ (AB 0) rfl) T.B7 HK hr hx) AS (λ_ _=>rfl)))) (λ_ _ _ _ _ _=>(CN 0 ze1)) (λ_ _ _ _ _ _=>G7) (λ_ _ _ _ _ _=>(FZ (AZ (AB 1) rfl) T.C6 JG hr.m JU (AJ (FZ (AZ (AB 1) rfl) T.B7 HL hr.m JU (AJ (AB 0)))))))))
abbrev ZX:Stmt:=BQ (BG 28) 17
theorem ze3:FnScope ["self","record"] ["self","record"] (A0 ZX):=.go
theorem ze4(T:Txt K mg a)(HM:AT P w K mg base (a "Layout") 2 "record_at" ["self","k"] (FI K a))(JG:AT P w K mg base (a "Hold") 4 "in_hand" ["self","place"] (GS K a))(F:Fun K "standing" "Store.standing" ZX f fd) :
  FP P w K mg base 5 f fd ["self","record"] (FW K a) :=
 F.okL (W5 K a) ze3 zbi λ_ _ _ _ _ E hr hx=>(AI (BD (A6 (AZ (AB 0) rfl) T.C6 JG hr hx (AJ (A6 (AZ (AB 0) rfl) T.B7 HM hr hx (AJ (AB 1)))))))
abbrev ZY:Stmt:=BQ (BG 28) 18
theorem sL:FnScope ["self","cell","name","record","need","needs"] ["self","cell","name","record","need"] (A0 ZY):=.go
theorem ze5(T:Txt K mg a)(HL:AT P w K mg base (a "Layout") 2 "name_at" ["self","k"] (FH K a))(EV:AT P w K mg base (a "Hold") 4 "change" ["self","place","value","needs"] (DZ K a))(F:Fun K "fill_cell" "Store.fill_cell" ZY f fd) :
  FP P w K mg base 5 f fd ["self","cell","name","record","need"] (MK K a) :=
 F.okL (W7 K a) sL zbk λ_ _ _ _ _ E hr hx=>(AN (A9 5 sL.nd (CC (AJ (AB 4)))) (AN (BY (KO (dH (DU hr) (AB 2) (AZ (AB 0) rfl)) (by with_unfolding_all rfl)) (AI (DQ (JP PySem.F.plainAttrs_list PySem.F.slot_list_append PySem.F.type_list_append LT (AB 5) (AJ (KW (DU hr) (AZ (AB 0) rfl) (AB 2) (λ_ _=>rfl)))))) CP) (AI (BD (A6 (AZ (AB 0) rfl) T.C6 EV hr hx (DE (A6 (AZ (AB 0) rfl) T.B7 HL hr hx (AJ (AB 1))) (E5 (BR (AB 2) (AB 3))) (AB 5)))))))
abbrev ZZ:Stmt:=BG 40
theorem N8:FnScope ["layout","plank","store","turn","block","there","place"] ["layout","plank","store"] (A0 ZZ):=.go
theorem ze6(T:Txt K mg a)(LH:AT P w K mg base (a "Store") 1 "hold" ["self"] (HE K a))(RZ:AT P w K mg base (a "Hold") 1 "waiting" ["self"] (KB K a))(LF:AT P w K mg base (a "Layout") 2 "blocks" ["self"] (HZ K a))(bA:AT P w K mg base (a "Store") 4 "write" ["self","block"] (KH K a))(aR:DM P w K mg base (3) "_law_plank" ["layout","plank"] (LC K a))(JG:AT P w K mg base (a "Hold") 4 "in_hand" ["self","place"] (GS K a))(F:Fun K "_law_all_written" "_law_all_written" ZZ f fd) :
  FP P w K mg base 5 f fd ["layout","plank","store"] (MO K a) :=
 F.okL (XC K a) N8 zcw λ_ _ _ _ _ E hr hx=>(AN (DQ (vX PySem.F.plainAttrs_list PySem.F.slot_list_clear PySem.F.type_list_clear vZ (C4 (C4 (AB 2) T.BW LH hr hx) T.C6 RZ hr hx))) (AN (EL hx.po rfl (FC rfl T.FM (AJ (EO F4 rfl T.GA (by rfl) (AJ (C4 (C4 (AB 2) T.BW LH hr hx) T.C6 RZ hr hx))))) (CN 3 N8.nd) (AN (BY (CS (GO hr.units) (C4 (C4 (AB 2) T.BW LH hr hx) T.C6 RZ hr hx) (CC E4) (C3 _)) (AI tT) CP) (AI (EL hx.po rfl (FC rfl T.FM (AJ (C4 (AB 0) T.B7 LF hr hx))) (CN 4 N8.nd) (AI (DQ (A6 (AB 2) T.BW bA hr hx (AJ (AB 4))))))))) (AN (BY (CS (O9 hr.units) (C4 (C4 (AB 2) T.BW LH hr hx) T.C6 RZ hr hx) (CC E4) (C3 _)) (AI (BD G4)) CP) (AN (A9 5 N8.nd (ED aR hr hx (BR (AB 0) (AB 1)))) (AN (EL hx.po rfl (Dw (AB 5)) (CN 6 N8.nd) (AI (BY (CS (O9 hr.units) (A6 (C4 (AB 2) T.BW LH hr hx) T.C6 JG hr hx (AJ (AB 6))) (KW (DU hr) (AB 5) (AB 6) (λ_ _=>rfl)) (C3 _)) (AI (BD G4)) CP))) (AI (BD G4)))))))
abbrev Z0:Stmt:=BG 41
theorem N9:FnScope ["layout","store","kept","k","cell","some"] ["layout","store"] (A0 Z0):=.go
theorem ze7(T:Txt K mg a)(HK:AT P w K mg base (a "Layout") 1 "counts" ["self"] (FT K a))(LH:AT P w K mg base (a "Store") 1 "hold" ["self"] (HE K a))(HL:AT P w K mg base (a "Layout") 2 "name_at" ["self","k"] (FH K a))(JG:AT P w K mg base (a "Hold") 4 "in_hand" ["self","place"] (GS K a))(F:Fun K "_law_kept" "_law_kept" Z0 f fd) :
  FP P w K mg base 5 f fd ["layout","store"] (NZ K a) :=
 F.okL (XD K a) N9 zcp λ_ _ _ _ _ E hr hx=>(AN (A9 2 N9.nd NG) (AN (EL hx.po rfl (FC rfl T.FM (AJ (CG CH (C4 (AB 0) T.B7 HK hr hx) AS (λ_ _=>rfl)))) (CN 3 N9.nd) (AN (A9 4 N9.nd (A6 (C4 (AB 1) T.BW LH hr hx) T.C6 JG hr hx (AJ (A6 (AB 0) T.B7 HL hr hx (AJ (AB 3)))))) (AI (BY (CS OX (AB 4) EW (C3 _)) (AN (A9 5 N9.nd (wJ (DU hr) (AB 2) (FF (AB 4)) (CC E4) ⟨rfl,rfl,rfl,rfl⟩)) (AI (KY (DU hr) (AB 2) (FF (AB 4)) (AV BZ (AB 5) (CC (AJ (FF (AB 4))))) rfl))) CP)))) (AI (BD (AB 2)))))
abbrev Z1:Stmt:=BG 23
theorem Z2:FnScope ["layout","hold","places"] ["layout","hold"] (A0 Z1):=.go
theorem Z3:(["k","layout"]:List Str).Nodup:=by decide +kernel
theorem ze8(T:Txt K mg a)(HK:AT P w K mg base (a "Layout") 1 "counts" ["self"] (FT K a))(HL:AT P w K mg base (a "Layout") 2 "name_at" ["self","k"] (FH K a))(OC:DM P w K mg base (5) "lowest_with" ["hold","places","values"] (JA K a))(F:Fun K "free_name" "free_name" Z1 f fd) :
  FP P w K mg base 6 f fd ["layout","hold"] (MG K a) :=
 F.okL (XF K a) Z2 zar λ_ _ _ _ _ E hr hx=>(AN (TJ (i:=2) (tn:=["k"]) (cn:=["layout"]) (cap:=[0]) Z2.cp rfl Z2.nd rfl rfl (FC rfl T.FM (AJ (CG CH (C4 (AB 0) T.B7 HK hr hx) AS (λ_ _=>rfl)))) (λ_ _ _ _ _ _=>(CN 0 Z3)) (λ_ _ _ _ _ _=>G7) (λ_ _ _ _ _ _=>(FZ (AB 1) T.B7 HL hr.m JU (AJ (AB 0))))) (AI (BD (ED OC hr hx (DE (AB 1) (AB 2) (E5 (AJ EW)))))))
abbrev Z4:Stmt:=BG 24
theorem Z5:FnScope ["layout","hold","marks"] ["layout","hold"] (A0 Z4):=.go
theorem ze9(T:Txt K mg a)(HK:AT P w K mg base (a "Layout") 1 "counts" ["self"] (FT K a))(OE:AT P w K mg base (a "Layout") 2 "record_mark" ["self","k"] (IY K a))(OC:DM P w K mg base (5) "lowest_with" ["hold","places","values"] (JA K a))(F:Fun K "free_record" "free_record" Z4 f fd) :
  FP P w K mg base 6 f fd ["layout","hold"] (QZ K a) :=
 F.okL (XG K a) Z5 zas λ_ _ _ _ _ E hr hx=>(AN (TJ (i:=2) (tn:=["k"]) (cn:=["layout"]) (cap:=[0]) Z5.cp rfl Z5.nd rfl rfl (FC rfl T.FM (AJ (CG CH (C4 (AB 0) T.B7 HK hr hx) AS (λ_ _=>rfl)))) (λ_ _ _ _ _ _=>(CN 0 Z3)) (λ_ _ _ _ _ _=>G7) (λ_ _ _ _ _ _=>(FZ (AB 1) T.B7 OE hr.m JU (AJ (AB 0))))) (AI (BD (ED OC hr hx (DE (AB 1) (AB 2) (E5 (BR EW AS)))))))
abbrev Z6:Stmt:=BG 25
theorem Z7:FnScope ["layout","hold","marks"] ["layout","hold"] (A0 Z6):=.go
theorem zfa(T:Txt K mg a)(HK:AT P w K mg base (a "Layout") 1 "counts" ["self"] (FT K a))(LG:AT P w K mg base (a "Layout") 2 "piece_mark" ["self","k"] (HB K a))(OC:DM P w K mg base (5) "lowest_with" ["hold","places","values"] (JA K a))(F:Fun K "free_piece" "free_piece" Z6 f fd) :
  FP P w K mg base 6 f fd ["layout","hold"] (Q0 K a) :=
 F.okL (XH K a) Z7 zat λ_ _ _ _ _ E hr hx=>(AN (TJ (i:=2) (tn:=["k"]) (cn:=["layout"]) (cap:=[0]) Z7.cp rfl Z7.nd rfl rfl (FC rfl T.FM (AJ (CG CH (C4 (AB 0) T.B7 HK hr hx) AS (λ_ _=>rfl)))) (λ_ _ _ _ _ _=>(CN 0 Z3)) (λ_ _ _ _ _ _=>G7) (λ_ _ _ _ _ _=>(FZ (AB 1) T.B7 LG hr.m JU (AJ (AB 0))))) (AI (BD (ED OC hr hx (DE (AB 1) (AB 2) (E5 (BR EW AS)))))))
abbrev Z8:Stmt:=BQ (BG 28) 15
theorem Z9:FnScope ["self","name","cell","value"] ["self","name"] (A0 Z8):=.go
theorem zfb(T:Txt K mg a)(aZ:AT P w K mg base (a "Store") 5 "name_cells" ["self"] (MI K a))(F:Fun K "cell_of" "Store.cell_of" Z8 f fd) :
  FP P w K mg base 6 f fd ["self","name"] (KD K a) :=
 F.okL (XI K a) Z9 zbc λ_ _ _ _ _ E hr hx=>(AN (EL hx.po rfl (fU rfl T.sR (AJ (C4 (AB 0) T.BW aZ hr hx))) (bQ rfl (OT (CN 2 Z9.nd) (OT (CN 3 Z9.nd) bP))) (AI (BY (PW.pt (M6 (CS OX (AB 3) EW (C3 _)) (OP (CS (GO hr.units) (FF (AB 3)) (AB 1) (C3 _))))) (AI (BD (AB 2))) CP))) (AI (BD EW)))
abbrev aA:Stmt:=BQ (BG 28) 20
theorem sM:FnScope ["self","record","more","needs","value"] ["self","record","more","needs"] (A0 aA):=.go
theorem zfc(T:Txt K mg a)(HN:AT P w K mg base (a "Store") 5 "standing" ["self","record"] (FW K a))(HM:AT P w K mg base (a "Layout") 2 "record_at" ["self","k"] (FI K a))(EV:AT P w K mg base (a "Hold") 4 "change" ["self","place","value","needs"] (DZ K a))(F:Fun K "recount" "Store.recount" aA f fd) :
  FP P w K mg base 6 f fd ["self","record","more","needs"] (KG K a) :=
 F.okL (XJ K a) sM zbm λ_ _ _ _ _ E hr hx=>(AN (A9 4 sM.nd (A6 (AB 0) T.BW HN hr hx (AJ (AB 1)))) (AI (BD (A6 (AZ (AB 0) rfl) T.C6 EV hr hx (DE (A6 (AZ (AB 0) rfl) T.B7 HM hr hx (AJ (AB 1))) (E5 (BR (AV BZ (FF (AB 4)) (AB 2)) (FF (AB 4)))) (AB 3))))))
abbrev aB:Stmt:=BQ (BG 28) 21
theorem zfd:FnScope ["self","record","pieces","needs"] ["self","record","pieces","needs"] (A0 aB):=.go
theorem zfe(T:Txt K mg a)(HN:AT P w K mg base (a "Store") 5 "standing" ["self","record"] (FW K a))(HM:AT P w K mg base (a "Layout") 2 "record_at" ["self","k"] (FI K a))(EV:AT P w K mg base (a "Hold") 4 "change" ["self","place","value","needs"] (DZ K a))(F:Fun K "regroup" "Store.regroup" aB f fd) :
  FP P w K mg base 6 f fd ["self","record","pieces","needs"] (ML K a) :=
 F.okL (XL K a) zfd zbn λ_ _ _ _ _ E hr hx=>(AI (BD (A6 (AZ (AB 0) rfl) T.C6 EV hr hx (DE (A6 (AZ (AB 0) rfl) T.B7 HM hr hx (AJ (AB 1))) (E5 (BR (CG CH (A6 (AB 0) T.BW HN hr hx (AJ (AB 1))) AS (λ_ _=>rfl)) (AB 2))) (AB 3)))))
abbrev aC:Stmt:=BQ (BG 28) 22
theorem MW:FnScope ["self","record","gone","pieces","dropped","made","mark"] ["self","record","gone"] (A0 aC):=.go
theorem zff:(["piece","self"]:List Str).Nodup:=by decide +kernel
theorem zfg(T:Txt K mg a)(HN:AT P w K mg base (a "Store") 5 "standing" ["self","record"] (FW K a))(HM:AT P w K mg base (a "Layout") 2 "record_at" ["self","k"] (FI K a))(EV:AT P w K mg base (a "Hold") 4 "change" ["self","place","value","needs"] (DZ K a))(LG:AT P w K mg base (a "Layout") 2 "piece_mark" ["self","k"] (HB K a))(OE:AT P w K mg base (a "Layout") 2 "record_mark" ["self","k"] (IY K a))(F:Fun K "drop_record" "Store.drop_record" aC f fd) :
  FP P w K mg base 6 f fd ["self","record","gone"] (Q6 K a) :=
 F.okL (XM K a) MW zbr λ_ _ _ _ _ E hr hx=>(AN (A9 3 MW.nd (CG CH (A6 (AB 0) T.BW HN hr hx (AJ (AB 1))) AS (λ_ _=>rfl))) (AN (A9 4 MW.nd (A6 (AZ (AB 0) rfl) T.C6 EV hr hx (DE (A6 (AZ (AB 0) rfl) T.B7 HM hr hx (AJ (AB 1))) EW (CC (AJ (AB 2)))))) (AN (A9 5 MW.nd (CC (AJ (AB 4)))) (AN (EL hx.po rfl (HW (AV BZ (IV (tn:=["piece"]) (cn:=["self"]) (cap:=[0]) MW.cp rfl (HW (AB 3)) (λ_ _ _ _ _ _=>(CN 0 zff)) (λ_ _ _ _ _ _=>G7) (λ_ _ _ _ _ _=>(FZ (AZ (AB 1) rfl) T.B7 LG hr.m JU (AJ (AB 0))))) (CC (AJ (A6 (AZ (AB 0) rfl) T.B7 OE hr hx (AJ (AB 1))))))) (CN 6 MW.nd) (AI (DQ (JP PySem.F.plainAttrs_list PySem.F.slot_list_append PySem.F.type_list_append LT (AB 5) (AJ (A6 (AZ (AB 0) rfl) T.C6 EV hr hx (DE (AB 6) AS (CC (AJ (AB 4)))))))))) (AI (BD (AB 5)))))))
abbrev aD:Stmt:=BQ (BG 28) 13
theorem sN:FnScope ["self","new","given"] ["self","new","given"] (A0 aD):=.go
theorem zfh:(["text"]:List Str).Nodup:=by decide +kernel
theorem zfi(T:Txt K mg a)(zfw:DM P w K mg base (1) "is_name" ["thing"] (Q2 K a))(OG:AT P w K mg base (a "Store") 6 "cell_of" ["self","name"] (KD K a))(F:Fun K "ask_for_new_name" "Store.ask_for_new_name" aD f fd) :
  FP P w K mg base 7 f fd ["self","new","given"] (MJ K a) :=
 F.okL (XN K a) sN zbd λ_ _ _ _ _ E hr hx=>(AN (BY (HQ (NB (EO (T6 rfl) rfl T.bD (by rfl) (AJ (IV (tn:=["text"]) (cn:=[]) (cap:=[]) sN.cp rfl (HW (AB 2)) (λ_ _ _ _ _ _=>(CN 0 zfh)) (λ_ _ _ _ _ _=>G7) (λ_ _ _ _ _ _=>(NI zfw hr.m JU rfl (AJ (AB 0))))))) (λ_=>rfl))) (AI (HV hx T.sW rfl T.bG (AJ DK))) CP) (AI (BY (CS OX (A6 (AB 0) T.BW OG hr hx (AJ (AB 1))) EW (C3 _)) (AI (HV hx T.zg2 rfl T.sV (AJ DK))) CP)))
abbrev aE:Stmt:=BQ (BG 28) 14
theorem sO:FnScope ["self","name","cell"] ["self","name"] (A0 aE):=.go
theorem zfj(T:Txt K mg a)(OG:AT P w K mg base (a "Store") 6 "cell_of" ["self","name"] (KD K a))(aZ:AT P w K mg base (a "Store") 5 "name_cells" ["self"] (MI K a))(F:Fun K "record_of" "Store.record_of" aE f fd) :
  FP P w K mg base 7 f fd ["self","name"] (GT K a) :=
 F.okL (XO K a) sO zbj λ_ _ _ _ _ E hr hx=>(AN (A9 2 sO.nd (A6 (AB 0) T.BW OG hr hx (AJ (AB 1)))) (AN (BY (CS M9 (AB 2) EW (C3 _)) (AI (HV hx T.sW rfl T.bG (AJ DK))) CP) (AI (BD (CG CH (CG CH (C4 (AB 0) T.BW aZ hr hx) (AB 2) (λ_ _=>rfl)) AS (λ_ _=>rfl))))))
abbrev aF:Stmt:=BQ (BG 28) 19
theorem sP:FnScope ["self","name","needs","gone"] ["self","name","needs"] (A0 aF):=.go
theorem zfk(T:Txt K mg a)(OG:AT P w K mg base (a "Store") 6 "cell_of" ["self","name"] (KD K a))(HL:AT P w K mg base (a "Layout") 2 "name_at" ["self","k"] (FH K a))(EV:AT P w K mg base (a "Hold") 4 "change" ["self","place","value","needs"] (DZ K a))(F:Fun K "empty_cell" "Store.empty_cell" aF f fd) :
  FP P w K mg base 7 f fd ["self","name","needs"] (MM K a) :=
 F.okL (XQ K a) sP zbp λ_ _ _ _ _ E hr hx=>(AN (A9 3 sP.nd (A6 (AZ (AB 0) rfl) T.C6 EV hr hx (DE (A6 (AZ (AB 0) rfl) T.B7 HL hr hx (AJ (A6 (AB 0) T.BW OG hr hx (AJ (AB 1))))) EW (AB 2)))) (AN (KY (DU hr) (AZ (AB 0) rfl) (AB 1) (AB 3) rfl) (AI (BD (AB 3)))))
abbrev aG:Stmt:=BQ (BG 28) 1
theorem OA:FnScope ["self","name","record","cell","mark","stands"] ["self","name"] (A0 aG):=.go
theorem zfl(T:Txt K mg a)(aV:AT P w K mg base (a "Store") 7 "ask_for_new_name" ["self","new","given"] (MJ K a))(zfv:DM P w K mg base (6) "free_record" ["layout","hold"] (QZ K a))(aQ:DM P w K mg base (6) "free_name" ["layout","hold"] (MG K a))(OE:AT P w K mg base (a "Layout") 2 "record_mark" ["self","k"] (IY K a))(EV:AT P w K mg base (a "Hold") 4 "change" ["self","place","value","needs"] (DZ K a))(HM:AT P w K mg base (a "Layout") 2 "record_at" ["self","k"] (FI K a))(aX:AT P w K mg base (a "Store") 5 "fill_cell" ["self","cell","name","record","need"] (MK K a))(F:Fun K "make" "Store.make" aG f fd) :
  FP P w K mg base 8 f fd ["self","name"] (Q7 K a) :=
 F.okL (XR K a) OA zbs λ_ _ _ _ _ E hr hx=>(AN (DQ (A6 (AB 0) T.BW aV hr hx (BR (AB 1) (CC (AJ (AB 1)))))) (AN (A9 2 OA.nd (ED zfv hr hx (BR (AZ (AB 0) rfl) (AZ (AB 0) rfl)))) (AN (A9 3 OA.nd (ED aQ hr hx (BR (AZ (AB 0) rfl) (AZ (AB 0) rfl)))) (AN (A9 4 OA.nd (A6 (AZ (AB 0) rfl) T.C6 EV hr hx (DE (A6 (AZ (AB 0) rfl) T.B7 OE hr hx (AJ (AB 2))) AS (CC E4)))) (AN (A9 5 OA.nd (A6 (AZ (AB 0) rfl) T.C6 EV hr hx (DE (A6 (AZ (AB 0) rfl) T.B7 HM hr hx (AJ (AB 2))) (E5 (BR AS (E5 E4))) (CC (AJ (AB 4)))))) (AI (BD (CC (DE (AB 4) (AB 5) (A6 (AB 0) T.BW aX hr hx (L6 (AB 3) (AB 1) (AB 2) (AB 5))))))))))))
abbrev aH:Stmt:=BQ (BG 28) 2
theorem RW:FnScope ["self","old","new","record","cell","more"] ["self","old","new"] (A0 aH):=.go
theorem zfm(T:Txt K mg a)(aV:AT P w K mg base (a "Store") 7 "ask_for_new_name" ["self","new","given"] (MJ K a))(JI:AT P w K mg base (a "Store") 7 "record_of" ["self","name"] (GT K a))(aQ:DM P w K mg base (6) "free_name" ["layout","hold"] (MG K a))(OH:AT P w K mg base (a "Store") 6 "recount" ["self","record","more","needs"] (KG K a))(aX:AT P w K mg base (a "Store") 5 "fill_cell" ["self","cell","name","record","need"] (MK K a))(F:Fun K "link" "Store.link" aH f fd) :
  FP P w K mg base 8 f fd ["self","old","new"] (MN K a) :=
 F.okL (XS K a) RW zbt λ_ _ _ _ _ E hr hx=>(AN (DQ (A6 (AB 0) T.BW aV hr hx (BR (AB 2) (CC (BR (AB 1) (AB 2)))))) (AN (A9 3 RW.nd (A6 (AB 0) T.BW JI hr hx (AJ (AB 1)))) (AN (A9 4 RW.nd (ED aQ hr hx (BR (AZ (AB 0) rfl) (AZ (AB 0) rfl)))) (AN (A9 5 RW.nd (A6 (AB 0) T.BW OH hr hx (DE (AB 3) AS (CC E4)))) (AI (BD (CC (BR (AB 5) (A6 (AB 0) T.BW aX hr hx (L6 (AB 4) (AB 2) (AB 3) (AB 5)))))))))))
abbrev aI:Stmt:=BQ (BG 28) 3
theorem aJ:FnScope ["self","name","record","gone"] ["self","name"] (A0 aI):=.go
theorem zfn(T:Txt K mg a)(JI:AT P w K mg base (a "Store") 7 "record_of" ["self","name"] (GT K a))(aW:AT P w K mg base (a "Store") 7 "empty_cell" ["self","name","needs"] (MM K a))(HN:AT P w K mg base (a "Store") 5 "standing" ["self","record"] (FW K a))(OH:AT P w K mg base (a "Store") 6 "recount" ["self","record","more","needs"] (KG K a))(zgj:AT P w K mg base (a "Store") 6 "drop_record" ["self","record","gone"] (Q6 K a))(F:Fun K "cut" "Store.cut" aI f fd) :
  FP P w K mg base 8 f fd ["self","name"] (Q8 K a) :=
 F.okL (XT K a) aJ zbv λ_ _ _ _ _ E hr hx=>(AN (A9 2 aJ.nd (A6 (AB 0) T.BW JI hr hx (AJ (AB 1)))) (AN (A9 3 aJ.nd (A6 (AB 0) T.BW aW hr hx (BR (AB 1) (CC E4)))) (AN (BY (CS xJ (CG CH (A6 (AB 0) T.BW HN hr hx (AJ (AB 2))) AS (λ_ _=>rfl)) AS (C3 _)) (AI (BD (CC (BR (AB 3) (A6 (AB 0) T.BW OH hr hx (DE (AB 2) (bT bW AS) (CC (AJ (AB 3))))))))) CP) (AI (BD (AV BZ (CC (AJ (AB 3))) (A6 (AB 0) T.BW zgj hr hx (BR (AB 2) (AB 3)))))))))
abbrev aK:Stmt:=BQ (BG 28) 4
theorem OB:FnScope ["self","name","text","record","piece","mark","filled"] ["self","name","text"] (A0 aK):=.go
theorem zfo(T:Txt K mg a)(JI:AT P w K mg base (a "Store") 7 "record_of" ["self","name"] (GT K a))(zfx:DM P w K mg base (2) "is_piece" ["thing"] (Q3 K a))(zfu:DM P w K mg base (6) "free_piece" ["layout","hold"] (Q0 K a))(LG:AT P w K mg base (a "Layout") 2 "piece_mark" ["self","k"] (HB K a))(EV:AT P w K mg base (a "Hold") 4 "change" ["self","place","value","needs"] (DZ K a))(zge:AT P w K mg base (a "Layout") 2 "piece_at" ["self","k"] (NU K a))(HN:AT P w K mg base (a "Store") 5 "standing" ["self","record"] (FW K a))(a0:AT P w K mg base (a "Store") 6 "regroup" ["self","record","pieces","needs"] (ML K a))(F:Fun K "put" "Store.put" aK f fd) :
  FP P w K mg base 8 f fd ["self","name","text"] (Q9 K a) :=
 F.okL (XU K a) OB zbw λ_ _ _ _ _ E hr hx=>(AN (A9 3 OB.nd (A6 (AB 0) T.BW JI hr hx (AJ (AB 1)))) (AN (BY (HQ (NB (ED zfx hr hx (AJ (AB 2))) (λ_=>rfl))) (AI (HV hx T.sX rfl T.bH (AJ DK))) CP) (AN (A9 4 OB.nd (ED zfu hr hx (BR (AZ (AB 0) rfl) (AZ (AB 0) rfl)))) (AN (A9 5 OB.nd (A6 (AZ (AB 0) rfl) T.C6 EV hr hx (DE (A6 (AZ (AB 0) rfl) T.B7 LG hr hx (AJ (AB 4))) AS (CC E4)))) (AN (A9 6 OB.nd (A6 (AZ (AB 0) rfl) T.C6 EV hr hx (DE (A6 (AZ (AB 0) rfl) T.B7 zge hr hx (AJ (AB 4))) (AB 2) (CC (AJ (AB 5)))))) (AI (BD (CC (DE (AB 5) (AB 6) (A6 (AB 0) T.BW a0 hr hx (DE (AB 3) (AV BZ (CG CH (A6 (AB 0) T.BW HN hr hx (AJ (AB 3))) AS (λ_ _=>rfl)) (E5 (AJ (AB 4)))) (CC (AJ (AB 6))))))))))))))
abbrev aL:Stmt:=BQ (BG 28) 5
theorem RX:FnScope ["self","name","at","record","pieces","without"] ["self","name","at"] (A0 aL):=.go
theorem zfp(T:Txt K mg a)(JI:AT P w K mg base (a "Store") 7 "record_of" ["self","name"] (GT K a))(HN:AT P w K mg base (a "Store") 5 "standing" ["self","record"] (FW K a))(a0:AT P w K mg base (a "Store") 6 "regroup" ["self","record","pieces","needs"] (ML K a))(LG:AT P w K mg base (a "Layout") 2 "piece_mark" ["self","k"] (HB K a))(EV:AT P w K mg base (a "Hold") 4 "change" ["self","place","value","needs"] (DZ K a))(F:Fun K "take" "Store.take" aL f fd) :
  FP P w K mg base 8 f fd ["self","name","at"] (RA K a) :=
 F.okL (XV K a) RX zby λ_ _ _ _ _ E hr hx=>(AN (A9 3 RX.nd (A6 (AB 0) T.BW JI hr hx (AJ (AB 1)))) (AN (A9 4 RX.nd (CG CH (A6 (AB 0) T.BW HN hr hx (AJ (AB 3))) AS (λ_ _=>rfl))) (AN (BY (HQ (NA F2 JW AS (AB 2) (EO F4 rfl T.GA (by rfl) (AJ (AB 4))))) (AI (HV hx T.sX rfl T.bH (AJ DK))) CP) (AN (A9 5 RX.nd (A6 (AB 0) T.BW a0 hr hx (DE (AB 3) (AV BZ (ND NK (AB 4) O1 (LS (AB 2))) (ND NK (AB 4) (LS (AV BZ (AB 2) AS)) O1)) (CC E4)))) (AI (BD (CC (BR (AB 5) (A6 (AZ (AB 0) rfl) T.C6 EV hr hx (DE (A6 (AZ (AB 0) rfl) T.B7 LG hr hx (AJ (CG CH (AB 4) (AB 2) (λ_ _=>rfl)))) AS (CC (AJ (AB 5)))))))))))))
abbrev aM:Stmt:=BQ (BG 28) 6
theorem RY:FnScope ["self","old","new","linked","record","gone"] ["self","old","new"] (A0 aM):=.go
theorem zfq(T:Txt K mg a)(aY:AT P w K mg base (a "Store") 8 "link" ["self","old","new"] (MN K a))(JI:AT P w K mg base (a "Store") 7 "record_of" ["self","name"] (GT K a))(aW:AT P w K mg base (a "Store") 7 "empty_cell" ["self","name","needs"] (MM K a))(OH:AT P w K mg base (a "Store") 6 "recount" ["self","record","more","needs"] (KG K a))(F:Fun K "move" "Store.move" aM f fd) :
  FP P w K mg base 9 f fd ["self","old","new"] (RB K a) :=
 F.okL (XW K a) RY zb0 λ_ _ _ _ _ E hr hx=>(AN (A9 3 RY.nd (A6 (AB 0) T.BW aY hr hx (BR (AB 1) (AB 2)))) (AN (A9 4 RY.nd (A6 (AB 0) T.BW JI hr hx (AJ (AB 1)))) (AN (A9 5 RY.nd (A6 (AB 0) T.BW aW hr hx (BR (AB 1) (CC (AJ (FF (AB 3))))))) (AI (BD (AV BZ (AB 3) (CC (BR (AB 5) (A6 (AB 0) T.BW OH hr hx (DE (AB 4) (bT bW AS) (CC (AJ (AB 5)))))))))))))
abbrev aN:Stmt:=BG 38
theorem MX:FnScope ["store","kind","one","other","cell","refused"] ["store","kind","one","other","cell"] (A0 aN):=.go
theorem zfr(T:Txt K mg a)(zgk:AT P w K mg base (a "Store") 8 "make" ["self","name"] (Q7 K a))(aY:AT P w K mg base (a "Store") 8 "link" ["self","old","new"] (MN K a))(zgi:AT P w K mg base (a "Store") 8 "cut" ["self","name"] (Q8 K a))(zf5:DM P w K mg base (1) "_law_text" ["cell"] (RD K a))(zgm:AT P w K mg base (a "Store") 8 "put" ["self","name","text"] (Q9 K a))(zfz:DM P w K mg base (1) "_law_at" ["cell"] (RE K a))(zgn:AT P w K mg base (a "Store") 8 "take" ["self","name","at"] (RA K a))(zgl:AT P w K mg base (a "Store") 9 "move" ["self","old","new"] (RB K a))(F:Fun K "_law_done" "_law_done" aN f fd) :
  FP P w K mg base 10 f fd ["store","kind","one","other","cell"] (NY K a) :=
 F.okL (X1 K a) MX zcd λ_ _ _ _ _ E hr hx=>(AN (A9 5 MX.nd DK) (AN (wZ rfl rfl rfl rfl (λE1 _ _ hx1=>(AI (BY (CS JW (AB 1) AS (C3 _)) (AI (DQ (FZ (AB 0) T.BW zgk hr.m hx1.passes (AJ (AB 2))))) (AI (BY (CS (GO hr.units) (AB 1) AS (C3 _)) (AI (DQ (FZ (AB 0) T.BW aY hr.m hx1.passes (BR (AB 2) (AB 3))))) (AI (BY (CS (GO hr.units) (AB 1) AS (C3 _)) (AI (DQ (FZ (AB 0) T.BW zgi hr.m hx1.passes (AJ (AB 2))))) (AI (BY (CS JW (AB 1) AS (C3 _)) (AI (DQ (FZ (AB 0) T.BW zgm hr.m hx1.passes (BR (AB 2) (NI zf5 hr.m hx1.passes rfl (AJ (AB 4))))))) (AI (BY (CS (GO hr.units) (AB 1) AS (C3 _)) (AI (DQ (FZ (AB 0) T.BW zgn hr.m hx1.passes (BR (AB 2) (NI zfz hr.m hx1.passes rfl (AJ (AB 4))))))) (AI (DQ (FZ (AB 0) T.BW zgl hr.m hx1.passes (BR (AB 2) (AB 3)))))))))))))))) (O8 (O7 rfl T.bG) (λ_=>(AI (A9 5 MX.nd DK))) (O8 (O7 rfl T.sV) (λ_=>(AI (A9 5 MX.nd DK))) (O8 (O7 rfl T.bH) (λ_=>(AI (A9 5 MX.nd DK))) (O8 (O7 rfl T.sU) (λ_=>(AI (A9 5 MX.nd DK))) wW))))) (AI (BD (AB 5)))))
abbrev aO:Stmt:=BG 44
theorem GU:FnScope ["script","cell","layout","plank","store","names","kept","kind","one","other"] ["script"] (A0 aO):=.go
theorem zfs(T:Txt K mg a)(zf0:DM P w K mg base (1) "_law_cell_at" ["script","k"] (ME K a))(zgq:K0 P w K mg base (a "Layout") 1 "Layout" ["self","names","records","pieces","cells"] (QK K a))(zgf:AT P w K mg base (a "Layout") 3 "plank" ["self"] (QL K a))(zgs:K0 P w K mg base (a "Store") 4 "Store" ["self","layout","plank"] (Q4 K a))(zf4:DM P w K mg base (1) "_law_names" ["cell"] (RC K a))(sQ:DM P w K mg base (5) "_law_all_written" ["layout","plank","store"] (MO K a))(zf3:DM P w K mg base (5) "_law_kept" ["layout","store"] (NZ K a))(LF:AT P w K mg base (a "Layout") 2 "blocks" ["self"] (HZ K a))(bA:AT P w K mg base (a "Store") 4 "write" ["self","block"] (KH K a))(zf1:DM P w K mg base (10) "_law_done" ["store","kind","one","other","cell"] (NY K a))(zf2:DM P w K mg base (1) "_law_followed" ["kept","kind","one","other"] (N0 K a))(aR:DM P w K mg base (3) "_law_plank" ["layout","plank"] (LC K a))(zf6:DM P w K mg base (3) "_law_there" ["layout","there","kept"] (N1 K a))(F:Fun K "law" "law" aO f fd) :
  FP P w K mg base 11 f fd ["script"] (gW K a) :=
 F.okL (X3 K a) GU zcy λ_ _ _ _ _ E hr hx=>(AN (A9 1 GU.nd (ED zf0 hr hx (BR (AB 0) AS))) (AN (A9 2 GU.nd (NJ zgq hr.m hx.passes rfl (L6 (AV BZ AS (AV C2 (AB 1) AS)) (AV BZ AS (AV C2 (AV DL (AB 1) AS) AS)) (AV BZ AS (AV C2 (AV DL (AB 1) AS) AS)) (AV BZ AS (AV C2 (AV DL (AB 1) AS) AS))))) (AN (A9 3 GU.nd (C4 (AB 2) T.B7 zgf hr hx)) (AN (A9 4 GU.nd (NJ zgs hr.m hx.passes rfl (BR (AB 2) (AB 3)))) (AN (A9 5 GU.nd (ED zf4 hr hx (AJ (AV DL (AB 1) AS)))) (AN (A9 6 GU.nd NG) (AN (EL hx.po rfl (HW (ND NK (AB 0) (LS AS) (LS AS))) (CN 1 GU.nd) (AN (BY (CS (GO hr.units) (AV C2 (AB 1) AS) AS (C3 _)) (AN (BY (HQ (NB (ED sQ hr hx (DE (AB 2) (AB 3) (AB 4))) (λ_=>rfl))) (AI (BD G4)) CP) (AI (A9 6 GU.nd (ED zf3 hr hx (BR (AB 2) (AB 4)))))) (AI (BY (CS (GO hr.units) (AV C2 (AB 1) AS) AS (C3 _)) (AI (DQ (A6 (AB 4) T.BW bA hr hx (AJ (AV C2 (AV DL (AB 1) AS) (C4 (AB 2) T.B7 LF hr hx)))))) (AN (A9 7 GU.nd (AV C2 (AV DL (AB 1) AS) AS)) (AN (A9 8 GU.nd (CG CH (AB 5) (AV C2 (AV DL (AB 1) AS) AS) (λ_ _=>rfl))) (AN (A9 9 GU.nd (CG CH (AB 5) (AV C2 (AV DL (AB 1) AS) AS) (λ_ _=>rfl))) (AI (BY (CS (GO hr.units) (ED zf1 hr hx (JM (AB 4) (L6 (AB 7) (AB 8) (AB 9) (AV DL (AB 1) AS)))) DK (C3 _)) (AI (DQ (ED zf2 hr hx (L6 (AB 6) (AB 7) (AB 8) (AB 9))))) CP)))))))) (AI (BY (HQ (NB (ED zf6 hr hx (DE (AB 2) (ED aR hr hx (BR (AB 2) (AB 3))) (AB 6))) (λ_=>rfl))) (AI (BD G4)) CP)))) (AI (BD (ED sQ hr hx (DE (AB 2) (AB 3) (AB 4))))))))))))
end
end L2
namespace L2
theorem zft(q3b q3c q3d q3e q3f q3g q3h q3i q3j q3k q3l:Addr):∃ a:Ad,a "NoBlock"=q3b/\a "NoChange"=q3c/\a "NoRoom"=q3d/\a "NoName"=q3e/\a "Twice"=q3f/\a "NoPiece"=q3g/\a "Change"=q3h/\a "Hold"=q3i/\a "Store"=q3j/\a "Plank"=q3k/\a "Layout"=q3l :=
 ⟨λs=>if s="NoBlock" then q3b else if s="NoChange" then q3c else if s="NoRoom" then q3d else if s="NoName" then q3e else if s="Twice" then q3f else if s="NoPiece" then q3g else if s="Change" then q3h else if s="Hold" then q3i else if s="Store" then q3j else if s="Plank" then q3k else if s="Layout" then q3l else 0,by simp⟩
def aP(K:W.Frag):Sp:=λvs H Q _=>∃ (s:Addr) (ns:List Int),vs=[.ref s]/\SqL K H s (ns.map V.int)/\ns.length<=63/\∀ H',Q (.bl true) H'
theorem all_mk{l:W.OpenLaw}{w:World}{K:W.Frag}{h:Heap}{mg:Str->Option Value}{fa:Addr}{q3b q3c q3d q3e q3f q3g q3h q3i q3j q3k q3l:Addr}{tk_MOST_LETTERS:Tok}{tk_MOST_PIECE_SIGNS:Tok}{tk_PERCENT:Tok}(X:K.In h)(G:h.Ns mainGlobals mg)(hfa:mg "law"=some (.ref fa))
  (q0:GX K q3b "NoBlock")
  (q1:GX K q3c "NoChange")
  (q2:GX K q3d "NoRoom")
  (q3:GX K q3e "NoName")
  (q4:GX K q3f "Twice")
  (q5:GX K q3g "NoPiece")
  (q6:GC K q3h "Change")
  (q7:GC K q3i "Hold")
  (q8:GC K q3j "Store")
  (q9:GC K q3k "Plank")
  (qa:GC K q3l "Layout")
  (qb:W.nsIn K mainGlobals "MOST_LETTERS"=some (some (.int 8 tk_MOST_LETTERS)))
  (qc:W.nsIn K mainGlobals "MOST_PIECE_SIGNS"=some (some (.int 40 tk_MOST_PIECE_SIGNS)))
  (qd:W.nsIn K mainGlobals "PERCENT"=some (some (.int 37 tk_PERCENT)))
  (qe:W.nsIn K mainGlobals "all"=some none)
  (qf:W.nsIn K mainGlobals "dict"=some none)
  (qg:W.nsIn K mainGlobals "enumerate"=some none)
  (qh:W.nsIn K mainGlobals "len"=some none)
  (qi:W.nsIn K mainGlobals "list"=some none)
  (qj:W.nsIn K mainGlobals "ord"=some none)
  (qk:W.nsIn K mainGlobals "range"=some none)
  (ql:W.nsIn K mainGlobals "set"=some none)
  (qm:W.nsIn K mainGlobals "sorted"=some none)
  (qn:W.nsIn K mainGlobals "tuple"=some none)
  (qo:GF K "law" aO)
  (qp:GM K q3k "blocks" "Plank.blocks" YW)
  (qq:GM K q3k "cells" "Plank.cells" YX)
  (qr:GM K q3i "lack_of" "Hold.lack_of" YO)
  (qs:GF K "is_sign" YS)
  (qt:GM K q3k "ask_for_block" "Plank.ask_for_block" YY)
  (qu:GM K q3l "place_from" "Layout.place_from" Y2)
  (qv:GM K q3l "blocks_ahead_of_marks" "Layout.blocks_ahead_of_marks" Y1)
  (qw:GM K q3i "ask_for_place" "Book.ask_for_place" Y9)
  (qx:GM K q3k "read" "Plank.read" ZC)
  (qy:GM K q3i "outcome" "Hold.outcome" ZA)
  (qz:GM K q3i "laid_over" "Hold.laid_over" YQ)
  (q10:GM K q3k "write" "Plank.write" ZD)
  (q11:GM K q3l "blocks" "Layout.blocks" ZJ)
  (q12:GN K q3k "Plank" "Plank.__init__" YV)
  (q13:GM K q3l "counts" "Layout.counts" Y0)
  (q14:GM K q3l "name_at" "Layout.name_at" ZE)
  (q15:GM K q3l "record_at" "Layout.record_at" ZF)
  (q16:GM K q3i "newest" "Book.newest" ZK)
  (q17:GM K q3i "ask_for_changes" "Book.ask_for_changes" YM)
  (q18:GF K "needs_with" YN)
  (q19:GN K q3h "Change" "Change.__init__" YK)
  (q1a:GN K q3i "Hold" "Book.__init__" Y8)
  (q1b:GM K q3i "write" "Hold.write" ZL)
  (q1c:GM K q3i "in_hand" "Book.in_hand" ZR)
  (q1d:GM K q3i "change" "Book.change" ZP)
  (q1e:GM K q3j "hold" "Store.hold" YU)
  (q1f:GM K q3i "waiting" "Book.waiting" YL)
  (q1g:GM K q3j "write" "Store.write" ZT)
  (q1h:GF K "_law_plank" ZN)
  (q1i:GF K "lowest_with" ZU)
  (q1j:GM K q3l "record_mark" "Layout.record_mark" ZH)
  (q1k:GM K q3l "piece_mark" "Layout.piece_mark" ZI)
  (q1l:GM K q3j "name_cells" "Store.name_cells" ZW)
  (q1m:GM K q3j "standing" "Store.standing" ZX)
  (q1n:GF K "is_name" YT)
  (q1o:GM K q3j "cell_of" "Store.cell_of" Z8)
  (q1p:GM K q3j "ask_for_new_name" "Store.ask_for_new_name" aD)
  (q1q:GF K "free_record" Z4)
  (q1r:GF K "free_name" Z1)
  (q1s:GM K q3j "fill_cell" "Store.fill_cell" ZY)
  (q1t:GM K q3j "record_of" "Store.record_of" aE)
  (q1u:GM K q3j "recount" "Store.recount" aA)
  (q1v:GM K q3j "empty_cell" "Store.empty_cell" aF)
  (q1w:GM K q3j "drop_record" "Store.drop_record" aC)
  (q1x:GF K "is_piece" ZB)
  (q1y:GF K "free_piece" Z6)
  (q1z:GM K q3l "piece_at" "Layout.piece_at" ZG)
  (q20:GM K q3j "regroup" "Store.regroup" aB)
  (q21:GM K q3j "link" "Store.link" aH)
  (q22:GM K q3j "make" "Store.make" aG)
  (q23:GM K q3j "cut" "Store.cut" aI)
  (q24:GF K "_law_text" Y5)
  (q25:GM K q3j "put" "Store.put" aK)
  (q26:GF K "_law_at" Y6)
  (q27:GM K q3j "take" "Store.take" aL)
  (q28:GM K q3j "move" "Store.move" aM)
  (q29:GF K "_law_cell_at" Y3)
  (q2a:GN K q3l "Layout" "Layout.__init__" YZ)
  (q2b:GM K q3l "plank" "Layout.plank" ZM)
  (q2c:GN K q3j "Store" "Store.__init__" ZS)
  (q2d:GF K "_law_names" Y4)
  (q2e:GF K "_law_all_written" ZZ)
  (q2f:GF K "_law_kept" Z0)
  (q2g:GF K "_law_done" aN)
  (q2h:GF K "_law_followed" Y7)
  (q2i:GF K "_law_there" ZO)
  (q2j:W.findIn K (.ref q3k) "contents"=some none)
  (q2k:W.findIn K (.ref q3k) "width"=some none)
  (q2l:W.findIn K (.ref q3k) "written"=some none)
  (q2m:W.findIn K (.ref q3i) "ground"=some none)
  (q2n:W.findIn K (.ref q3i) "made"=some none)
  (q2o:W.findIn K (.ref q3i) "made_in"=some none)
  (q2p:W.findIn K (.ref q3i) "latest"=some none)
  (q2q:W.findIn K (.ref q3i) "outs"=some none)
  (q2r:W.findIn K (.ref q3h) "place"=some none)
  (q2s:W.findIn K (.ref q3h) "value"=some none)
  (q2t:W.findIn K (.ref q3h) "needs"=some none)
  (q2u:W.findIn K (.ref q3l) "name_blocks"=some none)
  (q2v:W.findIn K (.ref q3l) "record_blocks"=some none)
  (q2w:W.findIn K (.ref q3l) "piece_blocks"=some none)
  (q2x:W.findIn K (.ref q3l) "width"=some none)
  (q2y:W.findIn K (.ref q3j) "plan"=some none)
  (q2z:W.findIn K (.ref q3j) "book"=some none)
  (q30:W.findIn K (.ref q3j) "taken_out"=some none)
  (q31:W.exmOne K (.ref q3e) (.ref q3e)=some true)
  (q32:W.exmOne K (.ref q3f) (.ref q3e)=some false)
  (q33:W.exmOne K (.ref q3f) (.ref q3f)=some true)
  (q34:W.exmOne K (.ref q3g) (.ref q3e)=some false)
  (q35:W.exmOne K (.ref q3g) (.ref q3f)=some false)
  (q36:W.exmOne K (.ref q3g) (.ref q3g)=some true)
  (q37:W.exmOne K (.ref q3d) (.ref q3e)=some false)
  (q38:W.exmOne K (.ref q3d) (.ref q3f)=some false)
  (q39:W.exmOne K (.ref q3d) (.ref q3g)=some false)
  (q3a:W.exmOne K (.ref q3d) (.ref q3d)=some true) :
  ∃ fd:FuncData,(∀ (s:Shared) (v:Value),BindsTo s fd ⟨[v],[]⟩ [("script",v)])/\∀ base:Heap,K.In base->base.Ns mainGlobals mg->FnOk l.prog w K mg base (D2 l.prog w) 11 fa fd ["script"] (aP K):=by
 obtain⟨a,rfl,rfl,rfl,rfl,rfl,rfl,rfl,rfl,rfl,rfl,rfl⟩:=zft q3b q3c q3d q3e q3f q3g q3h q3i q3j q3k q3l
 have T:Txt K mg a:=⟨q6.c,q7.c,qa.c,q9.c,q8.c,⟨_,W.mg_of X G qb,_,rfl⟩,⟨_,W.mg_of X G qc,_,rfl⟩,W.mg_of X G q0.ac,⟨_,W.mg_of X G q0.ac,rfl⟩,⟨q0.ex⟩,W.mg_of X G q1.ac,⟨_,W.mg_of X G q1.ac,rfl⟩,⟨q1.ex⟩,W.mg_of X G q3.ac,⟨_,W.mg_of X G q3.ac,rfl⟩,⟨q3.ex⟩,W.mg_of X G q5.ac,⟨_,W.mg_of X G q5.ac,rfl⟩,⟨q5.ex⟩,W.mg_of X G q2.ac,⟨_,W.mg_of X G q2.ac,rfl⟩,⟨q2.ex⟩,⟨_,W.mg_of X G qd,_,rfl⟩,W.mg_of X G q4.ac,⟨_,W.mg_of X G q4.ac,rfl⟩,⟨q4.ex⟩,W.mg_none_of X G qe,W.mg_none_of X G qf,W.mg_none_of X G qg,W.mg_none_of X G qh,W.mg_none_of X G qi,W.mg_none_of X G qj,W.mg_none_of X G qk,W.mg_none_of X G ql,W.mg_none_of X G qm,W.mg_none_of X G qn⟩
 have TPk:D9 K a:=⟨T.IG,q2j,q2k,q2l⟩
 have TBk:gE K (a "Hold") (a "Change"):=⟨T.C6,q2m,q2n,q2o,q2p,q2q,T.zgv,q2r,q2s,q2t⟩
 have TLy:DX K a:=⟨T.B7,q2u,q2v,q2w,q2x⟩
 have TSt:NX K a:=⟨T.BW,q2y,q2z,q30⟩
 have TRm:TD K a:=⟨q31,q32,q33,q34,q35,q36,q37,q38,q39,q3a⟩
 obtain⟨fd,hb,F⟩:=qo.law X G hfa (λ_ _ _ _ _ _ _ _=>.of_eq rfl)
 refine⟨fd,hb,λbase _ _=> ?_⟩
 have q46:=q19.cal X G (zc0 l.prog w base T)
 have q4c:=q1f.cal (zc2 l.prog w base T)
 have q44:=q17.cal (zc3 l.prog w base T)
 have q45:=q18.cal X G (zc5 l.prog w base T)
 have q3o:=qr.cal (zc6 l.prog w base T)
 have q3w:=qz.cal (zc7 l.prog w base T)
 have q3p:=qs.cal X G (zc9 l.prog w base T)
 have q4k:=q1n.cal X G (zda l.prog w base T)
 have q4b:=q1e.cal (zdc l.prog w base T)
 have q3z:=q12.cal X G (zde l.prog w base T)
 have q3m:=qp.cal (zdg l.prog w base T)
 have q3n:=qq.cal (zdi l.prog w base T)
 have q3q:=qt.cal (zdk l.prog w base T)
 have q57:=q2a.cal X G (zdm l.prog w base T)
 have q40:=q13.cal (zdo l.prog w base T)
 have q3s:=qv.cal (zdq l.prog w base T)
 have q3r:=qu.cal (zds l.prog w base T)
 have q56:=q29.cal X G (zdu l.prog w base T)
 have q5a:=q2d.cal X G (zdv l.prog w base T)
 have q51:=q24.cal X G (zdx l.prog w base T)
 have q53:=q26.cal X G (zdz l.prog w base T)
 have q5e:=q2h.cal X G (zd0 l.prog w base T)
 have q47:=q1a.cal X G (zd2 l.prog w base T q3m)
 have q3t:=qw.cal (zd4 l.prog w base T q3n q3m)
 have q3v:=qy.cal (zd5 l.prog w base T q3o)
 have q4u:=q1x.cal X G (zd6 l.prog w base T q3p)
 have q3u:=qx.cal (zd8 l.prog w base T q3q)
 have q3x:=q10.cal (zea l.prog w base T q3q)
 have q41:=q14.cal (zec l.prog w base T q3r)
 have q42:=q15.cal (zee l.prog w base T q3r)
 have q4w:=q1z.cal (zeg l.prog w base T q3r)
 have q4g:=q1j.cal (zei l.prog w base T q3s q3r)
 have q4h:=q1k.cal (zek l.prog w base T q3s q3r)
 have q3y:=q11.cal (zem l.prog w base T q3s)
 have q43:=q16.cal (zeo l.prog w base T q3t)
 have q48:=q1b.cal (zep l.prog w base T q3u q3v q3w q3x)
 have q58:=q2b.cal (zer l.prog w base T q3y q3z)
 have q4e:=q1h.cal X G (zes l.prog w base T q3y q3u)
 have q5f:=q2i.cal X G (zet l.prog w base T q40 q41 q42)
 have q4a:=q1d.cal (zeu l.prog w base T q43 q44 q45 q46)
 have q49:=q1c.cal (zev l.prog w base T q43 q3u)
 have q59:=q2c.cal X G (zex l.prog w base T q47)
 have q4d:=q1g.cal (zez l.prog w base T q48)
 have q4f:=q1i.cal X G (ze0 l.prog w base T q49)
 have q4i:=q1l.cal (ze2 l.prog w base T q40 q41 q49)
 have q4j:=q1m.cal (ze4 l.prog w base T q42 q49)
 have q4p:=q1s.cal (ze5 l.prog w base T q41 q4a)
 have q5b:=q2e.cal X G (ze6 l.prog w base T q4b q4c q3y q4d q4e q49)
 have q5c:=q2f.cal X G (ze7 l.prog w base T q40 q4b q41 q49)
 have q4o:=q1r.cal X G (ze8 l.prog w base T q40 q41 q4f)
 have q4n:=q1q.cal X G (ze9 l.prog w base T q40 q4g q4f)
 have q4v:=q1y.cal X G (zfa l.prog w base T q40 q4h q4f)
 have q4l:=q1o.cal (zfb l.prog w base T q4i)
 have q4r:=q1u.cal (zfc l.prog w base T q4j q42 q4a)
 have q4x:=q20.cal (zfe l.prog w base T q4j q42 q4a)
 have q4t:=q1w.cal (zfg l.prog w base T q4j q42 q4a q4h q4g)
 have q4m:=q1p.cal (zfi l.prog w base T q4k q4l)
 have q4q:=q1t.cal (zfj l.prog w base T q4l q4i)
 have q4s:=q1v.cal (zfk l.prog w base T q4l q41 q4a)
 have q4z:=q22.cal (zfl l.prog w base T q4m q4n q4o q4g q4a q42 q4p)
 have q4y:=q21.cal (zfm l.prog w base T q4m q4q q4o q4r q4p)
 have q50:=q23.cal (zfn l.prog w base T q4q q4s q4j q4r q4t)
 have q52:=q25.cal (zfo l.prog w base T q4q q4u q4v q4h q4a q4w q4j q4x)
 have q54:=q27.cal (zfp l.prog w base T q4q q4j q4x q4h q4a)
 have q55:=q28.cal (zfq l.prog w base T q4y q4q q4s q4r)
 have q5d:=q2g.cal X G (zfr l.prog w base T q4z q4y q50 q51 q52 q53 q54 q55)
 exact(zfs l.prog w base T q56 q57 q58 q59 q5a q5b q5c q3y q4d q5d q5e q4e q5f F).imp (λvs H Q E ⟨s,ns,e,hs,hn,q⟩=>⟨s,ns,e,⟨TBk,TPk,TLy,TSt⟩,TRm,hs,hn,q⟩)
theorem walk{l:W.OpenLaw}{q:Program}{loose:List Str}{XP:(Str->Option Value)->Heap->Prop}{YP:World->Heap->Prop}{d:DefRec}{K:Params->W.Frag}(hn:l.most=some 63)(hdf:d.params.defaults=[])
  (hY:∀ (w:World) (h:Heap),YP w h->(K w.params).In h)
  (F:∀ (w:World) (mg:Str->Option Value) (fa:Addr) (h:Heap),(K w.params).In h->h.Ns mainGlobals mg->mg d.name=some (.ref fa) →
   ∃ fd:FuncData,(∀ (s:Shared) (u:Value),BindsTo s fd ⟨[u],[]⟩ [("script",u)])/\∀ base:Heap,(K w.params).In base->base.Ns mainGlobals mg->FnOk l.prog w (K w.params) mg base (D2 l.prog w) 11 fa fd ["script"] (aP (K w.params))) :
  W.WalkO q loose XP YP l.row.toRowW d [] (λf vs=>PySem.call f vs) :=
 L2.walk_of (n:=63) (k:=11) (x:="script") (CX:=λw=>D2 l.prog w) (sp:=λw=>aP (K w.params)) hn (by decide) hdf ⟨rfl,by decide,by decide⟩ hY F (λ_ _ a ns hl _ hS=>⟨a,ns,rfl,hS,hl,λ_=>rfl⟩) λ_ _ _ _ _ z=>d6 z
end L2
namespace PySem.W.Fast
def tw11362519726702666816:=()
def tw12473135177298425167:=()
def tw6031069442965347094:=()
def tw5996806472073761812:=()
def tw11630475988086749717:=()
def tw1864015828555681374:=()
def tw14414525278130864520:=()
def tw11946535386576511937:=()
def tw14079667879312228131:=()
def tw18016450802696401148:=()
def tw18005924270648042451:=()
def tw6790244478451529868:=()
def tw13912378313347083224:=()
def tw11591053219759767677:=()
def tw3905888918942565308:=()
def tw1563313947374585217:=()
def tw16820939965678026285:=()
def tw9161280758347869602:=()
def tw17733771173787552416:=()
def tw6791696881807012110:=()
def tw9924119230611690953:=()
def tw17962967223272093150:=()
def tw13946458385943005308:=()
def tw14213885562347058671:=()
def tw5582546714521579383:=()
def tw4968481829620650287:=()
def tw1784105358517452963:=()
def tw6446352199586130602:=()
def tw1375495741946549075:=()
def tw3630835774331877448:=()
def tw6897615191074211285:=()
def tw9601002762233185040:=()
def tw14767433809014641145:=()
def tw15751507916698725299:=()
def tw14075475163710022849:=()
def tw12452625886151453297:=()
def tw12688749033587983291:=()
def tw7029922289644830985:=()
def tw9437306776533202586:=()
def tw6413948938524533362:=()
def tw11754553753123280106:=()
def tw10058405224073005700:=()
def tw2548938084886413837:=()
def tw10885869874522829236:=()
def tw625666234135950808:=()
def tw1443627100003518034:=()
def tw8934188831739955802:=()
def tw4430813196598662006:=()
def tw9681055677454159568:=()
def tw18209564300997144041:=()
def tw2411869882616455356:=()
def tw8656115894664941543:=()
def tw7255158190496619251:=()
def tw13842796934575763448:=()
def tw16064581058196396587:=()
def tw18364498248116429483:=()
def tw14707890462085201436:=()
def tw4154713132936132778:=()
def tw11636730988786813018:=()
def tw447055682721871094:=()
def tw4477486784768537931:=()
def tw15711961040687034641:=()
def tw11753499591214584410:=()
def tw10400566740213388917:=()
def tw8980976629399147179:=()
def tw3019262176167774288:=()
def tw10358566260644098473:=()
def tw5462929956417804279:=()
def tw7004213353791706720:=()
def tw16429913686661567471:=()
def tw16050524340409692874:=()
def tw10840006086603440225:=()
def tw16498980715427477121:=()
def tw4301867455719517031:=()
def tw2934110789419446424:=()
def tw6210270342052272164:=()
def tw6019613089413279826:=()
def tw3575365176773994935:=()
def tw1507255272008865038:=()
def tw14541436795462556488:=()
def tw12182374990818540224:=()
def tw14068433064161453910:=()
def tw8339231810391077953:=()
def tw4304590911865657412:=()
def tw16087132808859896989:=()
def tw4704904206232685558:=()
def tw6683416135488147736:=()
def tw4240773895030774999:=()
def tw4445146538738840516:=()
def tw24719589993690464:=()
def tw5448903533496939987:=()
def tw16606963700454952429:=()
def tw18228281175820749257:=()
def tw569145752364797528:=()
def tw12375753690649059472:=()
def tw3752089229377879111:=()
def tw8539576309605860787:=()
def tw2585817420035285869:=()
def tw7887356774372242421:=()
def tw5980165965585573773:=()
def tw12556649289943637031:=()
def tw15802248086389530061:=()
def tw16199980916700984349:=()
def tw12171725331820579706:=()
def tw440977681413895812:=()
def tw13332869314554341135:=()
def tw9076560454189828568:=()
def tw10431008515028592389:=()
def tw16062329360992664825:=()
def tw7954985385978586054:=()
def tw127336334202637800:=()
def tw10786047844387535872:=()
def tw12818149291832707775:=()
def tw16826486809663817628:=()
def tw16775648059210122885:=()
def tw9958082477150917695:=()
def tw8461452556541133542:=()
def tw4518245763321385781:=()
def tw17782177222298131599:=()
def tw11388429902363600736:=()
def tw1788357807288342044:=()
def tw7461623752962800859:=()
def tw17185153577645709772:=()
def tw875066610698154174:=()
def tw10926416390101441764:=()
def tw13922807938965977454:=()
def tw8917921366723744621:=()
def tw9040667944408028553:=()
def tw9749916896543872312:=()
def tw4897250875301896829:=()
def tw15054257475697686450:=()
def tw7148861865511664328:=()
def tw14120207974385167076:=()
def tw1435589958575583899:=()
def tw7072586053561420124:=()
def tw3448733325008019457:=()
def tw7623334891435073900:=()
def tw2909192645682991252:=()
def tw14702316021189957613:=()
def tw14315153899215688022:=()
def tw11993830566176531695:=()
def tw11971566050016501613:=()
def tw15225658184383304850:=()
def tw9326370506761294395:=()
def tw17981568730982278916:=()
def tw14541950816101622360:=()
def tw17794404732918425344:=()
def tw11200281750964115053:=()
def tw1416614438105232149:=()
def tw13851262219142592692:=()
def tw4965152236039656418:=()
def tw10686597508193006777:=()
def tw15564281186621030183:=()
def tw5314001809790945128:=()
def tw2478456161648817244:=()
def tw1146825815357624561:=()
def tw4416711221119785670:=()
def tw14177066410411434876:=()
def tw13891325373369004030:=()
def tw10113642762201178994:=()
def tw6537395493501736869:=()
def tw1734656896302604391:=()
def tw13436486812024408044:=()
def tw14370663509604019919:=()
def tw5155991695191395951:=()
def tw6355901398589854615:=()
def tw10387442107305662098:=()
def tw17338719931598745837:=()
def tw14070156395666679741:=()
def tw8071853627630519621:=()
def tw7258748462677185333:=()
def tw6982032061131733855:=()
def tw17580058012414001:=()
def tw18161818344424925800:=()
def tw12287150033979135595:=()
def tw482209459977592193:=()
def tw17585141260257712399:=()
def tw9163067017780716461:=()
def tw15808025017637195330:=()
def tw12095779422944842393:=()
def tw5911918636159822899:=()
def tw4547082207372680583:=()
def tw10734089319030137448:=()
def tw16954301151124596535:=()
def tw11628868636899447831:=()
def tw7179449123836365421:=()
def tw15008314237375458090:=()
def tw13387254000427050718:=()
def tw13377868707296651692:=()
def tw1285931654198584251:=()
def tw1055193456588364977:=()
def tw12419012889637656386:=()
def tw434356162837559004:=()
def tw14838519684642746999:=()
def tw14503802567434388768:=()
def tw536077048079798086:=()
def tw2812808907749855892:=()
def tw3486328041801385912:=()
def tw13713587542120318588:=()
def tw8545044857768235686:=()
def tw17812237132422371007:=()
def tw8091516581600346444:=()
def tw14830043352947157194:=()
def tw2028028823845862920:=()
def tw17536974213642422995:=()
def tw8587370587842655345:=()
def tw17244626994848515772:=()
def tw2390467445148341523:=()
def tw2401667885843183987:=()
def tw17423444394420176916:=()
def tw15073095609587505246:=()
def tw9960621637312273640:=()
def tw2399386255362617868:=()
def tw3728977400303862988:=()
def tw17609130424240048046:=()
def tw2689355792147054791:=()
def tw2544421458928645054:=()
def tw6580951721084708899:=()
def tw8198866521774465040:=()
def tw17017212768145263890:=()
def tw2113181654082809439:=()
def tw6696622601996569831:=()
def tw15160094453608599859:=()
def tw5901529669934541106:=()
def tw17840149897281371102:=()
def tw9193519671108125686:=()
def tw17960737256945448153:=()
def tw15986596434684250599:=()
def tw17787923437797906854:=()
def tw17905703891249101690:=()
def tw2605343182714929542:=()
def tw7440433791996034092:=()
def tw15481212515485386834:=()
def tw2209261578184837489:=()
def tw7293843324298649868:=()
def tw14618700430997963743:=()
def tw2162393280188936115:=()
def tw15868774964897530027:=()
def tw1791719011920017613:=()
def tw7158460377074199442:=()
def tw4817615063574824061:=()
def tw4443806067826069113:=()
def tw7876023327819955622:=()
def tw9252949489294586090:=()
def tw7175365897803003762:=()
def tw14657278341208285151:=()
def tw12383907087679324821:=()
def tw10781274272970685281:=()
def tw9160463657869885581:=()
def tw5209703257291974852:=()
def tw6800170894539736919:=()
def tw11224977217975430173:=()
def tw11676789311534465907:=()
def tw10865495911497058864:=()
def tw13263380564817991243:=()
def tw9064320192308000030:=()
def tw14834599588625509279:=()
def tw16139326706113196516:=()
def tw7261718222110279824:=()
def tw17785964045000402814:=()
def tw6027679798712789372:=()
def tw8228453487133945587:=()
def tw17669501592539387355:=()
def tw14679527267727565973:=()
def tw1321215721292774474:=()
def tw16435638077139577292:=()
def tw3789452709961206573:=()
def tw12296328857110438452:=()
def tw2743244409622721776:=()
def tw13919193444242041370:=()
def tw17126920421917718923:=()
def tw12982050633125573243:=()
def tw7314243387821791875:=()
def tw4882628801933799477:=()
def tw11526563847593597977:=()
def tw8522587210370669701:=()
def tw6331358275058089803:=()
def tw4522637770539055728:=()
def tw406740366022619246:=()
def tw6456952990368883916:=()
def tw4849468265847656819:=()
def tw7814667086058714506:=()
def tw11012262148865319429:=()
def tw15967379455142507750:=()
def tw10961018613621238199:=()
def tw16127647442880875694:=()
def tw1475302712356091943:=()
def tw16423603068040372320:=()
def tw12781321199535378011:=()
def tw13543765132212219061:=()
def tw699266626444513687:=()
def tw16945530142972532003:=()
def tw8511768590210074276:=()
def tw17102712076343337390:=()
def tw17637939235694536811:=()
def tw17992194382867764523:=()
def tw12119047613864546287:=()
def tw12941571078695923327:=()
def tw10853843672071185861:=()
def tw7489033812785496861:=()
def tw18057621398726341225:=()
def tw7558965100927340043:=()
def tw2080964466928532675:=()
def tw15119149371137901089:=()
def tw2196931331526572979:=()
def tw15848021904362995300:=()
def tw13594636063177073219:=()
def tw7937232349021498924:=()
def tw5094781076063510497:=()
def tw14532582659776845183:=()
def tw13519312870367322761:=()
def tw15799013480690879668:=()
def tw7776055598939689027:=()
def tw826911878988900640:=()
def tw15584302979188785905:=()
def tw17903072040270849637:=()
def tw10050840818531541372:=()
def tw5325363037538215118:=()
def tw10663401631051619413:=()
def tw15650008664222919789:=()
def tw5845622633450749975:=()
def tw3537707399433205497:=()
def tw1800711530630994799:=()
def tw3548812203144739772:=()
def tw7218518738913756029:=()
def tw7488828369522853267:=()
def tw11253413210604617018:=()
def tw5094130694210611706:=()
def tw18276183610482958732:=()
def tw12451041217361985400:=()
def tw6007768835250602838:=()
def tw13888897732494067698:=()
def tw5413299186048067071:=()
def tw5722236297606266986:=()
def tw8921294396988851233:=()
def tw2365390935605830258:=()
def tw2910368957052058474:=()
def tw565939126375977209:=()
def tw11055266837749397320:=()
def tw11266192821259636946:=()
def tw672065819569543995:=()
def tw6040717636999753469:=()
def tw708715917577601986:=()
def tw8019539067195487784:=()
def tw6286976131184568766:=()
def tw1272247992527873353:=()
def tw11024035716697499512:=()
def tw6420998998468031631:=()
def tw13447087183679792357:=()
def tw9060399344715777149:=()
def tw14628771291223702504:=()
def tw16620229238416831331:=()
def tw12218628042527364169:=()
def tw15953653516595800168:=()
def tw14243078615893342486:=()
def tw8430068146631392498:=()
def tw12034476446376795765:=()
def tw12080871162108930482:=()
def tw12612282616657136901:=()
def tw5097560178657889259:=()
def tw12929568940508258824:=()
def tw9639592022337400473:=()
def tw17059914260587640141:=()
def tw11782987294096115886:=()
def tw10016143345684143730:=()
def tw6873649485031298427:=()
def tw10091878012413186614:=()
def tw10342429059582695152:=()
def tw2852953658841393416:=()
def tw7181049902949730641:=()
def tw18056607348477409695:=()
def tw6974783601776844083:=()
def tw9384641633234295418:=()
def tw9512006951630235050:=()
def tw11228560826668607340:=()
def tw1901648393079340906:=()
def tw627362865558120052:=()
def tw4080005826719113800:=()
def tw1860253879887257428:=()
def tw1625453377027979704:=()
def tw2511007127611212244:=()
def tw8529728679448787841:=()
def tw3022859779910503569:=()
def tw1182986650269715677:=()
def tw2585546136906366073:=()
def tw9096141096277615597:=()
def tw17395040704664196051:=()
def tw17689323538819441168:=()
def tw15693191116532611529:=()
def tw5897956494022049953:=()
def tw14266871454980715546:=()
def tw13137791410599826780:=()
def tw7801690330734542758:=()
def tw1092255543081687679:=()
def tw4565678953827793989:=()
def tw11057264981735116932:=()
def tw13385235501401628782:=()
def tw12631472784192144946:=()
def tw7006334698593360900:=()
def tw11752101130164402946:=()
def tw13022541155167526429:=()
def tw1002310357935858602:=()
def tw14614368033838127134:=()
def tw671065956610462352:=()
def tw2915095193562731380:=()
def tw16202439960567259789:=()
def tw9878085620663228094:=()
def tw7405147370933657667:=()
def tw18096935824468398071:=()
def tw5460288089970374017:=()
def tw16847426797767757349:=()
def tw3977901302815507895:=()
def tw16308823658153840007:=()
def tw16669448013798611287:=()
def tw10041505186964777227:=()
def tw16713917633630942680:=()
def tw9948323162628466478:=()
def tw15309733344071224914:=()
def tw11616294209860192268:=()
def tw12207007712465433195:=()
def tw4277782189186053361:=()
def tw355663837832180416:=()
def tw2109902295846272013:=()
def tw4370165724848221983:=()
def tw12465852873754142742:=()
def tw6597536332146272618:=()
def tw3771324163547949328:=()
def tw6263354567860436182:=()
def tw15735180861106655117:=()
def tw5119155474654247838:=()
def tw13025673490298232058:=()
def tw14146675417867618298:=()
def tw17796174998129541008:=()
def tw13748825309671558854:=()
def tw937985384650058668:=()
def tw7247238916521334282:=()
def tw1190719457112859881:=()
def tw10946335601509684074:=()
def tw10985138082297650607:=()
def tw15647686337210166365:=()
def tw13612856775999668160:=()
def tw11784878608704079704:=()
def tw17948813637792389818:=()
end PySem.W.Fast
open PySem PySem.W PyProof.Rows
set_option Elab.async false
set_option maxRecDepth 100000 in
set_option maxHeartbeats 0 in
theorem PySem.Challenge.cw_holdback_k47_whole_swept_and_moved_holds : PySem.Challenge.rw_holdback_k47_whole_swept_and_moved.Holds := by
 w_on;o_law;k_head;(case hw=>w_witness2)
 k_fill
 refine L2.walk (l:=PySem.Challenge.rw_holdback_k47_whole_swept_and_moved) rfl rfl (λw h Y=>PySem.W.kIn_of Y) ?F
 case F =>
  intro w mg fa h KX G hmg
  refine' L2.all_mk KX G hmg ?q0 ?q1 ?q2 ?q3 ?q4 ?q5 ?q6 ?q7 ?q8 ?q9 ?qa ?qb ?qc ?qd ?qe ?qf ?qg ?qh ?qi ?qj ?qk ?ql ?qm ?qn ?qo ?qp ?qq ?qr ?qs ?qt ?qu ?qv ?qw ?qx ?qy ?qz ?q10 ?q11 ?q12 ?q13 ?q14 ?q15 ?q16 ?q17 ?q18 ?q19 ?q1a ?q1b ?q1c ?q1d ?q1e ?q1f ?q1g ?q1h ?q1i ?q1j ?q1k ?q1l ?q1m ?q1n ?q1o ?q1p ?q1q ?q1r ?q1s ?q1t ?q1u ?q1v ?q1w ?q1x ?q1y ?q1z ?q20 ?q21 ?q22 ?q23 ?q24 ?q25 ?q26 ?q27 ?q28 ?q29 ?q2a ?q2b ?q2c ?q2d ?q2e ?q2f ?q2g ?q2h ?q2i ?q2j ?q2k ?q2l ?q2m ?q2n ?q2o ?q2p ?q2q ?q2r ?q2s ?q2t ?q2u ?q2v ?q2w ?q2x ?q2y ?q2z ?q30 ?q31 ?q32 ?q33 ?q34 ?q35 ?q36 ?q37 ?q38 ?q39 ?q3a
  case q6 | q7 | q8 | q9 | qa=>(apply L2.gc;(case a=>k_is);(case l=>k_is);(case c=>k_is);(case k=>k_is);(case i=>k_is))
  case q0 | q1 | q2 | q3 | q4 | q5=>(apply L2.GX.mk;(case ac=>k_is);(case ex=>k_exc))
  case qb | qc | qd | qe | qf | qg | qh | qi | qj | qk | ql | qm | qn | q2j | q2k | q2l | q2m | q2n | q2o | q2p | q2q | q2r | q2s | q2t | q2u | q2v | q2w | q2x | q2y | q2z | q30=>k_is
  case qo | qs | q18 | q1h | q1i | q1n | q1q | q1r | q1x | q1y | q24 | q26 | q29 | q2d | q2e | q2f | q2g | q2h | q2i=>(apply L2.gf;(case a=>k_is);(case l=>k_is);(case c=>k_is);(case k=>k_is))
  case qp | qq | qr | qt | qu | qv | qw | qx | qy | qz | q10 | q11 | q13 | q14 | q15 | q16 | q17 | q1b | q1c | q1d | q1e | q1f | q1g | q1j | q1k | q1l | q1m | q1o | q1p | q1s | q1t | q1u | q1v | q1w | q1z | q20 | q21 | q22 | q23 | q25 | q27 | q28 | q2b=>(apply L2.gm;(case a=>k_is);(case l=>k_is);(case c=>k_is);(case k=>k_is);(case i=>k_is))
  case q12 | q19 | q1a | q2a | q2c=>(apply L2.gn;(case a=>k_is);(case l=>k_is);(case c=>k_is);(case k=>k_is);(case i=>k_is);(case m=>k_is);(case n=>k_is);(case s=>k_is))
  case q31 | q32 | q33 | q34 | q35 | q36 | q37 | q38 | q39 | q3a=>kts_exm
